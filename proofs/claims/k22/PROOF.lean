import PyProof.Rows.All
import Wide.All
import OpenK.AllK
import Wide.FinOn
import Lean
import PyProof.EqAt
import PyProof.EqKinds
import PyProof.TupleCall
import PyProof.Rows.SetFrom
import PyProof.Rows.SortStr
import PyProof.Rows.SortWalk
import PyProof.CollectIter
import PyProof.Rows.DictTallyStr
import PyProof.DictWalks
import PyProof.WalkInts
import PyProof.P3Eq
import PyProof.NeKinds
import PyProof.DictItems
import PyProof.DictCopy
import PyProof.LayNew
import KE.KDictLaws
import KE.KEqDict
import PyProof.Rows.StrItems
import PyProof.StrLawsOcc
import PyProof.StrCalls2
import PyProof.SetRoads
import PyProof.ListNew
import KE.KRevIter
import PyProof.EnumMake
import KE.KDictOf
import PyProof.ExcClass3
import PyProof.ExcBaseAll.ValueError
import KE.KNest
import PyProof.FString
import PyProof.StrLawsIn
import KE.IntTextLaws
import PyProof.Rows.StrClose
import PySem.Challenge.RW_swapward_k22_led_to_the_base
set_option Elab.async false
set_option linter.all false
set_option maxRecDepth 100000
namespace L2
open PySem PySem.Spec PyProof.Rows
@[reducible] noncomputable def Key:=Sum Int Str
noncomputable def keyIs:Key->Value->Bool
 | .inl k,v=>Value.isInt k v
 | .inr x,v=>Value.isStrOf x v
noncomputable def keyH (w:World):Key->Int
 | .inl k=>hashInt k
 | .inr x=>hashStr w x
theorem keyIs_shape:∀ {k:Key} {v:Value},keyIs k v=true->(∃ i t,k=Sum.inl i/\v=Value.int i t)\/(∃ x t,k=Sum.inr x/\v=Value.str x t)
 | .inl i,v,h=>by
  obtain⟨t,e⟩:=Value.isInt_shape (k:=i) (v:=v) h
  exact .inl ⟨i,t,rfl,e⟩
 | .inr x,v,h=>by
  obtain⟨t,e⟩:=Value.isStrOf_shape (x:=x) (v:=v) h
  exact .inr ⟨x,t,rfl,e⟩
theorem keyIs_int (i:Int) (t:Tok):keyIs (.inl i) (.int i t)=true:=by simp[keyIs,Value.isInt]
theorem keyIs_str (x:Str) (t:Tok):keyIs (.inr x) (.str x t)=true:=by simp[keyIs,Value.isStrOf]
theorem key_ll (a b:Int):decide ((Sum.inl a:Key)=Sum.inl b)=(a == b):=by
 by_cases e:a=b
 ·subst e;simp
 ·have h:¬ (Sum.inl a:Key)=Sum.inl b:=fun q=>e (Sum.inl.inj q)
  rw[decide_eq_false h]
  exact(beq_eq_false_iff_ne.mpr e).symm
theorem key_rr (a b:Str):decide ((Sum.inr a:Key)=Sum.inr b)=decide (a=b):=by
 by_cases e:a=b
 ·subst e;simp
 ·have h:¬ (Sum.inr a:Key)=Sum.inr b:=fun q=>e (Sum.inr.inj q)
  rw[decide_eq_false h,decide_eq_false e]
theorem key_lr (a:Int) (b:Str):decide ((Sum.inl a:Key)=Sum.inr b)=false:=decide_eq_false (fun q=>nomatch q)
theorem key_rl (a:Str) (b:Int):decide ((Sum.inr a:Key)=Sum.inl b)=false:=decide_eq_false (fun q=>nomatch q)
noncomputable def mixKind (prog:Program) (w:World):PySem.KeyKind prog w Key where
 is:=keyIs
 hash:=keyH w
 inj:=fun v a b ha hb=>by
  rcases keyIs_shape ha with ⟨i,t,rfl,rfl⟩ | ⟨x,t,rfl,rfl⟩
  ·rcases keyIs_shape hb with ⟨j,u,rfl,e⟩ | ⟨y,u,rfl,e⟩
   ·injection e with e1 _;rw[e1]
   ·exact nomatch e
  ·rcases keyIs_shape hb with ⟨j,u,rfl,e⟩ | ⟨y,u,rfl,e⟩
   ·exact nomatch e
   ·injection e with e1 _;rw[e1]
 byValue:=fun k v h=>by
  rcases keyIs_shape h with ⟨i,t,rfl,rfl⟩ | ⟨x,t,rfl,rfl⟩<;>rfl
 pyHash:=fun hv h=>by
  rcases keyIs_shape hv with ⟨i,t,rfl,rfl⟩ | ⟨x,t,rfl,rfl⟩
  ·exact wpAny_pyHash_int h
  ·exact wpAny_pyHash_str h
 eqBool:=fun hu hv h=>by
  rcases keyIs_shape hu with ⟨i,t,rfl,rfl⟩ | ⟨x,t,rfl,rfl⟩
  ·rcases keyIs_shape hv with ⟨j,u,rfl,rfl⟩ | ⟨y,u,rfl,rfl⟩
   ·rw[key_ll]at h;exact wpAny_eqBool_int h
   ·rw[key_lr]at h;exact SeqAt.EqAt.int_str i t y u _ _ _ _ h
  ·rcases keyIs_shape hv with ⟨j,u,rfl,rfl⟩ | ⟨y,u,rfl,rfl⟩
   ·rw[key_rl]at h;exact SeqAt.EqAt.str_int x t j u _ _ _ _ h
   ·rw[key_rr]at h;exact wpAny_eqBool_str h
 «strs»:=fun k x t v h=>by
  rcases keyIs_shape h with ⟨i,u,rfl,e⟩ | ⟨y,u,rfl,e⟩
  ·exact nomatch e
  ·injection e with e1 _
   subst e1
   cases v<;>rfl
theorem mixKind_int (prog:Program) (w:World) (i:Int) (t:Tok):(mixKind prog w).is (.inl i) (.int i t)=true:=keyIs_int i t
theorem mixKind_str (prog:Program) (w:World) (x:Str) (t:Tok):(mixKind prog w).is (.inr x) (.str x t)=true:=keyIs_str x t
end L2
namespace L2
open PySem PySem.Spec PyProof.Rows
inductive V where
 | non | bl (b:Bool) | int (i:Int) | str (x:Str) | byt (b:Array UInt8) | flt (b:UInt64) | ref (a:Addr) | ty (n:String)
 deriving DecidableEq
noncomputable def RelV:V->Value->Prop
 | .non,u=>u=Value.none
 | .bl b,u=>u=Value.bool b
 | .int i,u=>∃t,u=Value.int i t
 | .str x,u=>∃t,u=Value.str x t
 | .byt b,u=>∃t,u=Value.bytes b t
 | .flt b,u=>∃t,u=Value.float b t
 | .ref a,u=>u=Value.ref a
 | .ty n,u=>u=Value.type n
@[reducible] noncomputable def Vals:List V->List Value->Prop:=Paired RelV
theorem Vals.length {xs:List V} {us:List Value} (r:Vals xs us):xs.length=us.length:=Paired.length r
theorem Vals.get:∀ {xs:List V} {us:List Value} {i:Nat} {x:V},Vals xs us->xs[i]?=some x->∃u,us[i]?=some u/\RelV x u
 | _,_,_,_,.nil,e=>by simp at e
 | _,_,0,_,.cons r _,e=>by simp at e;subst e;exact⟨_,rfl,r⟩
 | _,_,i + 1,x,.cons _ t,e=>by
  obtain⟨u,h1,h2⟩:=Vals.get (i:=i) (x:=x) t (by simpa using e)
  exact⟨u,by simpa using h1,h2⟩
theorem Vals.set {x:V} {u:Value} (r:RelV x u):∀ {xs:List V} {us:List Value} (i:Nat),Vals xs us->Vals (xs.set i x) (us.set i u)
 | _,_,_,.nil=>.nil
 | _,_,0,.cons _ t=>.cons r t
 | _,_,i + 1,.cons q t=>.cons q (Vals.set r i t)
theorem Vals.append:∀ {xs ys:List V} {us ws:List Value},Vals xs us->Vals ys ws->Vals (xs++ys) (us++ws)
 | _,_,_,_,.nil,s=>s
 | _,_,_,_,.cons r t,s=>.cons r (Vals.append t s)
theorem Vals.take:∀ {xs:List V} {us:List Value} (n:Nat),Vals xs us->Vals (xs.take n) (us.take n)
 | _,_,0,_=>.nil
 | _,_,_ + 1,.nil=>.nil
 | _,_,n + 1,.cons r t=>.cons r (Vals.take n t)
theorem Vals.drop:∀ {xs:List V} {us:List Value} (n:Nat),Vals xs us->Vals (xs.drop n) (us.drop n)
 | _,_,0,r=>r
 | _,_,_ + 1,.nil=>.nil
 | _,_,n + 1,.cons _ t=>Vals.drop n t
theorem Vals.none_of:∀ {xs:List V} {us:List Value} {i:Nat},Vals xs us->xs[i]?=none->us[i]?=none:=fun{xs us i} r e=>by
 have h1:=r.length
 have h2:xs.length<=i:=List.getElem?_eq_none_iff.mp e
 exact List.getElem?_eq_none_iff.mpr (by omega)
noncomputable def RelO:Option V->Option Value->Prop
 | some v,some u=>RelV v u
 | none,none=>True
 | _,_=>False
noncomputable def KV {κ:Type}:List (κ × V)->List (κ × Value)->Prop:=Paired fun(p:κ × V) (q:κ × Value)=>p.1=q.1/\RelV p.2 q.2
noncomputable def kV:Key->V
 | .inl i=>.int i
 | .inr x=>.str x
inductive HO where
 /-- a list -/
 | lst (xs:List V)
 /-- a tuple (never changes) -/
 | tup (xs:List V)
 /-- a dict whose keys are ints and texts; one whose keys are tuples of ints and texts (the empty one is both) -/
 | dK (kvs:List (Key × V)) | dT (kvs:List (List Key × V))
 /-- a set of ints: its members, its size -/
 | set (S:Int->Bool) (n:Nat)
 /-- an instance of the class at C, its dict at dx, its attributes -/
 | ins (C dx:Addr) (fs:List (Str × V))
 /-- the dict of the instance at x -/
 | own (x:Addr)
 /-- the dict of an exception -/
 | xd (fs:List (Str × V))
 /-- a bound method, f of x -/
 | met (f x:Addr)
 /-- a range object lo, lo + 1, .. below hi -/
 | rng (lo hi:Int)
 /-- a thing that is known to the object (the script; a dict while a loop walks it): read, never written while it is so -/
 | frz (o:Obj) (u:HO)
 /-- a code object's table -/
 | tbl (ps:Array Value)
 /-- any other thing, by what is true of its one object (a def of one's own: SetO a S n := HO.ext fun h => ..) -/
 | ext (φ:Heap->Prop)
 | exo (C:Addr) (d:Option Addr)
 | clo (fd:FuncData)
 | cel (v:V)
 | cod (q:Str)
@[reducible] noncomputable def Hp:=Addr->Option HO
noncomputable def upd (H:Hp) (a:Addr) (o:HO):Hp:=fun b=>if b=a then some o else H b
theorem upd_same {H:Hp} {a:Addr} {o:HO}:upd H a o a=some o:=by unfold upd;rw[if_pos rfl]
theorem upd_ne {H:Hp} {a b:Addr} {o:HO} (h:b ≠ a):upd H a o b=H b:=by unfold upd;rw[if_neg h]
theorem upd_upd {H:Hp} {a:Addr} {o u:HO}:upd (upd H a o) a u=upd H a u:=by
 funext b;unfold upd;split<;>rfl
theorem ne_of {H:Hp} {a b:Addr} {o u:HO} (h:H a=some o) (h':H b=some u) (d:o ≠ u):a ≠ b:=by
 intro e;subst e;rw[h]at h';exact d (Option.some.inj h')
theorem ne_of_none {H:Hp} {a b:Addr} {o:HO} (h:H a=some o) (h':H b=none):a ≠ b:=by
 intro e;subst e;rw[h]at h';cases h'
section
variable (P:Program) (w:World)
noncomputable def ObjOk (H:Hp) (h:Heap) (a:Addr):HO->Prop
 | .lst xs=>xs.length<=sizeLine/\∃ (its:List Value) (n:Nat),Vals xs its/\h.get? a=some {cls:=.type "list",data:=.seq its.toArray n}
 | .tup xs=>xs.length<=sizeLine/\∃its:List Value,Vals xs its/\IsTup h a its.toArray
 | .dK kvs=>kvs.length<=sizeLine/\(a == sysModules)=false/\∃vs,KV kvs vs/\h.DictOf (mixKind P w) a vs
 | .dT kvs=>kvs.length<=sizeLine/\(a == sysModules)=false/\∃xs:List (List Key × Addr × Value),
   Paired (fun(p:List Key × V) (q:List Key × Addr × Value)=>p.1=q.1/\H q.2.1=some (.tup (p.1.map kV))/\RelV p.2 q.2.2) kvs xs/\
   ∃o es ep,h.get? a=some o/\o.ExactDict/\o.data=.dict es ep/\es.toList=xs.map (entryOfKey (tupleKind (mixKind P w)))/\(xs.map (·.1)).Nodup
 | .set S n=>h.SetOf (intKind P w) a S n
 | .ins C dx fs=>H dx=some (.own a)/\fs.length<=1000/\dx ≠ a/\h.get? a=some (PySem.W.instObj C dx)/\
   ∃mA,h.Ns1 dx mA/\(∀ f,RelO (fs.lookup f) (mA f))/\PySem.Within mA (fs.map (·.1))
 | .own _=>∃o,h.get? a=some o
 | .xd fs=>∃mA,h.Ns1 a mA/\∀f,RelO (fs.lookup f) (mA f)
 | .rng lo hi=>∃t u v,h.get? a=some {cls:=.type "range",data:=.fields #[.int lo t,.int hi u,.int 1 v]}
 | .frz o u=>h.get? a=some o/\ObjOk H h a u
 | .tbl ps=>h.get? a=some {cls:=.none,data:=.fields ps}
 | .met f x=>h.get? a=some (PySem.W.methodObj (.ref f) (.ref x))
 | .ext φ=>φ h/\(∃ o,h.get? a=some o)/\∀h1 h2:Heap,φ h1->(∀ o,h1.get? a=some o->h2.get? a=some o)->φ h2
 | .exo C d=>∃oe vs,h.get? a=some oe/\oe.cls=.ref C/\oe.dict=d/\oe.data=.fields vs
 | .clo fd=>h.get? a=some {cls:=.type "function",data:=.func fd}
 | .cel v=>∃u,RelV v u/\h.IsCell a (some u)
 | .cod q=>h.CodeRec (.ref a) q
noncomputable def HOk (H:Hp) (h:Heap):Prop:=∀a o,H a=some o->ObjOk P w H h a o
end
section
variable {P:Program} {w:World} {H H':Hp} {h h':Heap} {a:Addr} {o:HO}
theorem ObjOk.lt (x:ObjOk P w H h a o):a < h.objs.size:=by
 cases o with
 | lst xs=>obtain⟨_,_,_,_,e⟩:=x;exact Heap.lt_size e
 | tup xs=>obtain⟨_,_,_,p⟩:=x;exact p.lt
 | dK kvs=>obtain⟨_,_,_,_,o,_,_,e,_⟩:=x;exact Heap.lt_size e
 | dT kvs=>obtain⟨_,_,_,_,o,_,_,e,_⟩:=x;exact Heap.lt_size e
 | set S n=>obtain⟨o,_,_,_,e,_⟩:=x;exact Heap.lt_size e
 | ins C dx fs=>obtain⟨_,_,_,e,_⟩:=x;exact Heap.lt_size e
 | own y=>obtain⟨_,e⟩:=x;exact Heap.lt_size e
 | xd fs=>obtain⟨_,⟨_,_,_,e,_⟩,_⟩:=x;exact Heap.lt_size e
 | rng lo hi=>obtain⟨_,_,_,e⟩:=x;exact Heap.lt_size e
 | frz ob u=>obtain⟨e,_⟩:=x;exact Heap.lt_size e
 | tbl ps=>exact Heap.lt_size (show h.get? a=some _ from x)
 | met f y=>exact Heap.lt_size (show h.get? a=some _ from x)
 | ext φ=>obtain⟨_,⟨_,e⟩,_⟩:=x;exact Heap.lt_size e
 | exo C d=>obtain⟨oe,vs,e,_⟩:=x;exact Heap.lt_size e
 | clo fd=>exact Heap.lt_size (show h.get? a=some _ from x)
 | cel v=>obtain⟨u,_,e⟩:=x;exact e.lt
 | cod q=>obtain⟨c,oc,vs,t,hc,e,_⟩:=x;cases hc;exact Heap.lt_size e
theorem Paired.mapP {α β:Type} {F G:α->β->Prop}:∀ {l₁:List α} {l₂:List β},Paired F l₁ l₂->(∀ a b,F a b->G a b)->Paired G l₁ l₂
 | _,_,.nil,_=>.nil
 | _,_,.cons r t,f=>.cons (f _ _ r) (Paired.mapP t f)
theorem ObjOk.stay (x:ObjOk P w H h a o) (k:∀b u,(b=a\/H b=some (.own a))->h.get? b=some u->h'.get? b=some u)
  (ho:∀b,H b=some (.own a)->H' b=some (.own a)) (ht:∀b xs,H b=some (.tup xs)->H' b=some (.tup xs)):ObjOk P w H' h' a o:=by
 induction o with
 | lst xs=>obtain⟨z,its,n,r,e⟩:=x;exact⟨z,its,n,r,k _ _ (.inl rfl) e⟩
 | tup xs=>obtain⟨z,its,r,ob,e,c⟩:=x;exact⟨z,its,r,ob,k _ _ (.inl rfl) e,c⟩
 | dK kvs=>obtain⟨z,y,vs,r,ob,es,ep,e,c⟩:=x;exact⟨z,y,vs,r,ob,es,ep,k _ _ (.inl rfl) e,c⟩
 | dT kvs=>
  obtain⟨z,y,xs,r,ob,es,ep,e,c⟩:=x
  exact⟨z,y,xs,Paired.mapP r fun p q z=>⟨z.1,ht _ _ z.2.1,z.2.2⟩,ob,es,ep,k _ _ (.inl rfl) e,c⟩
 | set S n=>obtain⟨ob,es,ep,t,e,c⟩:=x;exact⟨ob,es,ep,t,k _ _ (.inl rfl) e,c⟩
 | ins C dx fs=>
  obtain⟨d,z,ne,e,mA,⟨od,es,ep,e2,c⟩,r⟩:=x
  exact⟨ho _ d,z,ne,k _ _ (.inl rfl) e,mA,⟨od,es,ep,k _ _ (.inr d) e2,c⟩,r⟩
 | own y=>obtain⟨ob,e⟩:=x;exact⟨ob,k _ _ (.inl rfl) e⟩
 | xd fs=>obtain⟨mA,⟨od,es,ep,e,c⟩,r⟩:=x;exact⟨mA,⟨od,es,ep,k _ _ (.inl rfl) e,c⟩,r⟩
 | rng lo hi=>obtain⟨t,u,v,e⟩:=x;exact⟨t,u,v,k _ _ (.inl rfl) e⟩
 | frz ob u ih=>obtain⟨e,q⟩:=x;exact⟨k _ _ (.inl rfl) e,ih q⟩
 | tbl ps=>
  have e:h.get? a=some {cls:=.none,data:=.fields ps}:=x
  show h'.get? a=some {cls:=.none,data:=.fields ps}
  exact k a _ (.inl rfl) e
 | met f y=>
  have e:h.get? a=some (PySem.W.methodObj (.ref f) (.ref y)):=x
  show h'.get? a=some (PySem.W.methodObj (.ref f) (.ref y))
  exact k a _ (.inl rfl) e
 | ext φ=>obtain⟨p,⟨o,e⟩,st⟩:=x;exact⟨st _ _ p fun o q=>k _ _ (.inl rfl) q,⟨o,k _ _ (.inl rfl) e⟩,st⟩
 | exo C d=>obtain⟨oe,vs,e,r⟩:=x;exact⟨oe,vs,k _ _ (.inl rfl) e,r⟩
 | clo fd=>
  have e:h.get? a=some {cls:=.type "function",data:=.func fd}:=x
  show h'.get? a=some {cls:=.type "function",data:=.func fd}
  exact k a _ (.inl rfl) e
 | cel v=>obtain⟨u,r,ob,e,d⟩:=x;exact⟨u,r,ob,k _ _ (.inl rfl) e,d⟩
 | cod q=>obtain⟨c,oc,vs,t,hc,e,r⟩:=x;cases hc;exact⟨a,oc,vs,t,rfl,k _ _ (.inl rfl) e,r⟩
theorem HOk.lt (x:HOk P w H h) (e:H a=some o):a < h.objs.size:=(x a o e).lt
theorem HOk.fresh (x:HOk P w H h) (e:h.objs.size<=a):H a=none:=by
 cases q:H a with
 | none=>rfl
 | some u=>exact absurd (Nat.lt_of_lt_of_le (x.lt q) e) (Nat.lt_irrefl _)
theorem HOk.kept (x:HOk P w H h) (k:∀b u,h.get? b=some u->h'.get? b=some u):HOk P w H h':=fun a o e=>
 (x a o e).stay (fun b u _ q=>k b u q) (fun _ q=>q) fun _ _ q=>q
theorem HOk.laid (x:HOk P w H h) (k:∀b u,h.get? b=some u->h'.get? b=some u) (hp:h.objs.size<=a) (new:ObjOk P w (upd H a o) h' a o):HOk P w (upd H a o) h':=fun b u e=>by
 have hn:=x.fresh hp
 by_cases hb:b=a
 ·subst hb;rw[upd_same]at e;cases e;exact new
 ·rw[upd_ne hb]at e
  exact(x b u e).stay (fun c v _ q=>k c v q) (fun c q=>by rw[upd_ne (ne_of_none q hn)];exact q) fun c xs q=>by rw[upd_ne (ne_of_none q hn)];exact q
end
noncomputable def Rd (H:Hp) (a:Addr) (u:HO):Prop:=H a=some u\/∃o,H a=some (.frz o u)
theorem Rd.of {H:Hp} {a:Addr} {u:HO} (h:H a=some u):Rd H a u:=.inl h
theorem Rd.ok {P:Program} {w:World} {H:Hp} {h:Heap} {a:Addr} {u:HO} (r:Rd H a u) (x:HOk P w H h):ObjOk P w H h a u:=by
 rcases r with r | ⟨o,r⟩
 ·exact x a u r
 ·obtain⟨_,q⟩:=x a _ r
  exact q
noncomputable def Mut:Option HO->Prop
 | some (.lst _)=>True
 | some (.dK _)=>True
 | some (.dT _)=>True
 | some (.set _ _)=>True
 | some (.ins _ _ _)=>True
 | some (.ext _)=>True
 | _=>False
section
variable {P:Program} {w:World} {H:Hp} {h h':Heap} {x e:Addr} {o':HO}
theorem HOk.write (ok:HOk P w H h) (mu:Mut (H x)) (he:e=x\/H e=some (.own x)) (k:∀b u,b ≠ e->h.get? b=some u->h'.get? b=some u) (heo:∃u,h'.get? e=some u)
  (new:ObjOk P w (upd H x o') h' x o'):HOk P w (upd H x o') h':=fun b u q=>by
 have nown:∀c y,H c=some (.own y)->c ≠ x:=fun c y r z=>by subst z;rw[r]at mu;exact mu
 have ntup:∀c xs,H c=some (.tup xs)->c ≠ x:=fun c xs r z=>by subst z;rw[r]at mu;exact mu
 by_cases hb:b=x
 ·subst hb;rw[upd_same]at q;cases q;exact new
 ·rw[upd_ne hb]at q
  by_cases hbe:b=e
  ·have q':H b=some (.own x):=by
    rcases he with z | z
    ·exact absurd (hbe.trans z) hb
    ·rw[hbe];exact z
   rw[q]at q';cases q'
   obtain⟨v,hv⟩:=heo
   exact⟨v,by rw[hbe];exact hv⟩
  ·refine(ok b u q).stay (fun c v hc r=>k c v ?_ r) (fun c r=>by rw[upd_ne (nown c b r)];exact r) fun c xs r=>by rw[upd_ne (ntup c xs r)];exact r
   rcases hc with rfl | hc
   ·exact hbe
   ·rintro rfl
    rcases he with z | z
    ·exact nown c b hc z
    ·rw[hc]at z;cases z;exact hb rfl
end
structure Un (fs ex:List Addr) (H H':Hp) (h h':Heap):Prop where
 keep:∀b o,h.get? b=some o->H b=none->b ∉ fs->b ∉ ex->h'.get? b=some o
 slot:∀b o,h.get? b=some o->H b=none->b ∈ fs->b ∉ ex->∃sl,h'.get? b=some {o with slots:=sl}
 free:∀b o,h.get? b=some o->H b=none->b ∉ ex->H' b=none
 there:∀b o,h.get? b=some o->b ∉ ex->∃o',h'.get? b=some o'
 tups:∀b xs,H b=some (.tup xs)->H' b=some (.tup xs)
 frzs:∀b o u,H b=some (.frz o u)->H' b=some (.frz o u)
 tbls:∀b ps,H b=some (.tbl ps)->∃more,H' b=some (.tbl (ps++more))
section
variable {fs fs' ex ex':List Addr} {H H1 H2:Hp} {h h1 h2 h':Heap} {a x e:Addr} {o:HO}
theorem Un.any (u:Un fs ex H H1 h h1) {b:Addr} {ob:Obj} (q:h.get? b=some ob) (n:H b=none) (hx:b ∉ ex):∃sl,h1.get? b=some {ob with slots:=sl}:=by
 by_cases hb:b ∈ fs
 ·exact u.slot b ob q n hb hx
 ·exact⟨ob.slots,u.keep b ob q n hb hx⟩
theorem Un.trans (a:Un fs ex H H1 h h1) (b:Un fs ex H1 H2 h1 h2):Un fs ex H H2 h h2 where
 keep:=fun c ob q n hc hx=>b.keep c ob (a.keep c ob q n hc hx) (a.free c ob q n hx) hc hx
 slot:=fun c ob q n hc hx=>by
  obtain⟨sl,e1⟩:=a.slot c ob q n hc hx
  obtain⟨sl',e2⟩:=b.slot c _ e1 (a.free c ob q n hx) hc hx
  exact⟨sl',e2⟩
 free:=fun c ob q n hx=>by
  obtain⟨o',e1⟩:=a.there c ob q hx
  exact b.free c o' e1 (a.free c ob q n hx) hx
 there:=fun c ob q hx=>by
  obtain⟨o',e1⟩:=a.there c ob q hx
  exact b.there c o' e1 hx
 tups:=fun c xs q=>b.tups c xs (a.tups c xs q)
 frzs:=fun c ob xs q=>b.frzs c ob xs (a.frzs c ob xs q)
 tbls:=fun c ps q=>by
  obtain⟨m1,e1⟩:=a.tbls c ps q
  obtain⟨m2,e2⟩:=b.tbls c _ e1
  exact⟨m1++m2,by rw[e2,Array.append_assoc]⟩
theorem Un.kept (k:∀b u,h.get? b=some u->h'.get? b=some u):Un fs ex H H h h':=
 ⟨fun b ob q _ _ _=>k b ob q,fun b ob q _ _ _=>⟨ob.slots,k b ob q⟩,fun _ _ _ n _=>n,fun b ob q _=>⟨ob,k b ob q⟩,fun _ _ q=>q,fun _ _ _ q=>q,fun _ ps q=>⟨#[],by rw[q];simp⟩⟩
theorem Un.refl:Un fs ex H H h h:=Un.kept fun _ _ q=>q
theorem Un.laid (k:∀b u,h.get? b=some u->h'.get? b=some u) (hp:h.objs.size<=a) (hn:H a=none):Un fs ex H (upd H a o) h h' where
 keep:=fun b u q _ _ _=>k b u q
 slot:=fun b u q _ _ _=>⟨u.slots,k b u q⟩
 free:=fun b u q n _=>by rw[upd_ne (Nat.ne_of_lt (Nat.lt_of_lt_of_le (Heap.lt_size q) hp))];exact n
 there:=fun b u q _=>⟨u,k b u q⟩
 tups:=fun b xs q=>by rw[upd_ne (ne_of_none q hn)];exact q
 frzs:=fun b u xs q=>by rw[upd_ne (ne_of_none q hn)];exact q
 tbls:=fun b ps q=>⟨#[],by rw[upd_ne (ne_of_none q hn),q];simp⟩
theorem Un.write (mu:Mut (H x)) (he:e=x\/H e=some (.own x)) (k:∀b u,b ≠ e->h.get? b=some u->h'.get? b=some u) (heo:∃u,h'.get? e=some u):Un fs ex H (upd H x o) h h':=by
 have hx:∀b,H b=none->b ≠ x:=fun b n z=>by subst z;rw[n]at mu;exact mu
 have hb:∀b,H b=none->b ≠ e:=fun b n z=>by
  subst z
  rcases he with r | r
  ·exact hx b n r
  ·rw[n]at r;cases r
 have hm:∀b u,H b=some u->¬Mut (some u)->b ≠ x:=fun b u q nm z=>by subst z;rw[q]at mu;exact nm mu
 refine⟨fun b u q n _ _=>k b u (hb b n) q,fun b u q n _ _=>⟨u.slots,k b u (hb b n) q⟩,fun b u q n _=>by rw[upd_ne (hx b n)];exact n,fun b u q _=>?_,
  fun b xs q=>by rw[upd_ne (hm b _ q fun z=>z)];exact q,fun b u xs q=>by rw[upd_ne (hm b _ q fun z=>z)];exact q,fun b ps q=>⟨#[],by rw[upd_ne (hm b _ q fun z=>z),q];simp⟩⟩
 by_cases hbe:b=e
 ·subst hbe;exact heo
 ·exact⟨u,k b u hbe q⟩
theorem Un.mono (u:Un fs ex H H1 h h1) (hs:∀b ∈ fs,b ∈ fs') (hx:∀b ∈ ex,b ∈ ex'):Un fs' ex' H H1 h h1:=
 ⟨fun b ob q n hb he=>u.keep b ob q n (fun z=>hb (hs b z)) fun z=>he (hx b z),fun _ _ q n _ he=>u.any q n fun z=>he (hx _ z),fun b ob q n he=>u.free b ob q n fun z=>he (hx b z),fun b ob q he=>u.there b ob q fun z=>he (hx b z),u.tups,u.frzs,u.tbls⟩
end
noncomputable def trk (h:Heap) (H:Hp):List Addr:=(List.range h.objs.size).filter fun a=>(H a).isSome
noncomputable def hidT (h:Heap) (H:Hp):Heap:=PySem.W.hideAll h (trk h H)
theorem hidT_size (h:Heap) (H:Hp):(hidT h H).objs.size=h.objs.size:=PySem.W.hideAll_size _ _
theorem hidT_get {h:Heap} {H:Hp} {b:Addr} {o:Obj} (e:h.get? b=some o) (n:H b=none):(hidT h H).get? b=some o:=
 PySem.W.hideAll_get _ e fun hm=>by
  have q:(H b).isSome=true:=(List.mem_filter.mp hm).2
  rw[n]at q;simp at q
theorem of_hidT {h:Heap} {H:Hp} {b:Addr} {o:Obj} (e:(hidT h H).get? b=some o):h.get? b=some o/\H b=none:=by
 have e':h.get? b=some o:=PySem.W.of_hideAll (trk h H) e
 refine⟨e',?_⟩
 cases q:H b with
 | none=>rfl
 | some x=>
  have hm:b ∈ trk h H:=List.mem_filter.mpr ⟨List.mem_range.mpr (Heap.lt_size e'),by simp[q]⟩
  have z:(hidT h H).get? b=none:=PySem.W.hideAll_none (trk h H) hm
  rw[z]at e;cases e
noncomputable def allNews (g h:Heap) (L:Addr):List (Addr × Obj):=(List.range h.objs.size).filterMap fun a=>if a=L\/(g.get? a).isSome=true then none else(h.get? a).map fun o=>(a,o)
noncomputable def rest (g h:Heap) (L d:Addr):List (Addr × Obj):=(allNews g h L).filter fun p=>decide (p.1 ≠ d)
end L2
namespace L2
open PySem PySem.Spec PyProof.Rows
structure Mod (K:PySem.W.Frag) (mg:Str->Option Value) (base:Heap):Prop where
 kin:K.In base
 glob:base.Ns mainGlobals mg
 blt:∃mb,base.Ns builtinsNs mb/\∀x:Str,x ≠ "__name__" ->mb x=bootBuiltins x
 nolimit:base.NoLimit
structure Cx where
 prog:Program
 w:World
 K:PySem.W.Frag
 mg:Str->Option Value
 base:Heap
 A:Around
 N:List Str
 s₀:Shared
 H₀:Hp
 env:Env
 outer:List Env
 stack:List Env
 ex:List Addr
 fn:Str->Bool
 calm:Bool
 pn:List (Addr × Obj)
 xe:Value->Shared->Prop
noncomputable def frs (l:List Env):List Addr:=l.filterMap (·.frame)
@[reducible] noncomputable def Cx.fs (X:Cx):List Addr:=frs X.outer
noncomputable def Vis (sc:Scope) (x:Str):Prop:=sc.names.lookup x=some .local\/sc.names.lookup x=some .cell\/sc.names.lookup x=some .free
noncomputable def Loc (sc:Scope) (x:Str):Prop:=sc.names.lookup x=some .local\/sc.names.lookup x=some .cell
noncomputable def Look (env:Env) (h:Heap) (m:Str->Option Value) (x:Str) (u:Value):Prop:=
 (env.kindOf x=some .local/\m x=some u)\/((env.kindOf x=some .cell\/env.kindOf x=some .free)/\∃c,env.cells.lookup x=some c/\h.IsCell c (some u))
structure Cx.Ok (X:Cx):Prop where
 mod:Mod X.K X.mg X.base
 kind:X.env.scope.kind=.function
 glob:X.env.globals=mainGlobals
 blt:X.env.builtins=builtinsNs
 above:X.s₀.heap.objs.size<=X.env.locals
 inj:∀x y c,X.env.cells.lookup x=some c->X.env.cells.lookup y=some c->x=y
 has:∀x,(X.env.kindOf x=some .cell\/X.env.kindOf x=some .free)->∃c,X.env.cells.lookup x=some c
 cab:∀x c,X.fn x=true->X.env.cells.lookup x=some c->X.s₀.heap.objs.size<=c
 hd:X.calm=true->X.A.handled=none
 frames:X.A.frames=some X.stack
 stk:X.stack=X.outer\/(X.stack=X.env::X.outer/\X.env.frame=some X.env.locals)
 exf:∀b ∈ X.ex,b ≠ X.env.locals/\∀x c,X.env.cells.lookup x=some c->c ≠ b
 bs:∀b o,X.base.get? b=some o->X.s₀.heap.get? b=some o/\X.H₀ b=none
 bsz:X.base.objs.size<=X.s₀.heap.objs.size
 noex:∀b o,X.base.get? b=some o->b ∉ X.ex
 exfs:∀b ∈ X.ex,b ∉ X.fs
 funs:X.s₀.heap.FunFrames X.base X.outer
 frf:∀b ∈ X.fs,X.H₀ b=none
structure Inv (X:Cx) (pins:List (Addr × Obj)) (σ:List (Option V)) (H:Hp) (s:Shared):Prop where
 ok:X.Ok
 os:s.os=X.s₀.os
 bare:AllBare s.gens
 base:Un X.fs X.ex X.H₀ H X.s₀.heap s.heap
 loc:∃m,s.heap.Ns X.env.locals m/\∀ (i:Nat) (x:Str) (v:V),X.N[i]?=some x->σ[i]?=some (some v)->Vis X.env.scope x->∃u,RelV v u/\Look X.env s.heap m x u
 cell:∀x c,X.env.cells.lookup x=some c->∃v,s.heap.IsCell c v
 free:H X.env.locals=none
 freeC:∀x c,X.env.cells.lookup x=some c->H c=none
 pin:∀p ∈ X.pn++pins,s.heap.get? p.1=some p.2/\H p.1=none/\p.1 ≠ X.env.locals/\p.1 ∉ X.fs/\∀v,p.2.data ≠ .cell v
 hok:HOk X.prog X.w H s.heap
 len:σ.length=X.N.length
section
variable {X:Cx} {pins:List (Addr × Obj)} {σ:List (Option V)} {H H':Hp} {s:Shared} {h':Heap}
theorem Cx.Ok.nofr (ok:X.Ok) {b:Addr} {o:Obj} (e:X.base.get? b=some o):b ∉ X.fs:=fun hb=>by
 have:=(ok.funs.mem hb).1
 rw[e]at this;cases this
theorem Inv.bs (I:Inv X pins σ H s):∀b o,X.base.get? b=some o->s.heap.get? b=some o/\H b=none:=fun b o e=>
 ⟨I.base.keep b o (I.ok.bs b o e).1 (I.ok.bs b o e).2 (I.ok.nofr e) (I.ok.noex b o e),I.base.free b o (I.ok.bs b o e).1 (I.ok.bs b o e).2 (I.ok.noex b o e)⟩
theorem Inv.bk (I:Inv X pins σ H s):∀b o,X.base.get? b=some o->s.heap.get? b=some o:=fun b o e=>(I.bs b o e).1
theorem Inv.mod (I:Inv X pins σ H s):Mod X.K X.mg X.base:=I.ok.mod
theorem Inv.kIn (I:Inv X pins σ H s):X.K.In s.heap:=I.ok.mod.kin.keeps I.bk
theorem Inv.nolimit (I:Inv X pins σ H s):s.heap.NoLimit:=I.ok.mod.nolimit.keeps I.bk
theorem Inv.fr (I:Inv X pins σ H s):∃m,Fr X.base X.env.locals s.heap m:=
 let ⟨m,hn,_⟩:=I.loc
 ⟨m,hn,I.bk,Nat.le_trans I.ok.bsz I.ok.above⟩
theorem Inv.lt (I:Inv X pins σ H s):X.env.locals < s.heap.objs.size:=let ⟨_,hn,_⟩:=I.loc;hn.lt
theorem Inv.sz (I:Inv X pins σ H s):X.s₀.heap.objs.size<=s.heap.objs.size:=Nat.le_trans I.ok.above (Nat.le_of_lt I.lt)
theorem Inv.nofs (I:Inv X pins σ H s) {a:Addr} (h:s.heap.objs.size<=a):a ∉ X.fs:=fun hb=>by
 obtain⟨_,o,ho,_⟩:=I.ok.funs.mem hb
 exact absurd (Nat.lt_of_lt_of_le (Heap.lt_size ho) (Nat.le_trans I.sz h)) (Nat.lt_irrefl _)
theorem Inv.cne (I:Inv X pins σ H s):∀x c,X.env.cells.lookup x=some c->c ≠ X.env.locals:=fun x c e z=>by
 obtain⟨v,o,ho,hd⟩:=I.cell x c e
 obtain⟨m,⟨o',es,ep,ho',hd',_⟩,_⟩:=I.loc
 rw[z,ho']at ho;cases ho;rw[hd']at hd;cases hd
theorem Inv.funs (I:Inv X pins σ H s):s.heap.FunFrames X.base X.outer:=by
 have all:∀ (l:List Env),(∀ b ∈ frs l,b ∈ X.fs)->X.s₀.heap.FunFrames X.base l->s.heap.FunFrames X.base l:=by
  intro l
  induction l with
  | nil=>intro _ _;trivial
  | cons env r ih=>
   intro hs hl
   obtain⟨hk,⟨L,o,hf,hn,ho,hd⟩,hr⟩:=hl
   have hL:L ∈ X.fs:=hs L (by unfold frs;rw[List.filterMap_cons,hf];exact List.mem_cons_self)
   obtain⟨sl,e⟩:=I.base.slot L o ho (I.ok.frf L hL) hL fun z=>I.ok.exfs L z hL
   exact⟨hk,⟨L,_,hf,hn,e,hd⟩,ih (fun b hb=>hs b (by unfold frs;rw[List.filterMap_cons,hf];exact List.mem_cons_of_mem _ hb)) hr⟩
 exact all X.outer (fun _ hb=>hb) I.ok.funs
theorem Inv.stack (I:Inv X pins σ H s):s.heap.FunFrames X.base X.stack:=by
 rcases I.ok.stk with e | ⟨e,hf⟩
 ·rw[e];exact I.funs
 ·rw[e]
  obtain⟨m,hn,_⟩:=I.loc
  refine .cons (by rw[I.ok.kind];decide) hf hn ?_ I.funs
  exact Heap.get?_none_of_le (Nat.le_trans I.ok.bsz I.ok.above)
theorem Inv.stkSub (I:Inv X pins σ H s):∀b ∈ frs X.stack,b ∈ X.env.locals::X.fs:=fun b hb=>by
 rcases I.ok.stk with e | ⟨e,hf⟩
 ·rw[e]at hb;exact List.mem_cons_of_mem _ hb
 ·rw[e]at hb
  unfold frs at hb
  rw[List.filterMap_cons,hf]at hb
  exact hb
theorem Inv.stkFree (I:Inv X pins σ H s):∀b ∈ frs X.stack,H b=none:=fun b hb=>by
 rcases List.mem_cons.mp (I.stkSub b hb)with e | hb
 ·rw[e];exact I.free
 ·obtain⟨_,o,ho,_⟩:=I.ok.funs.mem hb
  exact I.base.free b o ho (I.ok.frf b hb) fun z=>I.ok.exfs b z hb
theorem Inv.step {g':Array GenState} {t':Nat} {d':Drawn} {ch:List Addr} (I:Inv X pins σ H s)
  (hch:∀b ∈ ch,(b ∈ X.ex\/X.s₀.heap.objs.size<=b)/\b ≠ X.env.locals/\(∀ x c,X.env.cells.lookup x=some c->c ≠ b)/\∀p ∈ X.pn++pins,p.1 ≠ b)
  (keep:∀b o,b ≠ X.env.locals->b ∉ X.fs->b ∉ ch->s.heap.get? b=some o->H b=none->h'.get? b=some o)
  (slot:∀b o,b ≠ X.env.locals->b ∈ X.fs->b ∉ ch->s.heap.get? b=some o->H b=none->∃sl,h'.get? b=some {o with slots:=sl}) (free:∀b o,b ∉ ch->s.heap.get? b=some o->H b=none->H' b=none)
  (there:∀b o,b ∉ ch->s.heap.get? b=some o->∃o',h'.get? b=some o')
  (tups:∀b xs,H b=some (.tup xs)->H' b=some (.tup xs)) (frzs:∀b o u,H b=some (.frz o u)->H' b=some (.frz o u)) (tbls:∀b ps,H b=some (.tbl ps)->∃more,H' b=some (.tbl (ps++more)))
  (ns:∀m,s.heap.Ns X.env.locals m->h'.Ns X.env.locals m) (hok:HOk X.prog X.w H' h') (hg:AllBare g'):
  Inv X pins σ H' {s with heap:=h',gens:=g',drawn:=d',toks:=t'}:=by
 have neL:∀b o,X.s₀.heap.get? b=some o->b ≠ X.env.locals:=fun b o e=>Nat.ne_of_lt (Nat.lt_of_lt_of_le (Heap.lt_size e) I.ok.above)
 have neC:∀b o,X.s₀.heap.get? b=some o->b ∉ X.ex->b ∉ ch:=fun b o e hx hb=>by
  rcases(hch b hb).1 with z | z
  ·exact hx z
  ·exact absurd (Nat.lt_of_lt_of_le (Heap.lt_size e) z) (Nat.lt_irrefl _)
 have cellK:∀x c,X.env.cells.lookup x=some c->∀v,s.heap.IsCell c v->h'.IsCell c v:=fun x c e v ⟨o,ho,hd⟩=>by
  have nch:c ∉ ch:=fun z=>(hch c z).2.2.1 x c e rfl
  by_cases hc:c ∈ X.fs
  ·obtain⟨sl,q⟩:=slot c o (I.cne x c e) hc nch ho (I.freeC x c e)
   exact⟨_,q,hd⟩
  ·exact⟨o,keep c o (I.cne x c e) hc nch ho (I.freeC x c e),hd⟩
 refine⟨I.ok,I.os,hg,⟨fun b o e n hb hx=>?_,fun b o e n hb hx=>?_,fun b o e n hx=>?_,fun b o e hx=>?_,fun b xs e=>tups b xs (I.base.tups b xs e),fun b o xs e=>frzs b o xs (I.base.frzs b o xs e),fun b ps e=>?_⟩,?_,fun x c e=>?_,?_,fun x c e=>?_,fun p hp=>?_,hok,I.len⟩
 ·exact keep b o (neL b o e) hb (neC b o e hx) (I.base.keep b o e n hb hx) (I.base.free b o e n hx)
 ·obtain⟨sl,e1⟩:=I.base.slot b o e n hb hx
  obtain⟨sl',e2⟩:=slot b _ (neL b o e) hb (neC b o e hx) e1 (I.base.free b o e n hx)
  exact⟨sl',e2⟩
 ·obtain⟨o',e1⟩:=I.base.there b o e hx
  exact free b o' (neC b o e hx) e1 (I.base.free b o e n hx)
 ·obtain⟨o',e1⟩:=I.base.there b o e hx
  exact there b o' (neC b o e hx) e1
 ·obtain⟨m1,e1⟩:=I.base.tbls b ps e
  obtain⟨m2,e2⟩:=tbls b _ e1
  exact⟨m1++m2,by rw[e2,Array.append_assoc]⟩
 ·obtain⟨m,hn,hl⟩:=I.loc
  refine⟨m,ns m hn,fun i x v e1 e2 e3=>?_⟩
  obtain⟨u,r,l⟩:=hl i x v e1 e2 e3
  refine⟨u,r,?_⟩
  rcases l with l | ⟨k,c,e,z⟩
  ·exact .inl l
  ·exact .inr ⟨k,c,e,cellK x c e _ z⟩
 ·obtain⟨v,z⟩:=I.cell x c e
  exact⟨v,cellK x c e v z⟩
 ·obtain⟨m,⟨o,_,_,ho,_⟩,_⟩:=I.loc
  exact free _ o (fun z=>(hch _ z).2.1 rfl) ho I.free
 ·obtain⟨v,o,ho,hd⟩:=I.cell x c e
  exact free c o (fun z=>(hch c z).2.2.1 x c e rfl) ho (I.freeC x c e)
 ·obtain⟨e,n,ne,nf,d⟩:=I.pin p hp
  have nch:p.1 ∉ ch:=fun z=>(hch p.1 z).2.2.2 p hp rfl
  exact⟨keep p.1 p.2 ne nf nch e n,free p.1 p.2 nch e n,ne,nf,d⟩
theorem Inv.un {t':Nat} (I:Inv X pins σ H s) (u:Un X.fs [] H H' s.heap h') (hok:HOk X.prog X.w H' h'):Inv X pins σ H' {s with heap:=h',toks:=t'}:=by
 obtain⟨m,⟨o,es,ep,ho,r⟩,_⟩:=id I.loc
 obtain⟨sl,hL⟩:=u.any ho I.free (by simp)
 exact I.step (g':=s.gens) (d':=s.drawn) (ch:=[]) (fun _ z=>nomatch z) (fun b o _ hb _ e n=>u.keep b o e n hb (by simp)) (fun b o _ hb _ e n=>u.slot b o e n hb (by simp)) (fun b o _ e n=>u.free b o e n (by simp)) (fun b o _ e=>u.there b o e (by simp)) u.tups u.frzs u.tbls (fun m' hm=>by
  obtain⟨o',es',ep',ho',r'⟩:=hm
  rw[ho]at ho';cases ho'
  exact⟨_,es',ep',hL,r'⟩) hok I.bare
theorem Inv.call {g':Array GenState} {t':Nat} {d':Drawn} {ch:List Addr} (I:Inv X pins σ H s) (u:Un (frs X.stack) ch H H' s.heap h') (hok:HOk X.prog X.w H' h') (hg:AllBare g')
  (hch:∀b ∈ ch,(b ∈ X.ex\/X.s₀.heap.objs.size<=b)/\b ≠ X.env.locals/\(∀ x c,X.env.cells.lookup x=some c->c ≠ b)/\∀p ∈ X.pn++pins,p.1 ≠ b):
  Inv X pins σ H' {s with heap:=h',gens:=g',drawn:=d',toks:=t'}:=by
 obtain⟨m,⟨o,es,ep,ho,r⟩,_⟩:=id I.loc
 obtain⟨sl,hL⟩:=u.any ho I.free fun z=>(hch _ z).2.1 rfl
 exact I.step (ch:=ch) hch (fun b o hL hb hc e n=>u.keep b o e n (fun z=>(List.mem_cons.mp (I.stkSub b z)).elim hL hb) hc) (fun b o _ _ hc e n=>u.any e n hc) (fun b o hc e n=>u.free b o e n hc) (fun b o hc e=>u.there b o e hc) u.tups u.frzs u.tbls (fun m' hm=>by
  obtain⟨o',es',ep',ho',r'⟩:=hm
  rw[ho]at ho';cases ho'
  exact⟨_,es',ep',hL,r'⟩) hok hg
theorem Inv.turned {t':Nat} {it:Addr} (I:Inv X pins σ H s) (k:∀b o,b ≠ it->s.heap.get? b=some o->h'.get? b=some o) (hn:H it=none) (hL:it ≠ X.env.locals)
  (h1:it ∈ X.ex\/X.s₀.heap.objs.size<=it) (h2:∀x c,X.env.cells.lookup x=some c->c ≠ it) (h3:∀p ∈ X.pn++pins,p.1 ≠ it):Inv X pins σ H {s with heap:=h',toks:=t'}:=by
 have nit:∀b u,H b=some u->b ≠ it:=fun b u e z=>by rw[z,hn]at e;cases e
 refine I.step (g':=s.gens) (d':=s.drawn) (ch:=[it]) (fun b hb=>?_) (fun b o _ _ hc e _=>k b o (fun z=>hc (by simp[z])) e) (fun b o _ _ hc e _=>⟨o.slots,k b o (fun z=>hc (by simp[z])) e⟩) (fun _ _ _ _ n=>n)
  (fun b o hc e=>⟨o,k b o (fun z=>hc (by simp[z])) e⟩) (fun _ _ e=>e) (fun _ _ _ e=>e) (fun b ps e=>⟨#[],by rw[e];simp⟩) (fun m hm=>?_) (fun b u e=>?_) I.bare
 ·have e:b=it:=by simpa using hb
  subst e
  exact⟨h1,hL,h2,h3⟩
 ·obtain⟨o,es,ep,ho,r⟩:=hm
  exact⟨o,es,ep,k _ o (Ne.symm hL) ho,r⟩
 ·refine(I.hok b u e).stay (fun c v hc q=>k c v ?_ q) (fun _ q=>q) fun _ _ q=>q
  rcases hc with z | z
  ·rw[z];exact nit b u e
  ·exact nit c _ z
theorem Inv.tok (I:Inv X pins σ H s) (t:Nat):Inv X pins σ H {s with toks:=t}:=I.un (h':=s.heap) (t':=t) Un.refl I.hok
theorem Inv.kept {t':Nat} (I:Inv X pins σ H s) (k:∀b u,s.heap.get? b=some u->h'.get? b=some u):Inv X pins σ H {s with heap:=h',toks:=t'}:=I.un (Un.kept k) (I.hok.kept k)
theorem Inv.laid {a:Addr} {o:HO} {t':Nat} (I:Inv X pins σ H s) (k:∀b u,s.heap.get? b=some u->h'.get? b=some u) (hp:s.heap.objs.size<=a) (new:ObjOk X.prog X.w (upd H a o) h' a o):
  Inv X pins σ (upd H a o) {s with heap:=h',toks:=t'}:=I.un (Un.laid k hp (I.hok.fresh hp)) (I.hok.laid k hp new)
theorem Inv.write {x e:Addr} {o:HO} {t':Nat} (I:Inv X pins σ H s) (mu:Mut (H x)) (he:e=x\/H e=some (.own x)) (k:∀b u,b ≠ e->s.heap.get? b=some u->h'.get? b=some u) (heo:∃u,h'.get? e=some u)
  (new:ObjOk X.prog X.w (upd H x o) h' x o):Inv X pins σ (upd H x o) {s with heap:=h',toks:=t'}:=I.un (Un.write mu he k heo) (I.hok.write mu he k heo new)
theorem Inv.pins_of {pins':List (Addr × Obj)} (I:Inv X pins σ H s) (h:∀p ∈ pins',s.heap.get? p.1=some p.2/\H p.1=none/\p.1 ≠ X.env.locals/\p.1 ∉ X.fs/\∀v,p.2.data ≠ .cell v):Inv X pins' σ H s:=
 ⟨I.ok,I.os,I.bare,I.base,I.loc,I.cell,I.free,I.freeC,fun p hp=>(List.mem_append.mp hp).elim (fun z=>I.pin p (List.mem_append_left _ z)) (h p),I.hok,I.len⟩
theorem nodup_ix {N:List Str} (hN:N.Nodup) {i j:Nat} {x:Str} (a:N[i]?=some x) (b:N[j]?=some x):i=j:=by
 obtain⟨h1,e1⟩:=List.getElem?_eq_some_iff.mp a
 obtain⟨h2,e2⟩:=List.getElem?_eq_some_iff.mp b
 exact(List.getElem_inj hN).mp (e1.trans e2.symm)
theorem store_ok2 {M:Model} {A:Around} {E:Value->Shared->Prop} {i:Nat} {x:Str} {v:V} {u:Value} {Q:Unit->Shared->Prop} (I:Inv X pins σ H s) (hN:X.N.Nodup) (hi:X.N[i]?=some x) (hx:Loc X.env.scope x) (r:RelV v u)
  (h:∀s',Inv X pins (σ.set i (some v)) H s'->(∃ a,Heap.SameBut a s.heap s'.heap/\(a=X.env.locals\/X.env.cells.lookup x=some a))->Q () s') (hf:X.fn x=true\/X.env.scope.names.lookup x=some .local:=by first | exact .inl rfl | exact .inr rfl | assumption):wpAny M A (storeName X.env x u) Q E s:=by
 obtain⟨m,hn,hl⟩:=id I.loc
 have hcls:(X.env.scope.kind == .class || (X.env.scope.kind == .module && X.env.locals != X.env.globals))=false:=by rw[I.ok.kind];rfl
 have hiσ:i < σ.length:=by rw[I.len];exact(List.getElem?_eq_some_iff.mp hi).1
 have cne:=I.cne
 have tracked:∀ {a:Addr} {h':Heap},(∃ o,s.heap.get? a=some o/\H a=none)->Heap.SameBut a s.heap h'->HOk X.prog X.w H h':=fun{a h'} ha hs b ob e=>by
  obtain⟨_,_,hfree⟩:=ha
  refine(I.hok b ob e).stay (fun c w' hc q=>(hs.2 c ?_).trans q) (fun _ q=>q) fun _ _ q=>q
  rintro rfl
  rcases hc with rfl | hc
  ·rw[hfree]at e;cases e
  ·rw[hfree]at hc;cases hc
 rcases hx with hk | hk
 ·refine wpAny_storeName_local hk hn (fun h' hn' hs=>?_) hcls
  obtain⟨oL,_,_,hoL,_⟩:=id hn
  refine h _ ⟨I.ok,I.os,I.bare,⟨fun b o e n hb hx=>?_,fun b o e n hb hx=>?_,I.base.free,fun b o e hx=>?_,I.base.tups,I.base.frzs,I.base.tbls⟩,⟨_,hn',fun j y v' e1 e2 e3=>?_⟩,fun y c e=>?_,I.free,I.freeC,fun p hp=>?_,tracked ⟨oL,hoL,I.free⟩ hs,by simpa using I.len⟩ ⟨_,hs,.inl rfl⟩
  ·exact(hs.2 b (Nat.ne_of_lt (Nat.lt_of_lt_of_le (Heap.lt_size e) I.ok.above))).trans (I.base.keep b o e n hb hx)
  ·obtain⟨sl,e1⟩:=I.base.slot b o e n hb hx
   exact⟨sl,(hs.2 b (Nat.ne_of_lt (Nat.lt_of_lt_of_le (Heap.lt_size e) I.ok.above))).trans e1⟩
  ·obtain⟨o',e1⟩:=I.base.there b o e hx
   exact⟨o',(hs.2 b (Nat.ne_of_lt (Nat.lt_of_lt_of_le (Heap.lt_size e) I.ok.above))).trans e1⟩
  ·by_cases hj:j=i
   ·subst hj
    rw[hi]at e1;cases e1
    rw[List.getElem?_set_self hiσ]at e2
    cases e2
    exact⟨u,r,.inl ⟨hk,by simp⟩⟩
   ·rw[List.getElem?_set_ne (Ne.symm hj)]at e2
    obtain⟨u',r',q⟩:=hl j y v' e1 e2 e3
    refine⟨u',r',?_⟩
    rcases q with ⟨k,e⟩ | ⟨k,c,e,z⟩
    ·refine .inl ⟨k,?_⟩
     have:y ≠ x:=fun e=>hj (nodup_ix hN e1 (e ▸ hi))
     simp[this,e]
    ·exact .inr ⟨k,c,e,z.sameBut hs (cne y c e)⟩
  ·obtain⟨w',z⟩:=I.cell y c e
   exact⟨w',z.sameBut hs (cne y c e)⟩
  ·obtain⟨e,n,ne,nf,d⟩:=I.pin p hp
   exact⟨(hs.2 p.1 ne).trans e,n,ne,nf,d⟩
 ·have hfn:X.fn x=true:=by
   rcases hf with z | z
   ·exact z
   ·rw[z]at hk;cases hk
  obtain⟨c,hc⟩:=I.ok.has x (.inl hk)
  obtain⟨w',z⟩:=I.cell x c hc
  refine wpAny_storeName_cell I.ok.kind hk hc z (fun h' hc' hs=>?_)
  obtain⟨oc,hoc,hocd⟩:=id z
  refine h {s with heap:=h'} ⟨I.ok,I.os,I.bare,⟨fun b o e n hb hx=>?_,fun b o e n hb hx=>?_,I.base.free,fun b o e hx=>?_,I.base.tups,I.base.frzs,I.base.tbls⟩,⟨m,hn.sameBut hs (Ne.symm (cne x c hc)),fun j y v' e1 e2 e3=>?_⟩,fun y c' e=>?_,I.free,I.freeC,fun p hp=>?_,tracked ⟨oc,hoc,I.freeC x c hc⟩ hs,by simpa using I.len⟩ ⟨c,hs,.inr hc⟩
  ·exact(hs.2 b (Nat.ne_of_lt (Nat.lt_of_lt_of_le (Heap.lt_size e) (I.ok.cab x c hfn hc)))).trans (I.base.keep b o e n hb hx)
  ·obtain⟨sl,e1⟩:=I.base.slot b o e n hb hx
   exact⟨sl,(hs.2 b (Nat.ne_of_lt (Nat.lt_of_lt_of_le (Heap.lt_size e) (I.ok.cab x c hfn hc)))).trans e1⟩
  ·obtain⟨o',e1⟩:=I.base.there b o e hx
   exact⟨o',(hs.2 b (Nat.ne_of_lt (Nat.lt_of_lt_of_le (Heap.lt_size e) (I.ok.cab x c hfn hc)))).trans e1⟩
  ·by_cases hj:j=i
   ·subst hj
    rw[hi]at e1;cases e1
    rw[List.getElem?_set_self hiσ]at e2
    cases e2
    exact⟨u,r,.inr ⟨.inl hk,c,hc,hc'⟩⟩
   ·rw[List.getElem?_set_ne (Ne.symm hj)]at e2
    obtain⟨u',r',q⟩:=hl j y v' e1 e2 e3
    refine⟨u',r',?_⟩
    rcases q with q | ⟨k,c',e,z'⟩
    ·exact .inl q
    ·refine .inr ⟨k,c',e,z'.sameBut hs ?_⟩
     rintro rfl
     exact hj (nodup_ix hN e1 (I.ok.inj _ _ _ e hc ▸ hi))
  ·by_cases hcc:c'=c
   ·subst hcc;exact⟨_,hc'⟩
   ·obtain⟨w2,z2⟩:=I.cell y c' e
    exact⟨w2,z2.sameBut hs hcc⟩
  ·obtain⟨e,n,ne,nf,d⟩:=I.pin p hp
   refine⟨(hs.2 p.1 ?_).trans e,n,ne,nf,d⟩
   intro q
   rw[q,hoc]at e
   have q':oc=p.2:=Option.some.inj e
   exact d w' (by rw[<-q'];exact hocd)
theorem store_ok {M:Model} {A:Around} {E:Value->Shared->Prop} {i:Nat} {x:Str} {v:V} {u:Value} {Q:Unit->Shared->Prop} (I:Inv X pins σ H s) (hN:X.N.Nodup) (hi:X.N[i]?=some x) (hx:Loc X.env.scope x) (r:RelV v u)
  (h:∀s',Inv X pins (σ.set i (some v)) H s'->Q () s') (hf:X.fn x=true\/X.env.scope.names.lookup x=some .local:=by first | exact .inl rfl | exact .inr rfl | assumption):wpAny M A (storeName X.env x u) Q E s:=
 store_ok2 I hN hi hx r (fun s' I' _=>h s' I') hf
theorem Inv.call' {s':Shared} {ch:List Addr} (I:Inv X pins σ H s) (ho:s'.os=s.os) (u:Un (frs X.stack) ch H H' s.heap s'.heap) (hok:HOk X.prog X.w H' s'.heap) (hg:AllBare s'.gens)
  (hch:∀b ∈ ch,(b ∈ X.ex\/X.s₀.heap.objs.size<=b)/\b ≠ X.env.locals/\(∀ x c,X.env.cells.lookup x=some c->c ≠ b)/\∀p ∈ X.pn++pins,p.1 ≠ b):Inv X pins σ H' s':=by
 obtain⟨h',g',d',t',o'⟩:=s'
 have e:o'=s.os:=ho
 subst e
 exact I.call (g':=g') (t':=t') (d':=d') u hok hg hch
end
@[reducible] noncomputable def XK:=Value->Option Addr->Hp->Prop
@[reducible] noncomputable def St:=List (Option V)
@[reducible] noncomputable def VK:=V->Hp->Prop
@[reducible] noncomputable def TE:=St->Hp->VK->Prop
@[reducible] noncomputable def TT:=St->Hp->(Bool->Hp->Prop)->Prop
@[reducible] noncomputable def TA:=St->Hp->(List V->Hp->Prop)->Prop
structure Ends where
 nx:St->Hp->Prop
 rt:VK
 bk:St->Hp->Prop:=fun _ _=>False
 ct:St->Hp->Prop:=fun _ _=>False
@[reducible] noncomputable def TS:=Ends->St->Hp->Prop
noncomputable def EP (X:Cx) (pins:List (Addr × Obj)) (σ:St) (Q:VK) (u:Value) (s':Shared):Prop:=∃v H',Inv X pins σ H' s'/\RelV v u/\Q v H'
noncomputable def TP (X:Cx) (pins:List (Addr × Obj)) (σ:St) (Q:Bool->Hp->Prop) (b:Bool) (s':Shared):Prop:=∃H',Inv X pins σ H' s'/\Q b H'
noncomputable def AP (X:Cx) (pins:List (Addr × Obj)) (σ:St) (Q:List V->Hp->Prop) (us:List Value) (s':Shared):Prop:=∃vs H',Inv X pins σ H' s'/\Vals vs us/\Q vs H'
noncomputable def SP (X:Cx) (pins:List (Addr × Obj)) (D:Ends) (f:Flow) (s':Shared):Prop:=
 match f with
 | .next=>∃σ' H',Inv X pins σ' H' s'/\D.nx σ' H'
 | .brk=>∃σ' H',Inv X pins σ' H' s'/\D.bk σ' H'
 | .cont=>∃σ' H',Inv X pins σ' H' s'/\D.ct σ' H'
 | .ret u=>∃v σ' H',Inv X pins σ' H' s'/\RelV v u/\D.rt v H'
noncomputable def PE (X:Cx) (e:Expr) (t:TE):Prop:=
 ∀ (pins:List (Addr × Obj)) (s:Shared) (σ:St) (H:Hp) (Q:VK),Inv X pins σ H s->t σ H Q->wpAny (model X.prog X.w) X.A (eval e X.env) (EP X pins σ Q) X.xe s
noncomputable def PT (X:Cx) (e:Expr) (t:TT):Prop:=
 ∀ (pins:List (Addr × Obj)) (s:Shared) (σ:St) (H:Hp) (Q:Bool->Hp->Prop),Inv X pins σ H s->t σ H Q->wpAny (model X.prog X.w) X.A (isTrue e X.env (eval e X.env)) (TP X pins σ Q) X.xe s
noncomputable def PW (X:Cx) (e:Expr) (t:TT):Prop:=
 ∀ (whole:Sem Value) (pins:List (Addr × Obj)) (s:Shared) (σ:St) (H:Hp) (Q:Bool->Hp->Prop),Inv X pins σ H s->t σ H Q->wpAny (model X.prog X.w) X.A (isTrue e X.env whole) (TP X pins σ Q) X.xe s
theorem PW.pt {X:Cx} {e:Expr} {t:TT} (h:PW X e t):PT X e t:=h _
noncomputable def PA (X:Cx) (es:List Expr) (t:TA):Prop:=
 ∀ (pos:Pos) (pins:List (Addr × Obj)) (s:Shared) (σ:St) (H:Hp) (Q:List V->Hp->Prop),Inv X pins σ H s->t σ H Q->wpAny (model X.prog X.w) X.A (spliced (backTo pos (starEach es X.env))) (AP X pins σ Q) X.xe s
noncomputable def PS (X:Cx) (st:Stmt) (t:TS):Prop:=
 ∀ (pins:List (Addr × Obj)) (s:Shared) (σ:St) (H:Hp) (D:Ends),Inv X pins σ H s->t D σ H->wpAny (model X.prog X.w) X.A (exec st X.env) (SP X pins D) X.xe s
noncomputable def PSs (X:Cx) (st:List Stmt) (t:TS):Prop:=
 ∀ (pins:List (Addr × Obj)) (s:Shared) (σ:St) (H:Hp) (D:Ends),Inv X pins σ H s->t D σ H->wpAny (model X.prog X.w) X.A (execs st X.env) (SP X pins D) X.xe s
theorem thn {α:Type} {t:Sem α} {Q Q':α->Shared->Prop} {M:Model} {A:Around} {E:Value->Shared->Prop} {s:Shared} (h:wpAny M A t Q E s) (hQ:∀a s,Q a s->Q' a s):wpAny M A t Q' E s:=wpAny_mono h hQ fun _ _ x=>x
end L2
namespace L2
open PySem PySem.Spec PyProof.Rows
section
variable {X:Cx}
theorem bin {a b:Expr} {ta tb:TE} (ha:PE X a ta) (hb:PE X b tb) {pins:List (Addr × Obj)} {s:Shared} {σ:St} {H:Hp} {R:V->V->Hp->Prop} (I:Inv X pins σ H s) (h:ta σ H fun x H1=>tb σ H1 fun y H2=>R x y H2)
  {α:Type} {Q:α->Shared->Prop} {f:Value->Value->Sem α}
  (hf:∀v u s2 x y H2,Inv X pins σ H2 s2->RelV x v->RelV y u->R x y H2->wpAny (model X.prog X.w) X.A (f v u) Q X.xe s2):
  wpAny (model X.prog X.w) X.A (eval a X.env) (fun v s₁=>wpAny (model X.prog X.w) X.A (eval b X.env) (fun u s₂=>wpAny (model X.prog X.w) X.A (f v u) Q X.xe s₂) X.xe s₁) X.xe s:=by
 refine thn (ha pins s σ H _ I h) fun v s1 ⟨x,H1,I1,r1,q1⟩=>?_
 refine thn (hb pins s1 σ H1 _ I1 q1) fun u s2 ⟨y,H2,I2,r2,q2⟩=>?_
 exact hf v u s2 x y H2 I2 r1 r2 q2
noncomputable def tVar (i:Nat):TE:=fun σ H Q=>∃v,σ[i]?=some (some v)/\Q v H
noncomputable def tC (v:V):TE:=fun _ H Q=>Q v H
theorem pe_var {i:Nat} {x:Str} {pos:Pos} (hN:X.N[i]?=some x) (hv:Vis X.env.scope x) (hd:(x == ("__debug__" :Str))=false:=by decide) (hcd:(x == ("__classdict__" :Str))=false:=by decide):PE X (.Name x pos) (tVar i):=by
 intro pins s σ H Q I h
 obtain⟨v,e,h⟩:=h
 obtain⟨m,hn,hl⟩:=I.loc
 obtain⟨u,r,l⟩:=hl i x v hN e hv
 have fin:EP X pins σ Q u s:=⟨v,H,I,r,h⟩
 rcases l with ⟨hk,hm⟩ | ⟨hk,c,hc,hcell⟩
 ·exact wpAny_Name (wpAny_loadName_local I.ok.kind hk hn hm fin) hd
 ·rcases hk with hk | hk
  ·exact wpAny_Name (wpAny_loadName_cell I.ok.kind hk hc hcell fin) hd
  ·exact wpAny_Name (wpAny_loadName_free I.ok.kind hk hc hcell fin hcd) hd
theorem pe_int {i j pos}:PE X (.Constant (.int i) j pos) (tC (.int i)):=fun _ _ _ H _ I h=>wpAny_Constant_int ⟨.int i,H,I.tok _,⟨_,rfl⟩,h⟩
theorem pe_bl {b j pos}:PE X (.Constant (.bool b) j pos) (tC (.bl b)):=fun _ _ _ H _ I h=>Constant_bool ⟨.bl b,H,I,rfl,h⟩
theorem pe_non {j pos}:PE X (.Constant .none j pos) (tC .non):=fun _ _ _ H _ I h=>Constant_none ⟨.non,H,I,rfl,h⟩
theorem pe_str {x j pos}:PE X (.Constant (.str x) j pos) (tC (.str x)):=fun _ _ _ H _ I h=>Calls.Constant_str ⟨.str x,H,I.tok _,⟨_,rfl⟩,h⟩
noncomputable def Gl (X:Cx) (x:Str):Prop:=X.env.kindOf x=some .globalImplicit
theorem ld_glob {E:Value->Shared->Prop} {pins:List (Addr × Obj)} {s:Shared} {σ:St} {H:Hp} {x:Str} {u:Value} {pos:Pos} {Q:Value->Shared->Prop} (I:Inv X pins σ H s) (hg:Gl X x) (hm:X.mg x=some u) (h:Q u s)
  (hd:(x == ("__debug__" :Str))=false:=by decide):wpAny (model X.prog X.w) X.A (eval (.Name x pos) X.env) Q E s:=
 Calls.Name_function_global I.ok.kind hg (Calls.loadGlobal_global (by rw[I.ok.glob];exact I.mod.glob.keeps I.bk) hm h) hd
theorem ld_blt {E:Value->Shared->Prop} {pins:List (Addr × Obj)} {s:Shared} {σ:St} {H:Hp} {x:Str} {u:Value} {pos:Pos} {Q:Value->Shared->Prop} (I:Inv X pins σ H s) (hg:Gl X x) (hm:X.mg x=none) (hv:bootBuiltins x=some u) (h:Q u s)
  (hn:x ≠ "__name__" :=by decide) (hd:(x == ("__debug__" :Str))=false:=by decide):wpAny (model X.prog X.w) X.A (eval (.Name x pos) X.env) Q E s:=by
 obtain⟨mb,h1,h2⟩:=I.mod.blt
 exact Calls.Name_function_global I.ok.kind hg (Calls.loadGlobal_builtin (by rw[I.ok.glob];exact I.mod.glob.keeps I.bk) hm (by rw[I.ok.blt];exact h1.keeps I.bk) ((h2 x hn).trans hv) h) hd
variable {a b:Expr} {ta tb:TE} {pos:Pos}
noncomputable def tB (t:TE):TT:=fun σ H Q=>t σ H fun x H1=>∃c,x=.bl c/\Q c H1
theorem pt_val {e:Expr} {t:TE} (h:PE X e t) (he:∀whole,isTrue e X.env whole=(do let v<-whole;standAt e.pos;holding [v] (truthy v)):=by intro _;rfl):PT X e (tB t):=by
 intro pins s σ H Q I hw
 refine isTrue_plain (thn (h pins s σ H _ I hw) fun v s1 ⟨x,H1,I1,r1,q1⟩=>?_) (he _)
 obtain⟨d,rfl,q⟩:=q1
 cases r1
 exact wpAny_truthy_bool ⟨H1,I1,q⟩
variable {tA tB':TT} {rest:List Expr}
noncomputable def tAnd (t u:TT):TT:=fun σ H Q=>t σ H fun c H1=>if c=true then u σ H1 Q else Q false H1
noncomputable def tOr (t u:TT):TT:=fun σ H Q=>t σ H fun c H1=>if c=true then Q true H1 else u σ H1 Q
noncomputable def tNot (t:TT):TT:=fun σ H Q=>t σ H fun c H1=>Q (!c) H1
theorem pw_and1 (ha:PT X a tA):PW X (.BoolOp .And [a] pos) tA:=by
 intro wh pins s σ H Q I h
 refine isTrue_and (thn (ha pins s σ H Q I h) fun c s1 e=>?_)
 cases c with
 | true=>exact isTrue_and_nil e
 | false=>exact e
theorem pw_or1 (ha:PT X a tA):PW X (.BoolOp .Or [a] pos) tA:=by
 intro wh pins s σ H Q I h
 refine isTrue_or (thn (ha pins s σ H Q I h) fun c s1 e=>?_)
 cases c with
 | false=>exact isTrue_or_nil e
 | true=>exact e
theorem pw_and (ha:PT X a tA) (hb:PW X (.BoolOp .And (b::rest) pos) tB'):PW X (.BoolOp .And (a::b::rest) pos) (tAnd tA tB'):=by
 intro wh pins s σ H Q I h
 refine isTrue_and (thn (ha pins s σ H _ I h) fun c s1 ⟨H1,I1,q1⟩=>?_)
 cases c with
 | true=>exact hb wh pins s1 σ H1 Q I1 q1
 | false=>exact⟨H1,I1,q1⟩
theorem pw_or (ha:PT X a tA) (hb:PW X (.BoolOp .Or (b::rest) pos) tB'):PW X (.BoolOp .Or (a::b::rest) pos) (tOr tA tB'):=by
 intro wh pins s σ H Q I h
 refine isTrue_or (thn (ha pins s σ H _ I h) fun c s1 ⟨H1,I1,q1⟩=>?_)
 cases c with
 | true=>exact⟨H1,I1,q1⟩
 | false=>exact hb wh pins s1 σ H1 Q I1 q1
theorem pt_not (ha:PT X a tA):PT X (.UnaryOp .Not a pos) (tNot tA):=by
 intro pins s σ H Q I h
 exact isTrue_not (ha pins s σ H (fun c H1=>Q (!c) H1) I h)
theorem pe_one {op} {t:TE} (h:PE X a t):PE X (.BoolOp op [a] pos) t:=fun pins s σ H Q I hw=>BoolOp_one (h pins s σ H Q I hw)
noncomputable def tIf (t:TT) (ta tb:TE):TE:=fun σ H Q=>t σ H fun c H1=>if c=true then ta σ H1 Q else tb σ H1 Q
theorem pe_ifExp {c:Expr} (hc:PT X c tA) (ha:PE X a ta) (hb:PE X b tb):PE X (.IfExp c a b pos) (tIf tA ta tb):=by
 intro pins s σ H Q I h
 refine wpAny_IfExp (thn (hc pins s σ H _ I h) fun d s1 ⟨H1,I1,q1⟩=>?_)
 cases d with
 | true=>exact ha pins s1 σ H1 Q I1 q1
 | false=>exact hb pins s1 σ H1 Q I1 q1
end
end L2
namespace L2
open PySem PySem.Spec PyProof.Rows
noncomputable def SqL (K:PySem.W.Frag) (H:Hp) (a:Addr) (xs:List V):Prop:=
 Rd H a (.lst xs)\/
  ∃ (o:Obj) (its:Array Value) (n:Nat),K.lookup a=some o/\o.cls=.type "list" /\o.dict=none/\o.data=.seq its n/\its.size<=sizeLine/\Vals xs its.toList
noncomputable def SqT (K:PySem.W.Frag) (H:Hp) (a:Addr) (xs:List V):Prop:=
 Rd H a (.tup xs)\/
  ∃ (o:Obj) (its:Array Value) (n:Nat),K.lookup a=some o/\o.cls=.type "tuple" /\o.data=.seq its n/\its.size<=sizeLine/\Vals xs its.toList
noncomputable def absV:Value->Option V
 | .none=>some .non
 | .bool b=>some (.bl b)
 | .int i _=>some (.int i)
 | .str x _=>some (.str x)
 | .bytes b _=>some (.byt b)
 | .float b _=>some (.flt b)
 | .ref a=>some (.ref a)
 | .type n=>some (.ty n)
 | _=>none
theorem RelV.abs {x:V} {u:Value} (r:RelV x u):absV u=some x:=by
 cases x with
 | non=>cases r;rfl
 | bl _=>cases r;rfl
 | int _=>obtain⟨t,rfl⟩:=r;rfl
 | str _=>obtain⟨t,rfl⟩:=r;rfl
 | byt _=>obtain⟨t,rfl⟩:=r;rfl
 | flt _=>obtain⟨t,rfl⟩:=r;rfl
 | ref _=>cases r;rfl
 | ty _=>cases r;rfl
theorem RelV.inj {x y:V} {u:Value} (r:RelV x u) (q:RelV y u):x=y:=Option.some.inj (r.abs.symm.trans q.abs)
theorem Vals.inj:∀ {xs ys:List V} {us:List Value},Vals xs us->Vals ys us->xs=ys
 | _,_,_,.nil,.nil=>rfl
 | _,_,_,.cons r t,.cons r' t'=>by rw[r.inj r',Vals.inj t t']
section
variable {X:Cx} {pins:List (Addr × Obj)} {σ:St} {H:Hp} {s:Shared} {a:Addr} {xs ys:List V}
theorem SqL.of {K:PySem.W.Frag} (h:H a=some (.lst xs)):SqL K H a xs:=.inl (.inl h)
theorem SqT.of {K:PySem.W.Frag} (h:H a=some (.tup xs)):SqT K H a xs:=.inl (.inl h)
theorem Inv.list (I:Inv X pins σ H s) (h:SqL X.K H a xs):∃its:List Value,Vals xs its/\PlainL s.heap a its.toArray/\xs.length<=sizeLine:=by
 rcases h with h | ⟨o,its,n,hk,hc,hd,hs,hz,r⟩
 ·obtain⟨z,its,n,r,e⟩:=h.ok I.hok
  exact⟨its,r,⟨_,n,e,rfl,rfl,rfl⟩,z⟩
 ·refine⟨its.toList,r,⟨o,n,I.kIn a o hk,hc,hd,by simpa using hs⟩,?_⟩
  have e:=r.length
  simp only[Array.length_toList]at e
  omega
theorem Inv.tuple (I:Inv X pins σ H s) (h:SqT X.K H a xs):∃its:List Value,Vals xs its/\IsTup s.heap a its.toArray/\xs.length<=sizeLine:=by
 rcases h with h | ⟨o,its,n,hk,hc,hs,hz,r⟩
 ·obtain⟨z,its,r,p⟩:=h.ok I.hok
  exact⟨its,r,p,z⟩
 ·refine⟨its.toList,r,⟨o,I.kIn a o hk,hc,n,by simpa using hs⟩,?_⟩
  have e:=r.length
  simp only[Array.length_toList]at e
  omega
theorem Inv.list_inj (I:Inv X pins σ H s) (h:SqL X.K H a xs) (h':SqL X.K H a ys):xs=ys:=by
 obtain⟨its,r,⟨o,n,e,_,_,d⟩,_⟩:=I.list h
 obtain⟨its',r',⟨o',n',e',_,_,d'⟩,_⟩:=I.list h'
 rw[e]at e';cases e'
 rw[d]at d'
 injection d' with d1 _
 have:its=its':=by simpa using congrArg Array.toList d1
 subst this
 exact r.inj r'
theorem Inv.tuple_inj (I:Inv X pins σ H s) (h:SqT X.K H a xs) (h':SqT X.K H a ys):xs=ys:=by
 obtain⟨its,r,⟨o,e,_,n,d⟩,_⟩:=I.tuple h
 obtain⟨its',r',⟨o',e',_,n',d'⟩,_⟩:=I.tuple h'
 rw[e]at e';cases e'
 rw[d]at d'
 injection d' with d1 _
 have:its=its':=by simpa using congrArg Array.toList d1
 subst this
 exact r.inj r'
end
@[reducible] noncomputable def Cx.wish (X:Cx) (E:Value->Shared->Prop):Cx:={X with xe:=E}
@[reducible] noncomputable def Cx.nox (X:Cx):Cx:=X.wish fun _ _=>False
theorem Cx.Ok.wish {X:Cx} (ok:X.Ok) (E:Value->Shared->Prop):(X.wish E).Ok:=
 ⟨ok.mod,ok.kind,ok.glob,ok.blt,ok.above,ok.inj,ok.has,ok.cab,ok.hd,ok.frames,ok.stk,ok.exf,ok.bs,ok.bsz,ok.noex,ok.exfs,ok.funs,ok.frf⟩
theorem Cx.Ok.unwish {X:Cx} {E:Value->Shared->Prop} (ok:(X.wish E).Ok):X.Ok:=
 ⟨ok.mod,ok.kind,ok.glob,ok.blt,ok.above,ok.inj,ok.has,ok.cab,ok.hd,ok.frames,ok.stk,ok.exf,ok.bs,ok.bsz,ok.noex,ok.exfs,ok.funs,ok.frf⟩
section
variable {X:Cx} {pins:List (Addr × Obj)} {σ:St} {H:Hp} {s:Shared} {E:Value->Shared->Prop}
theorem Inv.wish (I:Inv X pins σ H s) (E:Value->Shared->Prop):Inv (X.wish E) pins σ H s:=⟨I.ok.wish E,I.os,I.bare,I.base,I.loc,I.cell,I.free,I.freeC,I.pin,I.hok,I.len⟩
theorem Inv.unwish (I:Inv (X.wish E) pins σ H s):Inv X pins σ H s:=⟨I.ok.unwish,I.os,I.bare,I.base,I.loc,I.cell,I.free,I.freeC,I.pin,I.hok,I.len⟩
theorem SP.unwish {D:Ends} {f:Flow} {s':Shared} (h:SP (X.wish E) pins D f s'):SP X pins D f s':=by
 cases f with
 | next=>obtain⟨σ',H',I,q⟩:=h;exact⟨σ',H',I.unwish,q⟩
 | brk=>obtain⟨σ',H',I,q⟩:=h;exact⟨σ',H',I.unwish,q⟩
 | cont=>obtain⟨σ',H',I,q⟩:=h;exact⟨σ',H',I.unwish,q⟩
 | ret u=>obtain⟨v,σ',H',I,r,q⟩:=h;exact⟨v,σ',H',I.unwish,r,q⟩
theorem PE.nox {e:Expr} {t:TE} (h:PE X.nox e t):PE X e t:=fun pins s σ H Q I hw=>
 wpAny_mono (h pins s σ H Q (I.wish _) hw) (fun _ _ ⟨v,H',I',r,q⟩=>⟨v,H',I'.unwish,r,q⟩) fun _ _ z=>False.elim z
theorem PT.nox {e:Expr} {t:TT} (h:PT X.nox e t):PT X e t:=fun pins s σ H Q I hw=>
 wpAny_mono (h pins s σ H Q (I.wish _) hw) (fun _ _ ⟨H',I',q⟩=>⟨H',I'.unwish,q⟩) fun _ _ z=>False.elim z
theorem PSs.nox {st:List Stmt} {t:TS} (h:PSs X.nox st t):PSs X st t:=fun pins s σ H D I hw=>
 wpAny_mono (h pins s σ H D (I.wish _) hw) (fun _ _ q=>q.unwish) fun _ _ z=>False.elim z
end
section
variable {X:Cx} {st:Stmt} {rest:List Stmt} {t u:TS} {e:Expr} {te:TE} {pos:Pos}
noncomputable def tNext:TS:=fun D σ H=>D.nx σ H
noncomputable def tSeq (t u:TS):TS:=fun D σ H=>t {D with nx:=u D} σ H
theorem pss_nil:PSs X [] tNext:=fun _ _ σ H _ I h=>wpAny_execs_nil ⟨σ,H,I,h⟩
theorem pss_cons (h1:PS X st t) (h2:PSs X rest u):PSs X (st::rest) (tSeq t u):=by
 intro pins s σ H D I h
 refine wpAny_execs_cons (thn (h1 pins s σ H {D with nx:=u D} I h) fun f s1 q=>?_)
 cases f with
 | next=>
  obtain⟨σ',H',I',q⟩:=q
  exact h2 pins s1 σ' H' D I' q
 | ret v=>exact q
 | brk=>exact q
 | cont=>exact q
theorem Inv.quiet {pins:List (Addr × Obj)} {σ:St} {H:Hp} {s:Shared} (I:Inv X pins σ H s):interactive X.env=false:=by simp[interactive,I.ok.kind]
noncomputable def tDrop (te:TE):TS:=fun D σ H=>te σ H fun _ H1=>D.nx σ H1
theorem ps_expr (he:PE X e te) (hs:swapsWith e none pos.line X.env=pure false:=by rfl):PS X (.Expr e pos) (tDrop te):=by
 intro pins s σ H D I h
 exact wpAny_Expr_any (thn (he pins s σ H _ I h) fun v s1 ⟨x,H1,I1,r1,q1⟩=>⟨σ,H1,I1,q1⟩) I.quiet hs
noncomputable def tRet (te:TE):TS:=fun D σ H=>te σ H D.rt
theorem ps_ret (he:PE X e te):PS X (.Return (some e) pos) (tRet te):=by
 intro pins s σ H D I h
 exact wpAny_Return_some (thn (he pins s σ H _ I h) fun v s1 ⟨x,H1,I1,r1,q1⟩=>⟨x,σ,H1,I1,r1,q1⟩)
noncomputable def tIfS (c:TT) (t u:TS):TS:=fun D σ H=>c σ H fun b H1=>if b=true then t D σ H1 else u D σ H1
theorem ps_if {c:Expr} {a b:List Stmt} {tc:TT} (hc:PT X c tc) (ha:PSs X a t) (hb:PSs X b u):PS X (.If c a b pos) (tIfS tc t u):=by
 intro pins s σ H D I h
 refine wpAny_If (thn (hc pins s σ H _ I h) fun d s1 ⟨H1,I1,q1⟩=>?_)
 cases d with
 | true=>exact ha pins s1 σ H1 D I1 q1
 | false=>exact hb pins s1 σ H1 D I1 q1
end
@[reducible] noncomputable def TG:=V->St->Hp->(St->Hp->Prop)->Prop
@[reducible] noncomputable def TGs:=List V->St->Hp->(St->Hp->Prop)->Prop
noncomputable def PG (X:Cx) (target:Expr) (t:TG):Prop:=
 ∀ (pins:List (Addr × Obj)) (s:Shared) (σ:St) (H:Hp) (v:V) (u:Value) (Q:St->Hp->Prop),Inv X pins σ H s->RelV v u->t v σ H Q->
  wpAny (model X.prog X.w) X.A (assign target X.env u) (fun _ s'=>∃σ' H',Inv X pins σ' H' s'/\Q σ' H') X.xe s
noncomputable def PGs (X:Cx) (ts:List Expr) (t:TGs):Prop:=
 ∀ (pins:List (Addr × Obj)) (s:Shared) (σ:St) (H:Hp) (vs:List V) (us:List Value) (Q:St->Hp->Prop),Inv X pins σ H s->Vals vs us->t vs σ H Q->
  wpAny (model X.prog X.w) X.A (assignInOrder ((assignEach ts X.env).map (·.2)) us) (fun _ s'=>∃σ' H',Inv X pins σ' H' s'/\Q σ' H') X.xe s
@[reducible] noncomputable def TSet:=V->V->V->Hp->(Hp->Prop)->Prop
noncomputable def PSet (X:Cx) (t:TSet):Prop:=
 ∀ (pins:List (Addr × Obj)) (s:Shared) (σ:St) (H:Hp) (o i v:V) (ov iv u:Value) (Q:Hp->Prop),Inv X pins σ H s->RelV o ov->RelV i iv->RelV v u->t o i v H Q->
  wpAny (model X.prog X.w) X.A (setItem ov iv u) (fun _ s'=>∃H',Inv X pins σ H' s'/\Q H') X.xe s
section
variable {X:Cx} {pos:Pos}
noncomputable def gName (i:Nat):TG:=fun v σ H Q=>Q (σ.set i (some v)) H
theorem pg_name {i:Nat} {x:Str} (hN:X.N.Nodup) (hi:X.N[i]?=some x) (hx:Loc X.env.scope x) (hf:X.fn x=true\/X.env.scope.names.lookup x=some .local:=by first | exact .inl rfl | exact .inr rfl | assumption):PG X (.Name x pos) (gName i):=by
 intro pins s σ H v u Q I r h
 exact wpAny_assign_Name (store_ok I hN hi hx r (fun s' I'=>⟨_,H,I',h⟩) hf)
noncomputable def gNil:TGs:=fun vs σ H Q=>vs=[]/\Q σ H
noncomputable def gCons (t:TG) (u:TGs):TGs:=fun vs σ H Q=>∃v r,vs=v::r/\t v σ H fun σ' H'=>u r σ' H' Q
theorem pgs_nil:PGs X [] gNil:=by
 intro pins s σ H vs us Q I r h
 obtain⟨e,h⟩:=h
 subst e
 cases r
 exact assignInOrder_nil ⟨σ,H,I,h⟩
theorem pgs_cons {e:Expr} {es:List Expr} {t:TG} {u:TGs} (h1:PG X e t) (h2:PGs X es u)
  (hs:(assignEach (e::es) X.env).map (·.2)=assign e X.env::(assignEach es X.env).map (·.2):=by rfl):PGs X (e::es) (gCons t u):=by
 intro pins s σ H vs us Q I r h
 obtain⟨v,vr,e1,h⟩:=h
 subst e1
 cases r with
 | cons r rr=>
  rw[hs]
  refine assignInOrder_cons (thn (h1 pins s σ H _ _ _ I r h) fun _ s1 ⟨σ1,H1,I1,q1⟩=>?_)
  exact h2 pins s1 σ1 H1 _ _ Q I1 rr q1
noncomputable def gTup (K:PySem.W.Frag) (n:Nat) (t:TGs):TG:=fun v σ H Q=>∃a xs,v=.ref a/\SqT K H a xs/\xs.length=n/\t xs σ H Q
theorem pg_tup {es:List Expr} {k:Nat} {t:TGs} {n:Nat} (hc:X.calm=true) (h:PGs X es t)
  (hn:(assignEach es X.env).length=n:=by rfl) (hst:(assignEach es X.env).findIdx? (·.1)=none:=by rfl):PG X (.Tuple es k pos) (gTup X.K n t):=by
 intro pins s σ H v u Q I r hw
 obtain⟨a,xs,e1,hq,hl,hw⟩:=hw
 subst e1
 cases r
 obtain⟨its,rv,ht,hz⟩:=I.tuple hq
 refine assign_Tuple_tuple (I.ok.hd hc) ht (by simp[hn,<-hl,rv.length]) hst fun h' hx=>?_
 have I1:Inv X pins σ H {s with heap:=h'}:=I.kept (t':=s.toks) fun b o e=>hx b o (Nat.ne_of_lt (Heap.lt_size e)) e
 exact h pins _ σ H xs _ Q I1 (by simpa using rv) hw
noncomputable def tAsg (te:TE) (g:TG):TS:=fun D σ H=>te σ H fun x H1=>g x σ H1 D.nx
theorem ps_set {i:Nat} {x:Str} {e:Expr} {te:TE} {pos':Pos} (hN:X.N.Nodup) (hi:X.N[i]?=some x) (hx:Loc X.env.scope x) (he:PE X e te) (hs:swapsWith e (some (.Name x pos')) pos.line X.env=pure false:=by rfl) (hf:X.fn x=true\/X.env.scope.names.lookup x=some .local:=by first | exact .inl rfl | exact .inr rfl | assumption):
  PS X (.Assign [.Name x pos'] e pos) (tAsg te (gName i)):=by
 intro pins s σ H D I h
 refine wpAny_Assign_Name (thn (he pins s σ H _ I h) fun v s1 ⟨y,H1,I1,r1,q1⟩=>?_) hs
 exact store_ok I1 hN hi hx r1 (fun s2 I2=>⟨_,H1,I2,q1⟩) hf
end
section
variable {X:Cx} {pos:Pos}
noncomputable def tWhile (c:TT) (tb:TS):TS:=fun D σ H=>∃W:Nat->St->Hp->Prop,(∃ m,W m σ H)/\∀m σ H,W m σ H->
 c σ H fun b H1=>if b=true then ∃N:St->Hp->Prop,(∀ σ' H',N σ' H'->∃m',m' < m/\W m' σ' H')/\tb {D with nx:=N,ct:=N,bk:=D.nx} σ H1 else D.nx σ H1
theorem ps_while {c:Expr} {body:List Stmt} {tc:TT} {tb:TS} (hp:PassesOwn (model X.prog X.w) X.A X.env X.xe) (hc:PT X c tc) (hb:PSs X body tb):PS X (.While c body [] pos) (tWhile tc tb):=by
 intro pins s σ H D I h
 obtain⟨W,⟨m0,w0⟩,turn⟩:=h
 refine wpAny_While (codeAny_whileLoop (fun n s'=>∃σ' H',Inv X pins σ' H' s'/\W n σ' H') ?_ m0 ⟨σ,H,I,w0⟩)
 rintro n s1 ⟨σ1,H1,I1,w1⟩
 refine wpAny_passesOwn hp (thn (hc pins s1 σ1 H1 _ I1 (turn n σ1 H1 w1)) fun b s2 ⟨H2,I2,q2⟩=>?_)
 cases b with
 | true=>
  obtain⟨N,hN,q2⟩:=q2
  rw[if_pos rfl]
  refine wpAny_passesOwn hp (thn (hb pins s2 σ1 H2 _ I2 q2) fun f s3 q3=>?_)
  cases f with
  | next=>
   obtain⟨σ3,H3,I3,n3⟩:=q3
   obtain⟨m',hm,w3⟩:=hN σ3 H3 n3
   exact⟨m',hm,σ3,H3,I3,w3⟩
  | cont=>
   obtain⟨σ3,H3,I3,n3⟩:=q3
   obtain⟨m',hm,w3⟩:=hN σ3 H3 n3
   exact⟨m',hm,σ3,H3,I3,w3⟩
  | brk=>exact q3
  | ret v=>exact q3
 | false=>
  rw[if_neg Bool.false_ne_true]
  exact wpAny_execs_nil ⟨σ1,H2,I2,q2⟩
end
structure It where
 go:Nat->Hp->Prop
 yld:Nat->Hp->V->Hp->Prop
 stop:Nat->Hp->Prop
noncomputable def FpOk (X:Cx) (pins:List (Addr × Obj)) (H:Hp) (b:Addr):Prop:=
 H b=none/\b ≠ X.env.locals/\b ∉ X.fs/\(b ∈ X.ex\/X.s₀.heap.objs.size<=b)/\(∀ x c,X.env.cells.lookup x=some c->c ≠ b)/\∀p ∈ X.pn++pins,p.1 ≠ b
theorem Inv.fpOk {X:Cx} {pins:List (Addr × Obj)} {σ:St} {H H':Hp} {s:Shared} {b:Addr} (I:Inv X pins σ H s) (hb:s.heap.objs.size<=b) (hn:H' b=none):FpOk X pins H' b:=by
 refine⟨hn,Nat.ne_of_gt (Nat.lt_of_lt_of_le I.lt hb),I.nofs hb,.inr (Nat.le_trans I.sz hb),fun x c e z=>?_,fun p hp z=>?_⟩
 ·obtain⟨v,q⟩:=I.cell x c e
  exact absurd (Nat.lt_of_lt_of_le q.lt (by rw[z];exact hb)) (Nat.lt_irrefl _)
 ·exact absurd (Nat.lt_of_lt_of_le (Heap.lt_size (I.pin p hp).1) (by rw[z];exact hb)) (Nat.lt_irrefl _)
structure Turn (P:Program) (w:World) (K:PySem.W.Frag) (tg:Expr) (J:It) (fp:List Addr) (it:Addr) (tn:Nat->Heap->Prop):Prop where
 mem:it ∈ fp
 obj:∀i h,tn i h->∀b ∈ fp,∃o,h.get? b=some o/\∀v,o.data ≠ .cell v
 keep:∀i h h',tn i h->(∀ b ∈ fp,∀o,h.get? b=some o->h'.get? b=some o)->tn i h'
 item:∀ (X:Cx),X.prog=P->X.w=w->X.K=K->X.calm=true->∀ (i:Nat) (pins:List (Addr × Obj)) (s:Shared) (σ:St) (H:Hp) (E:Value->Shared->Prop),Inv X pins σ H s->(∀ b ∈ fp,FpOk X pins H b)->tn i s.heap->J.go i H->
  wpAny (model P w) X.A (pyNext (.ref it)) (fun r s1=>∃u,r=some u/\
   wpAny (model P w) X.A (letOwnedTupleGo tg (.ref it) u) (fun _ s2=>∃x H',Inv X pins σ H' s2/\RelV x u/\J.yld i H x H'/\tn (i + 1) s2.heap/\∀b ∈ fp,H' b=none) E s1) E s
 done:∀ (X:Cx),X.prog=P->X.w=w->X.K=K->X.calm=true->∀ (i:Nat) (pins:List (Addr × Obj)) (s:Shared) (σ:St) (H:Hp) (E:Value->Shared->Prop),Inv X pins σ H s->(∀ b ∈ fp,FpOk X pins H b)->tn i s.heap->J.stop i H->
  wpAny (model P w) X.A (pyNext (.ref it)) (fun r s1=>r=none/\Inv X pins σ H s1) E s
 self:∀ (A:Around) (i:Nat) (s:Shared) (Q:Value->Shared->Prop) (E:Value->Shared->Prop),tn i s.heap->Q (.ref it) s->wpAny (model P w) A (pyIter (.ref it)) Q E s
@[reducible] noncomputable def TI:=St->Hp->(It->Hp->Prop)->Prop
noncomputable def PIE (X:Cx) (pins:List (Addr × Obj)) (σ:St) (tg:Expr) (R:It->Hp->Prop) (itv:Value) (s2:Shared):Prop:=
 ∃ (it:Addr) (fp:List Addr) (tn:Nat->Heap->Prop) (J:It) (H':Hp),itv=.ref it/\Inv X pins σ H' s2/\Turn X.prog X.w X.K tg J fp it tn/\tn 0 s2.heap/\(∀ b ∈ fp,FpOk X pins H' b)/\R J H'
noncomputable def PI (X:Cx) (tg iter:Expr) (wi:TI):Prop:=
 ∀ (pins:List (Addr × Obj)) (s:Shared) (σ:St) (H:Hp) (R:It->Hp->Prop),Inv X pins σ H s->wi σ H R->
  wpAny (model X.prog X.w) X.A (eval iter X.env) (fun v s1=>wpAny (model X.prog X.w) X.A (pyIter v) (PIE X pins σ tg R) X.xe s1) X.xe s
theorem go_of {M:Model} {A:Around} {E:Value->Shared->Prop} {s:Shared} {tg:Expr} {it:Addr} {u:Value} {o:Obj} {n:String} {vs:Array Value} {Q:Unit->Shared->Prop} (ho:s.heap.get? it=some o) (hc:o.cls=.type n) (hd:o.data=.fields vs)
  (hn:["enumerate","zip","dict_itemiterator","dict_reverseitemiterator","odict_iterator","itertools.zip_longest","itertools.pairwise"].contains n=false) (hQ:Q () s):wpAny M A (letOwnedTupleGo tg (.ref it) u) Q E s:=by
 unfold letOwnedTupleGo
 cases tg<;>first
  | exact wpAny_pure hQ
  | (cases u<;>first
    | exact wpAny_pure hQ
    | (refine wpAny_bind (wpAny_load ho ?_)
       rw[hc,hd]
       show wpAny M A (if(["enumerate","zip","dict_itemiterator","dict_reverseitemiterator","odict_iterator","itertools.zip_longest","itertools.pairwise"].contains n && vs[0]? == some (rawInt _))=true then _ else _) Q E s
       rw[if_neg (by intro h;rw[hn,Bool.false_and]at h;cases h)]
       exact wpAny_pure hQ))
noncomputable def Itl (K:PySem.W.Frag) (a:Addr):It:=
 ⟨fun i H=>∃xs x,SqL K H a xs/\xs[i]?=some x,fun i H x H'=>H'=H/\∀xs,SqL K H a xs->xs[i]?=some x,fun i H=>∃xs,SqL K H a xs/\xs.length<=i⟩
noncomputable def Itt (K:PySem.W.Frag) (a:Addr):It:=
 ⟨fun i H=>∃xs x,SqT K H a xs/\xs[i]?=some x,fun i H x H'=>H'=H/\∀xs,SqT K H a xs->xs[i]?=some x,fun i H=>∃xs,SqT K H a xs/\xs.length<=i⟩
noncomputable def Itr (lo:Int) (n:Nat):It:=⟨fun i _=>i < n,fun i H x H'=>H'=H/\x=.int (lo + i),fun i _=>n<=i⟩
theorem turn_list {P:Program} {w:World} {K:PySem.W.Frag} {tg:Expr} (a it:Addr):Turn P w K tg (Itl K a) [it] it (fun i h=>h.IsListIter it a i) where
 mem:=by simp
 obj:=fun i h st b hb=>by
  have e:b=it:=by simpa using hb
  subst e
  obtain⟨o,e,c,d⟩:=st
  exact⟨o,e,fun v z=>by rw[d]at z;cases z⟩
 keep:=fun i h h' st k=>st.at fun o e=>k it (by simp) o e
 item:=by
  intro X hP hw hK hc i pins s σ H E I hf st hg
  subst hP hw hK
  obtain⟨xs,x,hq,hx⟩:=hg
  obtain⟨its,rv,p,hz⟩:=I.list hq
  obtain⟨u,hu,ru⟩:=rv.get hx
  obtain⟨f0,f1,f2,f3,f4,f5⟩:=hf it (by simp)
  refine wpAny_pyNext_list_item st p.isList (x:=u) (by simpa using hu) fun h' st' sb=>?_
  have I1:Inv X pins σ H {s with heap:=h'}:=I.turned (t':=s.toks) (fun b o hb e=>(sb.2 b hb).trans e) f0 f1 f3 f4 f5
  obtain⟨o,e,c,d⟩:=id st'
  exact⟨u,rfl,go_of (s:={s with heap:=h'}) e c d (by decide) ⟨x,H,I1,ru,⟨rfl,fun ys hy=>by rw[I.list_inj hy hq];exact hx⟩,st',fun b hb=>(hf b hb).1⟩⟩
 done:=by
  intro X hP hw hK hc i pins s σ H E I hf st hg
  subst hP hw hK
  obtain⟨xs,hq,hx⟩:=hg
  obtain⟨its,rv,p,hz⟩:=I.list hq
  obtain⟨f0,f1,f2,f3,f4,f5⟩:=hf it (by simp)
  have hl:=rv.length
  exact wpAny_pyNext_list_end (I.ok.hd hc) st p.isList (by simp;omega) fun h' eb=>⟨rfl,I.turned (t':=s.toks) (fun b o hb e=>eb b o hb e) f0 f1 f3 f4 f5⟩
 self:=fun _ _ _ _ _ st h=>wpAny_pyIter_listiter st h
theorem turn_tuple {P:Program} {w:World} {K:PySem.W.Frag} {tg:Expr} (a it:Addr):Turn P w K tg (Itt K a) [it] it (fun i h=>h.IsTupleIter it a i) where
 mem:=by simp
 obj:=fun i h st b hb=>by
  have e:b=it:=by simpa using hb
  subst e
  obtain⟨o,e,c,d⟩:=st
  exact⟨o,e,fun v z=>by rw[d]at z;cases z⟩
 keep:=fun i h h' st k=>st.at fun o e=>k it (by simp) o e
 item:=by
  intro X hP hw hK hc i pins s σ H E I hf st hg
  subst hP hw hK
  obtain⟨xs,x,hq,hx⟩:=hg
  obtain⟨its,rv,p,hz⟩:=I.tuple hq
  obtain⟨u,hu,ru⟩:=rv.get hx
  obtain⟨f0,f1,f2,f3,f4,f5⟩:=hf it (by simp)
  refine wpAny_pyNext_tuple_item st (show s.heap.IsTuple a its.toArray from p) (x:=u) (by simpa using hu) fun h' st' sb=>?_
  have I1:Inv X pins σ H {s with heap:=h'}:=I.turned (t':=s.toks) (fun b o hb e=>(sb.2 b hb).trans e) f0 f1 f3 f4 f5
  obtain⟨o,e,c,d⟩:=id st'
  exact⟨u,rfl,go_of (s:={s with heap:=h'}) e c d (by decide) ⟨x,H,I1,ru,⟨rfl,fun ys hy=>by rw[I.tuple_inj hy hq];exact hx⟩,st',fun b hb=>(hf b hb).1⟩⟩
 done:=by
  intro X hP hw hK hc i pins s σ H E I hf st hg
  subst hP hw hK
  obtain⟨xs,hq,hx⟩:=hg
  obtain⟨its,rv,p,hz⟩:=I.tuple hq
  obtain⟨f0,f1,f2,f3,f4,f5⟩:=hf it (by simp)
  have hl:=rv.length
  exact wpAny_pyNext_tuple_end (I.ok.hd hc) st (show s.heap.IsTuple a its.toArray from p) (by simp;omega) fun h' eb=>⟨rfl,I.turned (t':=s.toks) (fun b o hb e=>eb b o hb e) f0 f1 f3 f4 f5⟩
 self:=fun _ _ _ _ _ st h=>wpAny_pyIter_tupleiter st h
theorem turn_range {P:Program} {w:World} {K:PySem.W.Frag} {tg:Expr} (it:Addr) (lo:Int) (n:Nat):Turn P w K tg (Itr lo n) [it] it (fun i h=>IsRangeIter h it (lo + (i:Nat) * 1) ((n:Int) - (i:Nat)) 1) where
 mem:=by simp
 obj:=fun i h st b hb=>by
  have e:b=it:=by simpa using hb
  subst e
  exact⟨_,st,fun v z=>by
   have z':Data.fields _=Data.cell v:=z
   cases z'⟩
 keep:=fun i h h' st k=>k it (by simp) _ st
 item:=by
  intro X hP hw hK hc i pins s σ H E I hf st hg
  subst hP hw hK
  obtain⟨f0,f1,f2,f3,f4,f5⟩:=hf it (by simp)
  have W:=Walks.range (prog:=X.prog) (w:=X.w) (I.ok.hd hc) it lo 1 n
  refine W.item i s _ _ hg st fun v h' tk hv st' kk=>?_
  obtain⟨t,rfl⟩:=hv
  have I1:Inv X pins σ H {s with heap:=h',toks:=tk}:=I.turned (fun b o hb e=>kk b o (by simpa using hb) e) f0 f1 f3 f4 f5
  refine⟨_,rfl,go_of (s:={s with heap:=h',toks:=tk}) (n:= "range_iterator") st' rfl rfl (by decide) ⟨.int (lo + i),H,I1,⟨t,?_⟩,⟨rfl,rfl⟩,st',fun b hb=>(hf b hb).1⟩⟩
  rw[Int.mul_one]
 done:=by
  intro X hP hw hK hc i pins s σ H E I hf st hg
  subst hP hw hK
  obtain⟨f0,f1,f2,f3,f4,f5⟩:=hf it (by simp)
  exact wpAny_pyNext_range_end (I.ok.hd hc) st (by have:n<=i:=hg;omega) fun h' eb=>⟨rfl,I.turned (t':=s.toks) (fun b o hb e=>eb b o hb e) f0 f1 f3 f4 f5⟩
 self:=fun _ _ _ _ _ st h=>wpAny_pyIter_rangeiter st h
end L2
namespace L2
open PySem PySem.Spec PyProof.Rows
section
variable {X:Cx} {tg:Expr}
theorem range_it {pins:List (Addr × Obj)} {σ:St} {H:Hp} {s:Shared} {R:It->Hp->Prop} {E:Value->Shared->Prop} {lo hi:Int} {t u v:Tok} {tk:Nat} (I:Inv X pins σ H s) (h1: -(2 ^ 62)<=lo) (h2:lo < 2 ^ 62) (h3: -(2 ^ 62)<=hi) (h4:hi < 2 ^ 62)
  (q:R (Itr lo (hi - lo).toNat) H):wpAny (model X.prog X.w) X.A (pyIter (.ref s.heap.objs.size)) (PIE X pins σ tg R) E {s with heap:=s.heap.push {cls:=.type "range",data:=.fields #[.int lo t,.int hi u,.int 1 v]},toks:=tk}:=by
 refine wpAny_pyIter_range (IsRange.new ..) (small_one h1 h2 h3 h4) ?_
 have I1:Inv X pins σ H {s with heap:=s.heap.push {cls:=.type "range",data:=.fields #[.int lo t,.int hi u,.int 1 v]},toks:=tk}:=I.kept fun b o e=>Heap.get?_push_of_some _ e
 refine⟨(s.heap.push {cls:=.type "range",data:=.fields #[.int lo t,.int hi u,.int 1 v]}).objs.size,[(s.heap.push {cls:=.type "range",data:=.fields #[.int lo t,.int hi u,.int 1 v]}).objs.size],_,_,H,rfl,
  I1.kept (t':=tk) fun b o e=>Heap.get?_push_of_some _ e,turn_range _ lo (hi - lo).toNat,?_,fun b hb=>?_,q⟩
 ·have e1:lo + ((0:Nat):Int) * 1=lo:=by simp
  have e2:(((hi - lo).toNat:Nat):Int) - ((0:Nat):Int)=Builtin.Range.rangeSize lo hi 1:=by rw[rangeSize_one];split<;>omega
  show IsRangeIter _ _ (lo + ((0:Nat):Int) * 1) ((((hi - lo).toNat:Nat):Int) - ((0:Nat):Int)) 1
  rw[e1,e2]
  exact Heap.get?_push_size _ rfl
 ·have e:b=(s.heap.push {cls:=.type "range",data:=.fields #[.int lo t,.int hi u,.int 1 v]}).objs.size:=by simpa using hb
  subst e
  exact I1.fpOk (Nat.le_refl _) (I1.hok.fresh (Nat.le_refl _))
noncomputable def tFor (wi:TI) (g:TG) (tb:TS):TS:=fun D σ H=>wi σ H fun J H1=>∃W:Nat->Nat->St->Hp->Prop,(∃ m,W 0 m σ H1)/\∀i m σ H,W i m σ H->
 (J.stop i H/\D.nx σ H)\/(J.go i H/\∃N:St->Hp->Prop,(∀ σ' H',N σ' H'->∃m',m' < m/\W (i + 1) m' σ' H')/\∀x H',J.yld i H x H'->g x σ H' fun σ2 H2=>tb {D with nx:=N,ct:=N,bk:=D.nx} σ2 H2)
noncomputable def pinsAt (fp:List Addr) (h:Heap):List (Addr × Obj):=fp.filterMap fun b=>(h.get? b).map fun o=>(b,o)
theorem mem_pinsAt {fp:List Addr} {h:Heap} {b:Addr} {o:Obj} (hb:b ∈ fp) (e:h.get? b=some o):(b,o) ∈ pinsAt fp h:=List.mem_filterMap.mpr ⟨b,hb,by rw[e];rfl⟩
theorem of_pinsAt {fp:List Addr} {h:Heap} {p:Addr × Obj} (hp:p ∈ pinsAt fp h):p.1 ∈ fp/\h.get? p.1=some p.2:=by
 obtain⟨b,hb,e⟩:=List.mem_filterMap.mp hp
 cases q:h.get? b with
 | none=>rw[q]at e;cases e
 | some o=>
  rw[q]at e
  have e':(b,o)=p:=Option.some.inj e
  subst e'
  exact⟨hb,q⟩
theorem Inv.pinned {pins:List (Addr × Obj)} {σ:St} {H:Hp} {s:Shared} {fp:List Addr} (I:Inv X pins σ H s) (hf:∀b ∈ fp,FpOk X pins H b) (ho:∀b ∈ fp,∃o,s.heap.get? b=some o/\∀v,o.data ≠ .cell v):Inv X (pins++pinsAt fp s.heap) σ H s:=
 I.pins_of fun p hp=>(List.mem_append.mp hp).elim (fun z=>I.pin p (List.mem_append_right _ z)) fun z=>by
  obtain⟨hb,e⟩:=of_pinsAt z
  obtain⟨f0,f1,f2,_⟩:=hf p.1 hb
  obtain⟨o,e',d⟩:=ho p.1 hb
  rw[e]at e';cases e'
  exact⟨e,f0,f1,f2,d⟩
theorem Inv.unpinned {pins pl:List (Addr × Obj)} {σ:St} {H:Hp} {s:Shared} (I:Inv X (pins++pl) σ H s):Inv X pins σ H s:=I.pins_of fun p hp=>I.pin p (List.mem_append_right _ (List.mem_append_left _ hp))
theorem ps_for {iter:Expr} {body:List Stmt} {wi:TI} {g:TG} {tb:TS} {pos:Pos} (hp:PassesOwn (model X.prog X.w) X.A X.env X.xe) (hc:X.calm=true) (hi:PI X tg iter wi) (hg:PG X tg g) (hb:PSs X body tb)
  (hs:∀x,foldedSetIterable iter X.env x=pure x:=by intro _;rfl):PS X (.For tg iter body [] pos) (tFor wi g tb):=by
 intro pins s σ H D I h
 refine wpAny_For (thn (hi pins s σ H _ I h) fun v s1 h1=>thn h1 fun itv s2 h2=>?_) hs
 obtain⟨it,fp,tn,J,H2,e,I2,T,st2,f2,W,⟨m0,w0⟩,turn⟩:=h2
 subst e
 -- what stays true of the iterator's objects through the loop
 have stat:∀ {H':Hp},(∀ b ∈ fp,H' b=none)->∀b ∈ fp,FpOk X pins H' b:=fun hn b hb=>⟨hn b hb,(f2 b hb).2⟩
 refine codeAny_forLoop_any (fun n s'=>∃i σ' H',Inv X pins σ' H' s'/\tn i s'.heap/\(∀ b ∈ fp,H' b=none)/\W i n σ' H') ?_ m0 ⟨0,σ,H2,I2,st2,fun b hb=>(f2 b hb).1,w0⟩
 rintro n s3 ⟨i,σ3,H3,I3,st3,fr3,w3⟩
 rcases turn i n σ3 H3 w3 with ⟨stop,qn⟩ | ⟨go,N,hN,step⟩
 ·refine wpAny_passesOwn hp (thn (T.done X rfl rfl rfl hc i pins s3 σ3 H3 X.xe I3 (stat fr3) st3 stop) fun r s4 ⟨hr,I4⟩=>?_)
  subst hr
  exact wpAny_execs_nil ⟨σ3,H3,I4,qn⟩
 ·refine wpAny_passesOwn hp (thn (T.item X rfl rfl rfl hc i pins s3 σ3 H3 X.xe I3 (stat fr3) st3 go) fun r s4 ⟨u,hr,h4⟩=>?_)
  subst hr
  refine wpAny_passesOwn hp (thn h4 fun _ s5 ⟨x,H5,I5,r5,y5,st5,fr5⟩=>?_)
  have I5':=I5.pinned (stat fr5) (T.obj _ _ st5)
  refine wpAny_passesOwn hp (thn (hg _ s5 σ3 H5 x u _ I5' r5 (step x H5 y5)) fun _ s6 ⟨σ6,H6,I6,q6⟩=>?_)
  refine wpAny_passesOwn hp (thn (hb _ s6 σ6 H6 _ I6 q6) fun f s7 q7=>?_)
  have again:∀ {σ7:St} {H7:Hp},Inv X (pins++pinsAt fp s5.heap) σ7 H7 s7->N σ7 H7->∃m,m < n/\∃i σ' H',Inv X pins σ' H' s7/\tn i s7.heap/\(∀ b ∈ fp,H' b=none)/\W i m σ' H':=fun{σ7 H7} I7 n7=>by
   obtain⟨m',hm,w7⟩:=hN σ7 H7 n7
   refine⟨m',hm,i + 1,σ7,H7,I7.unpinned,T.keep _ _ _ st5 fun b hb o e=>(I7.pin (b,o) (List.mem_append_right _ (List.mem_append_right _ (mem_pinsAt hb e)))).1,fun b hb=>?_,w7⟩
   obtain⟨o,e,d⟩:=T.obj _ _ st5 b hb
   exact(I7.pin (b,o) (List.mem_append_right _ (List.mem_append_right _ (mem_pinsAt hb e)))).2.1
  cases f with
  | next=>obtain⟨σ7,H7,I7,n7⟩:=q7;exact again I7 n7
  | cont=>obtain⟨σ7,H7,I7,n7⟩:=q7;exact again I7 n7
  | brk=>obtain⟨σ7,H7,I7,q7⟩:=q7;exact⟨σ7,H7,I7.unpinned,q7⟩
  | ret v=>obtain⟨x7,σ7,H7,I7,r7,q7⟩:=q7;exact⟨x7,σ7,H7,I7.unpinned,r7,q7⟩
end
end L2
namespace L2
open PySem PySem.Spec PyProof.Rows
@[reducible] noncomputable def R2:=V->V->Hp->VK->Prop
noncomputable def OpR (X:Cx) (f:Value->Value->Sem Value) (r:R2):Prop:=
 ∀ (pins:List (Addr × Obj)) (s:Shared) (σ:St) (H:Hp) (x y:V) (v u:Value) (Q:VK),Inv X pins σ H s->RelV x v->RelV y u->r x y H Q->
  wpAny (model X.prog X.w) X.A (f v u) (EP X pins σ Q) X.xe s
noncomputable def UnR (X:Cx) (f:Value->Sem Value) (r:V->Hp->VK->Prop):Prop:=
 ∀ (pins:List (Addr × Obj)) (s:Shared) (σ:St) (H:Hp) (x:V) (v:Value) (Q:VK),Inv X pins σ H s->RelV x v->r x H Q->
  wpAny (model X.prog X.w) X.A (f v) (EP X pins σ Q) X.xe s
noncomputable def CallR (X:Cx) (f:Value) (r:List V->Hp->VK->Prop):Prop:=
 ∀ (pins:List (Addr × Obj)) (s:Shared) (σ:St) (H:Hp) (xs:List V) (us:List Value) (Q:VK),Inv X pins σ H s->Vals xs us->r xs H Q->
  wpAny (model X.prog X.w) X.A (call f us) (EP X pins σ Q) X.xe s
noncomputable def TruR (X:Cx) (r:V->Hp->(Bool->Hp->Prop)->Prop):Prop:=
 ∀ (pins:List (Addr × Obj)) (s:Shared) (σ:St) (H:Hp) (x:V) (v:Value) (Q:Bool->Hp->Prop),Inv X pins σ H s->RelV x v->r x H Q->
  wpAny (model X.prog X.w) X.A (truthy v) (TP X pins σ Q) X.xe s
noncomputable def tOp (r:R2) (ta tb:TE):TE:=fun σ H Q=>ta σ H fun x H1=>tb σ H1 fun y H2=>r x y H2 Q
noncomputable def tUn (r:V->Hp->VK->Prop) (ta:TE):TE:=fun σ H Q=>ta σ H fun x H1=>r x H1 Q
noncomputable def rI (C:Int->Int->Prop) (g:Int->Int->V):R2:=fun x y H Q=>∃i j,x=.int i/\y=.int j/\C i j/\Q (g i j) H
noncomputable def rI0 (g:Int->Int->V):R2:=fun x y H Q=>∃i j,x=.int i/\y=.int j/\Q (g i j) H
noncomputable def rU (g:Int->V):V->Hp->VK->Prop:=fun x H Q=>∃i,x=.int i/\Q (g i) H
section
variable {X:Cx} {a b c:Expr} {ta tb tc:TE} {pos:Pos}
theorem binT (ha:PE X a ta) (hb:PE X b tb) {pins:List (Addr × Obj)} {s:Shared} {σ:St} {H:Hp} {R:V->V->Hp->Prop} (I:Inv X pins σ H s)
  (h:ta σ H fun x H1=>tb σ H1 fun y H2=>R x y H2) {Q:Value->Shared->Prop} {f:Value->Value->Sem Value}
  (hf:∀v u s2 x y H2,Inv X pins σ H2 s2->RelV x v->RelV y u->R x y H2->wpAny (model X.prog X.w) X.A (f v u) Q X.xe s2):
  wpAny (model X.prog X.w) X.A (eval a X.env) (fun v s₁=>wpAny (model X.prog X.w) X.A (eval b X.env) (fun u s₂=>wpAny (model X.prog X.w) X.A (f v u) Q X.xe s₂) X.xe s₁) X.xe s:=by
 refine thn (ha pins s σ H _ I h) fun v s1 ⟨x,H1,I1,r1,q1⟩=>?_
 refine thn (hb pins s1 σ H1 _ I1 q1) fun u s2 ⟨y,H2,I2,r2,q2⟩=>?_
 exact hf v u s2 x y H2 I2 r1 r2 q2
theorem pe_op {op:Operator} {r:R2} (ho:OpR X (binaryOp op) r) (ha:PE X a ta) (hb:PE X b tb):PE X (.BinOp a op b pos) (tOp r ta tb):=by
 intro pins s σ H Q I h
 exact wpAny_BinOp (binT ha hb I h fun v u s2 x y H2 I2 rx ry q=>ho pins s2 σ H2 x y v u Q I2 rx ry q)
theorem pe_un {op:UnaryOp} {r:V->Hp->VK->Prop} (ho:UnR X (unaryOp op) r) (ha:PE X a ta):PE X (.UnaryOp op a pos) (tUn r ta):=by
 intro pins s σ H Q I h
 exact UnaryOp_ (thn (ha pins s σ H _ I h) fun v s1 ⟨x,H1,I1,r1,q1⟩=>ho pins s1 σ H1 x v Q I1 r1 q1)
theorem opI {f:Value->Value->Sem Value} {C:Int->Int->Prop} {g:Int->Int->Int}
  (rule:∀ (i j:Int) (t u:Tok) (s:Shared) (Q:Value->Shared->Prop) (E:Value->Shared->Prop),C i j->Q (.int (g i j) s.toks) {s with toks:=s.toks + 1}->wpAny (model X.prog X.w) X.A (f (.int i t) (.int j u)) Q E s):
  OpR X f (rI C fun i j=>.int (g i j)):=by
 intro pins s σ H x y v u Q I rx ry h
 obtain⟨i,j,rfl,rfl,hc,q⟩:=h
 obtain⟨t,rfl⟩:=rx
 obtain⟨t',rfl⟩:=ry
 exact rule i j t t' s _ _ hc ⟨.int (g i j),H,I.tok _,⟨_,rfl⟩,q⟩
theorem opI0 {f:Value->Value->Sem Value} {g:Int->Int->Int}
  (rule:∀ (i j:Int) (t u:Tok) (s:Shared) (Q:Value->Shared->Prop) (E:Value->Shared->Prop),Q (.int (g i j) s.toks) {s with toks:=s.toks + 1}->wpAny (model X.prog X.w) X.A (f (.int i t) (.int j u)) Q E s):
  OpR X f (rI0 fun i j=>.int (g i j)):=by
 intro pins s σ H x y v u Q I rx ry h
 obtain⟨i,j,rfl,rfl,q⟩:=h
 obtain⟨t,rfl⟩:=rx
 obtain⟨t',rfl⟩:=ry
 exact rule i j t t' s _ _ ⟨.int (g i j),H,I.tok _,⟨_,rfl⟩,q⟩
theorem opB0 {f:Value->Value->Sem Value} {g:Int->Int->Bool}
  (rule:∀ (i j:Int) (t u:Tok) (s:Shared) (Q:Value->Shared->Prop) (E:Value->Shared->Prop),Q (.bool (g i j)) s->wpAny (model X.prog X.w) X.A (f (.int i t) (.int j u)) Q E s):
  OpR X f (rI0 fun i j=>.bl (g i j)):=by
 intro pins s σ H x y v u Q I rx ry h
 obtain⟨i,j,rfl,rfl,q⟩:=h
 obtain⟨t,rfl⟩:=rx
 obtain⟨t',rfl⟩:=ry
 exact rule i j t t' s _ _ ⟨.bl (g i j),H,I,rfl,q⟩
noncomputable def CDiv (i j:Int):Prop:=0 < j/\j < 1073741824
noncomputable def CPow (i j:Int):Prop:=0<=j/\j<=1000000/\i.natAbs < 2 ^ 64
noncomputable def CMul (i j:Int):Prop:=(-(2 ^ 64) < i/\i < 2 ^ 64)\/(-(2 ^ 64) < j/\j < 2 ^ 64)
theorem CMul.ok {i j:Int} (h:CMul i j):IntMulOk i j:=by
 rcases h with ⟨h1,h2⟩ | ⟨h1,h2⟩
 ·exact .of_left (intBits_le_64 h1 h2)
 ·exact .of_right (intBits_le_64 h1 h2)
theorem two_pow_nn (k:Nat):(0:Int)<=2 ^ k:=by
 rw[two_pow_cast]
 exact Int.natCast_nonneg _
theorem op_add:OpR X (binaryOp .Add) (rI0 fun i j=>.int (i + j)):=opI0 fun _ _ _ _ _ _ _ q=>add_int q
theorem op_sub:OpR X (binaryOp .Sub) (rI0 fun i j=>.int (i - j)):=opI0 fun _ _ _ _ _ _ _ q=>sub_int q
theorem op_mul:OpR X (binaryOp .Mult) (rI CMul fun i j=>.int (i * j)):=opI fun _ _ _ _ _ _ _ hc q=>mul_int q hc.ok
theorem op_fdiv:OpR X (binaryOp .FloorDiv) (rI CDiv fun i j=>.int (i / j)):=opI fun i j _ _ _ _ _ hc q=>by
 have h1:(0:Int) < j:=hc.1
 have h2:j < 1073741824:=hc.2
 exact floordiv_int (by omega) (by rw[Int.fdiv_eq_ediv_of_nonneg i (by omega)];exact q) (.inl (PyProof.noPylong_small (by omega)))
theorem op_mod:OpR X (binaryOp .Mod) (rI (fun _ j=>0 < j) fun i j=>.int (i % j)):=opI fun i j _ _ _ _ _ hc q=>by
 have h1:(0:Int) < j:=hc
 exact mod_int' (by omega) (by rw[Int.fmod_eq_emod_of_nonneg i (by omega)];exact q)
theorem op_pow:OpR X (binaryOp .Pow) (rI CPow fun i j=>.int (i ^ j.toNat)):=opI fun _ _ _ _ _ _ _ hc q=>pow_int_small hc.1 hc.2.1 hc.2.2 q
theorem op_shr:OpR X (binaryOp .RShift) (rI (fun _ j=>0<=j) fun i j=>.int (i / 2 ^ j.toNat)):=opI fun i j _ _ _ _ _ hc q=>
 rshift_int hc (by rw[Int.fdiv_eq_ediv_of_nonneg i (two_pow_nn _)];exact q)
theorem op_and:OpR X (binaryOp .BitAnd) (rI0 fun i j=>.int (Builtin.bitAnd i j)):=opI0 fun _ _ _ _ _ _ _ q=>and_int q
theorem unI {f:Value->Sem Value} {g:Int->Int}
  (rule:∀ (i:Int) (t:Tok) (s:Shared) (Q:Value->Shared->Prop) (E:Value->Shared->Prop),Q (.int (g i) s.toks) {s with toks:=s.toks + 1}->wpAny (model X.prog X.w) X.A (f (.int i t)) Q E s):
  UnR X f (rU fun i=>.int (g i)):=by
 intro pins s σ H x v Q I rx h
 obtain⟨i,rfl,q⟩:=h
 obtain⟨t,rfl⟩:=rx
 exact rule i t s _ _ ⟨.int (g i),H,I.tok _,⟨_,rfl⟩,q⟩
theorem un_neg:UnR X (unaryOp .USub) (rU fun i=>.int (-i)):=unI fun _ _ _ _ _ q=>neg_int q
end
noncomputable def scal:V->V->Bool
 | .non,.non=>true | .non,.int _=>true | .int _,.non=>true | .non,.bl _=>true | .bl _,.non=>true | .non,.str _=>true | .str _,.non=>true
 | .int _,.int _=>true | .bl _,.bl _=>true | .str _,.str _=>true | .byt _,.byt _=>true
 | .int _,.str _=>true | .str _,.int _=>true | .bl _,.str _=>true | .str _,.bl _=>true
 | _,_=>false
noncomputable def rEq:R2:=fun x y H Q=>scal x y=true/\Q (.bl (decide (x=y))) H
noncomputable def rNe:R2:=fun x y H Q=>scal x y=true/\Q (.bl (!decide (x=y))) H
theorem dec_int {i j:Int}:decide (V.int i=V.int j)=(i == j):=by
 rw[Bool.eq_iff_iff]
 simp
theorem dec_bl {i j:Bool}:decide (V.bl i=V.bl j)=(i == j):=by
 rw[Bool.eq_iff_iff]
 simp
theorem dec_str {i j:Str}:decide (V.str i=V.str j)=(i == j):=by
 rw[Bool.eq_iff_iff]
 simp
theorem dec_byt {i j:Array UInt8}:decide (V.byt i=V.byt j)=(i.toList == j.toList):=by
 rw[Bool.eq_iff_iff]
 cases i
 cases j
 simp
section
variable {X:Cx} {a b c:Expr} {ta tb tc:TE} {pos:Pos}
theorem fin_bl {pins:List (Addr × Obj)} {σ:St} {H:Hp} {s:Shared} {Q:VK} {k k':Bool} (I:Inv X pins σ H s) (q:Q (.bl k) H) (e:k=k'):EP X pins σ Q (.bool k') s:=by
 subst e
 exact⟨.bl k,H,I,rfl,q⟩
theorem op_eq:OpR X (compareOp .Eq) rEq:=by
 intro pins s σ H x y v u Q I rx ry h
 obtain⟨hs,q⟩:=h
 cases x with
 | non=>
  cases rx
  cases y with
  | non=>cases ry;exact PySem.EqNone.eq_none_none (fin_bl I q (by simp))
  | bl j=>cases ry;exact PySem.EqNone.eq_none_bool (fin_bl I q (by simp))
  | int j=>obtain⟨t',rfl⟩:=ry;exact PySem.EqNone.eq_none_int (fin_bl I q (by simp))
  | str j=>obtain⟨t',rfl⟩:=ry;exact PySem.EqNone.eq_none_str (fin_bl I q (by simp))
  | _=>exact absurd (show false=true from hs) Bool.false_ne_true
 | bl i=>
  cases rx
  cases y with
  | non=>cases ry;exact PySem.EqNone.eq_bool_none (fin_bl I q (by simp))
  | bl j=>cases ry;exact eq_bool (fin_bl I q dec_bl)
  | str j=>obtain⟨t',rfl⟩:=ry;exact PySem.EqMixed.eq_bool_str (fin_bl I q (by simp))
  | _=>exact absurd (show false=true from hs) Bool.false_ne_true
 | int i=>
  obtain⟨t,rfl⟩:=rx
  cases y with
  | non=>cases ry;exact PySem.EqNone.eq_int_none (fin_bl I q (by simp))
  | int j=>obtain⟨t',rfl⟩:=ry;exact eq_int (fin_bl I q dec_int)
  | str j=>obtain⟨t',rfl⟩:=ry;exact PySem.EqMixed.eq_int_str (fin_bl I q (by simp))
  | _=>exact absurd (show false=true from hs) Bool.false_ne_true
 | str i=>
  obtain⟨t,rfl⟩:=rx
  cases y with
  | non=>cases ry;exact PySem.EqNone.eq_str_none (fin_bl I q (by simp))
  | bl j=>cases ry;exact PySem.EqMixed.eq_str_bool (fin_bl I q (by simp))
  | int j=>obtain⟨t',rfl⟩:=ry;exact PySem.EqMixed.eq_str_int (fin_bl I q (by simp))
  | str j=>obtain⟨t',rfl⟩:=ry;exact eq_str (fin_bl I q dec_str)
  | _=>exact absurd (show false=true from hs) Bool.false_ne_true
 | byt i=>
  obtain⟨t,rfl⟩:=rx
  cases y with
  | byt j=>obtain⟨t',rfl⟩:=ry;exact PySem.W.eq_bytes (fin_bl I q dec_byt)
  | _=>exact absurd (show false=true from hs) Bool.false_ne_true
 | _=>cases y<;>exact absurd (show false=true from hs) Bool.false_ne_true
theorem op_ne:OpR X (compareOp .NotEq) rNe:=by
 intro pins s σ H x y v u Q I rx ry h
 obtain⟨hs,q⟩:=h
 cases x with
 | non=>
  cases rx
  cases y with
  | non=>cases ry;exact PySem.EqNone.ne_none_none (fin_bl I q (by simp))
  | bl j=>cases ry;exact PySem.EqNone.ne_none_bool (fin_bl I q (by simp))
  | int j=>obtain⟨t',rfl⟩:=ry;exact PySem.EqNone.ne_none_int (fin_bl I q (by simp))
  | str j=>obtain⟨t',rfl⟩:=ry;exact PySem.EqNone.ne_none_str (fin_bl I q (by simp))
  | _=>exact absurd (show false=true from hs) Bool.false_ne_true
 | bl i=>
  cases rx
  cases y with
  | non=>cases ry;exact PySem.EqNone.ne_bool_none (fin_bl I q (by simp))
  | bl j=>cases ry;exact ne_bool (fin_bl I q (congrArg not dec_bl))
  | str j=>obtain⟨t',rfl⟩:=ry;exact PySem.EqMixed.ne_bool_str (fin_bl I q (by simp))
  | _=>exact absurd (show false=true from hs) Bool.false_ne_true
 | int i=>
  obtain⟨t,rfl⟩:=rx
  cases y with
  | non=>cases ry;exact PySem.EqNone.ne_int_none (fin_bl I q (by simp))
  | int j=>obtain⟨t',rfl⟩:=ry;exact ne_int (fin_bl I q (congrArg not dec_int))
  | str j=>obtain⟨t',rfl⟩:=ry;exact PySem.EqMixed.ne_int_str (fin_bl I q (by simp))
  | _=>exact absurd (show false=true from hs) Bool.false_ne_true
 | str i=>
  obtain⟨t,rfl⟩:=rx
  cases y with
  | non=>cases ry;exact PySem.EqNone.ne_str_none (fin_bl I q (by simp))
  | bl j=>cases ry;exact PySem.EqMixed.ne_str_bool (fin_bl I q (by simp))
  | int j=>obtain⟨t',rfl⟩:=ry;exact PySem.EqMixed.ne_str_int (fin_bl I q (by simp))
  | str j=>obtain⟨t',rfl⟩:=ry;exact ne_str (fin_bl I q (congrArg not dec_str))
  | _=>exact absurd (show false=true from hs) Bool.false_ne_true
 | byt i=>
  obtain⟨t,rfl⟩:=rx
  cases y with
  | byt j=>obtain⟨t',rfl⟩:=ry;exact PySem.W.ne_bytes (fin_bl I q (congrArg not dec_byt))
  | _=>exact absurd (show false=true from hs) Bool.false_ne_true
 | _=>cases y<;>exact absurd (show false=true from hs) Bool.false_ne_true
theorem op_lt:OpR X (compareOp .Lt) (rI0 fun i j=>.bl (decide (i < j))):=opB0 fun _ _ _ _ _ _ _ q=>lt_int q
theorem op_gt:OpR X (compareOp .Gt) (rI0 fun i j=>.bl (decide (j < i))):=opB0 fun _ _ _ _ _ _ _ q=>gt_int q
theorem op_lt_str:OpR X (compareOp .Lt) (fun x y H Q=>∃i j,x=.str i/\y=.str j/\Q (.bl (decide (i.cps.toList < j.cps.toList))) H):=by
 intro pins s σ H x y v u Q I rx ry h
 obtain⟨i,j,rfl,rfl,q⟩:=h
 obtain⟨t,rfl⟩:=rx
 obtain⟨t',rfl⟩:=ry
 exact lt_str (fin_bl I q rfl)
theorem op_in_str:OpR X (compareOp .In) (fun x y H Q=>∃i j,x=.str i/\y=.str j/\Q (.bl (!(Builtin.Str.occurrences j i 0 j.length 1).isEmpty)) H):=by
 intro pins s σ H x y v u Q I rx ry h
 obtain⟨i,j,rfl,rfl,q⟩:=h
 obtain⟨t,rfl⟩:=rx
 obtain⟨t',rfl⟩:=ry
 exact in_str (fin_bl I q rfl)
theorem op_notin_str:OpR X (compareOp .NotIn) (fun x y H Q=>∃i j,x=.str i/\y=.str j/\Q (.bl (!(!(Builtin.Str.occurrences j i 0 j.length 1).isEmpty))) H):=by
 intro pins s σ H x y v u Q I rx ry h
 obtain⟨i,j,rfl,rfl,q⟩:=h
 obtain⟨t,rfl⟩:=rx
 obtain⟨t',rfl⟩:=ry
 exact notIn_str (fin_bl I q rfl)
theorem OpR.or {f:Value->Value->Sem Value} {r r':R2} (h:OpR X f r) (h':OpR X f r'):OpR X f (fun x y H Q=>r x y H Q\/r' x y H Q):=by
 intro pins s σ H x y v u Q I rx ry q
 rcases q with q | q
 ·exact h pins s σ H x y v u Q I rx ry q
 ·exact h' pins s σ H x y v u Q I rx ry q
theorem pe_cmpR {op:CmpOp} {r:R2} (ho:OpR X (compareOp op) r) (ha:PE X a ta) (hb:PE X b tb) (hm:behindInMarks op b=false):PE X (.Compare a [op] [b] pos) (tOp r ta tb):=by
 intro pins s σ H Q I h
 exact wpAny_Compare1 (binT ha hb I h fun v u s2 x y H2 I2 rx ry q=>ho pins s2 σ H2 x y v u Q I2 rx ry q) hm
noncomputable def tTest (t:TE):TT:=fun σ H Q=>t σ H fun x H'=>∃k,x=.bl k/\Q k H'
theorem pt_cmpR {op:CmpOp} {r:R2} (ho:OpR X (compareOp op) r) (ha:PE X a ta) (hb:PE X b tb) (hm:behindInMarks op b=false):PT X (.Compare a [op] [b] pos) (tTest (tOp r ta tb)):=by
 intro pins s σ H Q I h
 refine wpAny_isTrue_Compare1 (thn (ha pins s σ H _ I h) fun v s1 ⟨x,H1,I1,r1,q1⟩=>thn (hb pins s1 σ H1 _ I1 q1) fun u s2 ⟨y,H2,I2,r2,q2⟩=>
  thn (ho pins s2 σ H2 x y v u _ I2 r1 r2 q2) fun c s3 ⟨z,H3,I3,r3,k,e,q3⟩=>?_) hm
 subst e
 cases r3
 exact wpAny_truthy_bool ⟨H3,I3,q3⟩
noncomputable def TruV (K:PySem.W.Frag) (x:V) (H:Hp) (k:Bool):Prop:=
 match x with
 | .non=>k=false
 | .bl b=>k=b
 | .int i=>k=(i != 0)
 | .str y=>y.length<=sizeLine/\k=((y.length:Int) != 0)
 | .byt y=>y.size<=sizeLine/\k=((y.size:Int) != 0)
 | .ref p=>(∃ xs,SqL K H p xs/\k=!xs.isEmpty)\/(∃ xs,SqT K H p xs/\k=!xs.isEmpty)\/∃kvs,H p=some (.dK kvs)/\k=!kvs.isEmpty
 | _=>False
theorem isEmpty_kv {κ:Type} {kvs:List (κ × V)} {vs:List (κ × Value)} (r:KV kvs vs):(!vs.isEmpty)=!kvs.isEmpty:=by
 cases r<;>rfl
theorem isEmpty_of {xs:List V} {its:List Value} (r:Vals xs its):(!its.toArray.isEmpty)=!xs.isEmpty:=by
 cases r<;>simp
theorem line63:(sizeLine:Nat) < 2 ^ 63:=by rw[sizeLine_eq];decide
theorem tru_ok:TruR X (fun x H Q=>∃k,TruV X.K x H k/\Q k H):=by
 intro pins s σ H x v Q I rx h
 obtain⟨k,e,q⟩:=h
 have hl:=line63
 have hs:sizeLine=16777216:=sizeLine_eq
 cases x with
 | non=>
  cases rx
  have e':k=false:=e
  subst e'
  exact truthy_none ⟨H,I,q⟩
 | bl b=>
  cases rx
  have e':k=b:=e
  subst e'
  exact wpAny_truthy_bool ⟨H,I,q⟩
 | int i=>
  obtain⟨t,rfl⟩:=rx
  have e':k=(i != 0):=e
  subst e'
  exact PySem.P.truthy_int ⟨H,I,q⟩
 | str y=>
  obtain⟨t,rfl⟩:=rx
  obtain⟨hy,e'⟩:y.length<=sizeLine/\k=((y.length:Int) != 0):=e
  subst e'
  exact PySem.P.truthy_str (by omega) ⟨H,I.tok _,q⟩
 | byt y=>
  obtain⟨t,rfl⟩:=rx
  obtain⟨hy,e'⟩:y.size<=sizeLine/\k=((y.size:Int) != 0):=e
  subst e'
  exact PySem.W.truthy_bytes (by omega) ⟨H,I.tok _,q⟩
 | ref p=>
  cases rx
  have e':(∃ xs,SqL X.K H p xs/\k=!xs.isEmpty)\/(∃ xs,SqT X.K H p xs/\k=!xs.isEmpty)\/∃kvs,H p=some (.dK kvs)/\k=!kvs.isEmpty:=e
  rcases e' with ⟨xs,hx,e'⟩ | ⟨xs,hx,e'⟩ | ⟨kvs,hx,e'⟩
  ·subst e'
   obtain⟨its,r,pl,hz⟩:=I.list hx
   have hlen:=r.length
   exact wpAny_truthy_list pl.isList (by simp only[List.size_toArray];omega) ⟨H,I.tok _,by rw[isEmpty_of r];exact q⟩
  ·subst e'
   obtain⟨its,r,pl,hz⟩:=I.tuple hx
   have hlen:=r.length
   exact truthy_tuple pl (by simp only[List.size_toArray];omega) ⟨H,I.tok _,by rw[isEmpty_of r];exact q⟩
  ·subst e'
   obtain⟨hz,hS,vs,r,m⟩:kvs.length<=sizeLine/\(p == sysModules)=false/\∃vs,KV kvs vs/\s.heap.DictOf (mixKind X.prog X.w) p vs:=I.hok p _ hx
   have hlen:kvs.length=vs.length:=Paired.length r
   exact wpAny_truthy_dict hS m (by omega) ⟨H,I.tok _,by rw[isEmpty_kv r];exact q⟩
 | _=>exact(show False from e).elim
theorem op_add_str:OpR X (binaryOp .Add) (fun x y H Q=>∃i j,x=.str i/\y=.str j/\i.length + j.length<=sizeLine/\Q (.str (i++j)) H):=by
 intro pins s σ H x y v u Q I rx ry h
 obtain⟨i,j,rfl,rfl,hz,q⟩:=h
 obtain⟨t,rfl⟩:=rx
 obtain⟨t',rfl⟩:=ry
 exact add_str (fun t' tk=>⟨.str (i++j),H,I.tok _,⟨_,rfl⟩,q⟩) hz
theorem vals1 {x:V} {us:List Value} (r:Vals [x] us):∃u,us=[u]/\RelV x u:=by
 cases r with
 | cons r1 r2=>cases r2;exact⟨_,rfl,r1⟩
theorem vals2 {x y:V} {us:List Value} (r:Vals [x,y] us):∃u w',us=[u,w']/\RelV x u/\RelV y w':=by
 cases r with
 | cons r1 r2=>
  cases r2 with
  | cons r3 r4=>cases r4;exact⟨_,_,rfl,r1,r3⟩
theorem call_max2 (hc:X.calm=true):CallR X (.builtin "max") (fun xs H Q=>∃i j,xs=[.int i,.int j]/\Q (.int (if j > i then j else i)) H):=by
 intro pins s σ H xs us Q I r h
 obtain⟨i,j,rfl,q⟩:=h
 obtain⟨u,w',rfl,⟨t,rfl⟩,⟨t',rfl⟩⟩:=vals2 r
 refine max_two_ints (I.ok.hd hc) fun h' tk k=>⟨_,H,I.kept k,?_,q⟩
 by_cases hj:j > i
 ·rw[if_pos hj,if_pos hj];exact⟨_,rfl⟩
 ·rw[if_neg hj,if_neg hj];exact⟨_,rfl⟩
theorem call_min2 (hc:X.calm=true):CallR X (.builtin "min") (fun xs H Q=>∃i j,xs=[.int i,.int j]/\Q (.int (if j < i then j else i)) H):=by
 intro pins s σ H xs us Q I r h
 obtain⟨i,j,rfl,q⟩:=h
 obtain⟨u,w',rfl,⟨t,rfl⟩,⟨t',rfl⟩⟩:=vals2 r
 refine min_two_ints (I.ok.hd hc) fun h' tk k=>⟨_,H,I.kept k,?_,q⟩
 by_cases hj:j < i
 ·rw[if_pos hj,if_pos hj];exact⟨_,rfl⟩
 ·rw[if_neg hj,if_neg hj];exact⟨_,rfl⟩
end
end L2
namespace L2
open PySem PySem.Spec PyProof.Rows
structure ObjM (h:Heap) (x dx C:Addr) (mA:Str->Option Value):Prop where
 obj:h.get? x=some (PySem.W.instObj C dx)
 ns:h.Ns1 dx mA
 ne:dx ≠ x
theorem lookIn_ns {h:Heap} {dx:Addr} {mA:Str->Option Value} (n:h.Ns1 dx mA):∃od,h.get? dx=some od/\∀name,PySem.W.lookIn name od=some (mA name):=by
 obtain⟨o,es,ep,ho,hd,hk,_,hm⟩:=n
 refine⟨o,ho,fun name=>?_⟩
 have e:=hm name
 unfold nsFind findBy at e
 rw[<-Array.find?_toList]at e
 unfold PySem.W.lookIn
 rw[hd]
 dsimp only
 split
 ·rename_i y q
  rw[q]at e
  exact congrArg some e
 ·rename_i q
  rw[q]at e
  have a:es.toList.any (·.refKey)=false:=by
   rw[List.any_eq_false]
   intro y hy
   obtain⟨z,t,hkey⟩:=hk y (Array.mem_toList_iff.mp hy)
   simp[DictEntry.refKey,hkey]
  have a':¬es.toList.any (·.refKey)=true:=by rw[a];exact Bool.false_ne_true
  rw[if_neg a']
  exact congrArg some e
theorem ObjM.look {h:Heap} {x dx C:Addr} {mA:Str->Option Value} (I:ObjM h x dx C mA):∃od,PySem.W.InstAt h x (PySem.W.instObj C dx) C (some od)/\∀name,PySem.W.lookIn name od=some (mA name):=
 let ⟨od,ho,hl⟩:=lookIn_ns I.ns
 ⟨od,⟨I.obj,rfl,rfl,ho⟩,hl⟩
section
variable {prog:Program} {w:World} {A:Around} {E:Value->Shared->Prop} {s:Shared} {K:PySem.W.Frag} {x dx C f:Addr} {mA:Str->Option Value} {name:Str} {v:Value}
theorem get_map {expr:Bool} {Q:Value->Shared->Prop} (X:K.In s.heap) (I:ObjM s.heap x dx C mA) (hg:PySem.W.plainGet K C name=true) (hh:PySem.W.hasDictIn K C=true)
  (ha:PySem.W.findIn K (.ref C) name=some none) (hv:mA name=some v) (hv':PySem.W.handedIn v=true) (h:Q v {s with toks:=s.toks + 1}):
  wpAny (model prog w) A (getAttr (.ref x) name expr) Q E s:=by
 obtain⟨od,J,hl⟩:=I.look
 exact PySem.W.get_value X J (PySem.W.plainGet_of hg).1 (PySem.W.findObj_own hh ha rfl (by rw[hl,hv])) hv' h
theorem get_meth {pl:Sem Bool} {Q:Value × List Value->Shared->Prop} (X:K.In s.heap) (I:ObjM s.heap x dx C mA) (hg:PySem.W.plainGet K C name=true)
  (hf:PySem.W.findIn K (.ref C) name=some (some (.ref f))) (ht:PySem.W.isFn K (.ref f)=true) (hv:mA name=none) (h:Q (.ref f,[.ref x]) s):
  wpAny (model prog w) A (getMethod (.ref x) name pl) Q E s:=by
 obtain⟨od,J,hl⟩:=I.look
 exact PySem.W.method_fn X J (PySem.W.plainGet_of hg).1 (PySem.W.plainGet_of hg).2 hf (beq_iff_eq.mp ht) (by show(PySem.W.lookIn name od).map (·.isSome)=some false;rw[hl,hv];rfl) h
theorem set_map {ns:List Str} {Q:Unit->Shared->Prop} (X:K.In s.heap) (I:ObjM s.heap x dx C mA)
  (hs:PySem.W.findIn K (.ref C) "__setattr__" =some (some (.builtin "object.__setattr__"))) (hp:PySem.W.plainOver K C=true) (ht:PySem.W.takerIn K C name=some none) (hh:PySem.W.hasDictIn K C=true)
  (hw:PySem.Within mA ns) (hsz:ns.length<=sizeLine)
  (h:∀h',ObjM h' x dx C (fun y=>if y=name then some v else mA y)->Heap.SameBut dx s.heap h'->Q () {s with heap:=h',toks:=s.toks + 2}):
  wpAny (model prog w) A (setAttr (.ref x) name v) Q E s:=by
 obtain⟨od,J,hl⟩:=I.look
 refine PySem.W.set_plain X J hs (PySem.W.osa_open (s:={s with toks:=s.toks + 1}) (r:=none) X J hp ht fun b=>?_)
 obtain⟨cd,hc,hd'⟩:=PySem.W.any_some hh
 have hx:s.heap.get? x=some ⟨.ref C,some dx,.plain,#[]⟩:=I.obj
 refine wpAny_bind (wpAny_pure (wpAny_bind (wpAny_bind (wpAny_loadPart hx (wpAny_bind (PySem.W.Looks.here (s:={s with toks:=s.toks + 1}) (PySem.W.looks_clsIn X hc) ?_))))))
 rw[hd']
 refine wpAny_pure (a:=some dx) (wpAny_bind (wpAny_pure (wpAny_bind ?_)))
 refine wpAny_nsSet1 (s:={s with toks:=s.toks + 1}) I.ns fun h' hn2 hs2=>?_
 obtain⟨oD,esD,epD,hoD,hdD,hcD⟩:=hn2.count (PySem.Within.cons name v hw)
 refine wpAny_bind (wpAny_lookBehind hoD (by rw[hdD];exact pastItsLine_dict (Nat.le_trans hcD (by rw[List.length_cons];omega))) ?_)
 exact wpAny_pure (h _ ⟨(hs2.2 _ (Ne.symm I.ne)).trans I.obj,hn2,I.ne⟩ hs2)
theorem make_map {R:Result->Shared->Prop} {vs:List Value} {kw:List (Str × Value)} (X:K.In s.heap) (hm:PySem.W.makesIn K C=true)
  (hi:PySem.W.findIn K (.ref C) "__init__" =some (some (.ref f))) (hf:PySem.W.typeIn K (.ref f)=some (.type "function"))
  (h:codeAny (model prog w) (A.under (.builtin "type.__call__" ⟨.ref C::vs,kw⟩)) (.call (.ref f) ⟨.ref (s.heap.objs.size + 1)::vs,kw⟩) (PySem.W.InitBack (s.heap.objs.size + 1) R)
   {s with heap:=(s.heap.push PySem.W.emptyDict).push (PySem.W.instObj C s.heap.objs.size)}):
  codeAny (model prog w) A (.call (.ref C) ⟨vs,kw⟩) R s:=by
 obtain⟨hh,g,d,t,os⟩:=s
 exact PySem.W.make_core (PySem.W.makes_of X hm) (PySem.W.looks_findIn X hi) (fun self=>PySem.W.bind_fn X self hf) (.inl rfl) h
end
noncomputable def putF (f:Str) (v:V):List (Str × V)->List (Str × V)
 | []=>[(f,v)]
 | (g,x)::r=>if g=f then(g,v)::r else(g,x)::putF f v r
theorem lookup_putF (f g:Str) (v:V):∀fs:List (Str × V),(putF f v fs).lookup g=if g=f then some v else fs.lookup g
 | []=>by
  show List.lookup g [(f,v)]=_
  by_cases h:g=f
  ·have hb:(g == f)=true:=beq_iff_eq.mpr h
   simp only[List.lookup,hb,if_pos h]
  ·have hb:(g == f)=false:=beq_eq_false_iff_ne.mpr h
   simp only[List.lookup,hb,if_neg h]
 | (k, x) :: r => by
  have ih:=lookup_putF f g v r
  rw[show putF f v ((k,x)::r)=(if k=f then(k,v)::r else(k,x)::putF f v r)from rfl]
  by_cases hk:k=f
  ·rw[if_pos hk]
   by_cases h:g=k
   ·have hb:(g == k)=true:=beq_iff_eq.mpr h
    simp only[List.lookup,hb,if_pos (h.trans hk)]
   ·have hb:(g == k)=false:=beq_eq_false_iff_ne.mpr h
    simp only[List.lookup,hb,if_neg (fun e:g=f=>h (e.trans hk.symm))]
  ·rw[if_neg hk]
   by_cases h:g=k
   ·have hb:(g == k)=true:=beq_iff_eq.mpr h
    simp only[List.lookup,hb,if_neg (fun e:g=f=>hk (h.symm.trans e))]
   ·have hb:(g == k)=false:=beq_eq_false_iff_ne.mpr h
    simp only[List.lookup,hb]
    exact ih
theorem keys_putF (f:Str) (v:V):∀fs:List (Str × V),f ∈ (putF f v fs).map (·.1)/\∀g,g ∈ fs.map (·.1)->g ∈ (putF f v fs).map (·.1)
 | []=>⟨by simp[putF],fun g h=>by simp at h⟩
 | (k, x) :: r => by
  obtain⟨i1,i2⟩:=keys_putF f v r
  rw[show putF f v ((k,x)::r)=(if k=f then(k,v)::r else(k,x)::putF f v r)from rfl]
  by_cases hk:k=f
  ·rw[if_pos hk]
   subst hk
   exact⟨by simp,fun g h=>by simpa using h⟩
  ·rw[if_neg hk]
   refine⟨?_,fun g h=>?_⟩
   ·rw[List.map_cons]
    exact List.mem_cons_of_mem _ i1
   ·rw[List.map_cons]at h ⊢
    rcases List.mem_cons.mp h with e | e
    ·exact List.mem_cons.mpr (.inl e)
    ·exact List.mem_cons_of_mem _ (i2 g e)
theorem length_putF (f:Str) (v:V):∀fs:List (Str × V),(putF f v fs).length<=fs.length + 1
 | []=>by simp[putF]
 | (k,x)::r=>by
  have ih:=length_putF f v r
  rw[show putF f v ((k,x)::r)=(if k=f then(k,v)::r else(k,x)::putF f v r)from rfl]
  by_cases hk:k=f
  ·rw[if_pos hk,List.length_cons,List.length_cons];omega
  ·rw[if_neg hk,List.length_cons,List.length_cons];omega
theorem RelO.some_of {v:V} {o:Option Value} (r:RelO (some v) o):∃u,o=some u/\RelV v u:=by
 cases o with
 | none=>exact(show False from r).elim
 | some u=>exact⟨u,rfl,r⟩
theorem RelO.none_of {o:Option Value} (r:RelO none o):o=none:=by
 cases o with
 | none=>rfl
 | some u=>exact(show False from r).elim
theorem handed_of {v:V} {u:Value} (r:RelV v u):PySem.W.handedIn u=true:=by
 cases v with
 | non=>cases (show u=Value.none from r);rfl
 | bl b=>cases (show u=Value.bool b from r);rfl
 | int i=>obtain⟨t,e⟩:=(show ∃t,u=Value.int i t from r);cases e;rfl
 | str x=>obtain⟨t,e⟩:=(show ∃t,u=Value.str x t from r);cases e;rfl
 | byt b=>obtain⟨t,e⟩:=(show ∃t,u=Value.bytes b t from r);cases e;rfl
 | flt b=>obtain⟨t,e⟩:=(show ∃t,u=Value.float b t from r);cases e;rfl
 | ref a=>cases (show u=Value.ref a from r);rfl
 | ty n=>cases (show u=Value.type n from r);rfl
section
variable {P:Program} {w:World} {H H':Hp} {h h':Heap} {a C dx:Addr} {fs fs':List (Str × V)}
theorem ins_get (hok:HOk P w H h) (e:H a=some (.ins C dx fs)):∃mA,ObjM h a dx C mA/\(∀ f,RelO (fs.lookup f) (mA f))/\PySem.Within mA (fs.map (·.1))/\fs.length<=1000/\H dx=some (.own a):=by
 obtain⟨d,z,ne,ob,mA,n,r,q⟩:=(show ObjOk P w H h a (.ins C dx fs)from hok a _ e)
 exact⟨mA,⟨ob,n,ne⟩,r,q,z,d⟩
end
structure Cls (K:PySem.W.Frag) (C:Addr):Prop where
 pg:PySem.W.plainGet K C Str.empty=true
 hd:PySem.W.hasDictIn K C=true
 po:PySem.W.plainOver K C=true
 sa:PySem.W.findIn K (.ref C) "__setattr__" =some (some (.builtin "object.__setattr__"))
theorem Cls.get {K:PySem.W.Frag} {C:Addr} (c:Cls K C) (f:Str):PySem.W.plainGet K C f=true:=c.pg
noncomputable def NoAttr (K:PySem.W.Frag) (C:Addr) (f:Str):Prop:=PySem.W.findIn K (.ref C) f=some none
theorem NoAttr.taker {K:PySem.W.Frag} {C:Addr} {f:Str} (n:NoAttr K C f):PySem.W.takerIn K C f=some none:=by
 unfold PySem.W.takerIn
 rw[show PySem.W.findIn K (.ref C) f=some none from n]
 rfl
structure Con (K:PySem.W.Frag) (C:Addr) (f:Str) (v:V) (u:Value):Prop where
 at_:PySem.W.findIn K (.ref C) f=some (some u)
 rel:RelV v u
 get:PySem.W.specialIn K u "__get__" =some none
 cp:PySem.W.copiedNames.contains f=false
structure Meth (K:PySem.W.Frag) (C:Addr) (m:Str) (f:Addr):Prop where
 at_:PySem.W.findIn K (.ref C) m=some (some (.ref f))
 fn:PySem.W.isFn K (.ref f)=true
 kp:PySem.W.keepIn K (.ref f)=true
section
variable {X:Cx} {pins:List (Addr × Obj)} {σ:St} {H:Hp} {s:Shared} {a C dx:Addr} {fs:List (Str × V)} {f:Str} {v:V} {A:Around} {E:Value->Shared->Prop}
theorem getattr_ok {b:Bool} {Q:Value->Shared->Prop} (I:Inv X pins σ H s) (e:H a=some (.ins C dx fs)) (c:Cls X.K C) (n:NoAttr X.K C f) (l:fs.lookup f=some v)
  (h:∀u s',Inv X pins σ H s'->RelV v u->Q u s'):wpAny (model X.prog X.w) A (getAttr (.ref a) f b) Q E s:=by
 obtain⟨mA,O,r,_,_,_⟩:=ins_get I.hok e
 obtain⟨u,hu,ru⟩:=RelO.some_of (v:=v) (o:=mA f) (by rw[<-l];exact r f)
 exact get_map I.kIn O (c.get f) c.hd n hu (handed_of ru) (h u _ (I.tok _) ru)
theorem getmeth_ok {m:Str} {g:Addr} {pl:Sem Bool} {Q:Value × List Value->Shared->Prop} (I:Inv X pins σ H s) (e:H a=some (.ins C dx fs)) (c:Cls X.K C) (k:Meth X.K C m g) (l:fs.lookup m=none)
  (h:Q (.ref g,[.ref a]) s):wpAny (model X.prog X.w) A (getMethod (.ref a) m pl) Q E s:=by
 obtain⟨mA,O,r,_,_,_⟩:=ins_get I.hok e
 have hn:mA m=none:=RelO.none_of (by rw[<-l];exact r m)
 exact get_meth I.kIn O (c.get m) k.at_ k.fn hn h
theorem setattr_ok {y:V} {u:Value} {Q:Unit->Shared->Prop} (I:Inv X pins σ H s) (e:H a=some (.ins C dx fs)) (c:Cls X.K C) (n:NoAttr X.K C f) (hl:fs.length < 1000) (ry:RelV y u)
  (h:∀s',Inv X pins σ (upd H a (.ins C dx (putF f y fs))) s'->Q () s'):wpAny (model X.prog X.w) A (setAttr (.ref a) f u) Q E s:=by
 obtain⟨mA,O,r,wi,_,ho⟩:=ins_get I.hok e
 have hz:(fs.map (·.1)).length<=sizeLine:=by rw[List.length_map,sizeLine_eq];omega
 refine set_map I.kIn O c.sa c.po n.taker c.hd wi hz fun h' O' sb=>h _ ?_
 have hd:∃o,h'.get? dx=some o:=let ⟨o,_,_,e',_⟩:=O'.ns;⟨o,e'⟩
 refine I.write (x:=a) (e:=dx) (by rw[e];exact True.intro) (.inr ho) (fun b q hb z=>(sb.2 b hb).trans z) hd ?_
 refine⟨by rw[upd_ne O.ne];exact ho,?_,O.ne,O'.obj,_,O'.ns,fun g=>?_,fun g hg=>?_⟩
 ·have:=length_putF f y fs;omega
 ·show RelO ((putF f y fs).lookup g) (if g=f then some u else mA g)
  rw[lookup_putF]
  by_cases q:g=f
  ·rw[if_pos q,if_pos q];exact ry
  ·rw[if_neg q,if_neg q];exact r g
 ·by_cases q:g=f
  ·rw[q];exact(keys_putF f y fs).1
  ·refine(keys_putF f y fs).2 g (wi g fun z=>hg ?_)
   show(if g=f then some u else mA g)=none
   rw[if_neg q];exact z
theorem Inv.made (I:Inv X pins σ H s):Inv X pins σ (upd (upd H s.heap.objs.size (.own (s.heap.objs.size + 1))) (s.heap.objs.size + 1) (.ins C s.heap.objs.size []))
  {s with heap:=(s.heap.push PySem.W.emptyDict).push (PySem.W.instObj C s.heap.objs.size)}:=by
 have e1:(s.heap.push PySem.W.emptyDict).get? s.heap.objs.size=some PySem.W.emptyDict:=Heap.get?_push_size s.heap rfl
 have e2:((s.heap.push PySem.W.emptyDict).push (PySem.W.instObj C s.heap.objs.size)).get? (s.heap.objs.size + 1)=some (PySem.W.instObj C s.heap.objs.size):=by
  have:=Heap.get?_push_size (s.heap.push PySem.W.emptyDict) (o:=PySem.W.instObj C s.heap.objs.size) rfl
  rwa[Heap.size_push]at this
 have e3:(s.heap.push PySem.W.emptyDict).Ns s.heap.objs.size (fun _=>none):=⟨PySem.W.emptyDict,#[],_,e1,rfl,(fun e he=>absurd he (by simp)),fun _=>rfl⟩
 have I1:=I.laid (a:=s.heap.objs.size) (o:=.own (s.heap.objs.size + 1)) (h':=s.heap.push PySem.W.emptyDict) (t':=s.toks) (fun b u q=>Heap.get?_push_of_some _ q) (Nat.le_refl _) ⟨_,e1⟩
 refine I1.laid (a:=s.heap.objs.size + 1) (o:=.ins C s.heap.objs.size []) (t':=s.toks) (fun b u q=>Heap.get?_push_of_some _ q) (Nat.le_of_eq (Heap.size_push _ _)) ?_
 have ne:s.heap.objs.size ≠ s.heap.objs.size + 1:=Nat.ne_of_lt (Nat.lt_succ_self _)
 refine⟨by rw[upd_ne ne,upd_same],Nat.zero_le _,ne,e2,fun _=>none,(Heap.Ns1.of_empty e3).at fun o q=>Heap.get?_push_of_some _ q,fun _=>True.intro,fun y hy=>absurd rfl hy⟩
theorem attr_of {prog:Program} {w:World} {env:Env} {e:Expr} {f:Str} {pos:Pos} {s:Shared} {Q:Value->Shared->Prop} (hb:attributeBase e f env (eval e env)=eval e env)
  (h:wpAny (model prog w) A (eval e env) (fun o s₁=>wpAny (model prog w) A (getAttr o f true) Q E s₁) E s):wpAny (model prog w) A (eval (.Attribute e f pos) env) Q E s:=
 Attribute_any_ h (by rw[arm_eval_Attribute,hb])
end
section
variable {X:Cx} {o e value:Expr} {f:Str} {pos pos' tpos:Pos} {ta tv:TE}
end
section
variable {X:Cx} {pins:List (Addr × Obj)} {σ:St} {H:Hp} {s:Shared} {A:Around} {E:Value->Shared->Prop} {Q:Value->Shared->Prop} {c:Value} {b:Bool}
inductive TyOf (K:PySem.W.Frag) (H:Hp):V->Value->Prop where
 | non:TyOf K H .non (.type "NoneType")
 | bl (x:Bool):TyOf K H (.bl x) (.type "bool")
 | int (i:Int):TyOf K H (.int i) (.type "int")
 | str (x:Str):TyOf K H (.str x) (.type "str")
 | flt (x:UInt64):TyOf K H (.flt x) (.type "float")
 | lst {a:Addr} {xs:List V} (e:H a=some (.lst xs)):TyOf K H (.ref a) (.type "list")
 | frz {a:Addr} {o:Obj} {xs:List V} (e:H a=some (.frz o (.lst xs))):TyOf K H (.ref a) (.type "list")
 | tup {a:Addr} {xs:List V} (e:H a=some (.tup xs)):TyOf K H (.ref a) (.type "tuple")
 | dK {a:Addr} {kvs:List (Key × V)} (e:H a=some (.dK kvs)):TyOf K H (.ref a) (.type "dict")
 | dT {a:Addr} {kvs:List (List Key × V)} (e:H a=some (.dT kvs)):TyOf K H (.ref a) (.type "dict")
 | ins {a C dx:Addr} {fs:List (Str × V)} (e:H a=some (.ins C dx fs)) (cl:Cls K C) (ha:PySem.W.findIn K (.ref C) "__class__" =some (some (.builtin "object.__class__")))
   (hn:PySem.W.specialIn K (.builtin "object.__class__") "__get__" =some (some (.builtin "getset_descriptor.__get__"))) (htk:PySem.W.takesIn K (.builtin "object.__class__")=some true)
   (hm:PySem.W.mroIn K C (.type "object")=some true):TyOf K H (.ref a) (.ref C)
theorem isinst_ok {x:V} {u t:Value} (I:Inv X pins σ H s) (rx:RelV x u) (ty:TyOf X.K H x t) (e:PySem.W.kitOne X.K t c=some b) (h:∀tk,Q (.bool b) {s with toks:=tk}):
  wpAny (model X.prog X.w) A (call (.builtin "isinstance") [u,c]) Q E s:=by
 cases ty with
 | non=>cases (show u=Value.none from rx);exact PySem.W.kia_one PySem.W.kitx_none I.kIn True.intro e (fun z=>nomatch z) h
 | bl y=>cases (show u=Value.bool y from rx);exact PySem.W.kia_one PySem.W.kitx_bool I.kIn True.intro e (fun z=>nomatch z) h
 | int i=>obtain⟨t,q⟩:=(show ∃t,u=Value.int i t from rx);cases q;exact PySem.W.kia_one PySem.W.kitx_int I.kIn True.intro e (fun z=>nomatch z) h
 | str y=>obtain⟨t,q⟩:=(show ∃t,u=Value.str y t from rx);cases q;exact PySem.W.kia_one PySem.W.kitx_str I.kIn True.intro e (fun z=>nomatch z) h
 | flt y=>obtain⟨t,q⟩:=(show ∃t,u=Value.float y t from rx);cases q;exact PySem.W.kia_one PySem.W.kitx_float I.kIn True.intro e (fun z=>nomatch z) h
 | @lst a xs ea=>
  cases (show u=Value.ref a from rx)
  obtain⟨_,_,n,_,h1⟩:=(show ObjOk X.prog X.w H s.heap a (.lst xs)from I.hok a _ ea)
  exact PySem.W.kia_one PySem.W.kitx_list I.kIn ⟨_,h1,rfl⟩ e (fun z=>nomatch z) h
 | @frz a ob xs ea=>
  cases (show u=Value.ref a from rx)
  obtain⟨_,_,_,n,_,h1⟩:=(show ObjOk X.prog X.w H s.heap a (.frz ob (.lst xs))from I.hok a _ ea)
  exact PySem.W.kia_one PySem.W.kitx_list I.kIn ⟨_,h1,rfl⟩ e (fun z=>nomatch z) h
 | @tup a xs ea=>
  cases (show u=Value.ref a from rx)
  obtain⟨_,_,_,p⟩:=(show ObjOk X.prog X.w H s.heap a (.tup xs)from I.hok a _ ea)
  obtain⟨o,h1,h2,_⟩:=p
  exact PySem.W.kia_one PySem.W.kitx_tuple I.kIn ⟨o,h1,h2⟩ e (fun z=>nomatch z) h
 | @dK a kvs ea=>
  cases (show u=Value.ref a from rx)
  obtain⟨_,_,vs,_,p⟩:=(show ObjOk X.prog X.w H s.heap a (.dK kvs)from I.hok a _ ea)
  obtain⟨o,es,ep,h1,h2,_⟩:=p
  exact PySem.W.kia_one PySem.W.kitx_dict I.kIn ⟨o,h1,h2.1⟩ e (fun z=>nomatch z) h
 | @dT a kvs ea=>
  cases (show u=Value.ref a from rx)
  obtain⟨_,_,xs,_,o,es,ep,h1,h2,_⟩:=(show ObjOk X.prog X.w H s.heap a (.dT kvs)from I.hok a _ ea)
  exact PySem.W.kia_one PySem.W.kitx_dict I.kIn ⟨o,h1,h2.1⟩ e (fun z=>nomatch z) h
 | @ins a C dx fs ea cl ha hn htk hm=>
  cases (show u=Value.ref a from rx)
  obtain⟨mA,O,_⟩:=ins_get I.hok ea
  obtain⟨od,J,_⟩:=O.look
  exact PySem.W.kia_one (PySem.W.kitx_own (cl.get _) cl.hd ha hn htk hm) I.kIn J e (fun z=>nomatch z) h
end
end L2
namespace L2
open PySem PySem.Spec PyProof.Rows
structure Room (k:Nat) (A:Around):Prop where
 hd:A.handled=none
 dp:A.depth + 3 * k + 5 < recursionLimit
 un:A.units + 16 * k + 200 < cLine
theorem Room.mono {j k:Nat} {A:Around} (r:Room k A) (h:j<=k):Room j A:=⟨r.hd,by have:=r.dp;omega,by have:=r.un;omega⟩
theorem Room.deeper {k:Nat} {A:Around} (r:Room (k + 1) A) (env:Env):Room k (A.deeper env):=
 ⟨r.hd,by have:=r.dp;show A.depth + 1 + 3 * k + 5 < _;omega,by have:=r.un;show A.units + 3 + 16 * k + 200 < _;omega⟩
theorem Room.in1 {k:Nat} {A:Around} (r:Room (k + 1) A):Room k A.in1:=
 ⟨r.hd,by have:=r.dp;show A.depth + 3 * k + 5 < _;omega,by have:=r.un;show A.units + 1 + 16 * k + 200 < _;omega⟩
theorem make_depth {A:Around} {C:Addr} {us:List Value} {kw:List (Str × Value)}:(A.under (.builtin "type.__call__" ⟨.ref C::us,kw⟩)).depth=A.depth + 1:=by
 first | rfl | simp[Around.under,Code.weight,Code.isCreation,Code.isGuard,Code.isCaller,Code.frames,Code.isFrame,guardIds]
theorem make_units {A:Around} {C:Addr} {us:List Value} {kw:List (Str × Value)}:(A.under (.builtin "type.__call__" ⟨.ref C::us,kw⟩)).units=A.units + 1:=by
 first | rfl | simp[Around.under,Code.cUnits,Code.frames,Code.isFrame]
theorem Room.make {k:Nat} {A:Around} (r:Room (k + 1) A) (C:Addr) (us:List Value) (kw:List (Str × Value)):Room k (A.under (.builtin "type.__call__" ⟨.ref C::us,kw⟩)):=
 ⟨r.hd,by have:=r.dp;rw[make_depth];omega,by have:=r.un;rw[make_units];omega⟩
theorem Room.depth {k:Nat} {A:Around} (r:Room k A):A.depth < recursionLimit:=by have:=r.dp;omega
theorem Room.units {k:Nat} {A:Around} (r:Room k A):A.units + 64 < cLine:=by have:=r.un;omega
noncomputable def tNil:TA:=fun _ H Q=>Q [] H
noncomputable def tCons (ta:TE) (tr:TA):TA:=fun σ H Q=>ta σ H fun x H1=>tr σ H1 fun xs H2=>Q (x::xs) H2
section
variable {X:Cx} {e:Expr} {es:List Expr} {te:TE} {t:TA} {pos:Pos}
theorem pa_nil:PA X [] tNil:=fun _ _ _ _ H Q I h=>Calls.spliced_nil ⟨[],H,I,.nil,h⟩
theorem pa_cons (ha:PE X e te) (hr:PA X es t) (hs:starEach (e::es) X.env=(false,eval e X.env)::starEach es X.env:=by rfl):PA X (e::es) (tCons te t):=by
 intro pos pins s σ H Q I h
 rw[hs]
 show wpAny _ _ (spliced ((false,eval e X.env)::backTo pos (starEach es X.env))) _ _ s
 refine Calls.spliced_cons (thn (ha pins s σ H _ I h) fun u s1 ⟨x,H1,I1,r1,q1⟩=>?_)
 exact thn (hr pos pins s1 σ H1 _ I1 q1) fun us s2 ⟨xs,H2,I2,r2,q2⟩=>⟨x::xs,H2,I2,.cons r1 r2,q2⟩
end
@[reducible] noncomputable def Sp:=List V->Hp->VK->XK->Prop
@[reducible] noncomputable def CXT:=List Env->Hp->Shared->XK->Value->Shared->Prop
structure Env0 (P:Program) (w:World) (K:PySem.W.Frag) (mg:Str->Option Value) (base:Heap) (A:Around) (outer:List Env) (s:Shared) (H:Hp):Prop where
 frames:A.frames=some outer
 mod:Mod K mg base
 bs:∀b o,base.get? b=some o->s.heap.get? b=some o/\H b=none
 bsz:base.objs.size<=s.heap.objs.size
 funs:s.heap.FunFrames base outer
 frf:∀b ∈ frs outer,H b=none
 hok:HOk P w H s.heap
 bare:AllBare s.gens
noncomputable def CE (outer:List Env) (P:Program) (w:World) (H:Hp) (s:Shared) (Q:VK) (u:Value) (s':Shared):Prop:=
 ∃v H',s'.os=s.os/\AllBare s'.gens/\Un (frs outer) [] H H' s.heap s'.heap/\HOk P w H' s'.heap/\RelV v u/\Q v H'
noncomputable def CR (CX:CXT) (outer:List Env) (P:Program) (w:World) (H:Hp) (s:Shared) (Q:VK) (E:XK) (r:Result) (s':Shared):Prop:=
 match r with
 | .ok (.ret u)=>CE outer P w H s Q u s'
 | .ok _=>False
 | .error e=>CX outer H s E e s'
structure FnOk (P:Program) (w:World) (K:PySem.W.Frag) (mg:Str->Option Value) (base:Heap) (CX:CXT) (k:Nat) (f:Addr) (fd:FuncData) (ps:List Str) (sp:Sp):Prop where
 len:∀vs H Q E,sp vs H Q E->vs.length=ps.length
 run:∀ (A:Around) (outer:List Env) (s:Shared) (H:Hp) (args:Args) (us:List Value) (vs:List V) (Q:VK) (E:XK),Room k A->Env0 P w K mg base A outer s H->BindsTo s fd args (ps.zip us)->Vals vs us->sp vs H Q E->
  codeAny (model P w) A (.call (.ref f) args) (CR CX outer P w H s Q E) s
theorem FnOk.mono {P:Program} {w:World} {K:PySem.W.Frag} {mg:Str->Option Value} {base:Heap} {CX:CXT} {j k:Nat} {f:Addr} {fd:FuncData} {ps:List Str} {sp:Sp} (F:FnOk P w K mg base CX j f fd ps sp) (h:j<=k):
  FnOk P w K mg base CX k f fd ps sp:=⟨F.len,fun A outer s H args us vs Q E hr=>F.run A outer s H args us vs Q E (hr.mono h)⟩
theorem FnOk.imp {P:Program} {w:World} {K:PySem.W.Frag} {mg:Str->Option Value} {base:Heap} {CX:CXT} {k:Nat} {f:Addr} {fd:FuncData} {ps:List Str} {sp sp':Sp} (F:FnOk P w K mg base CX k f fd ps sp)
  (h:∀vs H Q E,sp' vs H Q E->sp vs H Q E):FnOk P w K mg base CX k f fd ps sp':=
 ⟨fun vs H Q E q=>F.len vs H Q E (h _ _ _ _ q),fun A outer s H args us vs Q E hr he hb hv hs=>F.run A outer s H args us vs Q E hr he hb hv (h _ _ _ _ hs)⟩
theorem Env0.make {P:Program} {w:World} {K:PySem.W.Frag} {mg:Str->Option Value} {base:Heap} {A:Around} {outer:List Env} {s:Shared} {H:Hp} (e:Env0 P w K mg base A outer s H) (C:Addr) (us:List Value) (kw:List (Str × Value)):
  Env0 P w K mg base (A.under (.builtin "type.__call__" ⟨.ref C::us,kw⟩)) outer s H:=⟨by first | exact e.frames | (simpa[Around.under,Code.envs,Code.isFrame,pushEnvs]using e.frames),e.mod,e.bs,e.bsz,e.funs,e.frf,e.hok,e.bare⟩
theorem Env0.in1 {P:Program} {w:World} {K:PySem.W.Frag} {mg:Str->Option Value} {base:Heap} {A:Around} {outer:List Env} {s:Shared} {H:Hp} (e:Env0 P w K mg base A outer s H):
  Env0 P w K mg base A.in1 outer s H:=⟨e.frames,e.mod,e.bs,e.bsz,e.funs,e.frf,e.hok,e.bare⟩
section
variable {X:Cx} {pins:List (Addr × Obj)} {σ:St} {H:Hp} {s s':Shared}
theorem Inv.env0 (I:Inv X pins σ H s):Env0 X.prog X.w X.K X.mg X.base X.A X.stack s H:=
 ⟨I.ok.frames,I.ok.mod,I.bs,Nat.le_trans I.ok.bsz I.sz,I.stack,I.stkFree,I.hok,I.bare⟩
theorem Inv.after {Q:VK} {u:Value} (I:Inv X pins σ H s) (h:CE X.stack X.prog X.w H s Q u s'):EP X pins σ Q u s':=by
 obtain⟨v,H',os,bare,un,hok,r,q⟩:=h
 obtain⟨hh,g,d,t,os'⟩:=s'
 obtain rfl:os'=s.os:=os
 exact⟨v,H',I.call (h':=hh) (g':=g) (d':=d) (t':=t) (ch:=[]) un hok bare (fun b z=>absurd z (by simp)),r,q⟩
end
noncomputable def Binds (K:PySem.W.Frag) (fd:FuncData) (ps:List Str) (ds:List Value):Prop:=
 ∀ (s:Shared) (us:List Value),K.In s.heap->(us++ds).length=ps.length->BindsTo s fd ⟨us,[]⟩ (ps.zip (us++ds))
theorem Binds.all {K:PySem.W.Frag} {fd:FuncData} {ps:List Str} (h:∀us:List Value,us.length=ps.length->bindArgs fd ⟨us,[]⟩=pure (ps.zip us)):Binds K fd ps []:=fun s us _ hl=>by
 rw[List.append_nil]at hl ⊢
 exact .of_eq (h us hl)
noncomputable def Passes (CX:CXT) (X:Cx) (E:XK):Prop:=∀ (pins:List (Addr × Obj)) (σ:St) (H:Hp) (s:Shared) (e:Value) (s':Shared),Inv X pins σ H s->CX X.stack H s E e s'->X.xe e s'
section
variable {X:Cx} {CX:CXT} {k:Nat} {f C:Addr} {fd:FuncData} {ps:List Str} {sp:Sp} {dvs:List V} {ds:List Value} {E:XK} {x m:Str} {p pos apos:Pos} {e o:Expr} {es:List Expr} {ta:TE} {t:TA}
theorem run_fn {pins:List (Addr × Obj)} {σ:St} {H:Hp} {s:Shared} {Q:VK} {us:List Value} {vs:List V} (F:FnOk X.prog X.w X.K X.mg X.base CX k f fd ps sp) (hr:Room k X.A) (hb:Binds X.K fd ps ds) (hd:Vals dvs ds) (hx:Passes CX X E)
  (I:Inv X pins σ H s) (r:Vals vs us) (h:sp (vs++dvs) H Q E):wpAny (model X.prog X.w) X.A (call (.ref f) us) (EP X pins σ Q) X.xe s:=by
 have r2:Vals (vs++dvs) (us++ds):=r.append hd
 have hl:(us++ds).length=ps.length:=by rw[<-r2.length];exact F.len _ _ _ _ h
 refine wpAny_call (codeAny_mono (F.run X.A X.stack s H ⟨us,[]⟩ (us++ds) (vs++dvs) Q E hr I.env0 (hb s us I.kIn hl) r2 h) fun r s' hq=>?_)
 cases r with
 | error e=>exact hx pins σ H s e s' I hq
 | ok fl=>
  cases fl with
  | ret u=>exact I.after hq
  | next=>exact False.elim hq
  | brk=>exact False.elim hq
  | cont=>exact False.elim hq
structure Mk (K:PySem.W.Frag) (C f:Addr):Prop where
 makes:PySem.W.makesIn K C=true
 init:PySem.W.findIn K (.ref C) "__init__" =some (some (.ref f))
 fn:PySem.W.isFn K (.ref f)=true
 kp:PySem.W.keepIn K (.ref C)=true
theorem run_make {pins:List (Addr × Obj)} {σ:St} {H:Hp} {s:Shared} {Q:VK} {us:List Value} {vs:List V} (M:Mk X.K C f) (F:FnOk X.prog X.w X.K X.mg X.base CX k f fd ps sp) (hr:Room (k + 1) X.A) (hb:Binds X.K fd ps ds) (hd:Vals dvs ds)
  (hx:Passes CX X E) (I:Inv X pins σ H s) (r:Vals vs us)
  (h:∀x dx,H x=none->H dx=none->dx ≠ x->sp (.ref x::(vs++dvs)) (upd (upd H dx (.own x)) x (.ins C dx [])) (fun v H2=>v=.non/\Q (.ref x) H2) E):
  wpAny (model X.prog X.w) X.A (call (.ref C) us) (EP X pins σ Q) X.xe s:=by
 have hq:=h (s.heap.objs.size + 1) s.heap.objs.size (I.hok.fresh (Nat.le_succ _)) (I.hok.fresh (Nat.le_refl _)) (Nat.ne_of_lt (Nat.lt_succ_self _))
 have I2:=Inv.made (C:=C) I
 have r2:Vals (V.ref (s.heap.objs.size + 1)::(vs++dvs)) (Value.ref (s.heap.objs.size + 1)::(us++ds)):=.cons rfl (r.append hd)
 have hl:(Value.ref (s.heap.objs.size + 1)::us++ds).length=ps.length:=by
  have e:=r2.length
  rw[F.len _ _ _ _ hq]at e
  exact e.symm
 refine wpAny_call (make_map (f:=f) I.kIn M.makes M.init (beq_iff_eq.mp M.fn) (codeAny_mono (F.run _ X.stack _ _ ⟨Value.ref (s.heap.objs.size + 1)::us,[]⟩ (Value.ref (s.heap.objs.size + 1)::(us++ds)) _ _ E (hr.make C us [])
  (I2.env0.make C us []) (hb _ (Value.ref (s.heap.objs.size + 1)::us) I2.kIn hl) r2 hq) fun r s' hq'=>?_))
 cases r with
 | error e=>exact hx pins σ _ _ e s' I2 hq'
 | ok fl=>
  cases fl with
  | ret u=>
   obtain⟨v,H',I3,rv,ev,q3⟩:=I2.after hq'
   subst ev
   exact⟨rv,⟨V.ref (s.heap.objs.size + 1),H',I3,rfl,q3⟩⟩
  | next=>exact False.elim hq'
  | brk=>exact False.elim hq'
  | cont=>exact False.elim hq'
end
section
variable {X:Cx} {CX:CXT} {k:Nat} {f C:Addr} {fd:FuncData} {ps ks:List Str} {sp:Sp} {E:XK} {x m:Str} {p pos apos kpos:Pos} {e o:Expr} {es:List Expr} {kws:List Keyword} {te ta:TE} {t tk:TA} {nm:Option Str}
structure KBinds (K:PySem.W.Frag) (fd:FuncData) (ps ks:List Str) (g:List Value->List Value->List Value) (gV:List V->List V->List V):Prop where
 to:∀ (s:Shared) (us ws:List Value),K.In s.heap->(g us ws).length=ps.length->BindsTo s fd ⟨us,ks.zip ws⟩ (ps.zip (g us ws))
 rel:∀ {vs:List V} {us:List Value} {zs:List V} {ws:List Value},Vals vs us->Vals zs ws->Vals (gV vs zs) (g us ws)
variable {g:List Value->List Value->List Value} {gV:List V->List V->List V}
end
structure FnScope (N P:List Str) (sc:Scope):Prop where
 kind:sc.kind=.function
 co:sc.isCoroutine=false
 gen:sc.isGenerator=false
 nd:N.Nodup
 pre:N.take P.length=P
 par:∀x ∈ P,sc.names.lookup x=some .local\/sc.names.lookup x=some .cell
 nofree:∀y ∈ sc.names,y.2 ≠ .free
theorem bindL_out {kindOf:Str->Option NameKind} {x:Str}:∀ {binds:List (Str × Value)} {m:Str->Option Value},(∀ v,(x,v) ∉ binds)->bindL kindOf binds m x=m x
 | [],_,_=>rfl
 | (n,v)::r,m,h=>by
  unfold bindL
  rw[bindL_out fun w hw=>h w (List.mem_cons_of_mem _ hw)]
  split
  ·have:x ≠ n:=by rintro rfl;exact h v List.mem_cons_self
   simp[this]
  ·rfl
theorem bindC_out {kindOf:Str->Option NameKind} {x:Str}:∀ {binds:List (Str × Value)} {m:Str->Option Value},(∀ v,(x,v) ∉ binds)->bindC kindOf binds m x=m x
 | [],_,_=>rfl
 | (n,v)::r,m,h=>by
  unfold bindC
  rw[bindC_out fun w hw=>h w (List.mem_cons_of_mem _ hw)]
  split
  ·rfl
  ·have:x ≠ n:=by rintro rfl;exact h v List.mem_cons_self
   simp[this]
theorem bindL_get {kindOf:Str->Option NameKind} {x:Str} {v:Value}:∀ {P:List Str} {vs:List Value} {i:Nat} {m:Str->Option Value},P.Nodup->P[i]?=some x->vs[i]?=some v->kindOf x=some .local->
  bindL kindOf (P.zip vs) m x=some v
 | [],_,_,_,_,h,_,_=>by simp at h
 | _::_,[],_,_,_,_,h,_=>by simp at h
 | p::P,w::vs,0,m,nd,h1,h2,hk=>by
  simp at h1 h2;subst h1;subst h2
  show bindL kindOf ((p,w)::P.zip vs) m p=_
  unfold bindL
  rw[bindL_out fun v hv=>(List.nodup_cons.mp nd).1 (List.of_mem_zip hv).1,if_pos hk]
  simp
 | p::P,w::vs,i + 1,m,nd,h1,h2,hk=>by
  show bindL kindOf ((p,w)::P.zip vs) m x=_
  unfold bindL
  exact bindL_get (i:=i) (List.nodup_cons.mp nd).2 (by simpa using h1) (by simpa using h2) hk
theorem bindC_get {kindOf:Str->Option NameKind} {x:Str} {v:Value}:∀ {P:List Str} {vs:List Value} {i:Nat} {m:Str->Option Value},P.Nodup->P[i]?=some x->vs[i]?=some v->kindOf x ≠ some .local->
  bindC kindOf (P.zip vs) m x=some v
 | [],_,_,_,_,h,_,_=>by simp at h
 | _::_,[],_,_,_,_,h,_=>by simp at h
 | p::P,w::vs,0,m,nd,h1,h2,hk=>by
  simp at h1 h2;subst h1;subst h2
  show bindC kindOf ((p,w)::P.zip vs) m p=_
  unfold bindC
  rw[bindC_out fun v hv=>(List.nodup_cons.mp nd).1 (List.of_mem_zip hv).1,if_neg hk]
  simp
 | p::P,w::vs,i + 1,m,nd,h1,h2,hk=>by
  show bindC kindOf ((p,w)::P.zip vs) m x=_
  unfold bindC
  exact bindC_get (i:=i) (List.nodup_cons.mp nd).2 (by simpa using h1) (by simpa using h2) hk
noncomputable def start (N:List Str) (vs:List V):St:=vs.map some++List.replicate (N.length - vs.length) none
noncomputable def cxOf (CX:CXT) (P:Program) (w:World) (K:PySem.W.Frag) (mg:Str->Option Value) (base:Heap) (N:List Str) (qual:Str) (scope:Scope) (f:Addr) (cd:Value) (A:Around) (outer:List Env) (s:Shared) (H:Hp) (E:XK):Cx where
 prog:=P
 w:=w
 K:=K
 mg:=mg
 base:=base
 A:=A.deeper (envOfC qual scope s.heap.objs.size f cd)
 N:=N
 s₀:=s
 H₀:=H
 env:=envOfC qual scope s.heap.objs.size f cd
 outer:=outer
 stack:=envOfC qual scope s.heap.objs.size f cd::outer
 ex:=[]
 calm:=true
 fn:=fun _=>true
 pn:=[]
 xe:=fun e s'=>wpAny (model P w) (A.deeper (envOfC qual scope s.heap.objs.size f cd)) (leaving (envOfC qual scope s.heap.objs.size f cd) e) (fun _ s''=>CX outer H s E e s'') (fun e' s''=>CX outer H s E e' s'') s'
theorem cell_has {sc:Scope} {n:Nat} {x:Str} (h:sc.names.lookup x=some .cell):∃c,(cellsFrom n sc.names []).lookup x=some c:=by
 have q:=PySem.W.cellsFrom_some sc.names n [] (.inl h)
 exact Option.isSome_iff_exists.mp q
theorem inv_start {CX:CXT} {P:Program} {w:World} {K:PySem.W.Frag} {mg:Str->Option Value} {base:Heap} {N ps:List Str} {qual:Str} {scope:Scope} {f:Addr} {cd:Value} {A:Around} {outer:List Env} {s s1:Shared} {H:Hp} {E:XK} {us:List Value} {vs:List V}
  (S:FnScope N ps scope) (hd:A.handled=none) (e0:Env0 P w K mg base A outer s H) (hl:vs.length=ps.length) (r:Vals vs us)
  (x:InCallC s s.heap.objs.size (bindL (envOfC qual scope s.heap.objs.size f cd).kindOf (ps.zip us) fun _=>none) (cellsFrom (s.heap.objs.size + 1) scope.names []) (bindC (envOfC qual scope s.heap.objs.size f cd).kindOf (ps.zip us) fun _=>none) s1):
  Inv (cxOf CX P w K mg base N qual scope f cd A outer s H E) [] (start N vs) H s1:=by
 have hpl:ps.length<=N.length:=by have:=congrArg List.length S.pre;rw[List.length_take]at this;omega
 obtain⟨h1,tk,rfl,hk⟩:=x.done
 have noA:∀b:Addr,b ∉ (cxOf CX P w K mg base N qual scope f cd A outer s H E).ex:=fun b z=>absurd (show b ∈ ([]:List Addr)from z) (by simp)
 refine⟨⟨e0.mod,S.kind,rfl,rfl,Nat.le_refl _,fun y z c h1 h2=>?_,fun y hy=>?_,fun y c _ h=>?_,fun _=>hd,Around.frames_deeper e0.frames,.inr ⟨rfl,rfl⟩,fun b z=>absurd z (noA b),e0.bs,e0.bsz,fun b _ _=>noA b,fun b z=>absurd z (noA b),e0.funs,e0.frf⟩,
  rfl,e0.bare,Un.kept hk,⟨_,x.toInCall.ns,fun i y v h1 h2 h3=>?_⟩,fun y c h=>⟨_,x.cell y c h⟩,e0.hok.fresh (Nat.le_refl _),fun y c h=>?_,fun p hp=>absurd (show p ∈ ([]:List (Addr × Obj))from hp) (by simp),e0.hok.kept hk,?_⟩
 ·exact name_of_addr x.apart (PySem.mem_of_lookup h1) (PySem.mem_of_lookup h2)
 ·have hy:scope.names.lookup y=some .cell\/scope.names.lookup y=some .free:=hy
  rcases hy with hy | hy
  ·exact cell_has hy
  ·exact absurd rfl (S.nofree _ (PySem.mem_of_lookup hy))
 ·exact Nat.le_of_lt (x.above y c (PySem.mem_of_lookup h))
 ·have hi:i < vs.length:=by
   unfold start at h2
   by_cases hi:i < vs.length
   ·exact hi
   ·rw[List.getElem?_append_right (by simpa using hi)]at h2
    rw[List.getElem?_replicate]at h2
    split at h2<;>cases h2
  have ha:vs[i]?=some v:=by
   unfold start at h2
   rw[List.getElem?_append_left (by simpa using hi),List.getElem?_map]at h2
   cases e:vs[i]? with
   | none=>rw[e]at h2;cases h2
   | some a=>rw[e]at h2;cases h2;rfl
  obtain⟨u,hu,rv⟩:=r.get ha
  have hp:ps[i]?=some y:=by
   rw[<-S.pre,List.getElem?_take_of_lt (by omega)];exact h1
  have ndP:ps.Nodup:=by rw[<-S.pre];exact S.nd.sublist (List.take_sublist _ _)
  refine⟨u,rv,?_⟩
  rcases S.par y (List.mem_of_getElem? hp)with k | k
  ·exact .inl ⟨k,bindL_get ndP hp hu k⟩
  ·obtain⟨c,e⟩:=cell_has (n:=s.heap.objs.size + 1) k
   refine .inr ⟨.inl k,c,e,?_⟩
   have q:=x.cell y c e
   rw[bindC_get ndP hp hu (by show scope.names.lookup y ≠ _;rw[k];decide)]at q
   exact q
 ·exact e0.hok.fresh (Nat.le_of_lt (x.above y c (PySem.mem_of_lookup h)))
 ·unfold start
  show _=N.length
  rw[List.length_append,List.length_map,List.length_replicate]
  omega
theorem fn_of {CX:CXT} {P:Program} {w:World} {K:PySem.W.Frag} {mg:Str->Option Value} {base:Heap} {k:Nat} {f:Addr} {name qual:Str} {params:Arguments} {body:List Stmt} {scope:Scope} {dV kV doc pm cdv ct oc:Value} {an od:Option Addr}
  {osl:Array (Option Value)} {N ps:List Str} {sp:Sp} (lk:K.lookup f=some ⟨oc,od,.func (PySem.W.fnOf name qual params body scope dV kV doc pm an cdv ct),osl⟩) (hcd:PySem.W.codeIn K cdv qual=true) (S:FnScope N ps scope)
  (len:∀vs H Q E,sp vs H Q E->vs.length=ps.length)
  (hbody:∀ (A:Around) (outer:List Env) (s:Shared) (H:Hp) (vs:List V) (Q:VK) (E:XK),Room k (A.deeper (envOfC qual scope s.heap.objs.size f cdv))->sp vs H Q E->
   ∃t,PSs (cxOf CX P w K mg base N qual scope f cdv A outer s H E) body t/\t {nx:=fun _ H'=>Q .non H',rt:=Q} (start N vs) H):
  FnOk P w K mg base CX (k + 1) f (PySem.W.fnOf name qual params body scope dV kV doc pm an cdv ct) ps sp:=by
 refine⟨len,fun A outer s H args us vs Q E hr e0 hb r hsp=>?_⟩
 have hl:=len _ _ _ _ hsp
 have KX:K.In s.heap:=e0.mod.kin.keeps fun b o e=>(e0.bs b o e).1
 have lim:s.heap.NoLimit:=e0.mod.nolimit.keeps fun b o e=>(e0.bs b o e).1
 have hkind:∀y ∈ ps.zip us,scope.names.lookup y.1=some .local\/(scope.names.lookup y.1=some .cell/\((cellsFrom (s.heap.objs.size + 1) scope.names []).lookup y.1).isSome=true):=fun⟨n,v⟩ hy=>by
  rcases S.par n (List.of_mem_zip hy).1 with q | q
  ·exact .inl q
  ·exact .inr ⟨q,PySem.W.cellsFrom_some _ _ _ (.inl q)⟩
 refine codeAny_call_function hr.depth (KX _ _ lk) rfl S.co S.gen rfl (PySem.W.codeRec_of KX hcd) (hb _ _ _ _ ?_)
 refine wpAny_newFunctionEnv_cells S.kind hkind fun env he s1 x=>?_
 subst he
 refine⟨lim.keeps x.toInCall.keep,codeAny_func ?_⟩
 obtain⟨t,ht,hq⟩:=hbody A outer s H vs Q E (hr.deeper _) hsp
 have I:Inv (cxOf CX P w K mg base N qual scope f cdv A outer s H E) [] (start N vs) H s1:=inv_start S hr.hd e0 hl r x
 refine wpAny_mono (ht [] s1 (start N vs) H _ I hq) (fun fl s' hs=>?_) fun e s' hs=>hs
 have fin:∀ {σ':St} {H':Hp} {v:V} {u:Value},Inv (cxOf CX P w K mg base N qual scope f cdv A outer s H E) [] σ' H' s'->RelV v u->Q v H'->CE outer P w H s Q u s':=
  fun{σ' H' v u} J rv q=>⟨v,H',J.os,J.bare,J.base,J.hok,rv,q⟩
 cases fl with
 | ret u=>
  obtain⟨v,σ',H',J,rv,q⟩:=hs
  exact fin J rv q
 | next=>
  obtain⟨σ',H',J,q⟩:=hs
  exact fin (v:=V.non) (u:=Value.none) J rfl q
 | brk=>
  obtain⟨_,_,_,q⟩:=hs
  exact False.elim q
 | cont=>
  obtain⟨_,_,_,q⟩:=hs
  exact False.elim q
end L2
namespace L2
open PySem PySem.Spec PyProof.Rows
section
variable {X:Cx} {x:Str} {p pos:Pos} {e:Expr} {es:List Expr} {t:TA} {id T:String} {r:List V->Hp->VK->Prop}
noncomputable def tCB (r:List V->Hp->VK->Prop) (t:TA):TE:=fun σ H Q=>t σ H fun vs H1=>r vs H1 Q
theorem pe_callB (hc:CallR X (.builtin id) r) (hg:Gl X x) (hm:X.mg x=none) (hv:bootBuiltins x=some (.builtin id)) (ha:PA X (e::es) t) (hn:x ≠ "__name__" :=by decide) (hdb:(x == ("__debug__" :Str))=false:=by decide)
  (he:starEach (e::es) X.env=(false,eval e X.env)::starEach es X.env:=by rfl) (hpl:(backTo pos (starEach es X.env)).any (·.1)=false:=by rfl):PE X (.Call (.Name x p) (e::es) [] pos) (tCB r t):=by
 intro pins s σ H Q I h
 refine wpAny_Call_Name_kw (ld_blt I hg hm hv ?_ hn hdb)
 exact PyProof.Rows.callWith_builtin1 (thn (ha pos pins s σ H _ I h) fun us s1 ⟨vs,H1,I1,r1,q1⟩=>hc pins s1 σ H1 vs us Q I1 r1 q1) he hpl
theorem pe_callTy (hc:CallR X (.type T) r) (hg:Gl X x) (hm:X.mg x=none) (hv:bootBuiltins x=some (.type T)) (ha:PA X (e::es) t) (hn:x ≠ "__name__" :=by decide) (hdb:(x == ("__debug__" :Str))=false:=by decide)
  (he:starEach (e::es) X.env=(false,eval e X.env)::starEach es X.env:=by rfl) (hpl:(backTo pos (starEach es X.env)).any (·.1)=false:=by rfl):PE X (.Call (.Name x p) (e::es) [] pos) (tCB r t):=by
 intro pins s σ H Q I h
 refine wpAny_Call_Name_kw (ld_blt I hg hm hv ?_ hn hdb)
 exact PyProof.Rows.callWith_type1 (thn (ha pos pins s σ H _ I h) fun us s1 ⟨vs,H1,I1,r1,q1⟩=>hc pins s1 σ H1 vs us Q I1 r1 q1) he hpl
end
end L2
namespace L2
open PySem PySem.Spec PyProof.Rows
section
variable {κ:Type} [DecidableEq κ]
noncomputable def valV (kvs:List (κ × V)) (k:κ):Option V:=(kvs.find? fun kv=>decide (kv.1=k)).map (·.2)
noncomputable def putK (kvs:List (κ × V)) (k:κ) (v:V):List (κ × V):=
 if(kvs.any fun kv=>decide (kv.1=k))=true then kvs.map (fun kv=>if kv.1=k then(kv.1,v)else kv)else kvs++[(k,v)]
noncomputable def dropK (kvs:List (κ × V)) (k:κ):List (κ × V):=kvs.filter fun kv=>decide (kv.1 ≠ k)
theorem valV_pos {p:κ × V} {r:List (κ × V)} {k:κ} (e:p.1=k):valV (p::r) k=some p.2:=by simp[valV,List.find?_cons,e]
theorem valV_neg {p:κ × V} {r:List (κ × V)} {k:κ} (e:¬p.1=k):valV (p::r) k=valV r k:=by simp[valV,List.find?_cons,e]
theorem valV_any (k:κ):∀kvs:List (κ × V),(kvs.any fun kv=>decide (kv.1=k))=(valV kvs k).isSome
 | []=>rfl
 | p::r=>by
  rw[List.any_cons]
  by_cases e:p.1=k
  ·simp only[valV_pos e,decide_eq_true e,Bool.true_or,Option.isSome_some]
  ·rw[valV_neg e,decide_eq_false e,Bool.false_or];exact valV_any k r
theorem valV_map (k j:κ) (y:V):∀kvs:List (κ × V),valV (kvs.map fun kv=>if kv.1=k then(kv.1,y)else kv) j=(valV kvs j).map fun x=>if j=k then y else x
 | []=>rfl
 | p::r=>by
  have ih:=valV_map k j y r
  rw[List.map_cons]
  by_cases h:p.1=k
  ·rw[if_pos h]
   by_cases e:p.1=j
   ·rw[valV_pos (p:=(p.1,y)) e,valV_pos e,Option.map_some,if_pos (e.symm.trans h)]
   ·rw[valV_neg (p:=(p.1,y)) e,valV_neg e,ih]
  ·rw[if_neg h]
   by_cases e:p.1=j
   ·rw[valV_pos (p:=p) e,valV_pos e,Option.map_some,if_neg (fun z=>h (e.trans z))]
   ·rw[valV_neg (p:=p) e,valV_neg e,ih]
theorem valV_snoc (k j:κ) (y:V):∀kvs:List (κ × V),valV kvs k=none->valV (kvs++[(k,y)]) j=if j=k then some y else valV kvs j
 | [],_=>by
  by_cases e:k=j
  ·rw[if_pos e.symm];exact valV_pos (p:=(k,y)) e
  ·rw[if_neg (fun z=>e z.symm)];exact valV_neg (p:=(k,y)) e
 | p::r,hn=>by
  rw[List.cons_append]
  have hk:¬p.1=k:=fun z=>by rw[valV_pos z]at hn;cases hn
  rw[valV_neg hk]at hn
  have ih:=valV_snoc k j y r hn
  by_cases e:p.1=j
  ·rw[valV_pos e,valV_pos e,if_neg (fun z=>hk (e.trans z))]
  ·rw[valV_neg e,valV_neg e,ih]
theorem valV_put (kvs:List (κ × V)) (k j:κ) (y:V):valV (putK kvs k y) j=if j=k then some y else valV kvs j:=by
 unfold putK
 by_cases a:(kvs.any fun kv=>decide (kv.1=k))=true
 ·rw[if_pos a,valV_map]
  rw[valV_any]at a
  by_cases e:j=k
  ·obtain⟨x,hx⟩:=Option.isSome_iff_exists.mp a
   rw[if_pos e,e,hx,Option.map_some,if_pos rfl]
  ·rw[if_neg e]
   cases valV kvs j with
   | none=>rfl
   | some x=>rw[Option.map_some,if_neg e]
 ·rw[if_neg a]
  refine valV_snoc k j y kvs ?_
  rw[valV_any]at a
  cases q:valV kvs k with
  | none=>rfl
  | some x=>rw[q]at a;exact(a rfl).elim
theorem length_putK (kvs:List (κ × V)) (k:κ) (v:V):(putK kvs k v).length<=kvs.length + 1:=by
 unfold putK
 split
 ·rw[List.length_map];omega
 ·rw[List.length_append,List.length_cons,List.length_nil];omega
theorem RelO.isSome_eq {o:Option V} {u:Option Value} (r:RelO o u):o.isSome=u.isSome:=by
 cases o with
 | none=>cases u with
  | none=>rfl
  | some _=>exact(show False from r).elim
 | some _=>cases u with
  | none=>exact(show False from r).elim
  | some _=>rfl
theorem RelO.getD {o:Option V} {u:Option Value} {d:V} {d':Value} (r:RelO o u) (rd:RelV d d'):RelV (o.getD d) (u.getD d'):=by
 cases o with
 | none=>cases u with
  | none=>exact rd
  | some _=>exact(show False from r).elim
 | some _=>cases u with
  | none=>exact(show False from r).elim
  | some _=>exact r
theorem KV.val {kvs:List (κ × V)} {vs:List (κ × Value)} (r:KV kvs vs) (k:κ):RelO (valV kvs k) (valueAt vs k):=by
 unfold KV at r
 induction r with
 | nil=>exact True.intro
 | @cons p q ps qs h t ih=>
  obtain⟨h1,h2⟩:=h
  by_cases e:p.1=k
  ·have e':q.1=k:=h1.symm.trans e
   have b:valueAt (q::qs) k=some q.2:=by simp[valueAt,List.find?_cons,e']
   rw[valV_pos e,b];exact h2
  ·have e':¬q.1=k:=fun z=>e (h1.trans z)
   have b:valueAt (q::qs) k=valueAt qs k:=by simp[valueAt,List.find?_cons,e']
   rw[valV_neg e,b];exact ih
theorem KV.any {kvs:List (κ × V)} {vs:List (κ × Value)} (r:KV kvs vs) (k:κ):(kvs.any fun kv=>decide (kv.1=k))=vs.any fun kv=>decide (kv.1=k):=by
 unfold KV at r
 induction r with
 | nil=>rfl
 | cons h t ih=>rw[List.any_cons,List.any_cons,ih,h.1]
theorem KV.repl {kvs:List (κ × V)} {vs:List (κ × Value)} (r:KV kvs vs) (k:κ) {y:V} {u:Value} (ry:RelV y u):
  KV (kvs.map fun kv=>if kv.1=k then(kv.1,y)else kv) (vs.map fun kv=>if kv.1=k then(kv.1,u)else kv):=by
 unfold KV at r ⊢
 induction r with
 | nil=>exact .nil
 | @cons p q ps qs h t ih=>
  rw[List.map_cons,List.map_cons]
  refine .cons ?_ ih
  obtain⟨h1,h2⟩:=h
  by_cases e:p.1=k
  ·rw[if_pos e,if_pos (h1.symm.trans e)];exact⟨h1,ry⟩
  ·rw[if_neg e,if_neg (fun z=>e (h1.trans z))];exact⟨h1,h2⟩
theorem KV.put {kvs:List (κ × V)} {vs:List (κ × Value)} (r:KV kvs vs) (k:κ) {y:V} {u:Value} (ry:RelV y u):KV (putK kvs k y) (stored vs k u):=by
 unfold putK stored
 rw[r.any k]
 by_cases e:(vs.any fun kv=>decide (kv.1=k))=true
 ·rw[if_pos e,if_pos e];exact r.repl k ry
 ·rw[if_neg e,if_neg e];exact Paired.snoc r ⟨rfl,ry⟩
theorem KV.drop {kvs:List (κ × V)} {vs:List (κ × Value)} (r:KV kvs vs) (k:κ):KV (dropK kvs k) (without vs k):=by
 unfold KV at r ⊢
 unfold dropK without
 induction r with
 | nil=>exact .nil
 | @cons p q ps qs h t ih=>
  obtain⟨h1,h2⟩:=h
  rw[List.filter_cons,List.filter_cons]
  by_cases e:p.1=k
  ·have a:¬decide (p.1 ≠ k)=true:=by simp[e]
   have b:¬decide (q.1 ≠ k)=true:=by simp[h1.symm.trans e]
   rw[if_neg a,if_neg b];exact ih
  ·have e':¬q.1=k:=fun z=>e (h1.trans z)
   have a:decide (p.1 ≠ k)=true:=by simp[e]
   have b:decide (q.1 ≠ k)=true:=by simp[e']
   rw[if_pos a,if_pos b];exact .cons ⟨h1,h2⟩ ih
theorem KV.keys {kvs:List (κ × V)} {vs:List (κ × Value)} (r:KV kvs vs):kvs.map (·.1)=vs.map (·.1):=by
 unfold KV at r
 induction r with
 | nil=>rfl
 | cons h t ih=>rw[List.map_cons,List.map_cons,ih,h.1]
theorem KV.length {kvs:List (κ × V)} {vs:List (κ × Value)} (r:KV kvs vs):kvs.length=vs.length:=Paired.length r
end
theorem kV_is {P:Program} {w:World} {k:Key} {u:Value} (r:RelV (kV k) u):(mixKind P w).is k u=true:=by
 cases k with
 | inl i=>obtain⟨t,e⟩:=(show ∃t,u=Value.int i t from r);subst e;exact mixKind_int P w i t
 | inr x=>obtain⟨t,e⟩:=(show ∃t,u=Value.str x t from r);subst e;exact mixKind_str P w x t
theorem items_are {P:Program} {w:World}:∀ {ks:List Key} {us:List Value},Vals (ks.map kV) us->ItemsAre (mixKind P w) ks us
 | [],_,r=>by rw[List.map_nil]at r;cases r;exact .nil
 | k::ks,_,r=>by
  rw[List.map_cons]at r
  cases r with
  | cons h t=>exact .cons (kV_is h) (items_are t)
@[reducible] noncomputable def KT (H:Hp):List (List Key × V)->List (List Key × Addr × Value)->Prop:=Paired fun p q=>p.1=q.1/\H q.2.1=some (.tup (p.1.map kV))/\RelV p.2 q.2.2
theorem KT.val {H:Hp} {kvs:List (List Key × V)} {xs:List (List Key × Addr × Value)} (r:KT H kvs xs) (k:List Key):RelO (valV kvs k) ((atKey xs k).map (·.2)):=by
 induction r with
 | nil=>exact True.intro
 | @cons p q ps qs h t ih=>
  obtain⟨h1,_,h2⟩:=h
  by_cases e:p.1=k
  ·have e':q.1=k:=h1.symm.trans e
   have b:atKey (q::qs) k=some q.2:=by simp[atKey,List.find?_cons,e']
   rw[valV_pos e,b];exact h2
  ·have e':¬q.1=k:=fun z=>e (h1.trans z)
   have b:atKey (q::qs) k=atKey qs k:=by simp[atKey,List.find?_cons,e']
   rw[valV_neg e,b];exact ih
theorem KT.repl {H:Hp} {kvs:List (List Key × V)} {xs:List (List Key × Addr × Value)} (r:KT H kvs xs) (k:List Key) {y:V} {u:Value} (ry:RelV y u):
  KT H (kvs.map fun kv=>if kv.1=k then(kv.1,y)else kv) (xs.map (putAt k u)):=by
 induction r with
 | nil=>exact .nil
 | @cons p q ps qs h t ih=>
  rw[List.map_cons,List.map_cons]
  refine .cons ?_ ih
  obtain⟨h1,h2,h3⟩:=h
  unfold putAt
  by_cases e:p.1=k
  ·rw[if_pos e,if_pos (h1.symm.trans e)];exact⟨h1,h2,ry⟩
  ·rw[if_neg e,if_neg (fun z=>e (h1.trans z))];exact⟨h1,h2,h3⟩
theorem KT.put {H:Hp} {kvs:List (List Key × V)} {xs:List (List Key × Addr × Value)} (r:KT H kvs xs) (k:List Key) {b:Addr} {y:V} {u:Value} (hb:H b=some (.tup (k.map kV))) (ry:RelV y u):
  KT H (putK kvs k y) (storedH xs k b u):=by
 have e:(kvs.any fun kv=>decide (kv.1=k))=(atKey xs k).isSome:=by
  rw[valV_any,(r.val k).isSome_eq,Option.isSome_map]
 unfold putK storedH
 rw[e]
 by_cases q:(atKey xs k).isSome=true
 ·rw[if_pos q,if_pos q];exact r.repl k ry
 ·rw[if_neg q,if_neg q];exact Paired.snoc r ⟨rfl,hb,ry⟩
theorem KT.keeps {H H':Hp} {kvs:List (List Key × V)} {xs:List (List Key × Addr × Value)} (r:KT H kvs xs) (ht:∀b ys,H b=some (.tup ys)->H' b=some (.tup ys)):KT H' kvs xs:=
 Paired.mapP r fun _ _ z=>⟨z.1,ht _ _ z.2.1,z.2.2⟩
section
variable {P:Program} {w:World} {H:Hp} {h:Heap} {a:Addr}
theorem rd_of {u:HO} (ok:HOk P w H h) (e:Rd H a u):ObjOk P w H h a u:=e.ok ok
theorem dk_rd {kvs:List (Key × V)} (ok:HOk P w H h) (e:Rd H a (.dK kvs)):kvs.length<=sizeLine/\(a == sysModules)=false/\∃vs,KV kvs vs/\h.DictOf (mixKind P w) a vs:=
 show ObjOk P w H h a (.dK kvs)from rd_of ok e
theorem dk_of {kvs:List (Key × V)} (ok:HOk P w H h) (e:H a=some (.dK kvs)):kvs.length<=sizeLine/\(a == sysModules)=false/\∃vs,KV kvs vs/\h.DictOf (mixKind P w) a vs:=dk_rd ok (.inl e)
theorem key_of {ks:List Key} (ok:HOk P w H h) (e:H a=some (.tup (ks.map kV))):(tupleKind (mixKind P w)).is h ks a:=by
 obtain⟨_,its,r,o,h1,h2,n,h3⟩:=(show ObjOk P w H h a (.tup (ks.map kV))from ok a _ e)
 exact⟨o,its.toArray,n,h1,h2,h3,by simpa using items_are r⟩
theorem dt_rd {kvs:List (List Key × V)} (ok:HOk P w H h) (e:Rd H a (.dT kvs)):kvs.length<=sizeLine/\(a == sysModules)=false/\
  ∃xs,KT H kvs xs/\h.DictOfH (tupleKind (mixKind P w)) a xs:=by
 obtain⟨z,y,xs,r,o,es,ep,h1,h2,h3,h4,h5⟩:=(show ObjOk P w H h a (.dT kvs)from rd_of ok e)
 refine⟨z,y,xs,r,o,es,ep,h1,h2,h3,h4,fun x hx=>?_,h5⟩
 have all:∀ {l:List (List Key × V)} {m:List (List Key × Addr × Value)},KT H l m->∀x ∈ m,(tupleKind (mixKind P w)).is h x.1 x.2.1:=by
  intro l m q
  induction q with
  | nil=>intro x hx;exact nomatch hx
  | @cons p q ps qs hq t ih=>
   intro x hx
   rcases List.mem_cons.mp hx with e | hx
   ·subst e
    exact key_of ok (by rw[<-hq.1];exact hq.2.1)
   ·exact ih x hx
 exact all r x hx
theorem dt_of {kvs:List (List Key × V)} (ok:HOk P w H h) (e:H a=some (.dT kvs)):kvs.length<=sizeLine/\(a == sysModules)=false/\
  ∃xs,KT H kvs xs/\h.DictOfH (tupleKind (mixKind P w)) a xs:=dt_rd ok (.inl e)
end
noncomputable def DGet (H:Hp) (a:Addr) (y:V) (r:Option V):Prop:=
 (∃ kvs k,Rd H a (.dK kvs)/\y=kV k/\r=valV kvs k)\/∃kvs k b,Rd H a (.dT kvs)/\y=.ref b/\H b=some (.tup (k.map kV))/\r=valV kvs k
noncomputable def DPut (H:Hp) (a:Addr) (y v:V) (H':Hp):Prop:=
 (∃ kvs k,H a=some (.dK kvs)/\y=kV k/\kvs.length < sizeLine/\H'=upd H a (.dK (putK kvs k v)))\/
 ∃kvs k b,H a=some (.dT kvs)/\y=.ref b/\H b=some (.tup (k.map kV))/\kvs.length < sizeLine/\H'=upd H a (.dT (putK kvs k v))
theorem DGet.k {H:Hp} {a:Addr} {kvs:List (Key × V)} {k:Key} (e:H a=some (.dK kvs)):DGet H a (kV k) (valV kvs k):=.inl ⟨kvs,k,.inl e,rfl,rfl⟩
theorem DGet.t {H:Hp} {a b:Addr} {kvs:List (List Key × V)} {k:List Key} (e:H a=some (.dT kvs)) (eb:H b=some (.tup (k.map kV))):DGet H a (.ref b) (valV kvs k):=.inr ⟨kvs,k,b,.inl e,rfl,eb,rfl⟩
theorem DPut.k {H:Hp} {a:Addr} {kvs:List (Key × V)} {k:Key} {v:V} (e:H a=some (.dK kvs)) (hl:kvs.length < sizeLine):DPut H a (kV k) v (upd H a (.dK (putK kvs k v))):=.inl ⟨kvs,k,e,rfl,hl,rfl⟩
theorem DPut.t {H:Hp} {a b:Addr} {kvs:List (List Key × V)} {k:List Key} {v:V} (e:H a=some (.dT kvs)) (eb:H b=some (.tup (k.map kV))) (hl:kvs.length < sizeLine):
  DPut H a (.ref b) v (upd H a (.dT (putK kvs k v))):=.inr ⟨kvs,k,b,e,rfl,eb,hl,rfl⟩
section
variable {X:Cx} {pins:List (Addr × Obj)} {σ:St} {H:Hp} {s:Shared} {a:Addr} {y v:V} {u r:Value} {o:Option V} {A:Around} {E:Value->Shared->Prop}
theorem Inv.big (I:Inv X pins σ H s):sysModules < s.heap.objs.size:=by
 have h:mainGlobals < s.heap.objs.size:=(I.mod.glob.keeps I.bk).lt
 exact Nat.lt_trans (by decide) h
theorem d_in {Q:Value->Shared->Prop} (hu:A.units + 1 < cLine) (I:Inv X pins σ H s) (g:DGet H a y o) (ry:RelV y u) (h:∀s',Inv X pins σ H s'->Q (.bool o.isSome) s'):
  wpAny (model X.prog X.w) A (compareOp .In u (.ref a)) Q E s:=by
 rcases g with ⟨kvs,k,e,ey,l⟩ | ⟨kvs,k,b,e,ey,eb,l⟩
 ·subst ey
  obtain⟨z,hd,vs,rel,dd⟩:=dk_rd I.hok e
  refine wpAny_in_of (kV_is ry) hd dd.mapOf ?_
  rw[<-(rel.val k).isSome_eq,<-l]
  exact h _ (I.tok _)
 ·subst ey
  cases (show u=Value.ref b from ry)
  obtain⟨z,hd,xs,rel,dd⟩:=dt_rd I.hok e
  refine wpAny_in_heap (tupleKind_room_in1 hu) (key_of I.hok eb) hd dd ?_
  have q:=(rel.val k).isSome_eq
  rw[Option.isSome_map]at q
  rw[<-q,<-l]
  exact h _ (I.tok _)
theorem d_write {h':Heap} {t':Nat} {ob:HO} (I:Inv X pins σ H s) (mu:Mut (H a)) (hs:Heap.SameBut a s.heap h') (he:∃q,h'.get? a=some q) (new:ObjOk X.prog X.w (upd H a ob) h' a ob):
  Inv X pins σ (upd H a ob) {s with heap:=h',toks:=t'}:=
 I.write (x:=a) (e:=a) mu (.inl rfl) (fun b q hb z=>(hs.2 b hb).trans z) he new
theorem dk_new {P:Program} {w:World} {H':Hp} {h':Heap} {kvs:List (Key × V)} {vs:List (Key × Value)} (z:kvs.length<=sizeLine) (hd:(a == sysModules)=false) (rel:KV kvs vs) (dd:h'.DictOf (mixKind P w) a vs):
  ObjOk P w H' h' a (.dK kvs):=⟨z,hd,vs,rel,dd⟩
theorem d_setItem {H':Hp} {Q:Unit->Shared->Prop} (hu:A.units + 1 < cLine) (I:Inv X pins σ H s) (g:DPut H a y v H') (ry:RelV y u) (rv:RelV v r) (h:∀s',Inv X pins σ H' s'->Q () s'):
  wpAny (model X.prog X.w) A (setItem (.ref a) u r) Q E s:=by
 rcases g with ⟨kvs,k,e,ey,l,eH⟩ | ⟨kvs,k,b,e,ey,eb,l,eH⟩
 ·subst ey eH
  obtain⟨z,hd,vs,rel,dd⟩:=dk_of I.hok e
  have hz:vs.length<=sizeLine:=by rw[<-rel.length];exact z
  have hl:(putK kvs k v).length<=sizeLine:=by have:=length_putK kvs k v;omega
  refine wpAny_setItem_pairs (hsz:=hz) (kV_is ry) dd fun h' dd' hs=>h _ ?_
  have he:∃q,h'.get? a=some q:=let ⟨q,_,_,hq,_⟩:=dd';⟨q,hq⟩
  exact d_write I (by rw[e];exact True.intro) hs he (dk_new hl hd (rel.put k rv) dd')
 ·subst ey eH
  cases (show u=Value.ref b from ry)
  obtain⟨z,hd,xs,rel,dd⟩:=dt_of I.hok e
  have hz:xs.length<=sizeLine:=by rw[<-Paired.length rel];exact z
  have hl:(putK kvs k v).length<=sizeLine:=by have:=length_putK kvs k v;omega
  refine wpAny_setItem_heap (hsz:=hz) (tupleKind_room_in1 hu) (key_of I.hok eb) dd fun h' dd' hs=>h _ ?_
  obtain⟨q,es,ep,hq,h2,h3,h4,_,h5⟩:=dd'
  refine d_write I (by rw[e];exact True.intro) hs ⟨q,hq⟩ ⟨hl,hd,_,(rel.put k eb rv).keeps fun c ys ec=>?_,q,es,ep,hq,h2,h3,h4,h5⟩
  rw[upd_ne (ne_of ec e (fun z=>nomatch z))]
  exact ec
end
section
variable {X:Cx} {pins:List (Addr × Obj)} {σ:St} {H:Hp} {s:Shared} {a:Addr} {kvs:List (Key × V)} {k:Key} {u:Value} {A:Around} {E:Value->Shared->Prop}
end
section
variable {X:Cx} {o i e value:Expr} {pos pos' tpos:Pos} {td ty tv:TE}
end
theorem dk_empty {P:Program} {w:World} {H:Hp} (h:Heap) (hb:sysModules < h.objs.size):ObjOk P w H (h.push {cls:=.type "dict",data:=.dict #[]}) h.objs.size (.dK []):=
 ⟨Nat.zero_le _,beq_eq_false_iff_ne.mpr (Ne.symm (Nat.ne_of_lt hb)),[],.nil,Heap.DictOf.new h⟩
noncomputable def tDNewK:TE:=fun _ H Q=>∀p,H p=none->Q (.ref p) (upd H p (.dK []))
section
variable {X:Cx} {pos:Pos}
theorem pe_dnewK:PE X (.Dict [] [] pos) tDNewK:=fun pins s σ H Q I h=>
 wpAny_Dict_empty ⟨.ref s.heap.objs.size,_,I.laid (a:=s.heap.objs.size) (o:=.dK []) (t':=s.toks) (fun _ _ q=>Heap.get?_push_of_some _ q) (Nat.le_refl _) (dk_empty s.heap I.big),rfl,h _ (I.hok.fresh (Nat.le_refl _))⟩
end
@[reducible] noncomputable def VV:List (V × V)->List (Value × Value)->Prop:=Paired fun p q=>RelV p.1 q.1/\RelV p.2 q.2
noncomputable def mergeK (kvs more:List (Key × V)):List (Key × V):=more.foldl (fun acc kv=>putK acc kv.1 kv.2) kvs
theorem KV.merge:∀ {more:List (Key × V)} {rs:List (Key × Value)} {kvs:List (Key × V)} {vs:List (Key × Value)},KV more rs->KV kvs vs->KV (mergeK kvs more) (merged vs rs):=by
 intro more rs kvs vs r
 unfold KV at r
 induction r generalizing kvs vs with
 | nil=>intro q;exact q
 | @cons p q ps qs h t ih=>
  intro r0
  have e:KV (putK kvs p.1 p.2) (stored vs q.1 q.2):=by
   have:=r0.put p.1 h.2
   rw[<-h.1];exact this
  exact ih e
theorem length_mergeK:∀ (more kvs:List (Key × V)),(mergeK kvs more).length<=kvs.length + more.length
 | [],kvs=>by show kvs.length<=kvs.length + 0;omega
 | p::r,kvs=>by
  have h1:=length_mergeK r (putK kvs p.1 p.2)
  have h2:=length_putK kvs p.1 p.2
  show(mergeK (putK kvs p.1 p.2) r).length<=_
  rw[List.length_cons];omega
theorem carries_of {P:Program} {w:World}:∀ {kvs:List (Key × V)} {ws:List (Value × Value)},VV (kvs.map fun kv=>(kV kv.1,kv.2)) ws->∃rs,Carries (mixKind P w) ws rs/\KV kvs rs
 | [],_,r=>by rw[List.map_nil]at r;cases r;exact⟨[],True.intro,.nil⟩
 | p::kvs,_,r=>by
  rw[List.map_cons]at r
  cases r with
  | @cons a b as bs h t=>
   obtain⟨rs,c,q⟩:=carries_of (P:=P) (w:=w) t
   obtain⟨b1,b2⟩:=b
   exact⟨(p.1,b2)::rs,⟨kV_is h.1,rfl,c⟩,.cons ⟨rfl,h.2⟩ q⟩
structure M1 (X:Cx) (o:Expr) (m:Str) (apos:Pos) (e:Expr) (cpos:Pos):Prop where
 base:attributeBase o m X.env (eval o X.env)=eval o X.env
 few:((backTo cpos (starEach [e] X.env)).all (fun x=>!x.1) && (backToKw cpos (keywordEach [] X.env)).all (fun x=>x.1.isSome)
  && decide (([e]:List Expr).length + ([]:List Keyword).length + (if([]:List Keyword).isEmpty then 0 else 1) < 30))=true
 line:(apos.endLine == cpos.line)=true
 trees:backTo cpos (starEach [e] X.env)=[(false,eval e X.env)]
structure M2 (X:Cx) (o:Expr) (m:Str) (apos:Pos) (e f:Expr) (cpos:Pos):Prop where
 base:attributeBase o m X.env (eval o X.env)=eval o X.env
 few:((backTo cpos (starEach [e,f] X.env)).all (fun x=>!x.1) && (backToKw cpos (keywordEach [] X.env)).all (fun x=>x.1.isSome)
  && decide (([e,f]:List Expr).length + ([]:List Keyword).length + (if([]:List Keyword).isEmpty then 0 else 1) < 30))=true
 line:(apos.endLine == cpos.line)=true
 trees:backTo cpos (starEach [e,f] X.env)=[(false,eval e X.env),(false,eval f X.env)]
section
variable {X:Cx} {pins:List (Addr × Obj)} {σ:St} {H:Hp} {s:Shared} {a:Addr} {y d:V} {u r:Value} {o:Option V} {A:Around} {E:Value->Shared->Prop}
theorem d_get1 {Q:Value->Shared->Prop} (hu:A.units + 1 < cLine) (I:Inv X pins σ H s) (g:DGet H a y o) (ry:RelV y u) (h:∀w' s',Inv X pins σ H s'->RelV (o.getD .non) w'->Q w' s'):
  wpAny (model X.prog X.w) A (call (.builtin "dict.get") [.ref a,u]) Q E s:=by
 rcases g with ⟨kvs,k,e,ey,l⟩ | ⟨kvs,k,b,e,ey,eb,l⟩
 ·subst ey
  obtain⟨z,hd,vs,rel,dd⟩:=dk_rd I.hok e
  refine call_meetsIn PySem.F.slot_dict_get dd.typeIs PySem.F.entry_dict_get (PySem.F.args_dict_get_2 _ _) (meets_dict_get (mixKind X.prog X.w) a (kV_is ry) hd) ⟨_,dd.mapOf,h _ _ (I.tok _) ?_⟩
  rw[l]
  exact(rel.val k).getD rfl
 ·subst ey
  cases (show u=Value.ref b from ry)
  obtain⟨z,hd,xs,rel,dd⟩:=dt_rd I.hok e
  refine call_meetsIn PySem.F.slot_dict_get dd.typeIs PySem.F.entry_dict_get (PySem.F.args_dict_get_2 _ _) (meetsH_dict_get (tupleKind (mixKind X.prog X.w)) a b hd) ⟨tupleKind_room_in1 hu,k,xs,key_of I.hok eb,dd,h _ _ (I.tok _) ?_⟩
  rw[l]
  exact(rel.val k).getD rfl
end
section
variable {X:Cx} {o e f:Expr} {apos cpos:Pos} {td ty tx:TE}
end
section
variable {X:Cx} {pins:List (Addr × Obj)} {σ:St} {H:Hp} {s:Shared} {a:Addr} {kvs:List (Key × V)} {A:Around} {E:Value->Shared->Prop}
end
section
variable {X:Cx} {pins:List (Addr × Obj)} {σ:St} {H:Hp} {s:Shared} {a:Addr} {y:V} {u:Value} {A:Around} {E:Value->Shared->Prop}
end
end L2
namespace HT
open PySem PyProof.Rows
section
open PySem.SeqAt
open PySem.AutoSeq1 (wpAny_loadPart')
open PySem.MeetsSeq PySem.MeetsSeq2 PySem.MeetsSeq3
end
section
variable {prog:Program} {w:World} {A:Around} {E:Value->Shared->Prop} {s:Shared}
theorem cat_tup {t b:Addr} {vs ws:List Value} {Q:Value->Shared->Prop} (ht:IsTup s.heap t vs.toArray) (hb:IsTup s.heap b ws.toArray) (hv:vs ≠ [])
  (h1:ws=[]->Q (.ref t) s) (h2:ws ≠ []->Q (.ref s.heap.objs.size) {s with heap:=s.heap.push {cls:=.type "tuple",data:=.seq (vs++ws).toArray}})
  (hsz:vs.length + ws.length<=sizeLine):wpAny (model prog w) A (binaryOp .Add (.ref t) (.ref b)) Q E s:=by
 obtain⟨⟨cls,dd,data,sl⟩,ho,hc,n,hd⟩:=id ht
 obtain⟨⟨cls2,dd2,data2,sl2⟩,ho2,hc2,n2,hd2⟩:=id hb
 simp only at hc hd hc2 hd2
 subst hc hd hc2 hd2
 have e:vs.toArray++ws.toArray=(vs++ws).toArray:=by simp
 by_cases hw:ws=[]
 ·exact concat_meets ⟨_,ho,rfl⟩ ⟨_,ho2,rfl⟩ noFill_tuple_add seq_tuple_add PySem.F.slot_tuple_add PySem.F.entry_tuple_add (PySem.F.args_tuple_add_2 _ _)
   (tuple_addW1 t b vs.toArray ws.toArray n n2 dd dd2 sl sl2 (by simpa using hv) (by simp[hw])) ⟨ho,ho2,h1 hw⟩
 ·refine concat_meets ⟨_,ho,rfl⟩ ⟨_,ho2,rfl⟩ noFill_tuple_add seq_tuple_add PySem.F.slot_tuple_add PySem.F.entry_tuple_add (PySem.F.args_tuple_add_2 _ _)
   (tuple_addW2 t b vs.toArray ws.toArray n n2 dd dd2 sl sl2 (by simpa using hv) (by simpa using hw) (by rw[List.size_toArray,List.size_toArray];exact hsz)) ⟨ho,ho2,?_⟩
  rw[e]
  exact h2 hw
noncomputable def sIx (n d:Nat):Option Int->Nat
 | none=>d
 | some v=>if v < 0 then(v + (n:Int)).toNat else min v.toNat n
theorem sIx_none (n d:Nat):sIx n d none=d:=rfl
theorem sIx_nat (n d k:Nat):sIx n d (some (k:Int))=min k n:=by
 show(if(k:Int) < 0 then((k:Int) + (n:Int)).toNat else min (k:Int).toNat n)=min k n
 rw[if_neg (by omega),Int.toNat_natCast]
theorem sIx_le (n d:Nat) (hd:d<=n) (o:Option Int):sIx n d o<=n:=by
 cases o with
 | none=>exact hd
 | some v=>
  show(if v < 0 then(v + (n:Int)).toNat else min v.toNat n)<=n
  by_cases hv:v < 0
  ·rw[if_pos hv];omega
  ·rw[if_neg hv];exact Nat.min_le_right _ _
theorem clip_eq (v:Int) (n d:Nat):(if v < 0 then max (v + (n:Int)) 0 else min v (n:Int))=((sIx n d (some v):Nat):Int):=by
 show(if v < 0 then max (v + (n:Int)) 0 else min v (n:Int))=(((if v < 0 then(v + (n:Int)).toNat else min v.toNat n):Nat):Int)
 by_cases hv:v < 0
 ·simp only[if_pos hv];omega
 ·simp only[if_neg hv];omega
theorem adjust_gen (lo hi:Option Int) (n:Nat):Builtin.Slice.sliceAdjust lo hi 1 (n:Int)=(((sIx n 0 lo:Nat):Int),((sIx n n hi:Nat):Int)):=by
 have h1:¬ ((1:Int) < 0):=by omega
 unfold Builtin.Slice.sliceAdjust
 simp only[h1,if_false]
 refine Prod.ext ?_ ?_
 ·cases lo with
  | none=>rfl
  | some v=>exact clip_eq v n 0
 ·cases hi with
  | none=>rfl
  | some v=>exact clip_eq v n n
theorem places_gen (i j:Nat):Builtin.Slice.slicePlaces (i:Int) (j:Int) 1=j - i:=by
 unfold Builtin.Slice.slicePlaces
 have h1:(1:Int) > 0:=by omega
 simp only[h1,if_true,Int.ediv_one]
 split<;>omega
theorem slicePart_ {v:Value} {o:Option Int} {Q:Option Int->Shared->Prop} (p:IsPart v o) (h:Q o s):wpAny (model prog w) A (Builtin.Slice.slicePartIndex v) Q E s:=by
 cases p with
 | none=>exact slicePart_none h
 | int i t=>exact slicePart_int h
theorem sliceApplied_gen {sl:Addr} {vl vu:Value} {lo hi:Option Int} {n:Nat} {Q:Int × Int × Nat->Shared->Prop} (hs:s.heap.IsSliceOf sl vl vu .none) (pl:IsPart vl lo) (pu:IsPart vu hi)
  (h:Q (((sIx n 0 lo:Nat):Int),1,sIx n n hi - sIx n 0 lo) s):wpAny (model prog w) A (Builtin.Slice.sliceApplied (.ref sl) (pure (n:Int))) Q E s:=by
 obtain⟨os,hos,hcs,hds⟩:=id hs
 unfold Builtin.Slice.sliceApplied Builtin.Slice.sliceFields
 refine wpAny_bind (wpAny_bind (wpAny_field hos hds (x:=vl) rfl (wpAny_bind (wpAny_field hos hds (x:=vu) rfl (wpAny_bind (wpAny_field hos hds (x:=.none) rfl (wpAny_pure ?_)))))))
 refine wpAny_bind (slicePart_none ?_)
 show wpAny _ _ (if((1:Int) == 0)=true then _ else _) _ _ s
 rw[if_neg (by decide)]
 refine wpAny_bind (slicePart_ pl (wpAny_bind (slicePart_ pu (wpAny_bind (wpAny_pure ?_)))))
 show wpAny _ _ (match Builtin.Slice.sliceAdjust lo hi 1 (n:Int)with | (lo,hi)=>pure (lo,(1:Int),Builtin.Slice.slicePlaces lo hi 1)) _ _ s
 rw[adjust_gen lo hi n]
 show wpAny _ _ (pure (((sIx n 0 lo:Nat):Int),(1:Int),Builtin.Slice.slicePlaces ((sIx n 0 lo:Nat):Int) ((sIx n n hi:Nat):Int) 1)) _ _ s
 rw[places_gen]
 exact wpAny_pure h
theorem pick_gen (xs:Array Value) (i k:Nat):((List.range k).filterMap fun(m:Nat)=>xs[((i:Int) + (m:Int) * 1).toNat]?).toArray=((xs.toList.drop i).take k).toArray:=by
 have e:(fun(m:Nat)=>xs[((i:Int) + (m:Int) * 1).toNat]?)=fun m=>xs[i + m]?:=by
  funext m
  have:((i:Int) + (m:Int) * 1).toNat=i + m:=by omega
  rw[this]
 rw[e]
 have:=pick_run xs i k
 rw[List.filterMap_map]at this
 have e2:((fun x=>xs[x]?) ∘ fun x=>i + x)=fun m=>xs[i + m]?:=rfl
 rw[e2]at this
 rw[this]
theorem getItem_tuple_cut {t sl:Addr} {items:Array Value} {vl vu:Value} {lo hi:Option Int} {Q:Value->Shared->Prop} (ht:IsTup s.heap t items) (hs:s.heap.IsSliceOf sl vl vu .none) (pl:IsPart vl lo) (pu:IsPart vu hi)
  (hw:¬ (sIx items.size 0 lo=0/\sIx items.size items.size hi=items.size))
  (h:Q (.ref s.heap.objs.size) {s with heap:=s.heap.push {cls:=.type "tuple",data:=.seq ((items.toList.drop (sIx items.size 0 lo)).take (sIx items.size items.size hi - sIx items.size 0 lo)).toArray}})
  (hsz:items.size<=sizeLine):wpAny (model prog w) A (getItem (.ref t) (.ref sl)) Q E s:=by
 have htake:sizeOk (.seq ((items.toList.drop (sIx items.size 0 lo)).take (sIx items.size items.size hi - sIx items.size 0 lo)).toArray):=by
  show((items.toList.drop (sIx items.size 0 lo)).take (sIx items.size items.size hi - sIx items.size 0 lo)).toArray.size<=sizeLine
  rw[List.size_toArray,List.length_take,List.length_drop,Array.length_toList]
  omega
 have hj:sIx items.size items.size hi<=items.size:=sIx_le _ _ (Nat.le_refl _) hi
 obtain⟨os,hos,hcs,hds⟩:=id hs
 have hTs:s.TypeIs (.ref sl) "slice" :=⟨os,hos,hcs⟩
 unfold getItem
 try with_reducible refine wpAny_holding ?_
 first | refine wpAny_bind (wpAny_pure ?_) | skip
 refine wpAny_bind (wpAny_sequenceKey ht.typeIs (by decide) ?_)
 refine wpAny_bind (wpAny_callSpecial?_slot (name:=Str.ofString "__getitem__") ht.typeIs PyProof.Rows.slot_tuple_getitem
  (wpAny_call_entry PyProof.Rows.slot_tuple_getitem ht.typeIs entry_tuple_getitem ?_ (args_tuple_getitem _ _)))
 show wpAny _ _ (Builtin.Tuple.tupleItemsOf (.ref t) >>= _) _ _ s
 refine wpAny_bind (tupleItemsOf_ ht ?_)
 refine wpAny_bind (wpAny_typeOf hTs ?_)
 rw[if_pos (by decide)]
 refine wpAny_bind (sliceApplied_gen hs pl pu ?_)
 have hno:¬ ((((sIx items.size 0 lo:Nat):Int) == 0 && (1:Int) == 1 && (sIx items.size items.size hi - sIx items.size 0 lo) == items.size)=true):=by
  intro q
  rw[Bool.and_eq_true,Bool.and_eq_true]at q
  have q1:((sIx items.size 0 lo:Nat):Int)=0:=eq_of_beq q.1.1
  have q2:sIx items.size items.size hi - sIx items.size 0 lo=items.size:=eq_of_beq q.2
  exact hw ⟨by omega,by omega⟩
 show wpAny _ _ (if(((sIx items.size 0 lo:Nat):Int) == 0 && (1:Int) == 1 && (sIx items.size items.size hi - sIx items.size 0 lo) == items.size)=true then _ else _) _ _ s
 rw[if_neg hno,pick_gen]
 first
  | exact wpAny_bind (m:=Builtin.Tuple.tupleExact _) (wpAny_newObj_type (wpAny_pure ⟨_,rfl,wpAny_pure h⟩) htake)
  | exact wpAny_bind (m:=Builtin.Tuple.tupleExact _) (wpAny_newObj_type (wpAny_bind (wpAny_pure (wpAny_pure ⟨_,rfl,wpAny_pure h⟩))) htake)
  | exact wpAny_bind (wpAny_bind (m:=Builtin.Tuple.tupleExact _) (wpAny_newObj_type (wpAny_pure (wpAny_pure ⟨_,rfl,wpAny_pure h⟩)) htake))
  | exact wpAny_bind (wpAny_bind (m:=Builtin.Tuple.tupleExact _) (wpAny_newObj_type (wpAny_pure ⟨_,rfl,wpAny_pure h⟩) htake))
end
end HT
namespace L2
open PySem PySem.Spec PyProof.Rows
@[reducible] noncomputable def TO:=St->Hp->(Option Int->Hp->Prop)->Prop
noncomputable def PO (X:Cx) (e:Option Expr) (t:TO):Prop:=
 ∀ (pins:List (Addr × Obj)) (s:Shared) (σ:St) (H:Hp) (Q:Option Int->Hp->Prop),Inv X pins σ H s->t σ H Q->
  wpAny (model X.prog X.w) X.A (evalPart e X.env) (fun u s'=>∃o H',Inv X pins σ H' s'/\IsPart u o/\Q o H') X.xe s
noncomputable def tNoPart:TO:=fun _ H Q=>Q none H
section
variable {X:Cx} {e:Expr} {te:TE} {lo hi:Option Expr} {tl th:TO} {pos p2:Pos}
theorem po_none:PO X none tNoPart:=by
 intro pins s σ H Q I h
 rw[evalPart_none]
 exact wpAny_pure ⟨none,H,I,.none,h⟩
noncomputable def SlR (X:Cx) (r:V->Option Int->Option Int->Hp->VK->Prop):Prop:=
 ∀ (pins:List (Addr × Obj)) (s:Shared) (σ:St) (H:Hp) (x:V) (v vl vu:Value) (lo hi:Option Int) (sl:Addr) (Q:VK),Inv X pins σ H s->RelV x v->s.heap.IsSliceOf sl vl vu .none->IsPart vl lo->IsPart vu hi->r x lo hi H Q->
  ∃T id,typeLookup (.type T) "__getitem__" =pure (some (.builtin id))/\s.TypeIs v T/\wpAny (model X.prog X.w) X.A (getItem v (.ref sl)) (EP X pins σ Q) X.xe s
theorem SlR.or {r r':V->Option Int->Option Int->Hp->VK->Prop} (h:SlR X r) (h':SlR X r'):SlR X (fun x lo hi H Q=>r x lo hi H Q\/r' x lo hi H Q):=by
 intro pins s σ H x v vl vu lo hi sl Q I rx hs pl pu q
 rcases q with q | q
 ·exact h pins s σ H x v vl vu lo hi sl Q I rx hs pl pu q
 ·exact h' pins s σ H x v vl vu lo hi sl Q I rx hs pl pu q
noncomputable def tSl (r:V->Option Int->Option Int->Hp->VK->Prop) (te:TE) (tl th:TO):TE:=fun σ H Q=>te σ H fun x H1=>tl σ H1 fun l H2=>th σ H2 fun u H3=>r x l u H3 Q
theorem pe_slice {r:V->Option Int->Option Int->Hp->VK->Prop} (hr:SlR X r) (he:PE X e te) (hl:PO X lo tl) (hu:PO X hi th):PE X (.Subscript e (.Slice lo hi none p2) pos) (tSl r te tl th):=by
 intro pins s σ H Q I h
 refine Subscript_ (thn (he pins s σ H _ I h) fun v s1 ⟨x,H1,I1,r1,q1⟩=>?_)
 refine wpAny_Slice (thn (hl pins s1 σ H1 _ I1 q1) fun vl s2 ⟨l,H2,I2,pl,q2⟩=>thn (hu pins s2 σ H2 _ I2 q2) fun vu s3 ⟨u,H3,I3,pu,q3⟩=>?_)
 rw[evalPart_none]
 refine wpAny_pure ?_
 have I4:Inv X pins σ H3 {s3 with heap:=s3.heap.push {cls:=.type "slice",data:=.fields #[vl,vu,.none]}}:=I3.kept (t':=s3.toks) fun b ob q=>Heap.get?_push_of_some _ q
 obtain⟨T,id,hT,ht,hg⟩:=hr pins {s3 with heap:=s3.heap.push {cls:=.type "slice",data:=.fields #[vl,vu,.none]}} σ H3 x v vl vu l u s3.heap.objs.size Q I4 r1 (Heap.IsSliceOf.new ..) pl pu q3
 show wpAny (model X.prog X.w) X.A (subscriptTail e (.Slice lo hi none p2) v (.ref s3.heap.objs.size)) (EP X pins σ Q) X.xe {s3 with heap:=s3.heap.push {cls:=.type "slice",data:=.fields #[vl,vu,.none]}}
 exact tail_any (ops:=[.ref s3.heap.objs.size,v]) ht hT hg (by with_unfolding_all rfl)
noncomputable def cutV (xs:List V) (lo hi:Option Int):List V:=(xs.drop (HT.sIx xs.length 0 lo)).take (HT.sIx xs.length xs.length hi - HT.sIx xs.length 0 lo)
theorem cutV_length (xs:List V) (lo hi:Option Int):(cutV xs lo hi).length<=xs.length:=by
 unfold cutV
 rw[List.length_take,List.length_drop]
 omega
noncomputable def rSlT (K:PySem.W.Frag):V->Option Int->Option Int->Hp->VK->Prop:=fun x lo hi H Q=>∃a xs,x=.ref a/\SqT K H a xs/\
 ¬ (HT.sIx xs.length 0 lo=0/\HT.sIx xs.length xs.length hi=xs.length)/\∀p,H p=none->Q (.ref p) (upd H p (.tup (cutV xs lo hi)))
theorem sl_tup:SlR X (rSlT X.K):=by
 intro pins s σ H x v vl vu lo hi sl Q I rx hs pl pu h
 obtain⟨a,xs,rfl,hx,hw,q⟩:=h
 cases rx
 obtain⟨its,r,ht,hz⟩:=I.tuple hx
 have hlen:its.toArray.size=xs.length:=by rw[List.size_toArray];exact r.length.symm
 refine⟨"tuple",_,PyProof.Rows.slot_tuple_getitem.lookup,ht.typeIs,?_⟩
 refine HT.getItem_tuple_cut ht hs pl pu (by rw[hlen];exact hw) ?_ (by rw[hlen];exact hz)
 rw[hlen]
 refine⟨.ref s.heap.objs.size,_,I.laid (t':=s.toks) (o:=.tup (cutV xs lo hi)) (fun b ob q=>Heap.get?_push_of_some _ q) (Nat.le_refl _) ?_,rfl,q _ (I.hok.fresh (Nat.le_refl _))⟩
 exact⟨Nat.le_trans (cutV_length xs lo hi) hz,_,(r.drop (HT.sIx xs.length 0 lo)).take (HT.sIx xs.length xs.length hi - HT.sIx xs.length 0 lo),IsTup.new _ _⟩
noncomputable def rCatT (K:PySem.W.Frag):R2:=fun x y H Q=>∃a b xs ys,x=.ref a/\y=.ref b/\SqT K H a xs/\SqT K H b ys/\xs ≠ []/\xs.length + ys.length<=sizeLine/\
 (ys=[]->Q (.ref a) H)/\(ys ≠ []->∀p,H p=none->Q (.ref p) (upd H p (.tup (xs++ys))))
theorem Vals.nil_iff {xs:List V} {us:List Value} (r:Vals xs us):us=[] ↔ xs=[]:=by
 cases r with
 | nil=>simp
 | cons _ _=>simp
theorem op_catT:OpR X (binaryOp .Add) (rCatT X.K):=by
 intro pins s σ H x y v u Q I rx ry h
 obtain⟨a,b,xs,ys,rfl,rfl,ha,hb,hx,hz,q1,q2⟩:=h
 cases rx
 cases ry
 obtain⟨its,r1,p1,_⟩:=I.tuple ha
 obtain⟨its2,r2,p2,_⟩:=I.tuple hb
 refine HT.cat_tup p1 p2 (fun z=>hx (r1.nil_iff.mp z)) (fun z=>⟨.ref a,H,I,rfl,q1 (r2.nil_iff.mp z)⟩) (fun z=>?_) (by rw[<-r1.length,<-r2.length];exact hz)
 refine⟨.ref s.heap.objs.size,_,I.laid (t':=s.toks) (o:=.tup (xs++ys)) (fun b ob q=>Heap.get?_push_of_some _ q) (Nat.le_refl _) ?_,rfl,q2 (fun w=>z (r2.nil_iff.mpr w)) _ (I.hok.fresh (Nat.le_refl _))⟩
 exact⟨by rw[List.length_append];exact hz,_,r1.append r2,IsTup.new _ _⟩
end
end L2
namespace L2
open PySem PySem.Spec PyProof.Rows
noncomputable def ixN (n:Nat) (i:Int):Option Nat:=if 0<=i then(if i < n then some i.toNat else none)else if -(n:Int)<=i then some (i + n).toNat else none
noncomputable def atI {α:Type} (xs:List α) (i:Int):Option α:=(ixN xs.length i).bind fun j=>xs[j]?
theorem ixN_seq {n:Nat} {i:Int} {j:Nat} (h:ixN n i=some j):seqIndex? i n=some j/\j < n/\-(n:Int)<=i/\i < n:=by
 unfold ixN at h
 by_cases h0:0<=i
 ·rw[if_pos h0]at h
  by_cases h1:i < n
  ·rw[if_pos h1]at h
   have e:i.toNat=j:=Option.some.inj h
   exact⟨by rw[seqIndex_of h0 h1,e],by omega,by omega,h1⟩
  ·rw[if_neg h1]at h;cases h
 ·rw[if_neg h0]at h
  by_cases h1: -(n:Int)<=i
  ·rw[if_pos h1]at h
   have e:(i + n).toNat=j:=Option.some.inj h
   exact⟨by rw[seqIndex_neg (by omega) h1,e],by omega,h1,by omega⟩
  ·rw[if_neg h1]at h;cases h
theorem atI_get {α:Type} {xs:List α} {i:Int} {v:α} (h:atI xs i=some v):∃j,seqIndex? i xs.length=some j/\xs[j]?=some v/\j < xs.length/\-(xs.length:Int)<=i/\i < xs.length:=by
 unfold atI at h
 cases e:ixN xs.length i with
 | none=>rw[e]at h;cases h
 | some j=>
  rw[e]at h
  obtain⟨h1,h2,h3,h4⟩:=ixN_seq e
  exact⟨j,h1,h,h2,h3,h4⟩
noncomputable def PlainIx (b:Expr):Prop:=∀o i,subscripted b false o i=operate [o,i] (getItem o i)
noncomputable def IxR (X:Cx) (r:R2):Prop:=
 ∀ (value slice:Expr) (pins:List (Addr × Obj)) (s:Shared) (σ:St) (H:Hp) (x y:V) (v u:Value) (Q:VK),Inv X pins σ H s->RelV x v->RelV y u->r x y H Q->
  subscripted slice false v u=operate [v,u] (getItem v u)->wpAny (model X.prog X.w) X.A (subscriptTail value slice v u) (EP X pins σ Q) X.xe s
noncomputable def MtR (X:Cx) (id:String) (r:V->List V->Hp->VK->Prop):Prop:=
 ∀ (pins:List (Addr × Obj)) (s:Shared) (σ:St) (H:Hp) (x:V) (xs:List V) (v:Value) (us:List Value) (Q:VK),Inv X pins σ H s->RelV x v->Vals xs us->r x xs H Q->
  wpAny (model X.prog X.w) X.A (call (.builtin id) (v::us)) (EP X pins σ Q) X.xe s
section
variable {X:Cx} {a b:Expr} {ta tb:TE} {pos:Pos}
theorem IxR.or {r r':R2} (h:IxR X r) (h':IxR X r'):IxR X (fun x y H Q=>r x y H Q\/r' x y H Q):=by
 intro value slice pins s σ H x y v u Q I rx ry q hs
 rcases q with q | q
 ·exact h value slice pins s σ H x y v u Q I rx ry q hs
 ·exact h' value slice pins s σ H x y v u Q I rx ry q hs
theorem MtR.or {id:String} {r r':V->List V->Hp->VK->Prop} (h:MtR X id r) (h':MtR X id r'):MtR X id (fun x xs H Q=>r x xs H Q\/r' x xs H Q):=by
 intro pins s σ H x xs v us Q I rx rs q
 rcases q with q | q
 ·exact h pins s σ H x xs v us Q I rx rs q
 ·exact h' pins s σ H x xs v us Q I rx rs q
theorem pe_ix {r:R2} (hr:IxR X r) (ha:PE X a ta) (hb:PE X b tb) (hs:PlainIx b):PE X (.Subscript a b pos) (tOp r ta tb):=by
 intro pins s σ H Q I h
 exact Subscript_ (binT ha hb I h fun v u s2 x y H2 I2 rx ry q=>hr a b pins s2 σ H2 x y v u Q I2 rx ry q (hs _ _))
noncomputable def rIxL (K:PySem.W.Frag):R2:=fun x y H Q=>∃p xs i v,x=.ref p/\y=.int i/\SqL K H p xs/\atI xs i=some v/\Q v H
noncomputable def rIxT (K:PySem.W.Frag):R2:=fun x y H Q=>∃p xs i v,x=.ref p/\y=.int i/\SqT K H p xs/\atI xs i=some v/\Q v H
noncomputable def rIxS:R2:=fun x y H Q=>∃z i c,x=.str z/\y=.int i/\z.length<=sizeLine/\atI z.cps.toList i=some c/\Q (.str ⟨#[c]⟩) H
theorem ix_list:IxR X (rIxL X.K):=by
 intro value slice pins s σ H x y v u Q I rx ry h hs
 obtain⟨p,xs,i,z,rfl,rfl,hq,he,q⟩:=h
 cases rx
 obtain⟨t,rfl⟩:=ry
 obtain⟨its,r,pl,hz⟩:=I.list hq
 obtain⟨j,h1,h2,h3,h4,h5⟩:=atI_get he
 obtain⟨w,ew,rw'⟩:=r.get h2
 have hl:=r.length
 have hn:=line63
 have fin:EP X pins σ Q w s:=⟨z,H,I,rw',q⟩
 by_cases h0:0<=i
 ·have hj:i.toNat=j:=by
   rw[seqIndex_of h0 h5]at h1
   exact Option.some.inj h1
  exact item_listR pl.isList h0 (by omega) (by rw[hj];simpa using ew) fin hs
 ·have hj:(i + (its.toArray.size:Int)).toNat=j:=by
   rw[seqIndex_neg (by omega) h4]at h1
   rw[List.size_toArray,<-hl]
   exact Option.some.inj h1
  exact subscriptTail_builtinR (x:=w) pl.isList.typeIs slot_list_getitem.lookup
   (wpAny_getItem_list_neg (Q:=fun r s'=>r=w/\EP X pins σ Q r s') pl.isList (by omega) (by rw[List.size_toArray]<;>omega) (by omega) (by rw[hj];simpa using ew) ⟨rfl,fin⟩) hs
theorem ix_tup:IxR X (rIxT X.K):=by
 intro value slice pins s σ H x y v u Q I rx ry h hs
 obtain⟨p,xs,i,z,rfl,rfl,hq,he,q⟩:=h
 cases rx
 obtain⟨t,rfl⟩:=ry
 obtain⟨its,r,pl,hz⟩:=I.tuple hq
 obtain⟨j,h1,h2,h3,h4,h5⟩:=atI_get he
 obtain⟨w,ew,rw'⟩:=r.get h2
 have hl:=r.length
 have hn:=line63
 have fin:EP X pins σ Q w s:=⟨z,H,I,rw',q⟩
 exact subscriptTail_builtinR (x:=w) pl.typeIs slot_tuple_getitem.lookup
  (getItem_tuple (j:=j) (Q:=fun r s'=>r=w/\EP X pins σ Q r s') pl (by omega) (by omega) (by rw[List.size_toArray,<-hl];exact h1) (by simpa using ew) ⟨rfl,fin⟩) hs
theorem ix_str:IxR X rIxS:=by
 intro value slice pins s σ H x y v u Q I rx ry h hs
 obtain⟨z,i,c,rfl,rfl,hz,he,q⟩:=h
 obtain⟨t,rfl⟩:=rx
 obtain⟨t',rfl⟩:=ry
 obtain⟨j,h1,h2,h3,h4,h5⟩:=atI_get he
 have hl:z.cps.toList.length=z.length:=by simp[Str.length]
 rw[hl]at h1 h4 h5
 have hn:=line63
 exact tail_any (typeIs_str s z t) slot_str_getitem.lookup (getItem_str (c:=c) (by
  have e1:decide (i < -(2 ^ 63:Int))=false:=decide_eq_false (by omega)
  have e2:decide (i ≥ 2 ^ 63)=false:=decide_eq_false (by omega)
  rw[e1,e2,Bool.or_false]) (by rw[h1];simpa using h2) ⟨.str ⟨#[c]⟩,H,I.tok _,⟨_,rfl⟩,q⟩) hs
noncomputable def rIx (K:PySem.W.Frag):R2:=fun x y H Q=>rIxL K x y H Q\/rIxT K x y H Q\/rIxS x y H Q
theorem ix_seq:IxR X (rIx X.K):=ix_list.or (ix_tup.or ix_str)
theorem mapSeq_set (its:List Value) (n j:Nat) (u:Value):Obj.mapSeq (·.setIfInBounds j u) {cls:=.type "list",data:=.seq its.toArray n}={cls:=.type "list",data:=.seq (its.set j u).toArray n}:=by
 simp[Obj.mapSeq]
theorem Inv.lst {pins:List (Addr × Obj)} {σ:St} {H:Hp} {s:Shared} {p:Addr} {xs:List V} (I:Inv X pins σ H s) (h:H p=some (.lst xs)):
  ∃ (its:List Value) (n:Nat),Vals xs its/\s.heap.get? p=some {cls:=.type "list",data:=.seq its.toArray n}/\xs.length<=sizeLine:=by
 obtain⟨z,its,n,r,e⟩:=I.hok p _ h
 exact⟨its,n,r,e,z⟩
theorem Inv.lstUpd {pins:List (Addr × Obj)} {σ:St} {H:Hp} {s:Shared} {p:Addr} {xs ys:List V} {its its':List Value} {n n':Nat} {f:Obj->Obj} (I:Inv X pins σ H s) (h:H p=some (.lst xs))
  (ho:s.heap.get? p=some {cls:=.type "list",data:=.seq its.toArray n}) (hf:f {cls:=.type "list",data:=.seq its.toArray n}={cls:=.type "list",data:=.seq its'.toArray n'}) (r:Vals ys its') (hz:ys.length<=sizeLine) (t:Nat):
  Inv X pins σ (upd H p (.lst ys)) {s with heap:=s.heap.update p f,toks:=t}:=by
 have e:(s.heap.update p f).get? p=some {cls:=.type "list",data:=.seq its'.toArray n'}:=by
  rw[Heap.get?_update_self f ho (by rw[hf]<;>rfl),hf]
 refine I.write (x:=p) (e:=p) (by rw[h];trivial) (.inl rfl) (fun b u hb q=>(Heap.get?_update_other _ _ (Ne.symm hb)).trans q) ⟨_,e⟩ ?_
 exact⟨hz,its',n',r,e⟩
noncomputable def rSetL:V->V->V->Hp->(Hp->Prop)->Prop:=fun o i v H Q=>∃p xs k j,o=.ref p/\i=.int k/\H p=some (.lst xs)/\ixN xs.length k=some j/\Q (upd H p (.lst (xs.set j v)))
theorem set_list:PSet X rSetL:=by
 intro pins s σ H o i v ov iv u Q I ro ri rv h
 obtain⟨p,xs,k,j,rfl,rfl,hp,hj,q⟩:=h
 cases ro
 obtain⟨t,rfl⟩:=ri
 obtain⟨its,n,r,ho,hz⟩:=I.lst hp
 obtain⟨h1,h2,h3,h4⟩:=ixN_seq hj
 have hl:=r.length
 have hn:=line63
 have I':Inv X pins σ (upd H p (.lst (xs.set j v))) {s with heap:=s.heap.update p (Obj.mapSeq (·.setIfInBounds j u))}:=
  I.lstUpd hp ho (mapSeq_set its n j u) (r.set rv j) (by rw[List.length_set];exact hz) s.toks
 by_cases h0:0<=k
 ·have hk:k.toNat=j:=by
   rw[seqIndex_of h0 h4]at h1
   exact Option.some.inj h1
  exact PySem.W.ki_setAt ho h0 (by omega) (by rw[List.size_toArray,<-hl];exact h4) (by rw[hk];exact⟨_,I',q⟩)
 ·have hk:(k + (its.toArray.size:Int)).toNat=j:=by
   rw[seqIndex_neg (by omega) h3]at h1
   rw[List.size_toArray,<-hl]
   exact Option.some.inj h1
  exact PySem.W.ki_setBack ho (by omega) (by rw[List.size_toArray,<-hl];exact h3) (by omega) (by rw[hk];exact⟨_,I',q⟩)
theorem slice_bounds (lo hi:Option Int) (n:Nat):(sliceBounds lo hi none n).1=((HT.sIx n 0 lo:Nat):Int)/\(sliceBounds lo hi none n).2.1=((HT.sIx n n hi:Nat):Int)/\(sliceBounds lo hi none n).2.2=1:=by
 refine⟨?_,?_,rfl⟩
 ·cases lo with
  | none=>simp[sliceBounds,HT.sIx]
  | some i=>
   simp only[sliceBounds,HT.sIx,Option.getD_none,show(1:Int) > 0 by decide,if_true]
   by_cases h:i < 0
   ·simp only[h,if_true]<;>omega
   ·simp only[h,if_false]<;>omega
 ·cases hi with
  | none=>simp[sliceBounds,HT.sIx]
  | some i=>
   simp only[sliceBounds,HT.sIx,Option.getD_none,show(1:Int) > 0 by decide,if_true]
   by_cases h:i < 0
   ·simp only[h,if_true]<;>omega
   ·simp only[h,if_false]<;>omega
theorem slicePick_cut (its:List Value) (lo hi:Option Int):slicePick its.toArray lo hi none=((its.drop (HT.sIx its.length 0 lo)).take (HT.sIx its.length its.length hi - HT.sIx its.length 0 lo)).toArray:=by
 obtain⟨h1,h2,h3⟩:=slice_bounds lo hi its.toArray.size
 unfold slicePick
 rw[h1,h2,h3]
 simp only[sliceRange_one,pick_run,List.size_toArray]<;>rfl
noncomputable def rSlL (K:PySem.W.Frag):V->Option Int->Option Int->Hp->VK->Prop:=fun x lo hi H Q=>∃a xs,x=.ref a/\SqL K H a xs/\∀p,H p=none->Q (.ref p) (upd H p (.lst (cutV xs lo hi)))
theorem sl_list:SlR X (rSlL X.K):=by
 intro pins s σ H x v vl vu lo hi sl Q I rx hs pl pu h
 obtain⟨a,xs,rfl,hx,q⟩:=h
 cases rx
 obtain⟨its,r,ht,hz⟩:=I.list hx
 have hlen:=r.length
 refine⟨"list",_,slot_list_getitem.lookup,ht.isList.typeIs,?_⟩
 refine wpAny_getItem_list_slice ht.isList hs pl pu .none (by simp) ?_ (by rw[List.size_toArray]<;>omega)
 rw[slicePick_cut,<-hlen]
 refine⟨.ref s.heap.objs.size,_,I.laid (t':=s.toks) (o:=.lst (cutV xs lo hi)) (fun b ob q=>Heap.get?_push_of_some _ q) (Nat.le_refl _) ?_,rfl,q _ (I.hok.fresh (Nat.le_refl _))⟩
 exact⟨Nat.le_trans (cutV_length xs lo hi) hz,_,0,(r.drop (HT.sIx xs.length 0 lo)).take (HT.sIx xs.length xs.length hi - HT.sIx xs.length 0 lo),Heap.get?_push_size _ rfl⟩
noncomputable def flatV:V->Bool
 | .non=>true
 | .bl _=>true
 | .int _=>true
 | .str _=>true
 | _=>false
noncomputable def eqV:V->V->Bool
 | .non,.non=>true
 | .bl a,.bl b=>a == b
 | .bl a,.int b=>(if a then 1 else 0) == b
 | .int a,.bl b=>a == (if b then 1 else 0)
 | .int a,.int b=>a == b
 | .str a,.str b=>a == b
 | _,_=>false
theorem eqAt_V {A:Around} {s:Shared} {y x:V} {u v:Value} (ry:RelV y u) (rx:RelV x v) (fy:flatV y=true) (fx:flatV x=true):SeqAt.EqAt A s u v (eqV y x):=by
 cases y with
 | non=>
  cases ry
  cases x with
  | non=>cases rx;exact SeqAt.EqAt.same _
  | bl b=>cases rx;exact SeqAt.EqAt.none_bool b
  | int b=>obtain⟨t,rfl⟩:=rx;exact SeqAt.EqAt.none_int b t
  | str b=>obtain⟨t,rfl⟩:=rx;exact SeqAt.EqAt.none_str b t
  | _=>exact absurd (show false=true from fx) Bool.false_ne_true
 | bl a=>
  cases ry
  cases x with
  | non=>cases rx;exact SeqAt.EqAt.bool_none a
  | bl b=>cases rx;exact SeqAt.EqAt.bool_bool a b
  | int b=>obtain⟨t,rfl⟩:=rx;exact SeqAt.EqAt.bool_int a b t
  | str b=>obtain⟨t,rfl⟩:=rx;exact SeqAt.EqAt.bool_str a b t
  | _=>exact absurd (show false=true from fx) Bool.false_ne_true
 | int a=>
  obtain⟨t',rfl⟩:=ry
  cases x with
  | non=>cases rx;exact SeqAt.EqAt.int_none a t'
  | bl b=>cases rx;exact SeqAt.EqAt.int_bool a t' b
  | int b=>obtain⟨t,rfl⟩:=rx;exact SeqAt.EqAt.int_int a t' b t
  | str b=>obtain⟨t,rfl⟩:=rx;exact SeqAt.EqAt.int_str a t' b t
  | _=>exact absurd (show false=true from fx) Bool.false_ne_true
 | str a=>
  obtain⟨t',rfl⟩:=ry
  cases x with
  | non=>cases rx;exact SeqAt.EqAt.str_none a t'
  | bl b=>cases rx;exact SeqAt.EqAt.str_bool a t' b
  | int b=>obtain⟨t,rfl⟩:=rx;exact SeqAt.EqAt.str_int a t' b t
  | str b=>obtain⟨t,rfl⟩:=rx;exact SeqAt.EqAt.str_str a t' b t
  | _=>exact absurd (show false=true from fx) Bool.false_ne_true
 | _=>exact absurd (show false=true from fy) Bool.false_ne_true
noncomputable def eqU (x:V) (u:Value):Bool:=match u with
 | .none=>eqV .non x
 | .bool b=>eqV (.bl b) x
 | .int i _=>eqV (.int i) x
 | .str z _=>eqV (.str z) x
 | _=>false
theorem eqU_of {x y:V} {u:Value} (r:RelV y u) (f:flatV y=true):eqU x u=eqV y x:=by
 cases y with
 | non=>cases r;rfl
 | bl b=>cases r;rfl
 | int i=>obtain⟨t,rfl⟩:=r;rfl
 | str z=>obtain⟨t,rfl⟩:=r;rfl
 | _=>exact absurd (show false=true from f) Bool.false_ne_true
theorem any_eqU {x:V}:∀ {xs:List V} {us:List Value},Vals xs us->xs.all flatV=true->us.any (eqU x)=xs.any fun y=>eqV y x
 | _,_,.nil,_=>rfl
 | y::xs,u::us,.cons r t,f=>by
  rw[List.all_cons,Bool.and_eq_true]at f
  rw[List.any_cons,List.any_cons,eqU_of r f.1,any_eqU t f.2]
theorem mem_eqAt {A:Around} {s:Shared} {x:V} {v:Value} (rx:RelV x v) (fx:flatV x=true):∀ {xs:List V} {us:List Value},Vals xs us->xs.all flatV=true->∀u ∈ us,SeqAt.EqAt A s u v (eqU x u)
 | _,_,.nil,_=>fun u hu=>by cases hu
 | y::xs,u::us,.cons r t,f=>fun u' hu=>by
  rw[List.all_cons,Bool.and_eq_true]at f
  rcases List.mem_cons.mp hu with rfl | hu
  ·rw[eqU_of r f.1];exact eqAt_V r rx f.1 fx
  ·exact mem_eqAt rx fx t f.2 u' hu
noncomputable def inV (x:V) (xs:List V):Bool:=xs.any fun y=>eqV y x
noncomputable def rIn (K:PySem.W.Frag) (neg:Bool):R2:=fun x y H Q=>∃p xs,y=.ref p/\(SqL K H p xs\/SqT K H p xs)/\flatV x=true/\xs.all flatV=true/\Q (.bl (if neg then !inV x xs else inV x xs)) H
theorem op_in_seq:OpR X (compareOp .In) (rIn X.K false):=by
 intro pins s σ H x y v u Q I rx ry h
 obtain⟨p,xs,rfl,hq,fx,fs,q⟩:=h
 cases ry
 rcases hq with hq | hq
 ·obtain⟨its,r,pl,hz⟩:=I.list hq
  refine SeqAt.in_listAt (eqU x) pl.isList (fun w hw=>mem_eqAt rx fx r fs w (by simpa using hw)) ⟨.bl _,H,I,rfl,?_⟩
  rw[show its.toArray.any (eqU x)=its.any (eqU x) by simp,any_eqU r fs]
  exact q
 ·obtain⟨its,r,pl,hz⟩:=I.tuple hq
  refine SeqAt.in_tupleAt (eqU x) pl (fun w hw=>mem_eqAt rx fx r fs w (by simpa using hw)) ⟨.bl _,H,I,rfl,?_⟩
  rw[show its.toArray.any (eqU x)=its.any (eqU x) by simp,any_eqU r fs]
  exact q
theorem op_notIn_seq:OpR X (compareOp .NotIn) (rIn X.K true):=by
 intro pins s σ H x y v u Q I rx ry h
 obtain⟨p,xs,rfl,hq,fx,fs,q⟩:=h
 cases ry
 rcases hq with hq | hq
 ·obtain⟨its,r,pl,hz⟩:=I.list hq
  refine SeqAt.notIn_listAt (eqU x) pl.isList (fun w hw=>mem_eqAt rx fx r fs w (by simpa using hw)) ⟨.bl _,H,I,rfl,?_⟩
  rw[show its.toArray.any (eqU x)=its.any (eqU x) by simp,any_eqU r fs]
  exact q
 ·obtain⟨its,r,pl,hz⟩:=I.tuple hq
  refine SeqAt.notIn_tupleAt (eqU x) pl (fun w hw=>mem_eqAt rx fx r fs w (by simpa using hw)) ⟨.bl _,H,I,rfl,?_⟩
  rw[show its.toArray.any (eqU x)=its.any (eqU x) by simp,any_eqU r fs]
  exact q
theorem call_len_seq:CallR X (.builtin "len") (fun xs H Q=>∃p ys,xs=[.ref p]/\(SqL X.K H p ys\/SqT X.K H p ys)/\Q (.int ys.length) H):=by
 intro pins s σ H xs us Q I r h
 obtain⟨p,ys,rfl,hq,q⟩:=h
 obtain⟨u,rfl,rx⟩:=vals1 r
 cases rx
 have hn:=line63
 rcases hq with hq | hq
 ·obtain⟨its,r',pl,hz⟩:=I.list hq
  have hlen:=r'.length
  exact Calls.call_len_list pl.isList (by simp only[List.size_toArray]<;>omega) ⟨.int ys.length,H,I.tok _,⟨s.toks + 1,by rw[List.size_toArray,hlen]⟩,q⟩
 ·obtain⟨its,r',pl,hz⟩:=I.tuple hq
  have hlen:=r'.length
  exact len_tuple pl (by simp only[List.size_toArray]<;>omega) ⟨.int ys.length,H,I.tok _,⟨s.toks + 1,by rw[List.size_toArray,hlen]⟩,q⟩
theorem call_len_str:CallR X (.builtin "len") (fun xs H Q=>∃z,xs=[.str z]/\z.length<=sizeLine/\Q (.int z.length) H):=by
 intro pins s σ H xs us Q I r h
 obtain⟨z,rfl,hz,q⟩:=h
 obtain⟨u,rfl,t,rfl⟩:=vals1 r
 have hn:=line63
 exact len_str (by omega) ⟨.int z.length,H,I.tok _,⟨_,rfl⟩,q⟩
theorem CallR.or {f:Value} {r r':List V->Hp->VK->Prop} (h:CallR X f r) (h':CallR X f r'):CallR X f (fun xs H Q=>r xs H Q\/r' xs H Q):=by
 intro pins s σ H xs us Q I rs q
 rcases q with q | q
 ·exact h pins s σ H xs us Q I rs q
 ·exact h' pins s σ H xs us Q I rs q
theorem call_list_of:CallR X (.type "list") (fun xs H Q=>∃p ys,xs=[.ref p]/\(SqL X.K H p ys\/SqT X.K H p ys)/\∀l,H l=none->Q (.ref l) (upd H l (.lst ys))):=by
 intro pins s σ H xs us Q I r h
 obtain⟨p,ys,rfl,hq,q⟩:=h
 obtain⟨u,rfl,rx⟩:=vals1 r
 cases rx
 have fin:∀ (its:List Value),Vals ys its->ys.length<=sizeLine->∀ (h':Heap) (c':Nat),(∀ b o',s.heap.get? b=some o'->h'.get? b=some o')->
   h'.get? s.heap.objs.size=some {cls:=.type "list",dict:=none,data:=.seq its.toArray c',slots:=#[]}->EP X pins σ Q (.ref s.heap.objs.size) {s with heap:=h'}:=fun its r' hz h' c' kp e=>
  ⟨.ref s.heap.objs.size,_,I.laid (t':=s.toks) kp (Nat.le_refl _) (show ObjOk X.prog X.w _ h' _ (.lst ys)from⟨hz,its,c',r',e⟩),rfl,q _ (I.hok.fresh (Nat.le_refl _))⟩
 rcases hq with hq | hq
 ·obtain⟨its,r',pl,hz⟩:=I.list hq
  have hlen:=r'.length
  obtain⟨o,ho,hc,n,hd⟩:=pl.isList
  exact call_list_seq p (.inl rfl) ho hc hd (fun h' c' kp e=>fin its r' hz h' c' kp e) (by simp only[List.size_toArray]<;>omega)
 ·obtain⟨its,r',pl,hz⟩:=I.tuple hq
  have hlen:=r'.length
  obtain⟨o,ho,hc,n,hd⟩:=pl
  exact call_list_seq p (.inr rfl) ho hc hd (fun h' c' kp e=>fin its r' hz h' c' kp e) (by simp only[List.size_toArray]<;>omega)
noncomputable def tyV (K:PySem.W.Frag) (T:String) (x:V) (H:Hp):Prop:=match x with
 | .str _=>T= "str"
 | .int _=>T= "int"
 | .ref p=>(T= "list" /\∃xs,SqL K H p xs)\/(T= "tuple" /\∃o,K.lookup p=some o/\o.cls=.type "tuple" /\o.dict=none)\/
   (T= "dict" /\((∃ kvs,H p=some (.dK kvs))\/∃kvs,H p=some (.dT kvs)))\/(T= "set" /\∃S n,H p=some (.set S n))
 | _=>False
theorem tyV_is {pins:List (Addr × Obj)} {σ:St} {H:Hp} {s:Shared} {T:String} {x:V} {v:Value} (I:Inv X pins σ H s) (r:RelV x v) (ty:tyV X.K T x H):
  s.TypeIs v T/\∀a,v=.ref a->∃ob,s.heap.get? a=some ob/\ob.dict=none:=by
 cases x with
 | str z=>
  obtain⟨t,rfl⟩:=r
  cases (show T= "str" from ty)
  exact⟨typeIs_str s z t,fun _ e=>nomatch e⟩
 | int i=>
  obtain⟨t,rfl⟩:=r
  cases (show T= "int" from ty)
  exact⟨typeIs_int s i t,fun _ e=>nomatch e⟩
 | ref p=>
  cases r
  rcases ty with ⟨rfl,xs,hq⟩ | ⟨rfl,o,hk,hc,hd⟩ | ⟨rfl,hk⟩ | ⟨rfl,S,n,hk⟩
  ·obtain⟨its,_,pl,_⟩:=I.list hq
   refine⟨pl.isList.typeIs,fun a e=>?_⟩
   cases e
   obtain⟨o,n,e,c,hd,_⟩:=pl
   exact⟨o,e,hd⟩
  ·refine⟨⟨o,I.kIn p o hk,hc⟩,fun a e=>?_⟩
   cases e
   exact⟨o,I.kIn _ o hk,hd⟩
  ·have z:∃o,s.heap.get? p=some o/\o.ExactDict:=by
    rcases hk with ⟨kvs,hk⟩ | ⟨kvs,hk⟩
    ·obtain⟨_,_,_,_,o,_,_,e,ex,_⟩:=I.hok p _ hk
     exact⟨o,e,ex⟩
    ·obtain⟨_,_,_,_,o,_,_,e,ex,_⟩:=I.hok p _ hk
     exact⟨o,e,ex⟩
   obtain⟨o,e,ex⟩:=z
   refine⟨⟨o,e,ex.1⟩,fun a e2=>?_⟩
   cases e2
   exact⟨o,e,ex.2.1⟩
  ·obtain⟨o,_,_,_,e,ex,_⟩:=I.hok p _ hk
   refine⟨⟨o,e,ex.1⟩,fun a e2=>?_⟩
   cases e2
   exact⟨o,e,ex.2.1⟩
 | _=>exact False.elim ty
variable {o e:Expr} {es:List Expr} {to:TE} {t:TA} {name:Str} {apos cpos:Pos} {T id:String} {r:V->List V->Hp->VK->Prop}
end
end L2
namespace L2
open PySem PySem.Spec PyProof.Rows
noncomputable def MtM (X:Cx) (id:String) (r:V->List V->Hp->VK->Prop):Prop:=
 ∀ (pins:List (Addr × Obj)) (s:Shared) (σ:St) (H:Hp) (x:V) (xs:List V) (v:Value) (us:List Value) (Q:VK),Inv X pins σ H s->RelV x v->Vals xs us->r x xs H Q->
  wpAny (model X.prog X.w) X.A (call (.builtin id) (v::us)) (EP X pins σ Q) X.xe s
theorem Vals.one:∀ {x:V} {us:List Value},Vals [x] us->∃u,us=[u]/\RelV x u
 | _,_,.cons r .nil=>⟨_,rfl,r⟩
theorem Vals.two:∀ {x y:V} {us:List Value},Vals [x,y] us->∃u v,us=[u,v]/\RelV x u/\RelV y v
 | _,_,_,.cons r (.cons q .nil)=>⟨_,_,rfl,r,q⟩
theorem Vals.zero:∀ {us:List Value},Vals [] us->us=[]
 | _,.nil=>rfl
theorem Vals.reverse {xs:List V} {us:List Value} (h:Vals xs us):Vals xs.reverse us.reverse:=by
 induction h with
 | nil=>exact .nil
 | cons r t ih=>rw[List.reverse_cons,List.reverse_cons];exact Vals.append ih (.cons r .nil)
theorem Vals.rep {xs:List V} {us:List Value} (h:Vals xs us):∀k:Nat,Vals (List.replicate k xs).flatten (List.replicate k us).flatten
 | 0=>.nil
 | k + 1=>by
  rw[List.replicate_succ,List.replicate_succ,List.flatten_cons,List.flatten_cons]
  exact Vals.append h (Vals.rep h k)
theorem foldl_rep (its:List Value):∀ (k:Nat) (acc:List Value),
  List.foldl (fun x1 x2=>x1++x2) acc.toArray (List.replicate k its.toArray)=(acc++(List.replicate k its).flatten).toArray
 | 0,acc=>by simp
 | k + 1,acc=>by
  have e:acc.toArray++its.toArray=(acc++its).toArray:=by simp
  have e2:(acc++its)++(List.replicate k its).flatten=acc++(List.replicate (k + 1) its).flatten:=by
   rw[List.replicate_succ,List.flatten_cons,List.append_assoc]
  rw[<-e2,<-foldl_rep its k (acc++its),<-e,List.replicate_succ,List.foldl_cons]
section
variable {X:Cx} {pins:List (Addr × Obj)} {σ:St} {H:Hp} {s:Shared} {l b:Addr} {xs ys zs:List V}
theorem Inv.lset {its its':List Value} {n:Nat} {f:Array Value->Array Value} {t':Nat} (I:Inv X pins σ H s) (hH:H l=some (.lst xs))
  (e:s.heap.get? l=some {cls:=.type "list",data:=.seq its.toArray n}) (hf:f its.toArray=its'.toArray) (hv:Vals ys its') (hz:ys.length<=sizeLine):
  Inv X pins σ (upd H l (.lst ys)) {s with heap:=s.heap.update l (Obj.mapSeq f),toks:=t'}:=by
 have q:=PySem.IsL.update e f
 rw[hf]at q
 refine I.write (x:=l) (e:=l) (by rw[hH];exact trivial) (.inl rfl) (fun b' u hb hu=>(Heap.get?_update_other s.heap (Obj.mapSeq f) (Ne.symm hb)).trans hu) ⟨_,q⟩ ?_
 exact⟨hz,its',_,hv,q⟩
theorem Inv.lnew {its:List Value} {t':Nat} (I:Inv X pins σ H s) (hv:Vals ys its) (hz:ys.length<=sizeLine):
  Inv X pins σ (upd H s.heap.objs.size (.lst ys)) {s with heap:=s.heap.push {cls:=.type "list",data:=.seq its.toArray},toks:=t'}:=
 I.laid (fun _ _ q=>Heap.get?_push_of_some _ q) (Nat.le_refl _) ⟨hz,its,0,hv,Heap.get?_push_size _ rfl⟩
theorem Inv.fresh (I:Inv X pins σ H s):H s.heap.objs.size=none:=I.hok.fresh (Nat.le_refl _)
theorem Inv.lstM (I:Inv X pins σ H s) (hH:H l=some (.lst xs)):xs.length<=sizeLine/\∃ (its:List Value) (n:Nat),Vals xs its/\xs.length=its.length/\s.heap.get? l=some {cls:=.type "list",data:=.seq its.toArray n}:=by
 obtain⟨z,its,n,r,e⟩:=I.hok l _ hH
 exact⟨z,its,n,r,r.length,e⟩
theorem notLongL {n:Nat} (h:n<=sizeLine):Builtin.List.listTooLong n=false:=by
 unfold Builtin.List.listTooLong
 exact decide_eq_false (by omega)
end
section
variable {X:Cx}
noncomputable def rAppend:V->List V->Hp->VK->Prop:=fun x vs H Q=>∃l xs y,x=.ref l/\vs=[y]/\H l=some (.lst xs)/\xs.length < sizeLine/\Q .non (upd H l (.lst (xs++[y])))
theorem mt_append:MtM X "list.append" rAppend:=by
 intro pins s σ H x vs v us Q I rx rv h
 obtain⟨l,xs,y,rfl,rfl,hH,hz,q⟩:=h
 cases rx
 obtain⟨u,rfl,ru⟩:=rv.one
 obtain⟨z,its,n,r,hl,e⟩:=I.lstM hH
 refine call_meets F.slot_list_append ⟨_,e,rfl⟩ F.entry_list_append (F.args_list_append_2 _ _) (PySem.list_append l its.toArray n u (by rw[List.size_toArray];omega)) ⟨e,?_⟩
 refine⟨.non,_,I.lset (its':=its++[u]) hH e (by simp) (r.append (.cons ru .nil)) ?_,rfl,q⟩
 rw[List.length_append,List.length_singleton]
 omega
noncomputable def rExtend:V->List V->Hp->VK->Prop:=fun x vs H Q=>∃l b xs zs,x=.ref l/\vs=[.ref b]/\H l=some (.lst xs)/\H b=some (.lst zs)/\xs.length + zs.length<=sizeLine/\Q .non (upd H l (.lst (xs++zs)))
theorem mt_extend:MtM X "list.extend" rExtend:=by
 intro pins s σ H x vs v us Q I rx rv h
 obtain⟨l,b,xs,zs,rfl,rfl,hH,hB,hz,q⟩:=h
 cases rx
 obtain⟨u,rfl,ru⟩:=rv.one
 cases ru
 obtain⟨z,its,n,r,hl,e⟩:=I.lstM hH
 obtain⟨z2,its2,n2,r2,hl2,e2⟩:=I.lstM hB
 have hsz:its.toArray.size + its2.toArray.size<=sizeLine:=by rw[List.size_toArray,List.size_toArray];omega
 have hlong:¬ (!its.toArray.isEmpty && Builtin.List.listTooLong (its.toArray.size + its2.toArray.size))=true:=by
  rw[notLongL hsz,Bool.and_false]
  exact Bool.false_ne_true
 refine call_meets F.slot_list_extend ⟨_,e,rfl⟩ F.entry_list_extend (F.args_list_extend_2 _ _)
  (AutoSeq1.list_extend_list_list_0 l its.toArray n b its2.toArray n2 hlong (by rw[List.size_toArray];omega) (by omega)) ⟨e,e2,?_⟩
 refine⟨.non,_,I.lset (its':=its++its2) hH e (by simp) (r.append r2) ?_,rfl,q⟩
 rw[List.length_append]
 omega
noncomputable def rClear:V->List V->Hp->VK->Prop:=fun x vs H Q=>∃l xs,x=.ref l/\vs=[]/\H l=some (.lst xs)/\Q .non (upd H l (.lst []))
theorem mt_clear:MtM X "list.clear" rClear:=by
 intro pins s σ H x vs v us Q I rx rv h
 obtain⟨l,xs,rfl,rfl,hH,q⟩:=h
 cases rx
 have hus:=rv.zero
 subst hus
 obtain⟨z,its,n,r,hl,e⟩:=I.lstM hH
 refine call_meets F.slot_list_clear ⟨_,e,rfl⟩ F.entry_list_clear (F.args_list_clear_1 _) (AutoSeq1.list_clear_list_0 l its.toArray n (by rw[List.size_toArray];omega)) ⟨e,?_⟩
 exact⟨.non,_,I.lset (its':=[]) (ys:=[]) hH e rfl .nil (Nat.zero_le _),rfl,q⟩
noncomputable def rRep:R2:=fun x y H Q=>∃l k xs,x=.ref l/\y=.int k/\H l=some (.lst xs)/\-(2 ^ 63)<=k/\k < 2 ^ 63/\xs.length * k.toNat<=sizeLine/\
 ∀p,H p=none->Q (.ref p) (upd H p (.lst (List.replicate k.toNat xs).flatten))
theorem len_rep {α:Type} (xs:List α) (k:Nat):(List.replicate k xs).flatten.length=k * xs.length:=by
 induction k with
 | zero=>simp
 | succ k ih=>rw[List.replicate_succ,List.flatten_cons,List.length_append,ih,Nat.succ_mul,Nat.add_comm]
theorem op_rep:OpR X (binaryOp .Mult) rRep:=by
 intro pins s σ H x y v u Q I rx ry h
 obtain⟨l,k,xs,rfl,rfl,hH,h1,h2,hz,q⟩:=h
 cases rx
 obtain⟨t,rfl⟩:=ry
 obtain⟨z,its,n,r,hl,e⟩:=I.lstM hH
 have hlen:its.toArray.size * k.toNat<=sizeLine:=by rw[List.size_toArray,<-hl];exact hz
 have hcap:¬its.toArray.size * k.toNat > (2 ^ 63 - 1) / 8:=by
  have:(sizeLine:Nat)<=(2 ^ 63 - 1) / 8:=by decide
  omega
 have hfit:¬ (!Builtin.List.listFitsIndex k)=true:=by
  rw[fitsIndex_both h1 h2]
  exact Bool.false_ne_true
 have hlong:¬Builtin.List.listTooLong (its.toArray.size * k.toNat)=true:=by
  rw[notLongL hlen]
  exact Bool.false_ne_true
 have hnew:List.foldl (fun x1 x2=>x1++x2) #[] (List.replicate (if its.toArray.isEmpty=true then 0 else k.toNat) its.toArray)=(List.replicate k.toNat its).flatten.toArray:=by
  have f0:∀m:Nat,List.foldl (fun x1 x2=>x1++x2) #[] (List.replicate m its.toArray)=(List.replicate m its).flatten.toArray:=fun m=>by
   have:=foldl_rep its m []
   rw[List.nil_append]at this
   exact this
  rw[f0]
  cases its with
  | nil=>simp
  | cons a r'=>rw[if_neg (by simp)]
 refine wpAny_binaryOp_repeat_ref (T:= "list") (U:= "int") (by decide) ⟨_,e,rfl⟩ (fun s'=>typeIs_int s' k t) noFill_list_mul F.fills_int_mul F.slot_int_rmul repeat_list F.slot_int_index.lookup
  (call_meets F.slot_int_rmul (typeIs_int s k t) F.entry_int_rmul (F.args_int_rmul_2 _ _) (int___rmul___int_list k t l its.toArray n)
   ⟨e,rfl,⟨_,e,rfl⟩,call_meets F.slot_list_mul ⟨_,e,rfl⟩ F.entry_list_mul (F.args_list_mul_2 _ _) (AutoListH.list___mul___list_int_3 l its.toArray n k t hfit hcap hlong) ⟨e,?_⟩⟩)
 rw[hnew]
 exact⟨.ref _,_,I.lnew (t':=s.toks) (r.rep k.toNat) (by rw[len_rep,Nat.mul_comm];exact hz),rfl,q _ I.fresh⟩
end
section
variable {prog:Program} {w:World} {A:Around} {E:Value->Shared->Prop} {s:Shared}
end
section
variable {X:Cx}
end
end L2
namespace Att
open PySem PySem.W PySem.Calls PyProof.Rows
theorem ints_of_wellAll {P:Params} {h:Heap}:∀ (ns:List Int) (vs:List Value),WellAll P h vs (ns.map WData.int)->IntsAre vs ns:=by
 intro ns
 induction ns with
 | nil=>
  intro vs w
  rw[List.map_nil]at w
  cases w
  exact .nil
 | cons n ns ih=>
  intro vs w
  rw[List.map_cons]at w
  cases w with
  | cons a b=>
   cases a
   exact .cons _ _ (ih _ b)
theorem script_of {l:OpenLaw} {n:Nat} (hn:l.most=some n) {P:Params} {h:Heap} {args:List WData} {vals:List Value}
  (hpre:l.row.toRowW.claim.pre args=true) (hwl:WellAll P h vals args):
  ∃a vs ns,vals=[Value.ref a]/\args=[WData.list (ns.map WData.int)]/\h.get? a=some {cls:=.type "list",data:=.seq vs.toArray}/\IntsAre vs ns/\ns.length<=n:=by
 have hsh:WShape.hasAll [] args [.list .int]=true:=(pre_splitW hpre).1
 have hc:l.pre.holds [] {args:=args}=true:=(pre_splitW hpre).2
 obtain⟨d,r,rfl,h1,h2⟩:=hasAllW_cons hsh
 obtain rfl:=hasAllW_nil h2
 obtain⟨xs,rfl,h3⟩:=hasW_list h1
 obtain⟨ns,rfl⟩:=items_int h3
 have hlen:ns.length<=n:=by
  unfold OpenLaw.pre at hc
  have h4:(WTm.not (.lt (.lit (.int (n:Int))) (.len (.arg 0)))).holds [] {args:=[.list (ns.map .int)]}=true:=by
   have h4:=(holds_andW hc).1
   rw[hn]at h4
   exact h4
  have h5:=condW_of h4 (w_not (w_lt w_lit (w_len_list (w_arg rfl))))
  rw[List.length_map]at h5
  refine Nat.le_of_not_lt fun q=>?_
  have q':(n:Int) < ((ns.length:Nat):Int):=by omega
  first
   | (rw[decide_eq_true q']at h5;exact absurd h5 (by decide))
   | (simp at h5;omega)
 cases hwl with
 | cons w1 w2=>
  cases w2
  cases w1 with
  | list ho hall=>exact⟨_,_,ns,rfl,rfl,ho,ints_of_wellAll ns _ hall,hlen⟩
theorem post_true (l:OpenLaw) (args:List WData):l.row.toRowW.claim.post args (.bool true) args=true:=
 postW_of (r:=l.row.toRowW) (X:=(true == true))
  (show WShape.has [] (.bool true) .bool=true by first | rfl | decide | simp[WShape.has,WShape.arms,WShape.armsAll])
  (show(WTm.eq .res (.lit (.bool true))).value [] {args:=args,res:=some (.bool true),after:=args}=some (.bool (true == true))from w_eq_bool (w_res rfl) w_lit) rfl
theorem attach_call {l:OpenLaw} {n:Nat} {q:Program} {loose:List Str} {XP:(Str->Option Value)->Heap->Prop} {YP:World->Heap->Prop} {d:DefRec}
  (hn:l.most=some n) (hdf:d.params.defaults=[])
  (call:∀ (w:World) (s₀ s₁:Shared) (mg mb:Str->Option Value) (fa:Addr) (o:Obj) (pm cd doc:Value) (a:Addr) (vs:List Value) (ns:List Int),
   Ground q loose [] XP w s₀ mg mb s₁.heap->YP w s₁.heap->
   s₁.heap.get? fa=some o->o.data=.func (docDef d.name d.params d.body d.scope pm cd doc)->s₁.heap.CodeRec cd d.name->mg d.name=some (.ref fa)->
   s₁.heap.get? a=some {cls:=.type "list",data:=.seq vs.toArray}->IntsAre vs ns->ns.length<=n->s₁.gens=#[]->
   codeAny (model l.prog w) callerA (.call (.ref fa) ⟨[.ref a],[]⟩) (fun r s'=>r=.ok (.ret (.bool true))/\OldK s₁.heap s'.heap/\s'.os=s₁.os/\AllBare s'.gens) s₁):
  WalkO q loose XP YP l.row.toRowW d [] (fun f vs=>PySem.call f vs):=by
 intro w s₀ s₁ mg mb G Y fa o pm cd doc dV kV ho hd hcd hD hmg hg args vals as hpre hlay hrd hwl hlo
 obtain rfl:dV=.none:=Dflts.none hD hdf
 obtain rfl:kV=.none:=Dflts.noKw hD
 obtain⟨a,vs,ns,rfl,rfl,hobj,hints,hlen⟩:=script_of hn hpre hwl
 refine enter_call (codeAny_mono (call w s₀ s₁ mg mb fa o pm cd doc a vs ns G Y ho (fd_plain hd) hcd hmg hobj hints hlen hg) fun r s' hq=>?_)
 obtain⟨rfl,h2,h3,h4⟩:=hq
 exact⟨.inl ⟨.bool true,.bool true,[],rfl,fun _=>rfl,.bool true,post_true l _,fun _=>⟨List.Pairwise.nil,fun _ hm=>(nomatch hm)⟩⟩,h2,h3,h4⟩
section
variable {prog:Program} {w:World} {A:Around} {E:Value->Shared->Prop} {s:Shared} {K:Frag}
end
end Att
namespace L2
open PySem PySem.Spec PyProof.Rows
theorem vals_ints:∀ {vs:List Value} {ns:List Int},IntsAre vs ns->Vals (ns.map V.int) vs
 | _,_,.nil=>.nil
 | _,_,.cons n t h=>.cons ⟨t,rfl⟩ (vals_ints h)
noncomputable def Only (H:Hp):Prop:=∀b,H b=none\/∃o xs,H b=some (.frz o (.lst xs))
theorem law_call {P:Program} {w:World} {K:PySem.W.Frag} {mg mb:Str->Option Value} {CX:CXT} {k:Nat} {fa a:Addr} {fd:FuncData} {x:Str} {sp:Sp} {s₁:Shared} {vs:List Value} {ns:List Int}
  (KX:K.In s₁.heap) (hns:s₁.heap.Ns mainGlobals mg) (hb:s₁.heap.Ns builtinsNs mb) (hbb:∀x:Str,x ≠ "__name__" ->mb x=bootBuiltins x) (hlim:s₁.heap.NoLimit) (hg:s₁.gens=#[])
  (ha:s₁.heap.get? a=some {cls:=.type "list",data:=.seq vs.toArray}) (hi:IntsAre vs ns) (hl:ns.length<=sizeLine) (hr:Room k callerA)
  (F:∀base:Heap,K.In base->base.Ns mainGlobals mg->FnOk P w K mg base CX k fa fd [x] sp) (hbind:∀ (s:Shared) (u:Value),BindsTo s fd ⟨[u],[]⟩ [(x,u)])
  (hsp:∀H:Hp,Only H->SqL K H a (ns.map V.int)->sp [.ref a] H (fun v _=>v=.bl true) fun _ _ _=>False)
  (hCX:∀H e s',CX [] H s₁ (fun _ _ _=>False) e s'->False):
  codeAny (model P w) callerA (.call (.ref fa) ⟨[.ref a],[]⟩) (fun r s'=>r=.ok (.ret (.bool true))/\OldK s₁.heap s'.heap/\s'.os=s₁.os/\AllBare s'.gens) s₁:=by
 have rv:=vals_ints hi
 have lenV:=hi.length
 -- from an abstract heap in which nothing but the script may be tracked
 have core:∀H:Hp,Only H->SqL K H a (ns.map V.int)->HOk P w H s₁.heap->(∀ b,H b ≠ none->b=a)->(H a ≠ none->K.lookup a=none)->
   codeAny (model P w) callerA (.call (.ref fa) ⟨[.ref a],[]⟩) (fun r s'=>r=.ok (.ret (.bool true))/\OldK s₁.heap s'.heap/\s'.os=s₁.os/\AllBare s'.gens) s₁:=by
  intro H hO hS hok hA hK
  have base_of:∀ {b:Addr} {o:Obj},s₁.heap.get? b=some o->H b=none->(hidT s₁.heap H).get? b=some o:=fun e n=>hidT_get e n
  have noA:∀ {b:Addr} {o:Obj} {es:Array DictEntry} {ep:Nat},s₁.heap.get? b=some o->o.data=.dict es ep->H b=none:=fun{b o es ep} e d=>by
   cases q:H b with
   | none=>rfl
   | some u=>
    have e':b=a:=hA b (by rw[q];simp)
    subst e'
    rw[ha]at e;cases e
    have d':Data.seq vs.toArray _=Data.dict es ep:=d
    cases d'
  have nsK:∀ {b:Addr} {m:Str->Option Value},s₁.heap.Ns b m->(hidT s₁.heap H).Ns b m:=fun{b m} ⟨o,es,ep,e,d,r⟩=>⟨o,es,ep,base_of e (noA e d),d,r⟩
  have hKb:K.In (hidT s₁.heap H):=fun b o e=>base_of (KX b o e) (by
   cases q:H b with
   | none=>rfl
   | some u=>
    have e':b=a:=hA b (by rw[q];simp)
    subst e'
    rw[hK (by rw[q];simp)]at e;cases e)
  have hM:Mod K mg (hidT s₁.heap H):=⟨hKb,nsK hns,⟨mb,nsK hb,hbb⟩,let ⟨mc,h1,h2⟩:=hlim;⟨mc,nsK h1,h2⟩⟩
  have e0:Env0 P w K mg (hidT s₁.heap H) callerA [] s₁ H:=⟨rfl,hM,fun b o e=>of_hidT e,Nat.le_of_eq (hidT_size _ _),trivial,fun b hb=>absurd (show b ∈ ([]:List Addr)from hb) (by simp),hok,.of_eq hg⟩
  refine codeAny_mono ((F _ hKb (nsK hns)).run callerA [] s₁ H ⟨[.ref a],[]⟩ [.ref a] [.ref a] _ _ hr e0 (hbind s₁ (.ref a)) (.cons rfl .nil) (hsp H hO hS)) fun r s' h=>?_
  cases r with
  | error e=>exact(hCX H e s' h).elim
  | ok fl=>
   cases fl with
   | next=>exact False.elim h
   | brk=>exact False.elim h
   | cont=>exact False.elim h
   | ret u=>
    obtain⟨v,H',os,bare,un,hok',r',q⟩:=h
    have q':v=.bl true:=q
    subst q'
    obtain rfl:u=Value.bool true:=r'
    refine⟨rfl,OldK.of_keep fun b o e=>?_,os,bare⟩
    cases q:H b with
    | none=>exact un.keep b o e q (by intro z;exact absurd (show b ∈ ([]:List Addr)from z) (by simp)) (by simp)
    | some u=>
     rcases hO b with z | ⟨ob,xs,z⟩
     ·rw[q]at z;cases z
     ·have z2:=un.frzs b ob _ z
      obtain⟨e1,_⟩:=hok b _ z
      obtain⟨e2,_⟩:=hok' b _ z2
      rw[e]at e1;cases e1
      exact e2
 cases hk:K.lookup a with
 | some o=>
  -- the script is one of the module's own objects
  have e:=KX a o hk
  rw[ha]at e
  cases e
  refine core (fun _=>none) (fun _=>.inl rfl) (.inr ⟨_,vs.toArray,_,hk,rfl,rfl,rfl,by rw[List.size_toArray,lenV];exact hl,by simpa using rv⟩) (fun b u z=>by have z':(none:Option HO)=some u:=z;cases z') (fun b z=>absurd rfl z) fun z=>absurd rfl z
 | none=>
  refine core (fun b=>if b=a then some (.frz {cls:=.type "list",data:=.seq vs.toArray} (.lst (ns.map V.int)))else none) (fun b=>?_) (.inl (.inr ⟨{cls:=.type "list",data:=.seq vs.toArray},if_pos rfl⟩)) (fun b u z=>?_) (fun b z=>?_) fun _=>hk
  ·by_cases hb:b=a
   ·exact .inr ⟨_,_,if_pos hb⟩
   ·exact .inl (if_neg hb)
  ·by_cases hb:b=a
   ·have z':=(if_pos hb).symm.trans z
    cases z'
    subst hb
    exact⟨ha,by rw[List.length_map];exact hl,vs,_,rv,ha⟩
   ·have z':=(if_neg hb).symm.trans z
    cases z'
  ·by_cases hb:b=a
   ·exact hb
   ·exact absurd (if_neg hb) z
end L2
namespace L2
open PySem PySem.Spec PyProof.Rows
theorem walk_of {l:PySem.W.OpenLaw} {n k:Nat} {q:Program} {loose:List Str} {XP:(Str->Option Value)->Heap->Prop} {YP:World->Heap->Prop} {d:DefRec} {K:Params->PySem.W.Frag} {CX:World->CXT} {sp:World->Sp} {x:Str}
  (hn:l.most=some n) (hn2:n<=sizeLine) (hdf:d.params.defaults=[]) (hr:Room k callerA)
  (hY:∀ (w:World) (h:Heap),YP w h->(K w.params).In h)
  (F:∀ (w:World) (mg:Str->Option Value) (fa:Addr) (h:Heap),(K w.params).In h->h.Ns mainGlobals mg->mg d.name=some (.ref fa)->
   ∃fd:FuncData,(∀ (s:Shared) (u:Value),BindsTo s fd ⟨[u],[]⟩ [(x,u)])/\
    ∀base:Heap,(K w.params).In base->base.Ns mainGlobals mg->FnOk l.prog w (K w.params) mg base (CX w) k fa fd [x] (sp w))
  (hsp:∀ (w:World) (H:Hp) (a:Addr) (ns:List Int),ns.length<=n->Only H->SqL (K w.params) H a (ns.map V.int)->sp w [.ref a] H (fun v _=>v=.bl true) fun _ _ _=>False)
  (hCX:∀ (w:World) (H:Hp) (s:Shared) (e:Value) (s':Shared),CX w [] H s (fun _ _ _=>False) e s'->False):
  PySem.W.WalkO q loose XP YP l.row.toRowW d [] (fun f vs=>PySem.call f vs):=by
 refine Att.attach_call hn hdf fun w s₀ s₁ mg mb fa o pm cd doc a vs ns G Y ho hd hcd hmg hobj hints hlen hg=>?_
 have KX:=hY w _ Y
 obtain⟨fd,hb,hF⟩:=F w mg fa _ KX G.T.g hmg
 exact law_call KX G.T.g G.T.b G.T.builtins G.T.nolimit hg hobj hints (Nat.le_trans hlen hn2) hr hF hb (fun H hO hS=>hsp w H a ns hlen hO hS) fun H e s'=>hCX w H s₁ e s'
end L2
namespace L2
open PySem PySem.Spec PyProof.Rows
noncomputable def inClass (s:Stmt) (j:Nat):Stmt:=match s with
 | .ClassDef _ _ _ body _ _ _ _ _ _ _=>body.getD j (.Pass ⟨0,0,0,0⟩)
 | _=>.Pass ⟨0,0,0,0⟩
noncomputable def defArgs (s:Stmt):Arguments:=match s with
 | .FunctionDef _ a _ _ _ _ _ _ _ _=>a
 | _=>{posonlyargs:=[],args:=[],vararg:=none,kwonlyargs:=[],kw_defaults:=[],kwarg:=none,defaults:=[]}
noncomputable def defBody (s:Stmt):List Stmt:=match s with
 | .FunctionDef _ _ b _ _ _ _ _ _ _=>b
 | _=>[]
noncomputable def defScope (s:Stmt):Scope:=match s with
 | .FunctionDef _ _ _ _ _ _ sc _ _ _=>sc
 | _=>{kind:=.function,names:=[],isGenerator:=false,isCoroutine:=false}
@[reducible] noncomputable def CX0:CXT:=fun _ _ _ _ _ _=>False
@[reducible] noncomputable def E0:XK:=fun _ _ _=>False
structure Fun (K:PySem.W.Frag) (x qual:Str) (st:Stmt) (f:Addr) (fd:FuncData):Prop where
 ex:∃ (oc:Value) (od:Option Addr) (kV doc pm:Value) (an:Option Addr) (cdv ct:Value) (osl:Array (Option Value)),
  fd=PySem.W.fnOf x qual (defArgs st) (defBody st) (defScope st) .none kV doc pm an cdv ct/\K.lookup f=some ⟨oc,od,.func fd,osl⟩/\PySem.W.codeIn K cdv qual=true
 kp:PySem.W.keepIn K (.ref f)=true
section
variable {P:Program} {w:World} {K:PySem.W.Frag} {mg:Str->Option Value} {base:Heap}
theorem Fun.ok {x qual:Str} {st:Stmt} {f:Addr} {fd:FuncData} {N ps:List Str} {k:Nat} {sp:Sp} (F:Fun K x qual st f fd) (S:FnScope N ps (defScope st)) (len:∀vs H Q E,sp vs H Q E->vs.length=ps.length)
  (hbody:∀ (cdv:Value) (A:Around) (outer:List Env) (s:Shared) (H:Hp) (vs:List V) (Q:VK) (E:XK),Room k (A.deeper (envOfC qual (defScope st) s.heap.objs.size f cdv))->sp vs H Q E->
   ∃t,PSs (cxOf CX0 P w K mg base N qual (defScope st) f cdv A outer s H E).nox (defBody st) t/\t {nx:=fun _ H'=>Q .non H',rt:=Q} (start N vs) H):FnOk P w K mg base CX0 (k + 1) f fd ps sp:=by
 obtain⟨oc,od,kV,doc,pm,an,cdv,ct,osl,rfl,lk,hcd⟩:=F.ex
 refine fn_of lk hcd S len fun A outer s H vs Q E hr hsp=>?_
 obtain⟨t,h,q⟩:=hbody cdv A outer s H vs Q E hr hsp
 exact⟨t,h.nox,q⟩
theorem Fun.binds {x qual:Str} {st:Stmt} {f:Addr} {fd:FuncData} {ps:List Str} (F:Fun K x qual st f fd)
  (h:∀ (kV doc pm:Value) (an:Option Addr) (cdv ct:Value) (us:List Value),us.length=ps.length->bindArgs (PySem.W.fnOf x qual (defArgs st) (defBody st) (defScope st) .none kV doc pm an cdv ct) ⟨us,[]⟩=pure (ps.zip us)):Binds K fd ps []:=by
 obtain⟨oc,od,kV,doc,pm,an,cdv,ct,osl,rfl,lk,hcd⟩:=F.ex
 exact .all (h kV doc pm an cdv ct)
theorem fun_mk {x qual:Str} {st:Stmt} {f:Addr} {oc:Value} {od an:Option Addr} {osl:Array (Option Value)} {kV doc pm cdv ct:Value} (l:K.lookup f=some ⟨oc,od,.func (PySem.W.fnOf x qual (defArgs st) (defBody st) (defScope st) .none kV doc pm an cdv ct),osl⟩)
  (c:PySem.W.codeIn K cdv qual=true) (k:PySem.W.keepIn K (.ref f)=true):Fun K x qual st f (PySem.W.fnOf x qual (defArgs st) (defBody st) (defScope st) .none kV doc pm an cdv ct):=⟨⟨oc,od,kV,doc,pm,an,cdv,ct,osl,rfl,l,c⟩,k⟩
end
section
variable {X:Cx}
end
noncomputable def Same (H H':Hp):Prop:=∀b o,H b=some o->H' b=some o
theorem Same.refl (H:Hp):Same H H:=fun _ _ h=>h
theorem Same.trans {H H1 H2:Hp} (a:Same H H1) (b:Same H1 H2):Same H H2:=fun c o h=>b c o (a c o h)
theorem Same.free {H H':Hp} (e:Same H H') {l:Addr} (h:H' l=Option.none):H l=Option.none:=by
 cases q:H l with
 | none=>rfl
 | some o=>
  rw[e l o q]at h
  cases h
theorem Same.seq {K:PySem.W.Frag} {H H':Hp} {a:Addr} {xs:List V} (e:Same H H') (h:SqL K H a xs):SqL K H' a xs:=by
 rcases h with (h | ⟨o,h⟩) | h
 ·exact .inl (.inl (e _ _ h))
 ·exact .inl (.inr ⟨o,e _ _ h⟩)
 ·exact .inr h
end L2
namespace L2
open PySem PySem.Spec PyProof.Rows
section
variable {X:Cx}
end
section
variable {κ:Type} [DecidableEq κ]
end
end L2
set_option maxHeartbeats 4000000
namespace PySem.Sg
open PySem PySem.Spec PyProof.Rows
section tables
theorem orStandIn_led (t:SetTable) (n:Nat):(t.orStandIn n).led=t.led:=by
 unfold SetTable.orStandIn
 split<;>rfl
theorem layNew_led (t:SetTable) (es:Array (Int × Value)) (h:Int) (x:Value):(layNew t es h x).2.1.led=t.led:=by
 unfold layNew
 cases t.freeSlot h with
 | none=>rfl
 | some p=>
  obtain⟨j,d⟩:=p
  exact orStandIn_led _ _
theorem relayAll_led (t:SetTable) (es:Array (Int × Value)) (n:Nat):(relayAll t es n).2.1.led=t.led:=by
 unfold relayAll
 cases e:t.relaid (es.map (·.1)) n with
 | none=>rfl
 | some p=>
  obtain⟨t',o⟩:=p
  have z:t'.led=t.led:=by
   simp only[SetTable.relaid,SetTable.laid,Option.bind_eq_bind,Option.bind_eq_some_iff,Option.pure_def,Option.some.injEq,Prod.mk.injEq]at e
   obtain⟨_,_,e,_⟩:=e
   rw[<-e]
  dsimp only
  split<;>first | exact z | rfl
theorem relayAll_plain (t:SetTable) (es:Array (Int × Value)) (n:Nat) (h:t.plain=false):(relayAll t es n).2.1.plain=false:=by
 unfold relayAll
 cases e:t.relaid (es.map (·.1)) n with
 | none=>rfl
 | some p=>
  obtain⟨t',o⟩:=p
  have z:t'.plain=false:=by
   simp only[SetTable.relaid,SetTable.laid,Option.bind_eq_bind,Option.bind_eq_some_iff,Option.pure_def,Option.some.injEq,Prod.mk.injEq]at e
   obtain⟨_,_,e,_⟩:=e
   rw[<-e];exact h
  dsimp only
  split<;>first | exact z | rfl
end tables
noncomputable def SetIs (prog:Program) (w:World) (h:Heap) (a:Addr) (τ:List Str):Prop:=
 ∃o es ep t,h.get? a=some o/\o.ExactSet/\o.data=.set es ep t/\ElemsOf (strKind prog w) es.toList/\List.Perm (es.toList.map fun e=>strOf e.2) τ
  /\es.size < scanBound/\t.fits es.size=true/\(w.params.followText "set-order" =true\/t.led=true)/\(es.size=0\/t.plain=false)
noncomputable def putIn (τ:List Str) (k:Str):List Str:=if k ∈ τ then τ else τ++[k]
section add
variable {prog:Program} {w:World} {A:Around} {E:Value->Shared->Prop} {s:Shared}
theorem isStr_of {k:Str} {v:Value} (h:(strKind prog w).is k v=true):strOf v=k/\∃t,v=.str k t:=by
 obtain⟨t,rfl⟩:=Value.isStrOf_shape h
 exact⟨rfl,t,rfl⟩
theorem get_put {h:Heap} {a:Addr} {o:Obj} {es es':Array (Int × Value)} {ep:Nat} {t t':SetTable} (ho:h.get? a=some o) (hd:o.data=.set es ep t):
  (h.update a (Obj.putSet es' t')).get? a=some {o with data:=.set es' (ep + 1) t'}:=by
 have z:=Heap.get?_update_self (Obj.putSet es' t') ho (by rw[putSet_of es' t' hd];rfl)
 rw[putSet_of es' t' hd]at z
 exact z
theorem told {s₁:Shared} {Q':Unit->Shared->Prop} (b:Bool) (h:Q' () s₁):wpAny (model prog w) A (match b with | true=>rule "set.scan.the-table-gave-way" | false=>pure ()) Q' E s₁:=by
 cases b
 ·exact wpAny_pure h
 ·exact wpAny_rule h
theorem add_str {a:Addr} {τ:List Str} {k:Str} {u:Tok} {Q:Bool->Shared->Prop} (hS:SetIs prog w s.heap a τ) (hroom:τ.length + 1 < scanBound)
  (h:∀b h',Heap.SameBut a s.heap h'->SetIs prog w h' a (putIn τ k)->Q b {s with heap:=h'}):
  wpAny (model prog w) A (setAddHashed a (.str k u) ((strKind prog w).hash k)) Q E s:=by
 obtain⟨o,es,ep,t,ho,hex,hd,hel,hp,hb,hf,hled,hpl⟩:=hS
 have hkey:(strKind prog w).is k (.str k u)=true:=strKind_is _ _ _ _
 have hlen:es.size=τ.length:=by have z:=hp.length_eq;simpa using z
 unfold setAddHashed setAddHashedIn
 refine wpAny_holding (wpAny_bind (wpAny_setState_of ho hd hf ?_))
 dsimp only
 rw[byScan_of rfl hb hel,if_pos rfl]
 unfold setAddByScan
 refine wpAny_bind (wpAny_bind (wpAny_rule (wpAny_bind (wpAny_setScan_of hkey ho hd hf hel ?_))))
 have memk:k ∈ τ ↔ ∃e ∈ es.toList,(strKind prog w).is k e.2=true:=by
  rw[<-hp.mem_iff,List.mem_map]
  constructor
  ·rintro⟨e,he,q⟩
   obtain⟨⟨k',hk',_⟩,_⟩:=hel e he
   obtain⟨z,_⟩:=isStr_of hk'
   exact⟨e,he,by rw[<-q,z];exact hk'⟩
  ·rintro⟨e,he,q⟩
   exact⟨e,he,(isStr_of q).1⟩
 cases hr:List.findIdx? (fun e=>(strKind prog w).is k e.2) es.toList with
 | some j=>
  dsimp only
  obtain⟨hj,hpj,_⟩:=List.findIdx?_eq_some_iff_getElem.mp hr
  have hk:k ∈ τ:=memk.mpr ⟨_,List.getElem_mem hj,hpj⟩
  have z:=h false s.heap (Heap.SameBut.refl a s.heap) (by unfold putIn;rw[if_pos hk];exact⟨o,es,ep,t,ho,hex,hd,hel,hp,hb,hf,hled,hpl⟩)
  exact wpAny_pure (wpAny_pure z)
 | none=>
  dsimp only
  have hk:k ∉ τ:=fun c=>by
   obtain⟨e,he,q⟩:=memk.mp c
   have z:=List.findIdx?_eq_none_iff.mp hr e he
   rw[q]at z;exact Bool.noConfusion z
  have h':∀h',Heap.SameBut a s.heap h'->SetIs prog w h' a (τ++[k])->Q true {s with heap:=h'}:=fun h' a1 a2=>h true h' a1 (by unfold putIn;rw[if_neg hk];exact a2)
  have p1:=layNew_perm t es ((strKind prog w).hash k) (.str k u)
  have f1:=layNew_fits t es ((strKind prog w).hash k) (.str k u)
  have l1:=layNew_led t es ((strKind prog w).hash k) (.str k u)
  generalize layNew t es ((strKind prog w).hash k) (.str k u)=L at p1 f1 l1 ⊢
  obtain⟨es1,t1,wd,gv⟩:=L
  dsimp only at p1 f1 l1 ⊢
  rw[Array.toList_push]at p1
  have hel1:ElemsOf (strKind prog w) es1.toList:=(hel.push hkey rfl).perm p1
  have hp1:List.Perm (es1.toList.map fun e=>strOf e.2) (τ++[k]):=(p1.map _).trans (by rw[List.map_append];exact hp.append_right _)
  have hs1:es1.size=τ.length + 1:=by have z:=hp1.length_eq;simpa using z
  have hb1:es1.size < scanBound:=by omega
  refine wpAny_bind (told gv ?_)
  have last:∀t2:SetTable,t2.fits es1.size=true->t2.led=t.led->t2.plain=false->wpAny (model prog w) A (do
    storeSet a es1 t2
    if(!wd && t2.tooFull)=true then do
      (match(relayAll t2 es1 (SetTable.grown es1.size)).2.2 with | true=>rule "set.scan.the-table-gave-way" | false=>pure ())
      storeSet a (relayAll t2 es1 (SetTable.grown es1.size)).1 (relayAll t2 es1 (SetTable.grown es1.size)).2.1
      pure (some true)
     else pure (some true))
    (fun r s'=>wpAny (model prog w) A (match r with | some added=>pure added | none=>setAddHashedIn a (Value.str k u) ((strKind prog w).hash k) 99999) Q E s') E s:=by
   intro t2 f2 l2 n2
   have g1:=get_put (es':=es1) (t':=t2) ho hd
   have k1:=Heap.SameBut.update s.heap a (Obj.putSet es1 t2)
   refine wpAny_bind (wpAny_storeSet_of ho hd ?_ (fits_of_scanBound hb1))
   split
   ·have p2:=relayAll_perm t2 es1 (SetTable.grown es1.size)
    have f3:=relayAll_fits t2 es1 (SetTable.grown es1.size)
    have l3:=relayAll_led t2 es1 (SetTable.grown es1.size)
    have n3:=relayAll_plain t2 es1 (SetTable.grown es1.size) n2
    generalize relayAll t2 es1 (SetTable.grown es1.size)=L at p2 f3 l3 n3 ⊢
    obtain⟨es2,t3,gv2⟩:=L
    dsimp only at p2 f3 l3 n3 ⊢
    have hp2:List.Perm (es2.toList.map fun e=>strOf e.2) (τ++[k]):=(p2.map _).trans hp1
    have hs2:es2.size=τ.length + 1:=by have z:=hp2.length_eq;simpa using z
    have hb2:es2.size < scanBound:=by omega
    refine wpAny_bind (told gv2 (wpAny_bind (wpAny_storeSet_of g1 rfl ?_ (fits_of_scanBound hb2))))
    exact wpAny_pure (wpAny_pure (h' _ (k1.trans (Heap.SameBut.update _ a _)) ⟨_,es2,_,t3,get_put g1 rfl,hex,rfl,hel1.perm p2,hp2,hb2,f3,by rw[l3,l2];exact hled,.inr n3⟩))
   ·exact wpAny_pure (wpAny_pure (h' _ k1 ⟨_,es1,_,t2,g1,hex,rfl,hel1,hp1,hb1,f2,by rw[l2];exact hled,.inr n2⟩))
  cases q:t1.plain with
  | true=>
   rw[if_pos rfl,hashByValue_scannable 8 rfl]
   refine wpAny_bind (wpAny_pure ?_)
   exact last {t1 with plain:=false} (SetTable.fits_plain_off f1) l1 rfl
  | false=>
   rw[if_neg (by decide)]
   refine wpAny_bind (wpAny_pure ?_)
   exact last t1 f1 l1 q
end add
noncomputable def metS (val:Nat->Str) (i:Nat):List Str:=((List.range i).map val).foldl putIn []
theorem metS_succ (val:Nat->Str) (i:Nat):metS val (i + 1)=putIn (metS val i) (val i):=by
 unfold metS;rw[List.range_succ,List.map_append,List.foldl_append];rfl
theorem putIn_len (τ:List Str) (k:Str):(putIn τ k).length<=τ.length + 1:=by
 unfold putIn;split<;>simp
theorem metS_len (val:Nat->Str):∀i,(metS val i).length<=i
 | 0=>Nat.le_refl _
 | i + 1=>by rw[metS_succ];exact Nat.le_trans (putIn_len _ _) (Nat.succ_le_succ (metS_len val i))
section loop
variable {prog:Program} {w:World} {A:Around} {R:Result->Shared->Prop} {I:Addr} {fp wr:List Addr} {G:Array GenState->Array GenState->Prop} {n:Nat} {P:Nat->Value->Prop} {St:Nat->Shared->Prop}
theorem SetIs.at {h h':Heap} {a:Addr} {τ:List Str} (hS:SetIs prog w h a τ) (k:∀o,h.get? a=some o->h'.get? a=some o):SetIs prog w h' a τ:=
 let ⟨o,es,ep,t,ho,r⟩:=hS;⟨o,es,ep,t,k o ho,r⟩
theorem update_loop (W:WalksS prog w A.in1 I fp wr G n P St) (S:Addr) (hSf:S ∉ fp) (val:Nat->Str) (hval:∀i v,P i v->∃t,v=.str (val i) t) (hb:n + 1 < scanBound):
  ∀ (k i:Nat) (s:Shared),n - i=k->i<=n->St i s->SetIs prog w s.heap S (metS val i)->
   (∀ s',Moved (S::wr) G s s'->SetIs prog w s'.heap S (metS val n)->R (.ok (.ret .none)) s')->
   codeAny (model prog w) A (.builtin "set.update.loop" ⟨[.ref S,.ref I],[]⟩) R s:=by
 have hSw:S ∉ wr:=fun h=>hSf (W.sub _ h)
 have hsub:∀b ∈ wr,b ∈ S::wr:=fun b hb=>List.mem_cons_of_mem _ hb
 intro k
 induction k with
 | zero=>
  intro i s hk hi hst hS hR
  have hin:i=n:=by omega
  subst hin
  refine codeAny_builtin PyProof.Rows.F.entry_set_update_loop ?_
  rw[Around.under_plainId PyProof.Rows.F.plain_set_update_loop _]
  show wpAny _ A.in1 (pyNext (.ref I) >>= _) _ _ s
  refine wpAny_bind (W.done s _ _ hst fun s' hm=>?_)
  show wpAny _ A.in1 (ret Value.none) _ _ s'
  exact wpAny_pure (hR s' (hm.mono hsub) (hS.at fun o e=>hm.heap S o hSw e))
 | succ k ih=>
  intro i s hk hi hst hS hR
  have hlt:i < n:=by omega
  refine codeAny_builtin PyProof.Rows.F.entry_set_update_loop ?_
  rw[Around.under_plainId PyProof.Rows.F.plain_set_update_loop _]
  show wpAny _ A.in1 (pyNext (.ref I) >>= _) _ _ s
  refine wpAny_bind (W.item i s _ _ hlt hst fun v s' hP hst' hm=>?_)
  obtain⟨t,rfl⟩:=hval i v hP
  have hS':SetIs prog w s'.heap S (metS val i):=hS.at fun o e=>hm.heap S o hSw e
  show wpAny _ A.in1 (holding [Value.str (val i) t] (setAdd S (.str (val i) t)) >>= _) _ _ s'
  refine wpAny_bind (wpAny_holding ?_)
  unfold setAdd
  refine wpAny_holding (wpAny_bind ((strKind prog w).pyHash (k:=val i) (strKind_is _ _ _ _) ?_))
  have hl:=metS_len val i
  refine add_str (s:={s' with toks:=s'.toks + 1}) hS' (by omega) fun b h' hsb hS2=>?_
  rw[<-metS_succ]at hS2
  refine wpAny_pure ⟨plainId_quiet PyProof.Rows.F.plain_set_update_loop _,ih (i + 1) _ (by omega) hlt (W.frame _ s' _ _ hst' (Nat.le_succ _) fun b hb o e=>?_) hS2 fun s'' hm'' hS''=>?_⟩
  ·rw[hsb.2 b (fun h:b=S=>hSf (by rw[<-h];exact hb))];exact e
  ·refine hR s'' (Moved.trans W.gtrans ((hm.mono hsub).then_heap (Nat.le_succ _) fun b o hb e=>?_) hm'') hS''
   rw[hsb.2 b (fun h:b=S=>hb (by rw[h];exact List.mem_cons_self))];exact e
end loop
section new
variable {prog:Program} {w:World} {A:Around} {E:Value->Shared->Prop} {s:Shared}
@[reducible] noncomputable def newSetO (w:World):Obj:={cls:=.type "set",dict:=none,data:=.set #[] 0 (.fresh 0 0 (!w.params.followText "set-order"))}
theorem newSet_is (h:Heap):SetIs prog w (h.push (newSetO w)) h.objs.size []:=
 ⟨_,#[],0,_,Heap.get?_push_size _ rfl,⟨rfl,rfl,rfl⟩,rfl,fun e he=>by simp at he,.nil,by decide,rfl,by
  cases e:w.params.followText "set-order"
  ·exact .inr rfl
  ·exact .inl rfl,.inl rfl⟩
theorem code_new (a:Value) {Q₁:Value->Shared->Prop} (h:Q₁ (.ref s.heap.objs.size) {s with heap:=s.heap.push (newSetO w)}):
  codeAny (model prog w) A (.call (.builtin "set.__new__") ⟨[.type "set",a],[]⟩) (wants Q₁ E) s:=by
 refine codeAny_of_tree ?_
 show wpAny _ A.in1 (do checkBuiltinCall "set.__new__" ⟨[.type "set",a],[]⟩;again (.builtin "set.__new__" ⟨[.type "set",a],[]⟩)) _ _ s
 refine wpAny_bind (wpAny_of_eq (PySem.F.newCall_set_1 a) (wpAny_pure ⟨plainId_quiet PySem.F.plain_set_new _,codeAny_builtin PySem.F.entry_set_new ?_⟩))
 rw[Around.under_plainId PySem.F.plain_set_new _]
 unfold Builtin.«set.__new__» Builtin.Frozenset.newClass
 have hsub:=sub_set_self
 obtain⟨hp,g,d,tk,os⟩:=s
 dsimp only
 wp_walk
 refine wpAny_askSetting (wpAny_pure ?_)
 dsimp only
 simp only[newObj]
 refine wpAny_bind (wpAny_alloc (wpAny_pure ?_))
 exact wpAny_pure h
theorem call_set_strs (hh:A.handled=none) {l:Addr} {items:Array Value} {ss:List Str} (hl:s.heap.IsList l items) (hi:StrsAre items.toList ss) (hb:items.size + 1 < scanBound) {Q:Value->Shared->Prop}
  (h:∀ (h':Heap) (tk:Nat),SetIs prog w h' s.heap.objs.size (metS (fun i=>ss.getD i ⟨#[]⟩) items.size)->(∀ b o,s.heap.get? b=some o->h'.get? b=some o)->Q (.ref s.heap.objs.size) {s with heap:=h',toks:=tk}):
  wpAny (model prog w) A (call (.type "set") [.ref l]) Q E s:=by
 obtain⟨c,tl,hmro⟩:=PySem.F.called_set.mro
 have hmade:=PySem.F.called_set.made
 have hsub:=PySem.F.called_set.sub
 refine wpAny_call (codeAny_of_tree ?_)
 show wpAny _ _ (callAny (.type "set") _) _ _ _
 refine wpAny_pure ⟨Code.quiet_builtin _ (by decide +kernel),codeAny_builtin PySem.F.entry_type_call ?_⟩
 rw[Around.under_plain (weight_type_call_type "set" [.ref l] []) rfl]
 have h1:=PySem.F.called_set.notType
 have h2:=PySem.F.called_set.canCreate
 have hct:=PySem.F.typeCall_set_1 (.ref l)
 repeat (any_goals (first | assumption | wp_step))
 refine codeAny_mono (code_new (.ref l) (E:=E) (Q₁:=fun obj s₁=>obj=.ref s.heap.objs.size/\s₁={s with heap:=s.heap.push (newSetO w)}) ⟨rfl,rfl⟩) fun r s₁ hr=>?_
 cases r with
 | error e=>exact hr
 | ok fl=>
  cases fl with
  | ret obj=>
   obtain⟨rfl,rfl⟩:=hr
   have hS:(s.heap.push (newSetO w)).get? s.heap.objs.size=some (newSetO w):=Heap.get?_push_size _ rfl
   have hT:Shared.TypeIs {s with heap:=s.heap.push (newSetO w)} (.ref s.heap.objs.size) "set" :=⟨_,hS,rfl⟩
   have hli:=PySem.F.called_set.init.lookup
   have hbi:=PySem.F.called_set.init.bind (.ref s.heap.objs.size)
   repeat (any_goals (first | assumption | wp_step))
   refine codeAny_mono (codeAny_call_builtin (R:=wants (fun r s₂=>r=.none/\∃h' tk,s₂={s with heap:=h',toks:=tk}/\SetIs prog w h' s.heap.objs.size (metS (fun i=>ss.getD i ⟨#[]⟩) items.size)/\
     (∀ b o,s.heap.get? b=some o->h'.get? b=some o)) E) PySem.F.called_set.init.plain PySem.F.entry_set_init (check_set_init_1 hT ?_)) fun r₂ s₂ hr₂=>?_
   ·obtain⟨ol,hol,hcl,nl,hdl⟩:=hl
    obtain⟨ocls,odict,odata,oslots⟩:=ol
    simp only at hcl hdl
    subst hcl;subst hdl
    have hol':(s.heap.push (newSetO w)).get? l=some {cls:=.type "list",dict:=odict,data:=.seq items nl,slots:=oslots}:=Heap.get?_push_of_some _ hol
    have a1:=PySem.F.sub_list_set
    have a2:=PySem.F.sub_list_frozenset
    have hne:(Value.type "list" == Value.type "dict")=false:=by decide
    have hl1:(s.heap.push (newSetO w)).IsList l items:=⟨_,hol',rfl,nl,rfl⟩
    unfold Builtin.«set.__init__» noKeywords Builtin.Frozenset.updateFrom
    generalize hPI:pyIter=PI
    wp_walk
    subst hPI
    refine wpAny_pyIter_list hl1 ?_
    refine wpAny_bind (wpAny_runValue ?_)
    have hh3:A.in1.in1.in1.handled=none:=by simp[hh]
    have hlS:l < s.heap.objs.size:=Heap.lt_size hol
    have hsz:(s.heap.push (newSetO w)).objs.size=s.heap.objs.size + 1:=Heap.size_push _ _
    have hneI:l ≠ (s.heap.push (newSetO w)).objs.size:=by rw[hsz];exact Nat.ne_of_lt (Nat.lt_succ_of_lt hlS)
    have hSf:s.heap.objs.size ∉ [(s.heap.push (newSetO w)).objs.size,l]:=by
     rw[hsz];simp only[List.mem_cons,List.mem_singleton,List.not_mem_nil,or_false,not_or]
     exact⟨Nat.ne_of_lt (Nat.lt_succ_self _),Nat.ne_of_gt hlS⟩
    have hval:∀ (i:Nat) (v:Value),items[i]?=some v->∃t,v=.str (ss.getD i ⟨#[]⟩) t:=fun i v hv=>by
     obtain⟨y,t,rfl,e⟩:=StrsAre.item hi i v (by rw[Array.getElem?_toList];exact hv)
     exact⟨t,by rw[List.getD_eq_getElem?_getD,e];rfl⟩
    refine update_loop ((Walks.list hh3 _ l hneI items).toS) s.heap.objs.size hSf (fun i=>ss.getD i ⟨#[]⟩) hval hb (items.size - 0) 0 _ rfl (Nat.zero_le _) ⟨⟨_,Heap.get?_push_size _ rfl,rfl,rfl⟩,(hl1.push _)⟩ (SetIs.at (newSet_is (prog:=prog) s.heap) fun o' e=>Heap.get?_push_of_some _ e) fun s' hm hS'=>?_
    obtain⟨h',g',d',tk',os'⟩:=s'
    have eg:g'=s.gens:=hm.gens
    have ed:d'=s.drawn:=hm.drawn
    have eo:os'=s.os:=hm.os
    subst eg;subst ed;subst eo
    show wpAny _ _ _ _ _ _
    refine wpAny_pure ?_
    show wpAny _ _ (ret Value.none) _ _ _
    refine wpAny_pure ⟨rfl,h',tk',rfl,hS',fun b ob e=>?_⟩
    have hlt:=Heap.lt_size e
    refine hm.heap b ob ?_ (Heap.get?_push_of_some _ (Heap.get?_push_of_some _ e))
    rw[hsz]
    simp only[List.mem_cons,List.mem_singleton,List.not_mem_nil,or_false,not_or]
    exact⟨Nat.ne_of_lt hlt,Nat.ne_of_lt (Nat.lt_succ_of_lt hlt)⟩
   ·cases r₂ with
    | error e=>exact hr₂
    | ok fl₂=>
     cases fl₂ with
     | ret r=>
      obtain⟨rfl,h',tk,rfl,hS',hk'⟩:=hr₂
      repeat (any_goals (first | assumption | wp_step))
      exact h _ _ hS' hk'
     | _=>exact hr₂.elim
  | _=>exact hr.elim
end new
end PySem.Sg
namespace PySem.Sg
open PySem PySem.Spec PyProof.Rows
section orders
variable {prog:Program} {w:World} {A:Around} {E:Value->Shared->Prop}
end orders
namespace F
end F
noncomputable def ItAt (h:Heap) (I S:Addr) (first:Value) (i n ep:Nat):Prop:=
 ∃o,h.get? I=some o/\o.cls=.type "set_iterator" /\o.data=.fields #[first,.int i 0,.ref S,.int n 0,.int ep 0]
noncomputable def StAt (h:Heap) (S:Addr) (es:Array (Int × Value)) (ep:Nat) (t:SetTable):Prop:=∃o,h.get? S=some o/\o.data=.set es ep t/\t.fits es.size=true
theorem ItAt.typeIs {s:Shared} {I S:Addr} {f:Value} {i n ep:Nat} (x:ItAt s.heap I S f i n ep):s.TypeIs (.ref I) "set_iterator" :=let ⟨o,ho,hc,_⟩:=x;⟨o,ho,hc⟩
theorem ItAt.keep {h h':Heap} {I S:Addr} {f:Value} {i n ep:Nat} (x:ItAt h I S f i n ep) (k:∀o,h.get? I=some o->h'.get? I=some o):ItAt h' I S f i n ep:=let ⟨o,ho,r⟩:=x;⟨o,k o ho,r⟩
theorem StAt.keep {h h':Heap} {S:Addr} {es:Array (Int × Value)} {ep:Nat} {t:SetTable} (x:StAt h S es ep t) (k:∀o,h.get? S=some o->h'.get? S=some o):StAt h' S es ep t:=let ⟨o,ho,r⟩:=x;⟨o,k o ho,r⟩
section walk
variable {prog:Program} {w:World} {A:Around} {E:Value->Shared->Prop} {s:Shared}
end walk
end PySem.Sg
namespace PySem.Sg
open PySem PySem.Spec PyProof.Rows
section walks
variable {prog:Program} {w:World} {A:Around}
end walks
end PySem.Sg
namespace PySem.Sg
open PySem PySem.Spec PyProof.Rows
section iter
variable {prog:Program} {w:World} {A:Around} {E:Value->Shared->Prop} {s:Shared}
end iter
end PySem.Sg
namespace PySem.Sg
open PySem PySem.Spec PyProof.Rows L2
section dict
variable {prog:Program} {w:World} {A:Around} {E:Value->Shared->Prop} {s:Shared}
end dict
end PySem.Sg
namespace Sw
open PySem PySem.Spec PyProof.Rows L2
@[reducible] noncomputable def Mo:=Addr->Option HO
noncomputable def rd (M:Mo) (H:Hp) (a:Addr):Option HO:=match H a with
 | some (.frz _ u)=>some u
 | some o=>some o
 | none=>M a
noncomputable def ModOk (K:PySem.W.Frag) (M:Mo):Prop:=∀a o,M a=some o->match o with
 | .lst xs=>∃ (o:Obj) (its:Array Value) (n:Nat),K.lookup a=some o/\o.cls=.type "list" /\o.dict=none/\o.data=.seq its n/\its.size<=sizeLine/\Vals xs its.toList
 | .tup xs=>∃ (o:Obj) (its:Array Value) (n:Nat),K.lookup a=some o/\o.cls=.type "tuple" /\o.data=.seq its n/\its.size<=sizeLine/\Vals xs its.toList
 | _=>False
theorem rd_cases {M:Mo} {H:Hp} {a:Addr} {u:HO} (h:rd M H a=some u):Rd H a u\/(H a=none/\M a=some u):=by
 unfold rd at h
 cases e:H a with
 | none=>rw[e]at h;exact .inr ⟨rfl,h⟩
 | some o=>
  rw[e]at h
  cases o<;>first | (injection h with h;subst h;exact .inl (.inl e)) | (injection h with h;subst h;exact .inl (.inr ⟨_,e⟩))
theorem rd_lst {K:PySem.W.Frag} {M:Mo} (m:ModOk K M) {H:Hp} {a:Addr} {xs:List V} (h:rd M H a=some (.lst xs)):SqL K H a xs:=by
 rcases rd_cases h with h | ⟨_,h⟩
 ·exact .inl h
 ·exact .inr (m a _ h)
theorem rd_tup {K:PySem.W.Frag} {M:Mo} (m:ModOk K M) {H:Hp} {a:Addr} {xs:List V} (h:rd M H a=some (.tup xs)):SqT K H a xs:=by
 rcases rd_cases h with h | ⟨_,h⟩
 ·exact .inl h
 ·exact .inr (m a _ h)
noncomputable def allM {α:Type} (f:V->Option α):List V->Option (List α)
 | []=>some []
 | x::r=>match f x,allM f r with
  | some a,some l=>some (a::l)
  | _,_=>none
noncomputable def data (M:Mo) (H:Hp):Nat->V->Option PyData
 | _,.non=>some .none
 | _,.bl b=>some (.bool b)
 | _,.int i=>some (.int i)
 | _,.str x=>some (.str x)
 | n + 1,.ref p=>match rd M H p with
  | some (.lst xs)=>(allM (data M H n) xs).map .list
  | some (.tup xs)=>(allM (data M H n) xs).map .tuple
  | _=>none
 | _,_=>none
theorem allM_cons {α:Type} {f:V->Option α} {x:V} {r:List V} {l:List α} (h:allM f (x::r)=some l):∃a t,f x=some a/\allM f r=some t/\l=a::t:=by
 unfold allM at h
 split at h
 ·rename_i a t h1 h2
  exact⟨a,t,h1,h2,(Option.some.inj h).symm⟩
 ·cases h
theorem allM_nil {α:Type} {f:V->Option α} {l:List α} (h:allM f []=some l):l=[]:=(Option.some.inj h).symm
theorem allM_get {α:Type} {f:V->Option α}:∀ {xs:List V} {bs:List α} {i:Nat} {x:V},allM f xs=some bs->xs[i]?=some x->∃b,bs[i]?=some b/\f x=some b
 | [],bs,i,x,h,e=>by simp at e
 | y::r,bs,i,x,h,e=>by
  obtain⟨a,t,h1,h2,rfl⟩:=allM_cons h
  cases i with
  | zero=>
   simp at e
   subst e
   exact⟨a,rfl,h1⟩
  | succ i=>exact allM_get (i:=i) h2 (by simpa using e)
theorem allM_length {α:Type} {f:V->Option α}:∀ {xs:List V} {bs:List α},allM f xs=some bs->bs.length=xs.length
 | [],bs,h=>by rw[allM_nil h];rfl
 | y::r,bs,h=>by
  obtain⟨a,t,h1,h2,rfl⟩:=allM_cons h
  simp[allM_length h2]
theorem Vals.back {xs:List V} {us:List Value} {i:Nat} {u:Value} (r:Vals xs us) (e:us[i]?=some u):∃x,xs[i]?=some x/\RelV x u:=by
 cases h:xs[i]? with
 | none=>
  have:=Vals.none_of r h
  rw[this]at e;cases e
 | some x=>
  obtain⟨u',e',rx⟩:=Vals.get r h
  rw[e']at e
  cases e
  exact⟨x,rfl,rx⟩
theorem eqvAll_self:∀ {xs:List PyData},(∀ d ∈ xs,PyData.eqv d d=true)->PyData.eqvAll xs xs=true
 | [],_=>rfl
 | x::r,h=>by
  rw[PyData.eqvAll,h x List.mem_cons_self,eqvAll_self fun d hd=>h d (List.mem_cons_of_mem _ hd)]
  rfl
theorem mem_allM {α:Type} {f:V->Option α}:∀ {xs:List V} {bs:List α} {b:α},allM f xs=some bs->b ∈ bs->∃x ∈ xs,f x=some b
 | [],bs,b,h,hb=>by rw[allM_nil h]at hb;cases hb
 | y::r,bs,b,h,hb=>by
  obtain⟨a,t,h1,h2,rfl⟩:=allM_cons h
  rcases List.mem_cons.mp hb with rfl | hb
  ·exact⟨y,List.mem_cons_self,h1⟩
  ·obtain⟨x,hx,e⟩:=mem_allM h2 hb
   exact⟨x,List.mem_cons_of_mem _ hx,e⟩
theorem data_self {M:Mo} {H:Hp}:∀ (n:Nat) (x:V) (d:PyData),data M H n x=some d->PyData.eqv d d=true:=by
 intro n
 induction n with
 | zero=>
  intro x d h
  cases x<;>first | (cases h;simp[PyData.eqv]) | cases h
 | succ n ih=>
  intro x d h
  cases x with
  | ref p=>
   unfold data at h
   split at h
   ·obtain⟨l,hl,rfl⟩:=Option.map_eq_some_iff.mp h
    rw[PyData.eqv]
    exact eqvAll_self fun d hd=>by
     obtain⟨x,_,e⟩:=mem_allM hl hd
     exact ih x d e
   ·obtain⟨l,hl,rfl⟩:=Option.map_eq_some_iff.mp h
    rw[PyData.eqv]
    exact eqvAll_self fun d hd=>by
     obtain⟨x,_,e⟩:=mem_allM hl hd
     exact ih x d e
   ·cases h
  | _=>first | (cases h;simp[PyData.eqv]) | cases h
inductive Lies (M:Mo) (H:Hp) (h:Heap) (n:Nat):V->Value->PyData->Prop where
 | non:Lies M H h n .non .none .none
 | bl (b:Bool):Lies M H h n (.bl b) (.bool b) (.bool b)
 | int (i:Int) (t:Tok):Lies M H h n (.int i) (.int i t) (.int i)
 | str (x:Str) (t:Tok):Lies M H h n (.str x) (.str x t) (.str x)
 | lst {p:Addr} {xs:List V} {its:List Value} {l:List PyData} {m:Nat}:n=m + 1->h.IsList p its.toArray->Vals xs its->allM (data M H m) xs=some l->Lies M H h n (.ref p) (.ref p) (.list l)
 | tup {p:Addr} {xs:List V} {its:List Value} {l:List PyData} {m:Nat}:n=m + 1->h.IsTuple p its.toArray->Vals xs its->allM (data M H m) xs=some l->Lies M H h n (.ref p) (.ref p) (.tuple l)
section
open PySem.SeqAt
variable {X:Cx} {M:Mo} {pins:List (Addr × Obj)} {σ:L2.St} {H:Hp} {s:Shared}
theorem lies (m:ModOk X.K M) (I:Inv X pins σ H s) {n:Nat} {x:V} {v:Value} {d:PyData} (rx:RelV x v) (h:data M H n x=some d):Lies M H s.heap n x v d:=by
 cases x with
 | non=>cases (show v=Value.none from rx);cases n<;>(cases h;exact .non)
 | bl b=>cases (show v=Value.bool b from rx);cases n<;>(cases h;exact .bl b)
 | int i=>obtain⟨t,e⟩:=(show ∃t,v=Value.int i t from rx);subst e;cases n<;>(cases h;exact .int i t)
 | str x=>obtain⟨t,e⟩:=(show ∃t,v=Value.str x t from rx);subst e;cases n<;>(cases h;exact .str x t)
 | ref p=>
  cases (show v=Value.ref p from rx)
  cases n with
  | zero=>cases h
  | succ n=>
   unfold data at h
   split at h
   ·rename_i xs e
    obtain⟨l,hl,rfl⟩:=Option.map_eq_some_iff.mp h
    obtain⟨its,rv,pl,_⟩:=I.list (rd_lst m e)
    exact .lst rfl pl.isList rv hl
   ·rename_i xs e
    obtain⟨l,hl,rfl⟩:=Option.map_eq_some_iff.mp h
    obtain⟨its,rv,pl,_⟩:=I.tuple (rd_tup m e)
    exact .tup rfl pl rv hl
   ·cases h
 | _=>cases n<;>cases h
theorem item_eqAt {n:Nat} {A:Around} (ih:∀ (x y:V) (v u:Value) (d e:PyData),RelV x v->RelV y u->data M H n x=some d->data M H n y=some e->EqAt A s v u (PyData.eqv d e))
  {xs ys:List V} {vs us:List Value} {l l':List PyData} (r1:Vals xs vs) (r2:Vals ys us) (h1:allM (data M H n) xs=some l) (h2:allM (data M H n) ys=some l'):
  ∀j (q1:j < vs.toArray.size) (q2:j < us.toArray.size),EqAt A s vs.toArray[j] us.toArray[j] (pairEq l l' j):=by
 intro j q1 q2
 have q1':j < vs.length:=by simpa using q1
 have q2':j < us.length:=by simpa using q2
 obtain⟨x,ex,rx⟩:=Vals.back r1 (List.getElem?_eq_getElem q1')
 obtain⟨y,ey,ry⟩:=Vals.back r2 (List.getElem?_eq_getElem q2')
 obtain⟨d,ed,fd⟩:=allM_get h1 ex
 obtain⟨e,ee,fe⟩:=allM_get h2 ey
 have:=ih x y _ _ d e rx ry fd fe
 show EqAt A s vs.toArray[j] us.toArray[j] (PyData.eqv (l.getD j .none) (l'.getD j .none))
 rw[List.getD_eq_getElem?_getD,List.getD_eq_getElem?_getD,ed,ee]
 simpa using this
theorem rc_lists {n:Nat} {A:Around} (hu:A.units < cLine) (ih:∀ (x y:V) (v u:Value) (d e:PyData),RelV x v->RelV y u->data M H n x=some d->data M H n y=some e->EqAt A.in1 s v u (PyData.eqv d e))
  {p q:Addr} {xs ys:List V} {vs us:List Value} {l l':List PyData} (hp:s.heap.IsList p vs.toArray) (hq:s.heap.IsList q us.toArray) (r1:Vals xs vs) (r2:Vals ys us) (h1:allM (data M H n) xs=some l) (h2:allM (data M H n) ys=some l'):
  RcAt A s (.ref p) (.ref q) (PyData.eqvAll l l')/\RcNeAt A s (.ref p) (.ref q) (!PyData.eqvAll l l'):=by
 have n1:vs.length=l.length:=by rw[allM_length h1];exact r1.length.symm
 have n2:us.length=l'.length:=by rw[allM_length h2];exact r2.length.symm
 by_cases hz:l.length=l'.length
 ·have hs:vs.toArray.size=us.toArray.size:=by simp;omega
  have e1:=RcAt.lists hp hq hs hu (item_eqAt ih r1 r2 h1 h2)
  have e2:=RcNeAt.lists hp hq hs hu (item_eqAt ih r1 r2 h1 h2)
  rw[List.size_toArray,n1,eqvAll_same_length hz]at e1 e2
  exact⟨e1,e2⟩
 ·have hs:(vs.toArray.size != us.toArray.size)=true:=by simp;omega
  rw[eqvAll_other_length hz]
  exact⟨RcAt.lists_lengths hp hq hs hu,RcNeAt.lists_lengths hp hq hs hu⟩
theorem rc_tuples {n:Nat} {A:Around} (hu:A.units < cLine) (ih:∀ (x y:V) (v u:Value) (d e:PyData),RelV x v->RelV y u->data M H n x=some d->data M H n y=some e->EqAt A.in1 s v u (PyData.eqv d e))
  {p q:Addr} {xs ys:List V} {vs us:List Value} {l l':List PyData} (hp:s.heap.IsTuple p vs.toArray) (hq:s.heap.IsTuple q us.toArray) (r1:Vals xs vs) (r2:Vals ys us) (h1:allM (data M H n) xs=some l) (h2:allM (data M H n) ys=some l'):
  RcAt A s (.ref p) (.ref q) (PyData.eqvAll l l')/\RcNeAt A s (.ref p) (.ref q) (!PyData.eqvAll l l'):=by
 have n1:vs.length=l.length:=by rw[allM_length h1];exact r1.length.symm
 have n2:us.length=l'.length:=by rw[allM_length h2];exact r2.length.symm
 have e1:=RcAt.tuples hp hq hu (item_eqAt ih r1 r2 h1 h2)
 have e2:=RcNeAt.tuples hp hq hu (item_eqAt ih r1 r2 h1 h2)
 rw[List.size_toArray,List.size_toArray,n1,n2,eqvAll_eq]at e1 e2
 exact⟨e1,e2⟩
theorem ref_eqAt {n:Nat} {A:Around} {p q:Addr} {d e:PyData} (h1:data M H n (.ref p)=some d) (h2:data M H n (.ref q)=some e) (h:RcAt A s (.ref p) (.ref q) (PyData.eqv d e)):EqAt A s (.ref p) (.ref q) (PyData.eqv d e):=by
 by_cases hpq:p=q
 ·subst hpq
  have hd:=h1.symm.trans h2
  cases hd
  rw[data_self _ _ _ h1]
  exact EqAt.same _
 ·exact EqAt.of_refs hpq h
theorem eqAt_data (m:ModOk X.K M) (I:Inv X pins σ H s):∀ (n:Nat) (A:Around) (x y:V) (v u:Value) (d e:PyData),A.units + n < cLine->RelV x v->RelV y u->data M H n x=some d->data M H n y=some e->EqAt A s v u (PyData.eqv d e):=by
 intro n
 induction n with
 | zero=>
  intro A x y v u d e hu rx ry h1 h2
  cases lies m I rx h1 with
  | non=>
   cases lies m I ry h2 with
   | non=>exact EqAt.same _
   | bl b2=>exact EqAt.none_bool b2
   | int i2 t2=>exact EqAt.none_int i2 t2
   | str z2 t2=>exact EqAt.none_str z2 t2
   | lst z2 hl2 r2 a2=>exact absurd z2 (by omega)
   | tup z2 hl2 r2 a2=>exact absurd z2 (by omega)
  | bl b1=>
   cases lies m I ry h2 with
   | non=>exact EqAt.bool_none b1
   | bl b2=>exact EqAt.bool_bool b1 b2
   | int i2 t2=>exact EqAt.bool_int b1 i2 t2
   | str z2 t2=>exact EqAt.bool_str b1 z2 t2
   | lst z2 hl2 r2 a2=>exact absurd z2 (by omega)
   | tup z2 hl2 r2 a2=>exact absurd z2 (by omega)
  | int i1 t1=>
   cases lies m I ry h2 with
   | non=>exact EqAt.int_none i1 t1
   | bl b2=>exact EqAt.int_bool i1 t1 b2
   | int i2 t2=>exact EqAt.int_int i1 t1 i2 t2
   | str z2 t2=>exact EqAt.int_str i1 t1 z2 t2
   | lst z2 hl2 r2 a2=>exact absurd z2 (by omega)
   | tup z2 hl2 r2 a2=>exact absurd z2 (by omega)
  | str z1 t1=>
   cases lies m I ry h2 with
   | non=>exact EqAt.str_none z1 t1
   | bl b2=>exact EqAt.str_bool z1 t1 b2
   | int i2 t2=>exact EqAt.str_int z1 t1 i2 t2
   | str z2 t2=>exact EqAt.str_str z1 t1 z2 t2
   | lst z2 hl2 r2 a2=>exact absurd z2 (by omega)
   | tup z2 hl2 r2 a2=>exact absurd z2 (by omega)
  | lst z1 hl1 r1 a1=>
   exact absurd z1 (by omega)
  | tup z1 hl1 r1 a1=>
   exact absurd z1 (by omega)
 | succ n ih=>
  intro A x y v u d e hu rx ry h1 h2
  have hu0:A.units < cLine:=by omega
  have ih1:∀ (x y:V) (v u:Value) (d e:PyData),RelV x v->RelV y u->data M H n x=some d->data M H n y=some e->EqAt A.in1 s v u (PyData.eqv d e):=
   fun x y v u d e=>ih A.in1 x y v u d e (by show A.units + 1 + n < cLine;omega)
  cases lies m I rx h1 with
  | non=>
   cases lies m I ry h2 with
   | non=>exact EqAt.same _
   | bl b2=>exact EqAt.none_bool b2
   | int i2 t2=>exact EqAt.none_int i2 t2
   | str z2 t2=>exact EqAt.none_str z2 t2
   | lst z2 hl2 r2 a2=>exact EqAt.none_list hl2 hu0
   | tup z2 hl2 r2 a2=>exact EqAt.none_tuple hl2 hu0
  | bl b1=>
   cases lies m I ry h2 with
   | non=>exact EqAt.bool_none b1
   | bl b2=>exact EqAt.bool_bool b1 b2
   | int i2 t2=>exact EqAt.bool_int b1 i2 t2
   | str z2 t2=>exact EqAt.bool_str b1 z2 t2
   | lst z2 hl2 r2 a2=>exact EqAt.bool_list b1 hl2 hu0
   | tup z2 hl2 r2 a2=>exact EqAt.bool_tuple b1 hl2 hu0
  | int i1 t1=>
   cases lies m I ry h2 with
   | non=>exact EqAt.int_none i1 t1
   | bl b2=>exact EqAt.int_bool i1 t1 b2
   | int i2 t2=>exact EqAt.int_int i1 t1 i2 t2
   | str z2 t2=>exact EqAt.int_str i1 t1 z2 t2
   | lst z2 hl2 r2 a2=>exact EqAt.int_list i1 t1 hl2 hu0
   | tup z2 hl2 r2 a2=>exact EqAt.int_tuple i1 t1 hl2 hu0
  | str z1 t1=>
   cases lies m I ry h2 with
   | non=>exact EqAt.str_none z1 t1
   | bl b2=>exact EqAt.str_bool z1 t1 b2
   | int i2 t2=>exact EqAt.str_int z1 t1 i2 t2
   | str z2 t2=>exact EqAt.str_str z1 t1 z2 t2
   | lst z2 hl2 r2 a2=>exact EqAt.str_list z1 t1 hl2 hu0
   | tup z2 hl2 r2 a2=>exact EqAt.str_tuple z1 t1 hl2 hu0
  | lst z1 hl1 r1 a1=>
   cases lies m I ry h2 with
   | non=>exact EqAt.list_none hl1 hu0
   | bl b2=>exact EqAt.list_bool b2 hl1 hu0
   | int i2 t2=>exact EqAt.list_int i2 t2 hl1 hu0
   | str z2 t2=>exact EqAt.list_str z2 t2 hl1 hu0
   | lst z2 hl2 r2 a2=>
    cases z1;cases z2
    exact ref_eqAt h1 h2 (rc_lists hu0 ih1 hl1 hl2 r1 r2 a1 a2).1
   | tup z2 hl2 r2 a2=>exact EqAt.list_tuple hl1 hl2 hu0
  | tup z1 hl1 r1 a1=>
   cases lies m I ry h2 with
   | non=>exact EqAt.tuple_none hl1 hu0
   | bl b2=>exact EqAt.tuple_bool b2 hl1 hu0
   | int i2 t2=>exact EqAt.tuple_int i2 t2 hl1 hu0
   | str z2 t2=>exact EqAt.tuple_str z2 t2 hl1 hu0
   | lst z2 hl2 r2 a2=>exact EqAt.tuple_list hl1 hl2 hu0
   | tup z2 hl2 r2 a2=>
    cases z1;cases z2
    exact ref_eqAt h1 h2 (rc_tuples hu0 ih1 hl1 hl2 r1 r2 a1 a2).1
theorem rcAt_data (m:ModOk X.K M) (I:Inv X pins σ H s) {n:Nat} {A:Around} {x y:V} {v u:Value} {d e:PyData} (hu:A.units + (n + 1) < cLine) (rx:RelV x v) (ry:RelV y u) (h1:data M H (n + 1) x=some d) (h2:data M H (n + 1) y=some e):
  RcAt A s v u (PyData.eqv d e)/\RcNeAt A s v u (!PyData.eqv d e):=by
 have hu0:A.units < cLine:=by omega
 have ih1:∀ (x y:V) (v u:Value) (d e:PyData),RelV x v->RelV y u->data M H n x=some d->data M H n y=some e->EqAt A.in1 s v u (PyData.eqv d e):=
  fun x y v u d e=>eqAt_data m I n A.in1 x y v u d e (by show A.units + 1 + n < cLine;omega)
 cases lies m I rx h1 with
 | non=>
  cases lies m I ry h2 with
  | non=>exact⟨RcAt.none_none,RcNeAt.none_none⟩
  | bl b2=>exact⟨RcAt.none_bool b2,RcNeAt.none_bool b2⟩
  | int i2 t2=>exact⟨RcAt.none_int i2 t2,RcNeAt.none_int i2 t2⟩
  | str z2 t2=>exact⟨RcAt.none_str z2 t2,RcNeAt.none_str z2 t2⟩
  | lst z2 hl2 r2 a2=>exact⟨RcAt.none_list hl2 hu0,RcNeAt.none_list hl2 hu0⟩
  | tup z2 hl2 r2 a2=>exact⟨RcAt.none_tuple hl2 hu0,RcNeAt.none_tuple hl2 hu0⟩
 | bl b1=>
  cases lies m I ry h2 with
  | non=>exact⟨RcAt.bool_none b1,RcNeAt.bool_none b1⟩
  | bl b2=>exact⟨RcAt.bool_bool b1 b2,RcNeAt.bool_bool b1 b2⟩
  | int i2 t2=>exact⟨RcAt.bool_int b1 i2 t2,RcNeAt.bool_int b1 i2 t2⟩
  | str z2 t2=>exact⟨RcAt.bool_str b1 z2 t2,RcNeAt.bool_str b1 z2 t2⟩
  | lst z2 hl2 r2 a2=>exact⟨RcAt.bool_list b1 hl2 hu0,RcNeAt.bool_list b1 hl2 hu0⟩
  | tup z2 hl2 r2 a2=>exact⟨RcAt.bool_tuple b1 hl2 hu0,RcNeAt.bool_tuple b1 hl2 hu0⟩
 | int i1 t1=>
  cases lies m I ry h2 with
  | non=>exact⟨RcAt.int_none i1 t1,RcNeAt.int_none i1 t1⟩
  | bl b2=>exact⟨RcAt.int_bool i1 t1 b2,RcNeAt.int_bool i1 t1 b2⟩
  | int i2 t2=>exact⟨RcAt.int_int i1 t1 i2 t2,RcNeAt.int_int i1 t1 i2 t2⟩
  | str z2 t2=>exact⟨RcAt.int_str i1 t1 z2 t2,RcNeAt.int_str i1 t1 z2 t2⟩
  | lst z2 hl2 r2 a2=>exact⟨RcAt.int_list i1 t1 hl2 hu0,RcNeAt.int_list i1 t1 hl2 hu0⟩
  | tup z2 hl2 r2 a2=>exact⟨RcAt.int_tuple i1 t1 hl2 hu0,RcNeAt.int_tuple i1 t1 hl2 hu0⟩
 | str z1 t1=>
  cases lies m I ry h2 with
  | non=>exact⟨RcAt.str_none z1 t1,RcNeAt.str_none z1 t1⟩
  | bl b2=>exact⟨RcAt.str_bool z1 t1 b2,RcNeAt.str_bool z1 t1 b2⟩
  | int i2 t2=>exact⟨RcAt.str_int z1 t1 i2 t2,RcNeAt.str_int z1 t1 i2 t2⟩
  | str z2 t2=>exact⟨RcAt.str_str z1 t1 z2 t2,RcNeAt.str_str z1 t1 z2 t2⟩
  | lst z2 hl2 r2 a2=>exact⟨RcAt.str_list z1 t1 hl2 hu0,RcNeAt.str_list z1 t1 hl2 hu0⟩
  | tup z2 hl2 r2 a2=>exact⟨RcAt.str_tuple z1 t1 hl2 hu0,RcNeAt.str_tuple z1 t1 hl2 hu0⟩
 | lst z1 hl1 r1 a1=>
  cases lies m I ry h2 with
  | non=>exact⟨RcAt.list_none hl1 hu0,RcNeAt.list_none hl1 hu0⟩
  | bl b2=>exact⟨RcAt.list_bool b2 hl1 hu0,RcNeAt.list_bool b2 hl1 hu0⟩
  | int i2 t2=>exact⟨RcAt.list_int i2 t2 hl1 hu0,RcNeAt.list_int i2 t2 hl1 hu0⟩
  | str z2 t2=>exact⟨RcAt.list_str z2 t2 hl1 hu0,RcNeAt.list_str z2 t2 hl1 hu0⟩
  | lst z2 hl2 r2 a2=>
   cases z1;cases z2
   exact rc_lists hu0 ih1 hl1 hl2 r1 r2 a1 a2
  | tup z2 hl2 r2 a2=>exact⟨RcAt.list_tuple hl1 hl2 hu0,RcNeAt.list_tuple hl1 hl2 hu0⟩
 | tup z1 hl1 r1 a1=>
  cases lies m I ry h2 with
  | non=>exact⟨RcAt.tuple_none hl1 hu0,RcNeAt.tuple_none hl1 hu0⟩
  | bl b2=>exact⟨RcAt.tuple_bool b2 hl1 hu0,RcNeAt.tuple_bool b2 hl1 hu0⟩
  | int i2 t2=>exact⟨RcAt.tuple_int i2 t2 hl1 hu0,RcNeAt.tuple_int i2 t2 hl1 hu0⟩
  | str z2 t2=>exact⟨RcAt.tuple_str z2 t2 hl1 hu0,RcNeAt.tuple_str z2 t2 hl1 hu0⟩
  | lst z2 hl2 r2 a2=>exact⟨RcAt.tuple_list hl1 hl2 hu0,RcNeAt.tuple_list hl1 hl2 hu0⟩
  | tup z2 hl2 r2 a2=>
   cases z1;cases z2
   exact rc_tuples hu0 ih1 hl1 hl2 r1 r2 a1 a2
end
section
variable (M:Mo)
noncomputable def bnd (i:Int):Bool:=decide (-(2 ^ 64) < i) && decide (i < 2 ^ 64)
noncomputable def binV (op:Operator) (x y:V) (H:Hp) (Q:VK):Prop:=match op,x,y with
 | .Add,.int i,.int j=>Q (.int (i + j)) H
 | .Add,.str i,.str j=>i.length + j.length<=sizeLine/\Q (.str (i++j)) H
 | .Add,.ref a,.ref b=>match rd M H a,rd M H b with
  | some (.lst xs),some (.lst ys)=>xs.length + ys.length<=sizeLine/\∀p,H p=none->M p=none->Q (.ref p) (upd H p (.lst (xs++ys)))
  | some (.tup xs),some (.tup ys)=>xs ≠ []/\ys ≠ []/\xs.length + ys.length<=sizeLine/\∀p,H p=none->M p=none->Q (.ref p) (upd H p (.tup (xs++ys)))
  | _,_=>False
 | .Sub,.int i,.int j=>Q (.int (i - j)) H
 | .Mult,.int i,.int j=>(bnd i || bnd j)=true/\Q (.int (i * j)) H
 | .Mult,.str x,.int k=>(-(2 ^ 63)<=k/\k < 2 ^ 63/\x.length * k.toNat<=16777216)/\Q (.str (Txt.mul x k)) H
 | .Mult,.ref a,.int k=>match H a with
  | some (.lst xs)=>-(2 ^ 63)<=k/\k < 2 ^ 63/\xs.length * k.toNat<=sizeLine/\∀p,H p=none->M p=none->Q (.ref p) (upd H p (.lst (List.replicate k.toNat xs).flatten))
  | _=>False
 | .FloorDiv,.int i,.int j=>0 < j/\j < 1073741824/\Q (.int (i / j)) H
 | .Mod,.int i,.int j=>0 < j/\Q (.int (i % j)) H
 | .Pow,.int i,.int j=>CPow i j/\Q (.int (i ^ j.toNat)) H
 | .RShift,.int i,.int j=>0<=j/\Q (.int (i / 2 ^ j.toNat)) H
 | .BitAnd,.int i,.int j=>Q (.int (Builtin.bitAnd i j)) H
 | _,_,_=>False
noncomputable def cmpV (op:CmpOp) (x y:V) (H:Hp) (Q:VK):Prop:=match op,x,y with
 | .Eq,_,_=>if scal x y=true then Q (.bl (decide (x=y))) H else match data M H 16 x,data M H 16 y with
  | some d,some e=>Q (.bl (PyData.eqv d e)) H
  | _,_=>False
 | .NotEq,_,_=>if scal x y=true then Q (.bl (!decide (x=y))) H else match data M H 16 x,data M H 16 y with
  | some d,some e=>Q (.bl (!PyData.eqv d e)) H
  | _,_=>False
 | .Lt,.int i,.int j=>Q (.bl (decide (i < j))) H
 | .Gt,.int i,.int j=>Q (.bl (decide (j < i))) H
 | .Lt,.str i,.str j=>Q (.bl (decide (i.cps.toList < j.cps.toList))) H
 | .Gt,.str i,.str j=>Q (.bl (decide (j.cps.toList < i.cps.toList))) H
 | .In,.str i,.str j=>Q (.bl (!(Builtin.Str.occurrences j i 0 j.length 1).isEmpty)) H
 | .NotIn,.str i,.str j=>Q (.bl (!(!(Builtin.Str.occurrences j i 0 j.length 1).isEmpty))) H
 | .In,_,.ref p=>match rd M H p with
  | some (.lst xs)=>flatV x=true/\xs.all flatV=true/\Q (.bl (inV x xs)) H
  | some (.tup xs)=>flatV x=true/\xs.all flatV=true/\Q (.bl (inV x xs)) H
  | _=>False
 | .NotIn,_,.ref p=>match rd M H p with
  | some (.lst xs)=>flatV x=true/\xs.all flatV=true/\Q (.bl (!inV x xs)) H
  | some (.tup xs)=>flatV x=true/\xs.all flatV=true/\Q (.bl (!inV x xs)) H
  | _=>False
 | _,_,_=>False
noncomputable def truV (x:V) (H:Hp) (Q:Bool->Prop):Prop:=match x with
 | .non=>Q false
 | .bl b=>Q b
 | .int i=>Q (i != 0)
 | .str y=>y.length<=sizeLine/\Q ((y.length:Int) != 0)
 | .ref p=>match rd M H p with
  | some (.lst xs)=>Q (!xs.isEmpty)
  | some (.tup xs)=>Q (!xs.isEmpty)
  | _=>False
 | _=>False
noncomputable def idxV (x y:V) (H:Hp) (Q:VK):Prop:=match x,y with
 | .str z,.int i=>z.length<=sizeLine/\match atI z.cps.toList i with | some c=>Q (.str ⟨#[c]⟩) H | none=>False
 | .ref p,.int i=>match rd M H p with
  | some (.lst xs)=>match atI xs i with | some v=>Q v H | none=>False
  | some (.tup xs)=>match atI xs i with | some v=>Q v H | none=>False
  | _=>False
 | _,_=>False
end
section
variable {X:Cx} {M:Mo}
theorem bnd_ok {i j:Int} (h:(bnd i || bnd j)=true):CMul i j:=by
 unfold bnd at h
 simp only[Bool.or_eq_true,Bool.and_eq_true,decide_eq_true_eq]at h
 exact h
noncomputable def OffM (M:Mo) (H:Hp):Prop:=∀a,M a ≠ none->H a=none
theorem ModOk.look {K:PySem.W.Frag} {M:Mo} (m:ModOk K M) {a:Addr} (h:M a ≠ none):∃o,K.lookup a=some o:=by
 cases e:M a with
 | none=>exact absurd e h
 | some u=>
  have z:=m a u e
  cases u<;>first | exact z.elim | (obtain⟨o,_,_,h1,_⟩:=z;exact⟨o,h1⟩)
theorem Inv.offM (m:ModOk X.K M) {pins:List (Addr × Obj)} {σ:L2.St} {H:Hp} {s:Shared} (I:Inv X pins σ H s):OffM M H:=fun a h=>by
 obtain⟨o,e⟩:=m.look h
 exact(I.bs a o (I.ok.mod.kin a o e)).2
theorem OffM.new {H:Hp} {p:Addr} {o:HO} (h:OffM M (upd H p o)):M p=none:=by
 cases e:M p with
 | none=>rfl
 | some u=>
  have z:=h p (by rw[e];intro z;cases z)
  rw[upd_same]at z
  cases z
theorem ep_off (m:ModOk X.K M) {pins:List (Addr × Obj)} {σ:L2.St} {Q:VK} {u:Value} {s:Shared} (h:EP X pins σ (fun v H'=>OffM M H'->Q v H') u s):EP X pins σ Q u s:=by
 obtain⟨v,H',I,r,q⟩:=h
 exact⟨v,H',I,r,q (Inv.offM m I)⟩
theorem cat_lists (m:ModOk X.K M) {pins:List (Addr × Obj)} {s:Shared} {σ:L2.St} {H:Hp} {l b:Addr} {xs ys:List V} {Q:VK} (I:Inv X pins σ H s) (ha:SqL X.K H l xs) (hb:SqL X.K H b ys) (hz:xs.length + ys.length<=sizeLine)
  (h:∀p,H p=none->M p=none->Q (.ref p) (upd H p (.lst (xs++ys)))):wpAny (model X.prog X.w) X.A (binaryOp .Add (.ref l) (.ref b)) (EP X pins σ Q) X.xe s:=by
 obtain⟨its,r1,p1,_⟩:=I.list ha
 obtain⟨its2,r2,p2,_⟩:=I.list hb
 obtain⟨⟨c1,d1,da1,sl1⟩,n1,o1,hc1,hd1,hda1⟩:=p1
 obtain⟨⟨c2,d2,da2,sl2⟩,n2,o2,hc2,hd2,hda2⟩:=p2
 simp only at hc1 hda1 hc2 hda2
 subst hc1 hda1 hc2 hda2
 have hsz:its.toArray.size + its2.toArray.size<=sizeLine:=by rw[List.size_toArray,List.size_toArray,<-r1.length,<-r2.length];exact hz
 refine concat_meets ⟨_,o1,rfl⟩ ⟨_,o2,rfl⟩ noFill_list_add seq_list_add PySem.F.slot_list_add PySem.F.entry_list_add (PySem.F.args_list_add_2 _ _) (list_addW l b its.toArray its2.toArray n1 n2 d1 d2 sl1 sl2 hsz) ⟨o1,o2,?_⟩
 have ea:its.toArray++its2.toArray=(its++its2).toArray:=by simp
 rw[ea]
 have I2:=I.lnew (t':=s.toks) (r1.append r2) (by rw[List.length_append];exact hz)
 exact⟨.ref _,_,I2,rfl,h _ I.fresh (OffM.new (Inv.offM m I2))⟩
theorem mul_ok {x:Str} {k:Int} (h: -(2 ^ 63)<=k/\k < 2 ^ 63/\x.length * k.toNat<=16777216):MulOk x k:=by
 obtain⟨h1,h2,h3⟩:=h
 refine⟨by simp;omega,fun z _=>?_,fun z _=>?_⟩
 ·have hk:0 < k:=by omega
  intro hc
  have:=Int.lt_of_lt_of_le (Int.lt_mul_of_ediv_lt hk hc) (Int.le_refl _)
  have e:(x.length:Int) * k=((x.length * k.toNat:Nat):Int):=by
   rw[Int.natCast_mul]
   congr 1
   omega
  rw[e]at this
  omega
 ·unfold Builtin.Str.tooLong
  rw[decide_eq_false_iff_not,sizeLine_eq]
  omega
theorem bin_ok (m:ModOk X.K M) (op:Operator):OpR X (binaryOp op) (binV M op):=by
 intro pins s σ H x y v u Q I rx ry h
 cases op with
 | Add=>
  cases x with
  | int i=>
   cases y with
   | int j=>
    exact op_add pins s σ H _ _ v u Q I rx ry ⟨_,_,rfl,rfl,h⟩
   | _=>exact False.elim h
  | str i=>
   cases y with
   | str j=>
    exact op_add_str pins s σ H _ _ v u Q I rx ry ⟨_,_,rfl,rfl,h.1,h.2⟩
   | _=>exact False.elim h
  | ref a=>
   cases y with
   | ref b=>
    unfold binV at h
    dsimp only at h
    split at h
    ·rename_i xs ys ea eb
     cases rx
     cases ry
     exact cat_lists m I (rd_lst m ea) (rd_lst m eb) h.1 h.2
    ·rename_i xs ys ea eb
     exact thn (op_catT pins s σ H _ _ v u _ I rx ry ⟨_,_,xs,ys,rfl,rfl,rd_tup m ea,rd_tup m eb,h.1,h.2.2.1,fun z=>absurd z h.2.1,fun _ p hp of=>h.2.2.2 p hp of.new⟩) fun _ _=>ep_off m
    ·exact h.elim
   | _=>exact False.elim h
  | _=>first | exact False.elim h | (cases y<;>exact False.elim h)
 | Sub=>
  cases x with
  | int i=>
   cases y with
   | int j=>
    exact op_sub pins s σ H _ _ v u Q I rx ry ⟨_,_,rfl,rfl,h⟩
   | _=>exact False.elim h
  | _=>first | exact False.elim h | (cases y<;>exact False.elim h)
 | Mult=>
  cases x with
  | int i=>
   cases y with
   | int j=>
    exact op_mul pins s σ H _ _ v u Q I rx ry ⟨_,_,rfl,rfl,bnd_ok h.1,h.2⟩
   | _=>exact False.elim h
  | str z=>
   cases y with
   | int k=>
    obtain⟨t,rfl⟩:=rx
    obtain⟨t',rfl⟩:=ry
    exact PySem.SB.mul (mul_ok h.1) fun t' k=>⟨.str _,H,I.tok _,⟨_,rfl⟩,h.2⟩
   | _=>exact False.elim h
  | ref a=>
   cases y with
   | int k=>
    unfold binV at h
    dsimp only at h
    split at h
    ·rename_i xs ea
     exact thn (op_rep pins s σ H _ _ v u _ I rx ry ⟨_,_,xs,rfl,rfl,ea,h.1,h.2.1,h.2.2.1,fun p hp of=>h.2.2.2 p hp of.new⟩) fun _ _=>ep_off m
    ·exact h.elim
   | _=>exact False.elim h
  | _=>first | exact False.elim h | (cases y<;>exact False.elim h)
 | FloorDiv=>
  cases x with
  | int i=>
   cases y with
   | int j=>
    exact op_fdiv pins s σ H _ _ v u Q I rx ry ⟨_,_,rfl,rfl,⟨h.1,h.2.1⟩,h.2.2⟩
   | _=>exact False.elim h
  | _=>first | exact False.elim h | (cases y<;>exact False.elim h)
 | Mod=>
  cases x with
  | int i=>
   cases y with
   | int j=>
    exact op_mod pins s σ H _ _ v u Q I rx ry ⟨_,_,rfl,rfl,h.1,h.2⟩
   | _=>exact False.elim h
  | _=>first | exact False.elim h | (cases y<;>exact False.elim h)
 | Pow=>
  cases x with
  | int i=>
   cases y with
   | int j=>
    exact op_pow pins s σ H _ _ v u Q I rx ry ⟨_,_,rfl,rfl,h.1,h.2⟩
   | _=>exact False.elim h
  | _=>first | exact False.elim h | (cases y<;>exact False.elim h)
 | RShift=>
  cases x with
  | int i=>
   cases y with
   | int j=>
    exact op_shr pins s σ H _ _ v u Q I rx ry ⟨_,_,rfl,rfl,h.1,h.2⟩
   | _=>exact False.elim h
  | _=>first | exact False.elim h | (cases y<;>exact False.elim h)
 | BitAnd=>
  cases x with
  | int i=>
   cases y with
   | int j=>
    exact op_and pins s σ H _ _ v u Q I rx ry ⟨_,_,rfl,rfl,h⟩
   | _=>exact False.elim h
  | _=>first | exact False.elim h | (cases y<;>exact False.elim h)
 | _=>exact False.elim h
theorem in_any {op:CmpOp} {x y:V} {H:Hp} {Q:VK} (h:cmpV M op x y H Q) (e:op=.In\/op=.NotIn):(∃ i j,x=.str i/\y=.str j)\/∃p,y=.ref p:=by
 cases y with
 | ref p=>exact .inr ⟨p,rfl⟩
 | str j=>cases x with
  | str i=>exact .inl ⟨i,j,rfl,rfl⟩
  | _=>rcases e with e | e<;>(subst e;exact False.elim h)
 | _=>rcases e with e | e<;>(subst e;cases x<;>exact False.elim h)
theorem lt_any {op:CmpOp} {x y:V} {H:Hp} {Q:VK} (h:cmpV M op x y H Q) (e:op=.Lt\/op=.LtE\/op=.Gt\/op=.GtE):(∃ i j,x=.int i/\y=.int j)\/∃i j,x=.str i/\y=.str j:=by
 cases x with
 | int i=>cases y with
  | int j=>exact .inl ⟨i,j,rfl,rfl⟩
  | _=>rcases e with e | e | e | e<;>(subst e;exact False.elim h)
 | str i=>cases y with
  | str j=>exact .inr ⟨i,j,rfl,rfl⟩
  | _=>rcases e with e | e | e | e<;>(subst e;exact False.elim h)
 | _=>rcases e with e | e | e | e<;>(subst e;exact False.elim h)
theorem cmp_ok (hu:X.A.units + 64 < cLine) (m:ModOk X.K M) (op:CmpOp):OpR X (compareOp op) (cmpV M op):=by
 intro pins s σ H x y v u Q I rx ry h
 cases op with
 | Eq=>
  by_cases hs:scal x y=true
  ·exact op_eq pins s σ H _ _ v u Q I rx ry ⟨hs,Eq.mp (if_pos hs) (show(if scal x y=true then _ else _)from h)⟩
  ·have h:=Eq.mp (if_neg hs) (show(if scal x y=true then _ else _)from h)
   split at h
   ·rename_i d e h1 h2
    exact(rcAt_data (n:=15) m I (by omega) rx ry h1 h2).1 X.prog X.w X.xe _ ⟨.bl _,H,I,rfl,h⟩
   ·exact h.elim
 | NotEq=>
  by_cases hs:scal x y=true
  ·exact op_ne pins s σ H _ _ v u Q I rx ry ⟨hs,Eq.mp (if_pos hs) (show(if scal x y=true then _ else _)from h)⟩
  ·have h:=Eq.mp (if_neg hs) (show(if scal x y=true then _ else _)from h)
   split at h
   ·rename_i d e h1 h2
    exact(rcAt_data (n:=15) m I (by omega) rx ry h1 h2).2 X.prog X.w X.xe _ ⟨.bl _,H,I,rfl,h⟩
   ·exact h.elim
 | Lt=>
  obtain⟨i,j,rfl,rfl⟩ | ⟨i,j,rfl,rfl⟩:=lt_any h (.inl rfl)
  ·exact op_lt pins s σ H _ _ v u Q I rx ry ⟨_,_,rfl,rfl,h⟩
  ·exact op_lt_str pins s σ H _ _ v u Q I rx ry ⟨_,_,rfl,rfl,h⟩
 | Gt=>
  obtain⟨i,j,rfl,rfl⟩ | ⟨i,j,rfl,rfl⟩:=lt_any h (.inr (.inr (.inl rfl)))
  ·exact op_gt pins s σ H _ _ v u Q I rx ry ⟨_,_,rfl,rfl,h⟩
  ·obtain⟨t,rfl⟩:=rx
   obtain⟨t',rfl⟩:=ry
   exact PySem.P.gt_str (fin_bl I h rfl)
 | In=>
  obtain⟨i,j,rfl,rfl⟩ | ⟨p,rfl⟩:=in_any h (.inl rfl)
  ·exact op_in_str pins s σ H _ _ v u Q I rx ry ⟨_,_,rfl,rfl,h⟩
  ·have h:(match rd M H p with
    | some (.lst xs)=>flatV x=true/\xs.all flatV=true/\Q (.bl (inV x xs)) H
    | some (.tup xs)=>flatV x=true/\xs.all flatV=true/\Q (.bl (inV x xs)) H
    | _=>False):=by cases x<;>exact h
   split at h
   ·rename_i e;exact op_in_seq pins s σ H _ _ v u Q I rx ry ⟨_,_,rfl,.inl (rd_lst m e),h.1,h.2.1,h.2.2⟩
   ·rename_i e;exact op_in_seq pins s σ H _ _ v u Q I rx ry ⟨_,_,rfl,.inr (rd_tup m e),h.1,h.2.1,h.2.2⟩
   ·exact h.elim
 | NotIn=>
  obtain⟨i,j,rfl,rfl⟩ | ⟨p,rfl⟩:=in_any h (.inr rfl)
  ·exact op_notin_str pins s σ H _ _ v u Q I rx ry ⟨_,_,rfl,rfl,h⟩
  ·have h:(match rd M H p with
    | some (.lst xs)=>flatV x=true/\xs.all flatV=true/\Q (.bl (!inV x xs)) H
    | some (.tup xs)=>flatV x=true/\xs.all flatV=true/\Q (.bl (!inV x xs)) H
    | _=>False):=by cases x<;>exact h
   split at h
   ·rename_i e;exact op_notIn_seq pins s σ H _ _ v u Q I rx ry ⟨_,_,rfl,.inl (rd_lst m e),h.1,h.2.1,h.2.2⟩
   ·rename_i e;exact op_notIn_seq pins s σ H _ _ v u Q I rx ry ⟨_,_,rfl,.inr (rd_tup m e),h.1,h.2.1,h.2.2⟩
   ·exact h.elim
 | _=>exact False.elim h
theorem tru_of (m:ModOk X.K M):TruR X (fun x H Q=>truV M x H fun k=>Q k H):=by
 intro pins s σ H x v Q I rx h
 refine tru_ok pins s σ H x v Q I rx ?_
 unfold truV at h
 split at h
 ·exact⟨_,rfl,h⟩
 ·exact⟨_,rfl,h⟩
 ·exact⟨_,rfl,h⟩
 ·exact⟨_,⟨h.1,rfl⟩,h.2⟩
 ·split at h
  ·rename_i e;exact⟨_,.inl ⟨_,rd_lst m e,rfl⟩,h⟩
  ·rename_i e;exact⟨_,.inr (.inl ⟨_,rd_tup m e,rfl⟩),h⟩
  ·exact h.elim
 ·exact h.elim
theorem idx_ok (m:ModOk X.K M):IxR X (idxV M):=by
 intro value slice pins s σ H x y v u Q I rx ry h hs
 refine ix_seq value slice pins s σ H x y v u Q I rx ry ?_ hs
 unfold idxV at h
 split at h
 ·obtain⟨h1,h⟩:=h
  split at h
  ·rename_i e;exact .inr (.inr ⟨_,_,_,rfl,rfl,h1,e,h⟩)
  ·exact h.elim
 ·split at h
  ·rename_i e
   split at h
   ·rename_i e2;exact .inl ⟨_,_,_,_,rfl,rfl,rd_lst m e,e2,h⟩
   ·exact h.elim
  ·rename_i e
   split at h
   ·rename_i e2;exact .inr (.inl ⟨_,_,_,_,rfl,rfl,rd_tup m e,e2,h⟩)
   ·exact h.elim
  ·exact h.elim
 ·exact h.elim
end
end Sw
namespace Sw
open PySem PySem.Spec PyProof.Rows L2
inductive Bf where | len | all | any | str | int | abs | sorted | sortset | list | tuple | max | min | sum | dlen | dsorted | smin
 deriving DecidableEq
noncomputable def Bf.name:Bf->Str
 | .len=> "len" | .all=> "all" | .any=> "any" | .str=> "str" | .int=> "int" | .abs=> "abs" | .sorted=> "sorted" | .sortset=> "sorted" | .list=> "list" | .tuple=> "tuple" | .max=> "max" | .min=> "min" | .sum=> "sum" | .dlen=> "len" | .dsorted=> "sorted" | .smin=> "min"
inductive Mf where | startswith | endswith | split | join | append | pop | extend | clear | dpop | dclear | copy | setdefault | get
 deriving DecidableEq
noncomputable def Mf.name:Mf->Str
 | .startswith=> "startswith" | .endswith=> "endswith" | .split=> "split" | .join=> "join" | .append=> "append" | .pop=> "pop" | .extend=> "extend" | .clear=> "clear" | .dpop=> "pop" | .dclear=> "clear" | .copy=> "copy" | .setdefault=> "setdefault" | .get=> "get"
inductive Ty where | str | int | bool | list | tuple | dict | own (x:Str)
 deriving DecidableEq
noncomputable def Ty.name:Ty->Str
 | .str=> "str" | .int=> "int" | .bool=> "bool" | .list=> "list" | .tuple=> "tuple" | .dict=> "dict" | .own x=>x
mutual
inductive Ex where
 | var (i:Nat) | con (v:V)
 | bin (op:Operator) (a b:Ex) | neg (a:Ex)
 | cmp (op:CmpOp) (a b:Ex)
 | and (a b:Ex) | or (a b:Ex) | not (a:Ex)
 | ite (c a b:Ex)
 | call (f:Str) (args:Exs)
 | blt (f:Bf) (args:Exs)
 | mth (m:Mf) (o:Ex) (args:Exs)
 | isin (a:Ex) (T:Ty)
 | idx (a b:Ex)
 | slc (a:Ex) (lo hi:Exs)
 | tup (es:Exs) | lst (es:Exs) | dic (kvs:Exs)
 | comp (x:Str) (fv:List (Str × Nat)) (it:Ix) (elt:Ex) (ifs:Exs)
 | cmpD (op:CmpOp) (a b:Ex) | idxD (a b:Ex) | dnew
 | lset (a:Ex) | cmpI (op:CmpOp) (a b:Ex) | lrev (a:Ex) | dcop (a:Ex)
 | compE (xs:List Str) (fv:List (Str × Nat)) (a:Ex) (elt:Ex) (ifs:Exs)
 | ofld (a:Ex) (f:Str) | onew (x:Str) (args:Exs) | omth (m:Str) (o:Ex) (args:Exs)
inductive Exs where
 | nil | cons (e:Ex) (r:Exs)
inductive Ix where
 | ex (e:Ex) | rng1 (a:Ex)
end
mutual
inductive Sx where
 | asg (i:Nat) (e:Ex)
 | exp (e:Ex) | ret (e:Ex)
 | iff (c:Ex) (a b:Sxs)
 | whl (c:Ex) (b:Sxs)
 | fr (i:Nat) (it:Ix) (b:Sxs)
 | sto (o i e:Ex)
 | oset (o:Ex) (f:Str) (e:Ex)
inductive Sxs where
 | nil | cons (s:Sx) (r:Sxs)
end
noncomputable def isVis (sc:Scope) (x:Str):Bool:=match sc.names.lookup x with
 | some .local=>true | some .cell=>true | some .free=>true | _=>false
noncomputable def isLoc (sc:Scope) (x:Str):Bool:=match sc.names.lookup x with
 | some .local=>true | some .cell=>true | _=>false
noncomputable def isGl (sc:Scope) (x:Str):Bool:=match sc.names.lookup x with
 | some .globalImplicit=>true | _=>false
noncomputable def okName (x:Str):Bool:=!(x == ("__debug__" :Str)) && !(x == ("__classdict__" :Str)) && !(decide (x= "__name__"))
noncomputable def plainE:Expr->Bool
 | .Starred _ _=>false | .Set _ _ _=>false | .Slice _ _ _ _=>false | _=>true
noncomputable def noCall0:Expr->Bool
 | .Call (.Name _ _) [] [] _=>false | _=>true
noncomputable def compOkN (sc:Scope) (csc:Scope) (N ns:List Str) (fv:List (Str × Nat)):Bool:=
 decide (csc.kind=.function) && ns.all (fun x=>decide (csc.names.lookup x=some .local)) && decide (sc.kind=.function)
 && csc.names.all (fun y=>decide (y.2 ≠ .cell) && (decide (y.2 ≠ .local) || decide (csc.names.lookup y.1=some .local)) && (decide (y.2 ≠ .free) || (decide (sc.names.lookup y.1=some .cell) || decide (sc.names.lookup y.1=some .free))))
 && fv.all (fun y=>decide (N[y.2]?=some y.1) && decide (csc.names.lookup y.1=some .free))
 && decide (ns++fv.map (·.1)).Nodup
noncomputable def ek:Expr->List Expr
 | .BoolOp _ vs _=>vs
 | .BinOp a _ b _=>[a,b]
 | .UnaryOp _ a _=>[a]
 | .IfExp c a b _=>[c,a,b]
 | .Dict ks vs _=>((ks.zip vs).map fun t=>[t.1.getD default,t.2]).flatten
 | .ListComp e gs _ _=>e::(gs.map fun g=>g.target::g.iter::g.ifs).flatten
 | .Compare a _ bs _=>a::bs
 | .Call f es _ _=>f::es
 | .FormattedValue a _ _ _=>[a]
 | .JoinedStr vs _=>vs
 | .Attribute a _ _=>[a]
 | .Subscript a b _=>[a,b]
 | .List es _=>es
 | .Tuple es _ _=>es
 | .Slice l u _ _=>[l.getD default,u.getD default]
 | _=>[]
noncomputable def kd:Expr->Nat
 | .Constant _ k _=>k
 | .Tuple _ k _=>k
 | _=>0
noncomputable def csc:Expr->Scope
 | .ListComp _ _ sc _=>sc
 | _=>default
noncomputable def kid (e:Expr) (i:Nat):Expr:=(ek e).getD i default
noncomputable def se:Stmt->List Expr
 | .Return v _=>[v.getD default]
 | .Assign ts v _=>ts++[v]
 | .For t it _ _ _=>[t,it]
 | .While c _ _ _=>[c]
 | .If c _ _ _=>[c]
 | .Raise e c _=>[e.getD default,c.getD default]
 | .Try _ hs _ _ _=>hs.map fun h=>match h with | .ExceptHandler t _ _ _=>t.getD default
 | .Expr v _=>[v]
 | _=>[]
noncomputable def sb:Stmt->List Stmt × List Stmt
 | .For _ _ b _ _=>(b,[])
 | .While _ b _ _=>(b,[])
 | .If _ a b _=>(a,b)
 | .Try b hs _ _ _=>(b,(hs.map fun h=>match h with | .ExceptHandler _ _ b _=>b).flatten)
 | _=>([],[])
noncomputable def hpos:Stmt->Pos
 | .Try _ (.ExceptHandler _ _ _ p::_) _ _ _=>p
 | _=>⟨0,0,0,0⟩
noncomputable def sk (s:Stmt) (i:Nat):Expr:=(se s).getD i default
noncomputable def nx (N:List Str) (i:Nat):Str:=N.getD i Str.empty
noncomputable def cOf:V->Const
 | .int i=>.int i | .str x=>.str x | .bl b=>.bool b | _=>.none
noncomputable def isC:V->Bool
 | .int _=>true | .str _=>true | .bl _=>true | .non=>true | _=>false
noncomputable def isAnd:Ex->Bool
 | .and _ _=>true | _=>false
noncomputable def isOr:Ex->Bool
 | .or _ _=>true | _=>false
noncomputable def isComp:Ex->Bool
 | .comp _ _ _ _ _=>true | .compE _ _ _ _ _=>true | _=>false
noncomputable def evs {α:Type}:List α->List α
 | a::_::r=>a::evs r
 | _=>[]
noncomputable def ods {α:Type}:List α->List α
 | _::b::r=>b::ods r
 | _=>[]
noncomputable def Exs.len:Exs->Nat
 | .nil=>0
 | .cons _ r=>r.len + 1
noncomputable def isIn (fv:List (Str × Nat)) (x:Str):List Str:=x::fv.map (·.1)
noncomputable def inT (fv:List (Str × Nat)) (xs:List Str):List Str:=xs++fv.map (·.1)
noncomputable def bN (N:List Str):List Nat->List Expr->List Expr
 | [],_=>[]
 | i::is,ts=>.Name (nx N i) (ts.headD default).pos::bN N is ts.tail
mutual
noncomputable def bE (N:List Str):Ex->Expr->Expr
 | .var i,e=>.Name (nx N i) e.pos
 | .con v,e=>.Constant (cOf v) (kd e) e.pos
 | .bin op a b,e=>.BinOp (bE N a (kid e 0)) op (bE N b (kid e 1)) e.pos
 | .neg a,e=>.UnaryOp .USub (bE N a (kid e 0)) e.pos
 | .cmp op a b,e=>.Compare (bE N a (kid e 0)) [op] [bE N b (kid e 1)] e.pos
 | .and a b,e=>.BoolOp .And (bE N a (kid e 0)::(cond (decide ((ek e).length=2)) [bE N b (kid e 1)] (ek (bE N b (.BoolOp .And (ek e).tail e.pos))))) e.pos
 | .or a b,e=>.BoolOp .Or (bE N a (kid e 0)::(cond (decide ((ek e).length=2)) [bE N b (kid e 1)] (ek (bE N b (.BoolOp .Or (ek e).tail e.pos))))) e.pos
 | .not a,e=>.UnaryOp .Not (bE N a (kid e 0)) e.pos
 | .ite c a b,e=>.IfExp (bE N c (kid e 0)) (bE N a (kid e 1)) (bE N b (kid e 2)) e.pos
 | .call f args,e=>.Call (.Name f (kid e 0).pos) (bEs N args (ek e).tail) [] e.pos
 | .blt f args,e=>.Call (.Name f.name (kid e 0).pos) (bEs N args (ek e).tail) [] e.pos
 | .mth m o args,e=>.Call (.Attribute (bE N o (kid (kid e 0) 0)) m.name (kid e 0).pos) (bEs N args (ek e).tail) [] e.pos
 | .isin a T,e=>.Call (.Name "isinstance" (kid e 0).pos) [bE N a (kid e 1),.Name T.name (kid e 2).pos] [] e.pos
 | .idx a b,e=>.Subscript (bE N a (kid e 0)) (bE N b (kid e 1)) e.pos
 | .slc a lo hi,e=>.Subscript (bE N a (kid e 0)) (.Slice (bEs N lo [kid (kid e 1) 0]).head? (bEs N hi [kid (kid e 1) 1]).head? none (kid e 1).pos) e.pos
 | .tup es,e=>.Tuple (bEs N es (ek e)) (kd e) e.pos
 | .lst es,e=>.List (bEs N es (ek e)) e.pos
 | .dic kvs,e=>.Dict ((evs (bEs N kvs (ek e))).map some) (ods (bEs N kvs (ek e))) e.pos
 | .comp x fv it elt ifs,e=>.ListComp (bE (isIn fv x) elt (kid e 0)) [⟨.Name x (kid e 1).pos,bI N it (kid e 2),bEs (isIn fv x) ifs ((ek e).drop 3),0⟩] (csc e) e.pos
 | .cmpD op a b,e=>.Compare (bE N a (kid e 0)) [op] [bE N b (kid e 1)] e.pos
 | .idxD a b,e=>.Subscript (bE N a (kid e 0)) (bE N b (kid e 1)) e.pos
 | .dnew,e=>.Dict [] [] e.pos
 | .lset a,e=>.Call (.Name "len" (kid e 0).pos) [.Call (.Name "set" (kid (kid e 1) 0).pos) [bE N a (kid (kid e 1) 1)] [] (kid e 1).pos] [] e.pos
 | .cmpI op a b,e=>.Compare (bE N a (kid e 0)) [op] [bE N b (kid e 1)] e.pos
 | .lrev a,e=>.Call (.Name "list" (kid e 0).pos) [.Call (.Name "reversed" (kid (kid e 1) 0).pos) [bE N a (kid (kid e 1) 1)] [] (kid e 1).pos] [] e.pos
 | .dcop a,e=>.Call (.Name "dict" (kid e 0).pos) [bE N a (kid e 1)] [] e.pos
 | .compE xs fv a elt ifs,e=>.ListComp (bE (inT fv xs) elt (kid e 0)) [⟨.Tuple (bN (inT fv xs) (List.range xs.length) (ek (kid e 1))) (kd (kid e 1)) (kid e 1).pos,.Call (.Name "enumerate" (kid (kid e 2) 0).pos) [bE N a (kid (kid e 2) 1)] [] (kid e 2).pos,bEs (inT fv xs) ifs ((ek e).drop 3),0⟩] (csc e) e.pos
 | .ofld a f,e=>.Attribute (bE N a (kid e 0)) f e.pos
 | .onew x args,e=>.Call (.Name x (kid e 0).pos) (bEs N args (ek e).tail) [] e.pos
 | .omth m o args,e=>.Call (.Attribute (bE N o (kid (kid e 0) 0)) m (kid e 0).pos) (bEs N args (ek e).tail) [] e.pos
noncomputable def bEs (N:List Str):Exs->List Expr->List Expr
 | .nil,_=>[]
 | .cons c r,es=>bE N c (es.headD default)::bEs N r es.tail
noncomputable def bI (N:List Str):Ix->Expr->Expr
 | .ex c,e=>bE N c e
 | .rng1 a,e=>.Call (.Name "range" (kid e 0).pos) [bE N a (kid e 1)] [] e.pos
end
mutual
/-- what must hold besides -/
noncomputable def oE (sc:Scope) (N:List Str):Ex->Expr->Bool
 | .var i,_=>decide (i < N.length) && (isVis sc (nx N i) && okName (nx N i))
 | .con v,_=>isC v
 | .bin _ a b,e=>oE sc N a (kid e 0) && oE sc N b (kid e 1)
 | .neg a,e=>oE sc N a (kid e 0)
 | .cmp _ a b,e=>oE sc N a (kid e 0) && oE sc N b (kid e 1)
 | .and a b,e=>oE sc N a (kid e 0) && (cond (decide ((ek e).length=2)) (oE sc N b (kid e 1)) (isAnd b && oE sc N b (.BoolOp .And (ek e).tail e.pos)))
 | .or a b,e=>oE sc N a (kid e 0) && (cond (decide ((ek e).length=2)) (oE sc N b (kid e 1)) (isOr b && oE sc N b (.BoolOp .Or (ek e).tail e.pos)))
 | .not a,e=>oE sc N a (kid e 0)
 | .ite c a b,e=>oE sc N c (kid e 0) && (oE sc N a (kid e 1) && oE sc N b (kid e 2))
 | .call f args,e=>(isGl sc f && okName f) && oEs sc N args (ek e).tail
 | .blt f args,e=>(isGl sc f.name && okName f.name) && ((decide (f ≠ .sortset) && decide (args.len ≠ 0)) && oEs sc N args (ek e).tail)
 | .mth _ o args,e=>(noCall0 (bE N o (kid (kid e 0) 0)) && ((kid e 0).pos.endLine == e.pos.line)) && (decide (args.len < 20) && (oE sc N o (kid (kid e 0) 0) && oEs sc N args (ek e).tail))
 | .isin a T,e=>(isGl sc "isinstance" && (isGl sc T.name && okName T.name)) && oE sc N a (kid e 1)
 | .idx a b,e=>oE sc N a (kid e 0) && oE sc N b (kid e 1)
 | .slc a lo hi,e=>oE sc N a (kid e 0) && (oEs sc N lo [kid (kid e 1) 0] && oEs sc N hi [kid (kid e 1) 1])
 | .tup es,e=>oEs sc N es (ek e)
 | .lst es,e=>oEs sc N es (ek e)
 | .dic kvs,e=>(decide (2<=kvs.len) && decide (kvs.len<=30)) && oEs sc N kvs (ek e)
 | .comp x fv it elt ifs,e=>(compOkN sc (csc e) N [x] fv && decide (ifs.len<=1)) && (oI sc N it (kid e 2) && (oE (csc e) (isIn fv x) elt (kid e 0) && oEs (csc e) (isIn fv x) ifs ((ek e).drop 3)))
 | .cmpD _ a b,e=>oE sc N a (kid e 0) && oE sc N b (kid e 1)
 | .idxD a b,e=>oE sc N a (kid e 0) && oE sc N b (kid e 1)
 | .dnew,_=>true
 | .lset a,e=>(isGl sc "len" && isGl sc "set") && oE sc N a (kid (kid e 1) 1)
 | .cmpI op a b,e=>oE sc N a (kid e 0) && oE sc N b (kid e 1)
 | .lrev a,e=>(isGl sc "list" && isGl sc "reversed") && oE sc N a (kid (kid e 1) 1)
 | .dcop a,e=>isGl sc "dict" && oE sc N a (kid e 1)
 | .compE xs fv a elt ifs,e=>(compOkN sc (csc e) N xs fv && (decide (xs.length=2) && decide (ifs.len<=1))) && (isGl sc "enumerate" && (oE sc N a (kid (kid e 2) 1) && (oE (csc e) (inT fv xs) elt (kid e 0) && oEs (csc e) (inT fv xs) ifs ((ek e).drop 3))))
 | .ofld a _,e=>noCall0 (bE N a (kid e 0)) && oE sc N a (kid e 0)
 | .onew x args,e=>(isGl sc x && okName x) && oEs sc N args (ek e).tail
 | .omth _ o args,e=>(noCall0 (bE N o (kid (kid e 0) 0)) && ((kid e 0).pos.endLine == e.pos.line)) && (decide (args.len < 20) && (oE sc N o (kid (kid e 0) 0) && oEs sc N args (ek e).tail))
noncomputable def oEs (sc:Scope) (N:List Str):Exs->List Expr->Bool
 | .nil,_=>true
 | .cons c r,es=>oE sc N c (es.headD default) && oEs sc N r es.tail
noncomputable def oI (sc:Scope) (N:List Str):Ix->Expr->Bool
 | .ex c,e=>oE sc N c e
 | .rng1 a,e=>isGl sc "range" && oE sc N a (kid e 1)
end
noncomputable def notComp:Expr->Bool
 | .ListComp _ _ _ _=>false | .SetComp _ _ _ _=>false | .DictComp _ _ _ _ _=>false | _=>true
noncomputable def usedOk (sc s:Scope) (x:Str) (tp p:Pos):Bool:=decide (sc.names.lookup x=some .local) && ((tp.line == p.line) && !(s.names.any fun(n,k)=>n == x && (k == .local || k == .cell)))
mutual
noncomputable def bS (N:List Str):Sx->Stmt->Stmt
 | .asg i e,st=>.Assign [.Name (nx N i) (sk st 0).pos] (bE N e (sk st 1)) st.pos
 | .exp e,st=>.Expr (bE N e (sk st 0)) st.pos
 | .ret e,st=>.Return (some (bE N e (sk st 0))) st.pos
 | .iff c a b,st=>.If (bE N c (sk st 0)) (bSs N a (sb st).1) (bSs N b (sb st).2) st.pos
 | .whl c b,st=>.While (bE N c (sk st 0)) (bSs N b (sb st).1) [] st.pos
 | .fr i it b,st=>.For (.Name (nx N i) (sk st 0).pos) (bI N it (sk st 1)) (bSs N b (sb st).1) [] st.pos
 | .sto o i e,st=>.Assign [.Subscript (bE N o (kid (sk st 0) 0)) (bE N i (kid (sk st 0) 1)) (sk st 0).pos] (bE N e (sk st 1)) st.pos
 | .oset o f e,st=>.Assign [.Attribute (bE N o (kid (sk st 0) 0)) f (sk st 0).pos] (bE N e (sk st 1)) st.pos
noncomputable def bSs (N:List Str):Sxs->List Stmt->List Stmt
 | .nil,_=>[]
 | .cons c r,ss=>bS N c (ss.headD default)::bSs N r ss.tail
end
mutual
noncomputable def oS (sc:Scope) (N:List Str):Sx->Stmt->Bool
 | .asg i e,st=>(decide (i < N.length) && isLoc sc (nx N i)) && ((!isComp e || usedOk sc (csc (sk st 1)) (nx N i) (sk st 0).pos (sk st 1).pos) && oE sc N e (sk st 1))
 | .exp e,st=>!isComp e && oE sc N e (sk st 0)
 | .ret e,st=>oE sc N e (sk st 0)
 | .iff c a b,st=>oE sc N c (sk st 0) && (oSs sc N a (sb st).1 && oSs sc N b (sb st).2)
 | .whl c b,st=>oE sc N c (sk st 0) && oSs sc N b (sb st).1
 | .fr i it b,st=>(decide (i < N.length) && isLoc sc (nx N i)) && (oI sc N it (sk st 1) && oSs sc N b (sb st).1)
 | .sto o i e,st=>(!isComp e && oE sc N o (kid (sk st 0) 0)) && (oE sc N i (kid (sk st 0) 1) && oE sc N e (sk st 1))
 | .oset o f e,st=>!isComp e && (oE sc N o (kid (sk st 0) 0) && oE sc N e (sk st 1))
noncomputable def oSs (sc:Scope) (N:List Str):Sxs->List Stmt->Bool
 | .nil,_=>true
 | .cons c r,ss=>oS sc N c (ss.headD default) && oSs sc N r ss.tail
end
noncomputable def mSs (sc:Scope) (N:List Str) (b:Sxs) (ss:List Stmt):Prop:=bSs N b ss=ss/\oSs sc N b ss=true
end Sw
namespace Sw
open PySem PySem.Spec PyProof.Rows L2
@[reducible] noncomputable def St:=L2.St
@[reducible] noncomputable def XS:=Value->Option Addr->St->Hp->Prop
noncomputable def X0:XS:=fun _ _ _ _=>False
structure Gam where
 con:Str->Option V
 mod:Mo
 has:Str->Bool
 fn:Str->Sp
 exc:Str->Option (Addr × List Str)
 cm:Bool:=true
 /-- is an exception of this class one of that name's class -/
 sub:Addr->Str->Option Bool
 /-- a class that may be caught -/
 cat:Str->Bool
 /-- a value of such an exception that may be read -/
 fo:Addr->Str->Bool
 /-- an exception is in hand: raise .. from None -/
 hd:Bool:=false
 /-- what a call of the function at an address promises -/
 vc:Addr->Sp:=fun _ _ _ _ _=>False
 /-- the module's dicts -/
 gd:Str->Option (List (Key × V)):=fun _=>none
 /-- own classes: an attribute that no class of it has -/
 ofl:Addr->Str->Bool:=fun _ _=>false
 /-- a method -/
 omh:Addr->Str->Bool:=fun _ _=>false
 omt:Addr->Str->Sp:=fun _ _ _ _ _ _=>False
 /-- a class that is called by this name; what its __init__ promises -/
 ocl:Str->Option Addr:=fun _=>none
 oin:Str->Sp:=fun _ _ _ _ _=>False
 /-- is an instance of the class one of that name's class -/
 osb:Addr->Str->Option Bool:=fun _ _=>none
noncomputable def keyOf:V->Option Key
 | .int i=>some (.inl i)
 | .str x=>some (.inr x)
 | _=>none
noncomputable def asI:V->Option Int
 | .int i=>some i
 | _=>none
noncomputable def asS:V->Option Str
 | .str x=>some x
 | _=>none
noncomputable def hasXd (H:Hp):Option Addr->Bool
 | none=>true
 | some d=>match H d with | some (.xd _)=>true | _=>false
noncomputable def known (M:Mo) (H:Hp):V->Bool
 | .ref p=>match H p with
  | some (.lst _)=>true | some (.tup _)=>true | some (.dK _)=>true | some (.frz _ (.lst _))=>true | _=>false
 | .non=>true | .bl _=>true | .int _=>true | .str _=>true
 | _=>false
noncomputable def isTy (T:Ty) (H:Hp):V->Bool
 | .str _=>decide (T=.str)
 | .int _=>decide (T=.int)
 | .bl _=>decide (T=.bool) || decide (T=.int)
 | .ref p=>match H p with
  | some (.lst _)=>decide (T=.list) | some (.frz _ (.lst _))=>decide (T=.list) | some (.tup _)=>decide (T=.tuple) | some (.dK _)=>decide (T=.dict) | _=>false
 | _=>false
noncomputable def isDk (x:V) (H:Hp):Bool:=match x with
 | .ref p=>(match H p with | some (.dK _)=>true | _=>false)
 | _=>false
section
variable (M:Mo)
noncomputable def newSorted (ts:List Str) (H:Hp) (Q:VK):Prop:=ts.length < 64/\∀ss l,List.Perm ss ts->sortedS ss=true->H l=none->M l=none->Q (.ref l) (upd H l (.lst (ss.map V.str)))
noncomputable def bltV (f:Bf) (vs:List V) (H:Hp) (Q:VK):Prop:=match f,vs with
 | .len,[.str y]=>y.length<=sizeLine/\Q (.int y.length) H
 | .len,[.ref p]=>match rd M H p with
  | some (.lst xs)=>Q (.int xs.length) H
  | some (.tup xs)=>Q (.int xs.length) H
  | _=>False
 | .max,[.int i,.int j]=>Q (.int (if j > i then j else i)) H
 | .min,[.int i,.int j]=>Q (.int (if j < i then j else i)) H
 | .list,[.ref p]=>match rd M H p with
  | some (.lst xs)=>∀l,H l=none->M l=none->Q (.ref l) (upd H l (.lst xs))
  | some (.tup xs)=>∀l,H l=none->M l=none->Q (.ref l) (upd H l (.lst xs))
  | _=>False
 | .sorted,[.ref p]=>match rd M H p with
  | some (.lst xs)=>match allM asS xs with
   | some ts=>newSorted M ts H Q
   | none=>match allM asI xs with
    | some ns=>ns.length < 64/\∀ms l,List.Perm ms ns->ms.Pairwise (·<=·)->H l=none->M l=none->Q (.ref l) (upd H l (.lst (ms.map V.int)))
    | none=>False
  | _=>False
 | _,_=>False
noncomputable def mthV (m:Mf) (x:V) (vs:List V) (H:Hp) (Q:VK):Prop:=match m,x,vs with
 | .join,.str x,[.ref p]=>match rd M H p with
  | some (.lst xs)=>match allM asS xs with
   | some ts=>JoinOk x ts=true/\Q (.str (Txt.join x ts)) H
   | none=>False
  | _=>False
 | .append,.ref p,[v]=>match H p with
  | some (.lst xs)=>xs.length < sizeLine/\Q .non (upd H p (.lst (xs++[v])))
  | _=>False
 | .extend,.ref p,[.ref b]=>match H p,H b with
  | some (.lst xs),some (.lst ys)=>xs.length + ys.length<=sizeLine/\Q .non (upd H p (.lst (xs++ys)))
  | _,_=>False
 | .clear,.ref p,[]=>match H p with
  | some (.lst _)=>Q .non (upd H p (.lst []))
  | _=>False
 | .get,.ref p,[y]=>match H p with
  | some (.dK kvs)=>(match keyOf y with | some k=>Q ((valV kvs k).getD .non) H | none=>False)
  | _=>False
 | _,_,_=>False
noncomputable def mty (m:Mf) (x:V) (H:Hp):Bool:=match m with
 | .append=>(match x with | .ref p=>(match rd M H p with | some (.lst _)=>true | _=>false) | _=>false)
 | .pop=>(match x with | .ref p=>(match rd M H p with | some (.lst _)=>true | _=>false) | _=>false)
 | .extend=>(match x with | .ref p=>(match rd M H p with | some (.lst _)=>true | _=>false) | _=>false)
 | .clear=>(match x with | .ref p=>(match rd M H p with | some (.lst _)=>true | _=>false) | _=>false)
 | .dclear=>isDk x H
 | .copy=>isDk x H
 | .dpop=>isDk x H
 | .setdefault=>isDk x H
 | .get=>isDk x H
 | _=>(match x with | .str _=>true | _=>false)
noncomputable def slcV (x:V) (lo hi:Option Int) (H:Hp) (Q:VK):Prop:=match x with
 | .str z=>z.length<=sizeLine/\Q (.str (Txt.slice z lo hi)) H
 | .ref p=>match rd M H p with
  | some (.lst xs)=>∀l,H l=none->M l=none->Q (.ref l) (upd H l (.lst (cutV xs lo hi)))
  | some (.tup xs)=>¬ (HT.sIx xs.length 0 lo=0/\HT.sIx xs.length xs.length hi=xs.length)/\∀l,H l=none->M l=none->Q (.ref l) (upd H l (.tup (cutV xs lo hi)))
  | _=>False
 | _=>False
noncomputable def iterV (x:V) (H:Hp) (k:List V->(Hp->Prop)->Prop):Prop:=match x with
 | .str z=>z.length<=sizeLine/\k (z.cps.toList.map fun c=>.str ⟨#[c]⟩) (fun _=>True)
 | .ref p=>match rd M H p with
  | some (.lst xs)=>k xs (fun H'=>rd M H' p=some (.lst xs))
  | some (.tup xs)=>k xs (fun H'=>rd M H' p=some (.tup xs))
  | _=>False
 | _=>False
end
noncomputable def compW (te:TE) (tt:TT) (fvs:St) (D:Addr) (stay:Hp->Prop):List V->List V->Hp->(Hp->Prop)->Prop
 | [],acc,H,k=>stay H/\H D=some (.lst acc)/\k H
 | v::r,acc,H,k=>stay H/\tt (some v::fvs) H fun ok H1=>
  if ok=true then te (some v::fvs) H1 fun y H2=>H2 D=some (.lst acc)/\acc.length < sizeLine/\compW te tt fvs D stay r (acc++[y]) (upd H2 D (.lst (acc++[y]))) k
  else compW te tt fvs D stay r acc H1 k
noncomputable def forW (i:Nat) (tb:TS) (stay:Hp->Prop):List V->TS
 | [],D,σ,H=>stay H/\D.nx σ H
 | v::r,D,σ,H=>stay H/\tb {D with nx:=forW i tb stay r D,ct:=forW i tb stay r D,bk:=D.nx} (σ.set i (some v)) H
noncomputable def setAll:St->List Nat->List V->St
 | σ,i::is,x::xs=>setAll (σ.set i (some x)) is xs
 | σ,_,_=>σ
noncomputable def stoV (x k v:V) (H:Hp) (Q:Hp->Prop):Prop:=match x with
 | .ref p=>(match H p with
  | some (.lst xs)=>(match k with | .int j=>(match ixN xs.length j with | some n=>Q (upd H p (.lst (xs.set n v))) | none=>False) | _=>False)
  | some (.dK kvs)=>(match keyOf k with | some kk=>kvs.length < sizeLine/\Q (upd H p (.dK (putK kvs kk v))) | none=>False)
  | _=>False)
 | _=>False
noncomputable def idxDV (M:Mo) (x y:V) (H:Hp) (Q:VK):Prop:=match x with
 | .ref p=>(match rd M H p with
  | some (.dK kvs)=>(match keyOf y with | some k=>(match valV kvs k with | some v=>Q v H | none=>False) | none=>False)
  | _=>False)
 | _=>False
noncomputable def dOf (M:Mo) (H:Hp):V->Option (List (Key × V))
 | .ref p=>(match rd M H p with | some (.dK kvs)=>some kvs | _=>none)
 | _=>none
noncomputable def deqT (M:Mo) (H:Hp):Nat->V->V->Bool
 | 0,_,_=>false
 | n + 1,x,y=>match dOf M H x,dOf M H y with
  | some a,some b=>decide (x ≠ y) && (decide (a.length=b.length) && a.all fun e=>match valV b e.1 with | some u=>deqT M H n e.2 u | none=>false)
  | none,none=>(match data M H 0 x,data M H 0 y with
   | some d,some e=>PyData.eqv d e
   | _,_=>false)
  | _,_=>false
noncomputable def cmpDV (M:Mo) (op:CmpOp) (x y:V) (H:Hp) (Q:VK):Prop:=match op with
 | .Eq=>(dOf M H x).isSome=true/\(dOf M H y).isSome=true/\deqT M H 4 x y=true/\Q (.bl true) H
 | .In=>(match dOf M H y,keyOf x with | some kvs,some k=>Q (.bl (valV kvs k).isSome) H | _,_=>False)
 | _=>False
noncomputable def vars (σ:St) (fv:List (Str × Nat)):St:=fv.map fun y=>(σ[y.2]?).join
noncomputable def compWB (bd:V->Hp->Option St) (te:TE) (tt:TT) (fvs:St) (D:Addr) (stay:Hp->Prop):List V->List V->Hp->(Hp->Prop)->Prop
 | [],acc,H,k=>stay H/\H D=some (.lst acc)/\k H
 | v::r,acc,H,k=>stay H/\match bd v H with
  | some w=>tt (w++fvs) H fun ok H1=>if ok=true then te (w++fvs) H1 fun y H2=>H2 D=some (.lst acc)/\acc.length < sizeLine/\compWB bd te tt fvs D stay r (acc++[y]) (upd H2 D (.lst (acc++[y]))) k
   else compWB bd te tt fvs D stay r acc H1 k
  | none=>False
noncomputable def compWG {ι:Type} (nxt:ι->Hp->(St->Hp->Prop)->Prop) (te:TE) (tt:TT) (fvs:St) (D:Addr) (stay:Hp->Prop):List ι->List V->Hp->(Hp->Prop)->Prop
 | [],acc,H,k=>stay H/\H D=some (.lst acc)/\k H
 | v::r,acc,H,k=>stay H/\nxt v H fun w H0=>tt (w++fvs) H0 fun ok H1=>if ok=true then te (w++fvs) H1 fun y H2=>H2 D=some (.lst acc)/\acc.length < sizeLine/\compWG nxt te tt fvs D stay r (acc++[y]) (upd H2 D (.lst (acc++[y]))) k
   else compWG nxt te tt fvs D stay r acc H1 k
noncomputable def nxtE (M:Mo) (p:Nat × V) (H:Hp) (R:St->Hp->Prop):Prop:=∀t,H t=none->M t=none->R [some (.int p.1),some p.2] (upd H t (.tup [.int p.1,p.2]))
noncomputable def enumV (M:Mo) (x:V) (H:Hp) (k:List (Nat × V)->(Hp->Prop)->Prop):Prop:=match x with
 | .ref p=>(match rd M H p with
  | some (.lst xs)=>k ((List.range xs.length).zip xs) (fun H'=>rd M H' p=some (.lst xs))
  | _=>False)
 | _=>False
noncomputable def lrevV (M:Mo) (x:V) (H:Hp) (Q:VK):Prop:=match x with
 | .ref p=>(match rd M H p with
  | some (.lst xs)=>∀l,H l=none->M l=none->Q (.ref l) (upd H l (.lst xs.reverse))
  | _=>False)
 | _=>False
noncomputable def dcopV (M:Mo) (x:V) (H:Hp) (Q:VK):Prop:=match x with
 | .ref p=>(match H p with
  | some (.dK kvs)=>∀l,H l=none->M l=none->Q (.ref l) (upd H l (.dK kvs))
  | _=>False)
 | _=>False
noncomputable def cmpIV (M:Mo) (op:CmpOp) (x y:V) (H:Hp) (Q:VK):Prop:=match y with
 | .ref p=>(match rd M H p with
  | some (.lst xs)=>(match data M H 8 x,allM (data M H 8) xs with
   | some d,some ds=>(match op with
    | .In=>Q (.bl (ds.any fun e=>PyData.eqv e d)) H
    | .NotIn=>Q (.bl (!ds.any fun e=>PyData.eqv e d)) H
    | _=>False)
   | _,_=>False)
  | _=>False)
 | _=>False
noncomputable def lsetV (M:Mo) (x:V) (H:Hp) (Q:VK):Prop:=match x with
 | .ref p=>(match rd M H p with
  | some (.lst xs)=>(match allM asS xs with
   | some ts=>ts.length + 1 < scanBound/\Q (.int (PySem.Sg.metS (fun i=>ts.getD i ⟨#[]⟩) ts.length).length) H
   | none=>False)
  | _=>False)
 | _=>False
noncomputable def ofldV (Γ:Gam) (x:V) (f:Str) (H:Hp) (Q:VK):Prop:=match x with
 | .ref p=>(match H p with
  | some (.ins C _ fs)=>Γ.ofl C f=true/\(match fs.lookup f with | some v=>Q v H | none=>False)
  | _=>False)
 | _=>False
noncomputable def osetV (Γ:Gam) (x:V) (f:Str) (v:V) (H:Hp) (Q:Hp->Prop):Prop:=match x with
 | .ref p=>(match H p with
  | some (.ins C dx fs)=>(Γ.ofl C f=true/\fs.length < 1000)/\Q (upd H p (.ins C dx (putF f v fs)))
  | _=>False)
 | _=>False
noncomputable def onewV (Γ:Gam) (x:Str) (vs:List V) (H:Hp) (Q:VK):Prop:=match Γ.ocl x with
 | some C=>∀p dx,H p=none->H dx=none->dx ≠ p->Γ.mod p=none->Γ.mod dx=none->Γ.oin x (.ref p::vs) (upd (upd H dx (.own p)) p (.ins C dx [])) (fun v H2=>v=.non/\Q (.ref p) H2) fun _ _ _=>False
 | none=>False
noncomputable def omthV (Γ:Gam) (m:Str) (x:V) (H:Hp) (Q:Addr->Addr->Prop):Prop:=match x with
 | .ref p=>(match H p with
  | some (.ins C _ fs)=>(Γ.omh C m=true/\fs.lookup m=none)/\Q p C
  | _=>False)
 | _=>False
mutual
noncomputable def wE (Γ:Gam):Ex->XS->TE
 | .var i,_=>fun σ H Q=>match σ[i]? with | some (some v)=>Q v H | _=>False
 | .con v,_=>fun _ H Q=>Q v H
 | .bin op a b,Ξ=>fun σ H Q=>wE Γ a Ξ σ H fun x H1=>wE Γ b Ξ σ H1 fun y H2=>binV Γ.mod op x y H2 Q
 | .neg a,Ξ=>fun σ H Q=>wE Γ a Ξ σ H fun x H1=>match x with | .int i=>Q (.int (-i)) H1 | _=>False
 | .cmp op a b,Ξ=>fun σ H Q=>wE Γ a Ξ σ H fun x H1=>wE Γ b Ξ σ H1 fun y H2=>cmpV Γ.mod op x y H2 Q
 | .and a b,Ξ=>fun σ H Q=>wE Γ a Ξ σ H fun x H1=>truV Γ.mod x H1 fun k=>if k=true then wE Γ b Ξ σ H1 Q else Q x H1
 | .or a b,Ξ=>fun σ H Q=>wE Γ a Ξ σ H fun x H1=>truV Γ.mod x H1 fun k=>if k=true then Q x H1 else wE Γ b Ξ σ H1 Q
 | .not a,Ξ=>fun σ H Q=>wE Γ a Ξ σ H fun x H1=>truV Γ.mod x H1 fun k=>Q (.bl (!k)) H1
 | .ite c a b,Ξ=>fun σ H Q=>wT Γ c Ξ σ H fun k H1=>if k=true then wE Γ a Ξ σ H1 Q else wE Γ b Ξ σ H1 Q
 | .call f args,Ξ=>fun σ H Q=>(Γ.cm=true/\Γ.has f=true)/\wEs Γ args Ξ σ H fun vs H1=>Γ.fn f vs H1 Q fun C d H'=>Ξ C d σ H'
 | .blt f args,Ξ=>fun σ H Q=>Γ.cm=true/\wEs Γ args Ξ σ H fun vs H1=>bltV Γ.mod f vs H1 Q
 | .mth m o args,Ξ=>fun σ H Q=>wE Γ o Ξ σ H fun x H1=>mty Γ.mod m x H1=true/\wEs Γ args Ξ σ H1 fun vs H2=>mthV Γ.mod m x vs H2 Q
 | .isin a T,Ξ=>fun σ H Q=>wE Γ a Ξ σ H fun x H1=>match T with
  | .own c=>(match x with | .ref p=>(match H1 p with | some (.exo C d)=>hasXd H1 d=true/\(match Γ.sub C c with | some b=>Q (.bl b) H1 | none=>False) | _=>False) | _=>False)
  | T=>known Γ.mod H1 x=true/\Q (.bl (isTy T H1 x)) H1
 | .idx a b,Ξ=>fun σ H Q=>wE Γ a Ξ σ H fun x H1=>wE Γ b Ξ σ H1 fun y H2=>idxV Γ.mod x y H2 Q
 | .slc a lo hi,Ξ=>fun σ H Q=>wE Γ a Ξ σ H fun x H1=>wP Γ lo Ξ σ H1 fun l H2=>wP Γ hi Ξ σ H2 fun u H3=>slcV Γ.mod x l u H3 Q
 | .tup es,Ξ=>fun σ H Q=>wEs Γ es Ξ σ H fun xs H1=>xs.length<=sizeLine/\∀p,H1 p=none->Γ.mod p=none->Q (.ref p) (upd H1 p (.tup xs))
 | .lst es,Ξ=>fun σ H Q=>wEs Γ es Ξ σ H fun xs H1=>xs.length<=sizeLine/\∀p,H1 p=none->Γ.mod p=none->Q (.ref p) (upd H1 p (.lst xs))
 | .dic kvs,Ξ=>fun σ H Q=>∀p,H p=none->Γ.mod p=none->wD Γ kvs Ξ σ (upd H p (.dK [])) fun ps H2=>H2 p=some (.dK [])/\ps.length<=15/\Q (.ref p) (upd H2 p (.dK (mergeK [] ps)))
 | .comp _ fv it elt ifs,Ξ=>fun σ H Q=>Γ.cm=true/\wI Γ it Ξ σ H fun xs stay H1=>∀D,H1 D=none->Γ.mod D=none->
  compW (wE Γ elt fun C d _ H'=>Ξ C d σ H') (wTs Γ ifs X0) (vars σ fv) D stay xs [] (upd H1 D (.lst [])) fun H'=>Q (.ref D) H'
 | .cmpD op a b,Ξ=>fun σ H Q=>wE Γ a Ξ σ H fun x H1=>wE Γ b Ξ σ H1 fun y H2=>cmpDV Γ.mod op x y H2 Q
 | .idxD a b,Ξ=>fun σ H Q=>wE Γ a Ξ σ H fun x H1=>wE Γ b Ξ σ H1 fun y H2=>idxDV Γ.mod x y H2 Q
 | .dnew,_=>fun _ H Q=>∀p,H p=none->Γ.mod p=none->Q (.ref p) (upd H p (.dK []))
 | .lset a,Ξ=>fun σ H Q=>Γ.cm=true/\wE Γ a Ξ σ H fun x H1=>lsetV Γ.mod x H1 Q
 | .cmpI op a b,Ξ=>fun σ H Q=>wE Γ a Ξ σ H fun x H1=>wE Γ b Ξ σ H1 fun y H2=>cmpIV Γ.mod op x y H2 Q
 | .lrev a,Ξ=>fun σ H Q=>Γ.cm=true/\wE Γ a Ξ σ H fun x H1=>lrevV Γ.mod x H1 Q
 | .dcop a,Ξ=>fun σ H Q=>Γ.cm=true/\wE Γ a Ξ σ H fun x H1=>dcopV Γ.mod x H1 Q
 | .compE _ fv a elt ifs,Ξ=>fun σ H Q=>Γ.cm=true/\wE Γ a Ξ σ H fun x H2=>enumV Γ.mod x H2 fun ps stay=>∀D,H2 D=none->Γ.mod D=none->
  compWG (nxtE Γ.mod) (wE Γ elt fun C d _ H'=>Ξ C d σ H') (wTs Γ ifs X0) (vars σ fv) D stay ps [] (upd H2 D (.lst [])) fun H'=>Q (.ref D) H'
 | .ofld a f,Ξ=>fun σ H Q=>wE Γ a Ξ σ H fun x H1=>ofldV Γ x f H1 Q
 | .onew x args,Ξ=>fun σ H Q=>(Γ.cm=true/\(Γ.ocl x).isSome=true)/\wEs Γ args Ξ σ H fun vs H1=>onewV Γ x vs H1 Q
 | .omth m o args,Ξ=>fun σ H Q=>Γ.cm=true/\wE Γ o Ξ σ H fun x H1=>omthV Γ m x H1 fun p C=>wEs Γ args Ξ σ H1 fun vs H2=>Γ.omt C m (.ref p::vs) H2 Q fun _ _ _=>False
noncomputable def wT (Γ:Gam):Ex->XS->TT
 | .and a b,Ξ=>fun σ H Q=>wT Γ a Ξ σ H fun k H1=>if k=true then wT Γ b Ξ σ H1 Q else Q false H1
 | .or a b,Ξ=>fun σ H Q=>wT Γ a Ξ σ H fun k H1=>if k=true then Q true H1 else wT Γ b Ξ σ H1 Q
 | .not a,Ξ=>fun σ H Q=>wT Γ a Ξ σ H fun k H1=>Q (!k) H1
 | .ite c a b,Ξ=>fun σ H Q=>wT Γ c Ξ σ H fun k H1=>if k=true then wT Γ a Ξ σ H1 Q else wT Γ b Ξ σ H1 Q
 | .var i,_=>fun σ H Q=>match σ[i]? with | some (some v)=>truV Γ.mod v H fun k=>Q k H | _=>False
 | .cmp op a b,Ξ=>fun σ H Q=>wE Γ a Ξ σ H fun x H1=>wE Γ b Ξ σ H1 fun y H2=>cmpV Γ.mod op x y H2 fun x H'=>∃k,x=.bl k/\Q k H'
 | .call f args,Ξ=>fun σ H Q=>(Γ.cm=true/\Γ.has f=true)/\wEs Γ args Ξ σ H fun vs H1=>Γ.fn f vs H1 (fun x H1=>truV Γ.mod x H1 fun k=>Q k H1) fun C d H'=>Ξ C d σ H'
 | .blt f args,Ξ=>fun σ H Q=>Γ.cm=true/\wEs Γ args Ξ σ H fun vs H1=>bltV Γ.mod f vs H1 fun x H1=>truV Γ.mod x H1 fun k=>Q k H1
 | .mth m o args,Ξ=>fun σ H Q=>wE Γ o Ξ σ H fun x H1=>mty Γ.mod m x H1=true/\wEs Γ args Ξ σ H1 fun vs H2=>mthV Γ.mod m x vs H2 fun x H1=>truV Γ.mod x H1 fun k=>Q k H1
 | .isin a T,Ξ=>fun σ H Q=>wE Γ a Ξ σ H fun x H1=>match T with
  | .own c=>(match x with | .ref p=>(match H1 p with | some (.exo C d)=>hasXd H1 d=true/\(match Γ.sub C c with | some b=>Q b H1 | none=>False) | _=>False) | _=>False)
  | T=>known Γ.mod H1 x=true/\Q (isTy T H1 x) H1
 | .idx a b,Ξ=>fun σ H Q=>wE Γ a Ξ σ H fun x H1=>wE Γ b Ξ σ H1 fun y H2=>idxV Γ.mod x y H2 fun x H1=>truV Γ.mod x H1 fun k=>Q k H1
 | .con v,_=>fun _ H Q=>truV Γ.mod v H fun k=>Q k H
 | .cmpD op a b,Ξ=>fun σ H Q=>wE Γ a Ξ σ H fun x H1=>wE Γ b Ξ σ H1 fun y H2=>cmpDV Γ.mod op x y H2 fun x H'=>∃k,x=.bl k/\Q k H'
 | .cmpI op a b,Ξ=>fun σ H Q=>wE Γ a Ξ σ H fun x H1=>wE Γ b Ξ σ H1 fun y H2=>cmpIV Γ.mod op x y H2 fun x H'=>∃k,x=.bl k/\Q k H'
 | _,_=>fun _ _ _=>False
noncomputable def wEs (Γ:Gam):Exs->XS->TA
 | .nil,_=>fun _ H Q=>Q [] H
 | .cons e r,Ξ=>fun σ H Q=>wE Γ e Ξ σ H fun x H1=>wEs Γ r Ξ σ H1 fun xs H2=>Q (x::xs) H2
noncomputable def wP (Γ:Gam):Exs->XS->St->Hp->(Option Int->Hp->Prop)->Prop
 | .nil,_=>fun _ H Q=>Q none H
 | .cons e .nil,Ξ=>fun σ H Q=>wE Γ e Ξ σ H fun x H1=>match x with | .int i=>Q (some i) H1 | _=>False
 | _,_=>fun _ _ _=>False
noncomputable def wD (Γ:Gam):Exs->XS->St->Hp->(List (Key × V)->Hp->Prop)->Prop
 | .cons k (.cons v r),Ξ=>fun σ H Q=>wE Γ k Ξ σ H fun x H1=>wE Γ v Ξ σ H1 fun y H2=>wD Γ r Ξ σ H2 fun ps H3=>match keyOf x with
  | some k=>Q ((k,y)::ps) H3
  | none=>False
 | .nil,_=>fun _ H Q=>Q [] H
 | _,_=>fun _ _ _=>False
noncomputable def wTs (Γ:Gam):Exs->XS->TT
 | .nil,_=>fun _ H Q=>Q true H
 | .cons e _,Ξ=>wT Γ e Ξ
noncomputable def wI (Γ:Gam):Ix->XS->St->Hp->(List V->(Hp->Prop)->Hp->Prop)->Prop
 | .ex e,Ξ,σ,H,k=>wE Γ e Ξ σ H fun x H1=>iterV Γ.mod x H1 fun xs stay=>k xs stay H1
 | .rng1 a,Ξ,σ,H,k=>wE Γ a Ξ σ H fun x H1=>match x with
  | .int j=>-(2 ^ 62)<=j/\j < 2 ^ 62/\k ((List.range j.toNat).map fun i:Nat=>.int i) (fun _=>True) H1
  | _=>False
end
mutual
noncomputable def wS:Sx->Gam->XS->TS
 | .asg i e,Γ,Ξ=>fun D σ H=>wE Γ e Ξ σ H fun v H1=>D.nx (σ.set i (some v)) H1
 | .exp e,Γ,Ξ=>fun D σ H=>wE Γ e Ξ σ H fun _ H1=>D.nx σ H1
 | .ret e,Γ,Ξ=>fun D σ H=>wE Γ e Ξ σ H D.rt
 | .iff c a b,Γ,Ξ=>fun D σ H=>wT Γ c Ξ σ H fun k H1=>if k=true then wSs a Γ Ξ D σ H1 else wSs b Γ Ξ D σ H1
 | .whl c b,Γ,_=>fun D σ H=>∃W:Nat->St->Hp->Prop,(∃ m,W m σ H)/\∀m σ H,W m σ H->wT Γ c X0 σ H fun k H1=>
  if k=true then ∃N:St->Hp->Prop,(∀ σ' H',N σ' H'->∃m',m' < m/\W m' σ' H')/\wSs b Γ X0 {D with nx:=N,ct:=N,bk:=D.nx} σ H1 else D.nx σ H1
 | .fr i it b,Γ,_=>fun D σ H=>Γ.cm=true/\wI Γ it X0 σ H fun xs stay H1=>forW i (wSs b Γ X0) stay xs D σ H1
 | .oset o f e,Γ,Ξ=>fun D σ H=>wE Γ e Ξ σ H fun v H1=>wE Γ o Ξ σ H1 fun x H2=>osetV Γ x f v H2 (D.nx σ)
 | .sto o i e,Γ,Ξ=>fun D σ H=>wE Γ e Ξ σ H fun v H1=>wE Γ o Ξ σ H1 fun x H2=>wE Γ i Ξ σ H2 fun k H3=>stoV x k v H3 (D.nx σ)
noncomputable def wSs:Sxs->Gam->XS->TS
 | .nil,_,_=>fun D σ H=>D.nx σ H
 | .cons s r,Γ,Ξ=>fun D σ H=>wS s Γ Ξ {D with nx:=wSs r Γ Ξ D} σ H
end
end Sw
namespace Sw
open PySem PySem.Spec PyProof.Rows L2
structure SeqIt (J:It) (xs:List V) (stay:Hp->Prop):Prop where
 go:∀i H,stay H->i < xs.length->J.go i H
 yld:∀i H x H',i < xs.length->J.yld i H x H'->stay H->H'=H/\xs[i]?=some x
 stop:∀i H,stay H->xs.length<=i->J.stop i H
section
variable {X:Cx} {M:Mo} {pins:List (Addr × Obj)} {σ:L2.St} {H:Hp} {s:Shared} {p:Addr} {kvs:List (Key × V)} {A:Around} {E:Value->Shared->Prop}
theorem dkOf_kV {x:V} {k:Key} (h:keyOf x=some k):x=kV k:=by
 cases x<;>first | (cases h;rfl) | cases h
theorem _root_.L2.KV.get:∀ {xs:List (Key × V)} {ys:List (Key × Value)} {i:Nat} {x:Key × V},KV xs ys->xs[i]?=some x->∃u,ys[i]?=some (x.1,u)/\RelV x.2 u
 | _,_,_,_,.nil,e=>by simp at e
 | _,y::_,0,_,.cons r _,e=>by
  simp at e;subst e
  obtain⟨e1,e2⟩:=r
  exact⟨y.2,by rw[e1];rfl,e2⟩
 | _,_,i + 1,x,.cons _ t,e=>by
  obtain⟨u,h1,h2⟩:=L2.KV.get (i:=i) (x:=x) t (by simpa using e)
  exact⟨u,by simpa using h1,h2⟩
theorem putK_le (kvs:List (Key × V)) (k:Key) (v:V):(putK kvs k v).length<=kvs.length + 1:=by
 unfold putK
 split<;>simp
theorem d_get1 {k:Key} {u:Value} {Q:Value->Shared->Prop} (I:Inv X pins σ H s) (e:H p=some (.dK kvs)) (ry:RelV (kV k) u) (h:∀w' s',Inv X pins σ H s'->RelV ((valV kvs k).getD .non) w'->Q w' s'):
  wpAny (model X.prog X.w) A (call (.builtin "dict.get") [.ref p,u]) Q E s:=by
 obtain⟨z,hd,vs,rel,dd⟩:=dk_of I.hok e
 refine call_meetsIn PySem.F.slot_dict_get dd.typeIs PySem.F.entry_dict_get (PySem.F.args_dict_get_2 _ _) (meets_dict_get (mixKind X.prog X.w) p (kV_is ry) hd) ⟨_,dd.mapOf,?_⟩
 refine h _ _ (I.tok _) ?_
 cases l:valV kvs k with
 | none=>have:=RelO.none_of (o:=valueAt vs k) (by rw[<-l];exact rel.val k);rw[this];exact rfl
 | some y=>
  obtain⟨w',hw,rw'⟩:=RelO.some_of (v:=y) (o:=valueAt vs k) (by rw[<-l];exact rel.val k)
  rw[hw]
  exact rw'
theorem _root_.L2.Inv.swap {o u:HO} (I:Inv X pins σ H s) (e:H p=some o) (nt:∀xs,o ≠ .tup xs) (no:∀y,o ≠ .own y) (nb:∀ps,o ≠ .tbl ps) (nf:∀b v,X.H₀ p ≠ some (.frz b v)) (new:ObjOk X.prog X.w (upd H p u) s.heap p u):Inv X pins σ (upd H p u) s:=by
 have ne:∀b,H b=none->b ≠ p:=fun b hb z=>by subst z;rw[hb]at e;cases e
 have up:∀b,H b=none->upd H p u b=none:=fun b hb=>by rw[upd_ne (ne b hb)];exact hb
 have tp:∀b xs,H b=some (.tup xs)->upd H p u b=some (.tup xs):=fun b xs q=>by
  rw[upd_ne (fun z=>by subst z;rw[q]at e;exact nt xs (Option.some.inj e).symm)];exact q
 have ow:∀b y,H b=some (.own y)->upd H p u b=some (.own y):=fun b y q=>by
  rw[upd_ne (fun z=>by subst z;rw[q]at e;exact no y (Option.some.inj e).symm)];exact q
 refine⟨I.ok,I.os,I.bare,⟨I.base.keep,I.base.slot,fun b ob q n hx=>up b (I.base.free b ob q n hx),I.base.there,fun b xs q=>tp b xs (I.base.tups b xs q),fun b ob v q=>?_,fun b ps q=>?_⟩,I.loc,I.cell,up _ I.free,fun x c q=>up c (I.freeC x c q),fun q hq=>?_,fun b v q=>?_,I.len⟩
 ·rw[upd_ne (fun z=>by subst z;exact nf ob v q)];exact I.base.frzs b ob v q
 ·obtain⟨more,q2⟩:=I.base.tbls b ps q
  exact⟨more,by rw[upd_ne (fun z=>by subst z;rw[q2]at e;exact nb _ (Option.some.inj e).symm)];exact q2⟩
 ·obtain⟨h1,h2,h3⟩:=I.pin q hq
  exact⟨h1,up _ h2,h3⟩
 ·by_cases hb:b=p
  ·subst hb;rw[upd_same]at q;cases q;exact new
  ·rw[upd_ne hb]at q
   exact(I.hok b v q).stay (fun _ _ _ r=>r) (fun c r=>ow c _ r) fun c xs r=>tp c xs r
noncomputable def NF (X:Cx) (p:Addr):Prop:=∀b v,X.H₀ p ≠ some (.frz b v)
theorem _root_.L2.Inv.nf (I:Inv X pins σ H s) (e:H p=some (.dK kvs)):NF X p:=fun b v q=>by
 have:=I.base.frzs p b v q
 rw[e]at this;cases this
theorem _root_.L2.Inv.thaw {o:Obj} (nf:NF X p) (I:Inv X pins σ H s) (e:H p=some (.frz o (.dK kvs))):Inv X pins σ (upd H p (.dK kvs)) s:=by
 obtain⟨_,z⟩:=I.hok p _ e
 obtain⟨z1,z2,vs,rel,o,es,ep,ho,hx,hd,r⟩:=z
 exact I.swap e (fun _ q=>by cases q) (fun _ q=>by cases q) (fun _ q=>by cases q) nf ⟨z1,z2,vs,rel,o,es,ep,ho,hx,hd,r⟩
end
end Sw
namespace Sw
open PySem PySem.Spec PyProof.Rows L2
section
variable {X:Cx} {M:Mo} {pins:List (Addr × Obj)} {σ:L2.St} {H:Hp} {s:Shared}
noncomputable def bfV:Bf->Value
 | .str=>.type "str" | .int=>.type "int" | .list=>.type "list" | .tuple=>.type "tuple"
 | .len=>.builtin "len" | .all=>.builtin "all" | .any=>.builtin "any" | .abs=>.builtin "abs" | .sorted=>.builtin "sorted" | .sortset=>.builtin "sorted"
 | .max=>.builtin "max" | .min=>.builtin "min" | .sum=>.builtin "sum" | .dlen=>.builtin "len" | .dsorted=>.builtin "sorted" | .smin=>.builtin "min"
theorem strs_vals:∀ {xs:List V} {its:List Value} {ts:List Str},Vals xs its->allM asS xs=some ts->StrsAre its ts:=by
 intro xs its ts r e
 induction r generalizing ts with
 | nil=>simp[allM]at e;subst e;exact .nil
 | cons h r ih=>
  rename_i x u xs us
  cases x with
  | str y=>
   obtain⟨t,rfl⟩:=h
   simp only[allM,asS]at e
   cases q:allM asS xs with
   | none=>rw[q]at e;simp at e
   | some ts'=>rw[q]at e;simp at e;subst e;exact .cons y t (ih q)
  | _=>simp[allM,asS]at e
theorem ints_vals:∀ {xs:List V} {its:List Value} {ts:List Int},Vals xs its->allM asI xs=some ts->IntsAre its ts:=by
 intro xs its ts r e
 induction r generalizing ts with
 | nil=>simp[allM]at e;subst e;exact .nil
 | cons h r ih=>
  rename_i x u xs us
  cases x with
  | int y=>
   obtain⟨t,rfl⟩:=h
   simp only[allM,asI]at e
   cases q:allM asI xs with
   | none=>rw[q]at e;simp at e
   | some ts'=>rw[q]at e;simp at e;subst e;exact .cons y t (ih q)
  | _=>simp[allM,asI]at e
theorem vals_of_strs:∀ {its:List Value} {ts:List Str},StrsAre its ts->Vals (ts.map V.str) its
 | _,_,.nil=>.nil
 | _,_,.cons y t r=>.cons ⟨t,rfl⟩ (vals_of_strs r)
theorem vals_of_ints:∀ {its:List Value} {ts:List Int},IntsAre its ts->Vals (ts.map V.int) its
 | _,_,.nil=>.nil
 | _,_,.cons y t r=>.cons ⟨t,rfl⟩ (vals_of_ints r)
theorem Inv.like {s':Shared} (I:Inv X pins σ H s) (h1:s'.heap=s.heap) (h2:s'.gens=s.gens) (h3:s'.os=s.os):Inv X pins σ H s':=by
 obtain⟨hp,g,d,tk,os⟩:=s'
 obtain⟨hp',g',d',tk',os'⟩:=s
 dsimp only at h1 h2 h3
 subst h1;subst h2;subst h3
 exact⟨I.ok,I.os,I.bare,I.base,I.loc,I.cell,I.free,I.freeC,I.pin,I.hok,I.len⟩
theorem new_list (mo:ModOk X.K M) {s':Shared} {l:Addr} {out:Array Value} {e:Nat} {ys:List V} {Q:VK} (I:Inv X pins σ H s) (kp:∀b o,s.heap.get? b=some o->s'.heap.get? b=some o) (hg:s'.gens=s.gens) (ho:s'.os=s.os) (hl:s.heap.objs.size<=l)
  (hn:s'.heap.get? l=some (seqObj "list" out e)) (hv:Vals ys out.toList) (hz:ys.length<=sizeLine) (h:H l=none->M l=none->Q (.ref l) (upd H l (.lst ys))):EP X pins σ Q (.ref l) s':=by
 have J:Inv X pins σ (upd H l (.lst ys)) {s with heap:=s'.heap,toks:=s'.toks}:=I.laid (t':=s'.toks) kp hl (show ObjOk X.prog X.w _ s'.heap l (.lst ys)from⟨hz,out.toList,e,hv,by rw[hn]⟩)
 have J':Inv X pins σ (upd H l (.lst ys)) s':=Inv.like J rfl hg ho
 exact⟨.ref l,_,J',rfl,h (I.hok.fresh hl) (OffM.new (Inv.offM mo J'))⟩
theorem sorted_ok (mo:ModOk X.K M) {p:Addr} {xs:List V} {ts:List Str} {Q:VK} (I:Inv X pins σ H s) (hq:SqL X.K H p xs) (e:allM asS xs=some ts) (h:newSorted M ts H Q):wpAny (model X.prog X.w) X.A (call (.builtin "sorted") [.ref p]) (EP X pins σ Q) X.xe s:=by
 obtain⟨its,rv,pl,hz⟩:=I.list hq
 have hs:=strs_vals rv e
 obtain⟨h64,h⟩:=h
 refine sorted_strs pl.isList hs (by rw[hs.len_eq];exact h64) fun out ss a1 a2 a3=>?_
 obtain⟨c,hc⟩:=sortedAll_at s.heap its out
 refine new_list mo I (fun b o q=>sortedAll_old q) rfl rfl (Nat.le_succ _) hc (vals_of_strs a1) ?_ (h ss _ a2 a3)
 rw[List.length_map,a2.length_eq,sizeLine_eq];omega
theorem sorted_ok_int (mo:ModOk X.K M) {p:Addr} {xs:List V} {ts:List Int} {Q:VK} (I:Inv X pins σ H s) (hq:SqL X.K H p xs) (e:allM asI xs=some ts) (h64:ts.length < 64)
  (h:∀ms l,List.Perm ms ts->ms.Pairwise (·<=·)->H l=none->M l=none->Q (.ref l) (upd H l (.lst (ms.map V.int)))):wpAny (model X.prog X.w) X.A (call (.builtin "sorted") [.ref p]) (EP X pins σ Q) X.xe s:=by
 obtain⟨its,rv,pl,hz⟩:=I.list hq
 have hs:=ints_vals rv e
 refine sorted_ints pl.isList hs (by rw[IntsAre.length hs];exact h64) fun out ss a1 a2 a3=>?_
 obtain⟨c,hc⟩:=sortedAll_at s.heap its out
 refine new_list mo I (fun b o q=>sortedAll_old q) rfl rfl (Nat.le_succ _) hc (vals_of_ints a1) ?_ (h ss _ a2 a3)
 rw[List.length_map,a2.length_eq,sizeLine_eq];omega
theorem blt_ok (hc:X.calm=true) (m:ModOk X.K M) (f:Bf):CallR X (bfV f) (bltV M f):=by
 intro pins s σ H xs us Q I r h
 cases f with
 | len=>
  cases xs with
  | nil=>exact False.elim h
  | cons x t=>
   cases t with
   | cons _ _=>first | exact False.elim h | (cases x<;>exact False.elim h)
   | nil=>
    cases x with
    | str y=>
     exact call_len_str pins s σ H _ _ Q I r ⟨_,rfl,h.1,h.2⟩
    | ref p=>
     unfold bltV at h
     dsimp only at h
     split at h
     ·rename_i e;exact call_len_seq pins s σ H _ _ Q I r ⟨_,_,rfl,.inl (rd_lst m e),h⟩
     ·rename_i e;exact call_len_seq pins s σ H _ _ Q I r ⟨_,_,rfl,.inr (rd_tup m e),h⟩
     ·exact h.elim
    | _=>exact False.elim h
 | max=>
  cases xs with
  | nil=>exact False.elim h
  | cons x t=>
   cases x with
   | int i=>
    cases t with
    | nil=>exact False.elim h
    | cons y t=>
     cases t with
     | cons _ _=>first | exact False.elim h | (cases y<;>exact False.elim h)
     | nil=>
      cases y with
      | int j=>exact call_max2 hc pins s σ H _ _ Q I r ⟨_,_,rfl,h⟩
      | _=>exact False.elim h
   | _=>exact False.elim h
 | min=>
  cases xs with
  | nil=>exact False.elim h
  | cons x t=>
   cases x with
   | int i=>
    cases t with
    | nil=>exact False.elim h
    | cons y t=>
     cases t with
     | cons _ _=>first | exact False.elim h | (cases y<;>exact False.elim h)
     | nil=>
      cases y with
      | int j=>exact call_min2 hc pins s σ H _ _ Q I r ⟨_,_,rfl,h⟩
      | _=>exact False.elim h
   | _=>exact False.elim h
 | list=>
  cases xs with
  | nil=>exact False.elim h
  | cons x t=>
   cases t with
   | cons _ _=>first | exact False.elim h | (cases x<;>exact False.elim h)
   | nil=>
    cases x with
    | ref p=>
     unfold bltV at h
     dsimp only at h
     split at h
     ·rename_i e;exact thn (call_list_of pins s σ H _ _ (fun v H'=>OffM M H'->Q v H') I r ⟨_,_,rfl,.inl (rd_lst m e),fun l hl of=>h l hl of.new⟩) fun _ _=>ep_off m
     ·rename_i e;exact thn (call_list_of pins s σ H _ _ (fun v H'=>OffM M H'->Q v H') I r ⟨_,_,rfl,.inr (rd_tup m e),fun l hl of=>h l hl of.new⟩) fun _ _=>ep_off m
     ·exact h.elim
    | _=>exact False.elim h
 | sorted=>
  cases xs with
  | nil=>exact False.elim h
  | cons x t=>
   cases t with
   | cons _ _=>first | exact False.elim h | (cases x<;>exact False.elim h)
   | nil=>
    cases x with
    | ref p=>
     obtain⟨u,rfl,ru⟩:=vals1 r
     cases ru
     unfold bltV at h
     dsimp only at h
     split at h
     ·rename_i e
      split at h
      ·rename_i eb;exact sorted_ok m I (rd_lst m e) eb h
      ·split at h
       ·rename_i eb;exact sorted_ok_int m I (rd_lst m e) eb h.1 h.2
       ·exact h.elim
     ·exact h.elim
    | _=>exact False.elim h
 | _=>exact False.elim h
noncomputable def mfT:Mf->String
 | .append=> "list" | .pop=> "list" | .extend=> "list" | .clear=> "list" | .dpop=> "dict" | .dclear=> "dict" | .copy=> "dict" | .setdefault=> "dict" | .get=> "dict" | _=> "str"
noncomputable def mfId:Mf->String
 | .startswith=> "str.startswith" | .endswith=> "str.endswith" | .split=> "str.split" | .join=> "str.join" | .append=> "list.append" | .pop=> "list.pop" | .extend=> "list.extend" | .clear=> "list.clear" | .dpop=> "dict.pop" | .dclear=> "dict.clear" | .copy=> "dict.copy" | .setdefault=> "dict.setdefault" | .get=> "dict.get"
theorem strs_of:∀ {xs:List V} {us:List Value} {ts:List Str},Vals xs us->allM asS xs=some ts->∃l:List (Str × Tok),strValues l=us/\l.map (·.1)=ts
 | [],_,ts,.nil,h=>by rw[allM_nil h];exact⟨[],rfl,rfl⟩
 | x::xs,_,ts,.cons r t,h=>by
  obtain⟨a,l,h1,h2,rfl⟩:=allM_cons h
  obtain⟨q,e1,e2⟩:=strs_of t h2
  cases x<;>first | cases h1 | skip
  obtain⟨tk,rfl⟩:=r
  exact⟨(_,tk)::q,by rw[<-e1];rfl,by rw[<-e2];rfl⟩
theorem mth_ok (mo:ModOk X.K M) (m:Mf):MtR X (mfId m) (mthV M m):=by
 intro pins s σ H x xs v us Q I rx r h
 cases m with
 | join=>
  cases x with
  | str x=>
   cases xs with
   | nil=>exact False.elim h
   | cons y t=>
    cases t with
    | cons _ _=>first | exact False.elim h | (cases y<;>exact False.elim h)
    | nil=>
     cases y with
     | ref p=>
      obtain⟨u,rfl,ru⟩:=vals1 r
      obtain⟨t,rfl⟩:=rx
      cases ru
      unfold mthV at h
      dsimp only at h
      split at h
      ·rename_i e
       split at h
       ·rename_i ts et
        obtain⟨its,rv,pl,_⟩:=I.list (rd_lst mo e)
        obtain⟨l,e1,e2⟩:=strs_of rv et
        exact PySem.SC.join (l:=l) (texts:=ts) (by rw[e1];exact pl.isList) e2 h.1 fun t' k=>⟨.str _,H,I.tok _,⟨_,rfl⟩,h.2⟩
       ·exact h.elim
      ·exact h.elim
     | _=>exact False.elim h
  | _=>exact False.elim h
 | append=>
  cases x with
  | ref p=>
   cases xs with
   | nil=>exact False.elim h
   | cons y t=>
    cases t with
    | cons _ _=>first | exact False.elim h | (cases y<;>exact False.elim h)
    | nil=>
     obtain⟨u,rfl,ru⟩:=vals1 r
     unfold mthV at h
     dsimp only at h
     split at h
     ·rename_i e
      exact mt_append pins s σ H _ _ _ _ Q I rx r ⟨_,_,_,rfl,rfl,e,h.1,h.2⟩
     ·exact h.elim
  | _=>exact False.elim h
 | extend=>
  cases x with
  | ref p=>
   cases xs with
   | nil=>exact False.elim h
   | cons y t=>
    cases t with
    | cons _ _=>first | exact False.elim h | (cases y<;>exact False.elim h)
    | nil=>
     cases y with
     | ref b=>
      unfold mthV at h
      dsimp only at h
      split at h
      ·rename_i e1 e2
       exact mt_extend pins s σ H _ _ _ _ Q I rx r ⟨_,_,_,_,rfl,rfl,e1,e2,h.1,h.2⟩
      ·exact h.elim
     | _=>exact False.elim h
  | _=>exact False.elim h
 | clear=>
  cases x with
  | ref p=>
   cases xs with
   | nil=>
    unfold mthV at h
    dsimp only at h
    split at h
    ·rename_i e1
     exact mt_clear pins s σ H _ _ _ _ Q I rx r ⟨_,_,rfl,rfl,e1,h⟩
    ·exact h.elim
   | cons _ _=>exact False.elim h
  | _=>exact False.elim h
 | get=>
  cases x with
  | ref p=>
   cases xs with
   | nil=>exact False.elim h
   | cons y t=>
    cases t with
    | cons _ _=>exact False.elim h
    | nil=>
     unfold mthV at h
     dsimp only at h
     obtain⟨u,rfl,ru⟩:=vals1 r
     cases rx
     split at h
     ·rename_i e1
      split at h
      ·rename_i ek
       rw[dkOf_kV ek]at ru
       exact d_get1 I e1 ru fun w' s' I' rw'=>⟨_,_,I',rw',h⟩
      ·exact h.elim
     ·exact h.elim
  | _=>exact False.elim h
 | _=>exact False.elim h
theorem isl_ty {K:PySem.W.Frag} (mo:ModOk K M) {x:V} {H:Hp} (h:(match x with | .ref p=>(match rd M H p with | some (.lst _)=>true | _=>false) | _=>false)=true):tyV K "list" x H:=by
 cases x with
 | ref p=>
  dsimp only at h
  split at h
  ·rename_i e;exact .inl ⟨rfl,_,rd_lst mo e⟩
  ·cases h
 | _=>cases h
theorem isd_ty {K:PySem.W.Frag} {x:V} {H:Hp} (h:isDk x H=true):tyV K "dict" x H:=by
 unfold isDk at h
 cases x with
 | ref p=>
  dsimp only at h
  split at h
  ·rename_i e;exact .inr (.inr (.inl ⟨rfl,.inl ⟨_,e⟩⟩))
  ·cases h
 | _=>cases h
theorem mth_ty {K:PySem.W.Frag} (mo:ModOk K M) {m:Mf} {x:V} {H:Hp} (h:mty M m x H=true):tyV K (mfT m) x H:=by
 cases m with
 | append=>exact isl_ty mo h
 | extend=>exact isl_ty mo h
 | pop=>exact isl_ty mo h
 | clear=>exact isl_ty mo h
 | dclear=>exact isd_ty h
 | copy=>exact isd_ty h
 | dpop=>exact isd_ty h
 | setdefault=>exact isd_ty h
 | get=>exact isd_ty h
 | _=>cases x<;>first | exact rfl | cases h
theorem sl_str:SlR X (fun x lo hi H Q=>∃z,x=.str z/\z.length<=sizeLine/\Q (.str (Txt.slice z lo hi)) H):=by
 intro pins s σ H x v vl vu lo hi sl Q I rx hs pl pu h
 obtain⟨z,rfl,hz,q⟩:=h
 obtain⟨t,rfl⟩:=rx
 refine⟨"str",_,F.slot_str_getitem.lookup,typeIs_str _ _ _,?_⟩
 cases pl with
 | none=>
  cases pu with
  | none=>exact wpAny_getItem_str_slice (l:=none) (u:=none) (st:=none) hs rfl (post_val_or_str ⟨Nat.le_trans (Txt.slice_le z _ _) hz,fun t' k=>⟨.str _,H,I.tok _,⟨_,rfl⟩,q⟩⟩)
  | int j uj=>exact wpAny_getItem_str_slice (l:=none) (u:=some (j,uj)) (st:=none) hs rfl (post_val_or_str ⟨Nat.le_trans (Txt.slice_le z _ _) hz,fun t' k=>⟨.str _,H,I.tok _,⟨_,rfl⟩,q⟩⟩)
 | int i ui=>
  cases pu with
  | none=>exact wpAny_getItem_str_slice (l:=some (i,ui)) (u:=none) (st:=none) hs rfl (post_val_or_str ⟨Nat.le_trans (Txt.slice_le z _ _) hz,fun t' k=>⟨.str _,H,I.tok _,⟨_,rfl⟩,q⟩⟩)
  | int j uj=>exact wpAny_getItem_str_slice (l:=some (i,ui)) (u:=some (j,uj)) (st:=none) hs rfl (post_val_or_str ⟨Nat.le_trans (Txt.slice_le z _ _) hz,fun t' k=>⟨.str _,H,I.tok _,⟨_,rfl⟩,q⟩⟩)
theorem slc_ok (m:ModOk X.K M):SlR X (slcV M):=by
 intro pins s σ H x v vl vu lo hi sl Q I rx hs pl pu h
 unfold slcV at h
 split at h
 ·exact sl_str pins s σ H _ v vl vu lo hi sl Q I rx hs pl pu ⟨_,rfl,h.1,h.2⟩
 ·split at h
  ·rename_i e
   obtain⟨T,id,h1,h2,h3⟩:=sl_list pins s σ H _ v vl vu lo hi sl (fun v H'=>OffM M H'->Q v H') I rx hs pl pu ⟨_,_,rfl,rd_lst m e,fun p hp of=>h p hp of.new⟩
   exact⟨T,id,h1,h2,thn h3 fun _ _=>ep_off m⟩
  ·rename_i e
   obtain⟨T,id,h1,h2,h3⟩:=sl_tup pins s σ H _ v vl vu lo hi sl (fun v H'=>OffM M H'->Q v H') I rx hs pl pu ⟨_,_,rfl,rd_tup m e,h.1,fun p hp of=>h.2 p hp of.new⟩
   exact⟨T,id,h1,h2,thn h3 fun _ _=>ep_off m⟩
  ·exact h.elim
 ·exact h.elim
end
theorem seq_list {K:PySem.W.Frag} {M:Mo} (m:ModOk K M) {a:Addr} {xs:List V}:SeqIt (Itl K a) xs (fun H=>rd M H a=some (.lst xs)) where
 go:=fun i H st e=>⟨xs,xs[i],rd_lst m st,List.getElem?_eq_getElem e⟩
 yld:=fun i H x H' _ y st=>⟨y.1,y.2 xs (rd_lst m st)⟩
 stop:=fun i H st h=>⟨xs,rd_lst m st,h⟩
theorem seq_tup {K:PySem.W.Frag} {M:Mo} (m:ModOk K M) {a:Addr} {xs:List V}:SeqIt (Itt K a) xs (fun H=>rd M H a=some (.tup xs)) where
 go:=fun i H st e=>⟨xs,xs[i],rd_tup m st,List.getElem?_eq_getElem e⟩
 yld:=fun i H x H' _ y st=>⟨y.1,y.2 xs (rd_tup m st)⟩
 stop:=fun i H st h=>⟨xs,rd_tup m st,h⟩
theorem seq_range (lo:Int) (n:Nat):SeqIt (Itr lo n) ((List.range n).map fun i:Nat=>.int (lo + i)) (fun _=>True) where
 go:=fun i H st e=>by
  show i < n
  simpa using e
 yld:=fun i H x H' e y st=>by
  obtain⟨y1,y2⟩:=y
  subst y2
  refine⟨y1,?_⟩
  have e:i < n:=by simpa using e
  rw[List.getElem?_map,List.getElem?_range e]
  rfl
 stop:=fun i H st h=>by
  show n<=i
  simpa using h
noncomputable def Its (z:Str):It:=⟨fun i _=>i < z.cps.size,fun i H x H'=>H'=H/\∃c,z.cps[i]?=some c/\x=.str ⟨#[c]⟩,fun i _=>z.cps.size<=i⟩
theorem seq_str (z:Str):SeqIt (Its z) (z.cps.toList.map fun c=>.str ⟨#[c]⟩) (fun _=>True) where
 go:=fun i H st e=>by
  show i < z.cps.size
  simpa using e
 yld:=fun i H x H' e y st=>by
  obtain⟨y1,c,y2,y3⟩:=y
  subst y3
  refine⟨y1,?_⟩
  rw[List.getElem?_map]
  simp[y2]
 stop:=fun i H st h=>by
  show z.cps.size<=i
  simpa using h
theorem turn_str {P:Program} {w:World} {K:PySem.W.Frag} {tg:Expr} (it:Addr) (z:Str) (t:Tok):Turn P w K tg (Its z) [it] it (fun i h=>h.IsStrIter it (strIterType z) z t i) where
 mem:=by simp
 obj:=fun i h st b hb=>by
  have e:b=it:=by simpa using hb
  subst e
  obtain⟨o,ho,hc,hd⟩:=st
  exact⟨o,ho,fun v q=>by rw[hd]at q;cases q⟩
 keep:=fun i h h' st k=>by
  obtain⟨o,ho,r⟩:=st
  exact⟨o,k it (by simp) _ ho,r⟩
 item:=by
  intro X hP hw hK hc i pins s σ H E I hf st hg
  subst hP hw hK
  obtain⟨f0,f1,f2,f3,f4,f5⟩:=hf it (by simp)
  have hg:i < z.cps.size:=hg
  have hx:z.cps[i]?=some z.cps[i]:=Array.getElem?_eq_getElem hg
  have fin:∀ (ty:String),ty ≠ "x" ->strIterType z=ty->(["enumerate","zip","dict_itemiterator","dict_reverseitemiterator","odict_iterator","itertools.zip_longest","itertools.pairwise"].contains ty=false)->∀h',h'.IsStrIter it ty z t (i + 1)->Heap.SameBut it s.heap h'->
    ∃u,some (Value.str ⟨#[z.cps[i]]⟩ s.toks)=some u/\wpAny (model X.prog X.w) X.A (letOwnedTupleGo tg (.ref it) u) (fun _ s2=>∃x H',Inv X pins σ H' s2/\RelV x u/\(Its z).yld i H x H'/\s2.heap.IsStrIter it (strIterType z) z t (i + 1)/\∀b ∈ [it],H' b=none) E {s with heap:=h',toks:=s.toks + 1}:=by
   intro ty _ e hn h' st' sb
   have I1:Inv X pins σ H {s with heap:=h',toks:=s.toks + 1}:=I.turned (fun b o hb e=>sb.extBut b o hb e) f0 f1 f3 f4 f5
   obtain⟨o,ho,hcl,hd⟩:=id st'
   refine⟨_,rfl,go_of (s:={s with heap:=h',toks:=s.toks + 1}) ho hcl hd hn ⟨.str ⟨#[z.cps[i]]⟩,H,I1,⟨_,rfl⟩,⟨rfl,_,hx,rfl⟩,by rw[e];exact st',fun b hb=>(hf b hb).1⟩⟩
  cases ha:z.cps.all (·< 128)
  ·have e:strIterType z= "str_iterator" :=by simp[strIterType,ha]
   rw[e]at st
   exact wpAny_pyNext_wide_item st hx fun h' st' sb=>fin _ (by decide) e (by decide) h' st' sb
  ·have e:strIterType z= "str_ascii_iterator" :=by simp[strIterType,ha]
   rw[e]at st
   exact wpAny_pyNext_ascii_item st hx fun h' st' sb=>fin _ (by decide) e (by decide) h' st' sb
 done:=by
  intro X hP hw hK hc i pins s σ H E I hf st hg
  subst hP hw hK
  obtain⟨f0,f1,f2,f3,f4,f5⟩:=hf it (by simp)
  have hg:z.cps.size<=i:=hg
  have hx:z.cps[i]?=none:=by simp[hg]
  cases ha:z.cps.all (·< 128)
  ·have e:strIterType z= "str_iterator" :=by simp[strIterType,ha]
   rw[e]at st
   exact wpAny_pyNext_wide_end (I.ok.hd hc) st hx fun h' eb=>⟨rfl,I.turned (t':=s.toks) (fun b o hb e=>eb b o hb e) f0 f1 f3 f4 f5⟩
  ·have e:strIterType z= "str_ascii_iterator" :=by simp[strIterType,ha]
   rw[e]at st
   exact wpAny_pyNext_ascii_end (I.ok.hd hc) st hx fun h' eb=>⟨rfl,I.turned (t':=s.toks) (fun b o hb e=>eb b o hb e) f0 f1 f3 f4 f5⟩
 self:=fun A i s Q E st h=>by
  cases ha:z.cps.all (·< 128)
  ·have e:strIterType z= "str_iterator" :=by simp[strIterType,ha]
   rw[e]at st
   exact wpAny_pyIter_striter_wide st h
  ·have e:strIterType z= "str_ascii_iterator" :=by simp[strIterType,ha]
   rw[e]at st
   exact wpAny_pyIter_striter_ascii st h
section
variable {X:Cx} {tg:Expr}
noncomputable def iSeq (wi:L2.St->Hp->(List V->(Hp->Prop)->Hp->Prop)->Prop):TI:=fun σ H R=>∃k,wi σ H k/\∀J xs stay H1,SeqIt J xs stay->k xs stay H1->R J H1
theorem iterV_mono {M:Mo} {x:V} {H:Hp} {k k':List V->(Hp->Prop)->Prop} (h:iterV M x H k) (hk:∀xs stay,k xs stay->k' xs stay):iterV M x H k':=by
 unfold iterV at h ⊢
 split at h
 ·exact⟨h.1,hk _ _ h.2⟩
 ·split at h
  ·first | exact hk _ _ h | (rename_i e;rw[e];exact hk _ _ h)
  ·first | exact hk _ _ h | (rename_i e;rw[e];exact hk _ _ h)
  ·exact h.elim
 ·exact h.elim
theorem pi_str {pins:List (Addr × Obj)} {σ:L2.St} {H:Hp} {s:Shared} {R:It->Hp->Prop} {z:Str} {t:Tok} (I:Inv X pins σ H s) (q:R (Its z) H):
  wpAny (model X.prog X.w) X.A (pyIter (.str z t)) (PIE X pins σ tg R) X.xe s:=by
 refine wpAny_pyIter_strU ?_
 refine⟨s.heap.objs.size,[s.heap.objs.size],_,_,H,rfl,I.kept (t':=s.toks) fun b o e=>Heap.get?_push_of_some _ e,turn_str _ z t,⟨_,Heap.get?_push_size _ rfl,rfl,rfl⟩,fun b hb=>?_,q⟩
 have e:b=s.heap.objs.size:=by simpa using hb
 subst e
 exact I.fpOk (Nat.le_refl _) (I.hok.fresh (Nat.le_refl _))
theorem pi_val {M:Mo} (m:ModOk X.K M) {pins:List (Addr × Obj)} {σ:L2.St} {H:Hp} {s:Shared} {R:It->Hp->Prop} {x:V} {v:Value} (I:Inv X pins σ H s) (rx:RelV x v)
  (h:iterV M x H fun xs stay=>∀J,SeqIt J xs stay->R J H):wpAny (model X.prog X.w) X.A (pyIter v) (PIE X pins σ tg R) X.xe s:=by
 unfold iterV at h
 split at h
 ·obtain⟨t,rfl⟩:=rx
  exact pi_str I (h.2 _ (seq_str _))
 ·cases rx
  split at h
  ·rename_i xs e
   obtain⟨its,rv,p,hz⟩:=I.list (rd_lst m e)
   refine wpAny_pyIter_list p.isList ?_
   refine⟨s.heap.objs.size,[s.heap.objs.size],_,_,H,rfl,I.kept (t':=s.toks) fun b o e=>Heap.get?_push_of_some _ e,turn_list _ _,⟨_,Heap.get?_push_size _ rfl,rfl,rfl⟩,fun b hb=>?_,h _ (seq_list m)⟩
   have e:b=s.heap.objs.size:=by simpa using hb
   subst e
   exact I.fpOk (Nat.le_refl _) (I.hok.fresh (Nat.le_refl _))
  ·rename_i xs e
   obtain⟨its,rv,p,hz⟩:=I.tuple (rd_tup m e)
   refine wpAny_pyIter_tuple (show s.heap.IsTuple _ its.toArray from p) ?_
   refine⟨s.heap.objs.size,[s.heap.objs.size],_,_,H,rfl,I.kept (t':=s.toks) fun b o e=>Heap.get?_push_of_some _ e,turn_tuple _ _,⟨_,Heap.get?_push_size _ rfl,rfl,rfl⟩,fun b hb=>?_,h _ (seq_tup m)⟩
   have e:b=s.heap.objs.size:=by simpa using hb
   subst e
   exact I.fpOk (Nat.le_refl _) (I.hok.fresh (Nat.le_refl _))
  ·exact h.elim
 ·exact h.elim
end
end Sw
namespace PySem.Sg
open PySem PySem.Spec PyProof.Rows L2
section
variable {prog:Program} {w:World} {A:Around} {E:Value->Shared->Prop} {s:Shared}
theorem len_setIs {S:Addr} {τ:List Str} {Q:Value->Shared->Prop} (hS:SetIs prog w s.heap S τ) (h:∀t tk,Q (.int τ.length t) {s with toks:=tk}):wpAny (model prog w) A (call (.builtin "len") [.ref S]) Q E s:=by
 obtain⟨o,es,ep,t,ho,hx,hd,hel,pm,hsz,hf,_,_⟩:=hS
 have hl:es.size=τ.length:=by have:=pm.length_eq;simpa using this
 refine call_len_set ho hx hd hf (by unfold scanBound at hsz;omega) ?_
 rw[hl]
 exact h _ _
end
end PySem.Sg
namespace Zl
open PySem
section
variable {prog:Program} {w:World} {A:Around} {s:Shared} {R:Result->Shared->Prop} {S I:Addr} {n:Nat} {J:Nat->Array Value->Heap->Prop} {F:Array Value->Heap->Prop} {res:Value}
structure Walk (prog:Program) (w:World) (A:Around) (s:Shared) (S I:Addr) (n:Nat) (J:Nat->Array Value->Heap->Prop) (F:Array Value->Heap->Prop):Prop where
 few:n<=sizeLine
 size:∀i acc h,J i acc h->acc.size=i
 keep:∀i acc h h',J i acc h->(∀ b o,b ≠ S->h.get? b=some o->h'.get? b=some o)->J i acc h'
 item:∀i acc h tk (Q:Option Value->Shared->Prop) (E:Value->Shared->Prop),i < n->J i acc h->S < h.objs.size->
  (∀ v h',J (i + 1) (acc.push v) h'->(∀ o,h.get? S=some o->h'.get? S=some o)->Q (some v) {s with heap:=h',toks:=tk})->wpAny (model prog w) A (pyNext (.ref I)) Q E {s with heap:=h,toks:=tk}
 done:∀acc h tk (Q:Option Value->Shared->Prop) (E:Value->Shared->Prop),J n acc h->S < h.objs.size->
  (∀ h',F acc h'->(∀ o,h.get? S=some o->h'.get? S=some o)->Q none {s with heap:=h',toks:=tk})->wpAny (model prog w) A (pyNext (.ref I)) Q E {s with heap:=h,toks:=tk}
theorem ext_loop (W:Walk prog w A.in1 s S I n J F) (hR:∀h' acc c tk,F acc h'->h'.get? S=some {cls:=.type "list",dict:=none,data:=.seq acc c,slots:=#[]}->R (.ok (.ret res)) {s with heap:=h',toks:=tk}):
  ∀ (k i:Nat) (h:Heap) (tk c:Nat) (acc:Array Value),n - i=k->i<=n->J i acc h->h.get? S=some {cls:=.type "list",dict:=none,data:=.seq acc c,slots:=#[]}->
   codeAny (model prog w) A (.builtin "list.extend.loop" ⟨[.ref S,.ref I,res],[]⟩) R {s with heap:=h,toks:=tk}
 | 0,i,h,tk,c,acc,hk,hi,hj,hS=>by
  have e:i=n:=by omega
  subst e
  refine codeAny_builtin PySem.F.entry_extend_loop ?_
  rw[Around.under_plainId PySem.F.plain_extend_loop _]
  show wpAny _ A.in1 (pyNext (.ref I) >>= _) _ _ _
  exact wpAny_bind (W.done acc h tk _ _ hj (Heap.lt_size hS) fun h' f sm=>wpAny_pure (hR h' acc c tk f (sm _ hS)))
 | k + 1,i,h,tk,c,acc,hk,hi,hj,hS=>by
  have lt:i < n:=by omega
  have sz:=W.size i acc h hj
  have few:=W.few
  refine codeAny_builtin PySem.F.entry_extend_loop ?_
  rw[Around.under_plainId PySem.F.plain_extend_loop _]
  show wpAny _ A.in1 (pyNext (.ref I) >>= _) _ _ _
  refine wpAny_bind (W.item i acc h tk _ _ lt hj (Heap.lt_size hS) fun v h' hj' sm=>?_)
  have hS':=sm _ hS
  show wpAny _ A.in1 (updateSeq S (·.push v) >>= _) _ _ _
  refine wpAny_bind ?_
  refine wpAny_updateSeq hS' rfl (wpAny_pure ⟨plainId_quiet PySem.F.plain_extend_loop _,?_⟩) (by omega) (by show(acc.push v).size<=sizeLine + 1;rw[Array.size_push];omega)
  exact ext_loop W hR k (i + 1) _ tk _ (acc.push v) (by omega) lt (W.keep _ _ _ _ hj' fun b o hb e=>(Heap.get?_update_other _ _ (Ne.symm hb)).trans e) (Heap.get?_update_self _ hS' rfl)
end
section
variable {prog:Program} {w:World} {A:Around} {E:Value->Shared->Prop} {s:Shared} {I:Addr} {n:Nat} {J:Nat->Array Value->Heap->Prop} {F:Array Value->Heap->Prop} {T:String}
theorem list_iter {Q:Value->Shared->Prop} (W:Walk prog w A.in1.in1 s s.heap.objs.size I n J F) (hj:J 0 #[] s.heap) (tl:T ≠ "list") (tt:T ≠ "tuple") (hT:s.TypeIs (.ref I) T)
  (self:∀ (B:Around) (t:Shared) (K:Value->Shared->Prop) (X:Value->Shared->Prop),t.TypeIs (.ref I) T->K (.ref I) t->wpAny (model prog w) B (pyIter (.ref I)) K X t)
  (hint:∀ (B:Around) (t:Shared) (K:Bool->Shared->Prop) (X:Value->Shared->Prop),t.TypeIs (.ref I) T->(∀ b,K b t)->wpAny (model prog w) B (Builtin.List.listLengthHint (.ref I)) K X t)
  (hQ:∀h' acc c tk,F acc h'->h'.get? s.heap.objs.size=some {cls:=.type "list",dict:=none,data:=.seq acc c,slots:=#[]}->Q (.ref s.heap.objs.size) {s with heap:=h',toks:=tk}):
  wpAny (model prog w) A (call (.type "list") [.ref I]) Q E s:=by
 refine callType_codes (Q₁:=fun obj s₁=>obj=.ref s.heap.objs.size/\s₁={s with heap:=s.heap.push {cls:=.type "list",data:=.seq #[]}}) PySem.F.called_list (PySem.F.typeCall_list_1 _) PySem.F.entry_list_init
  (code_list_new _ ⟨rfl,rfl⟩) fun obj s₁ h₁=>?_
 obtain⟨rfl,rfl⟩:=h₁
 have hS:(s.heap.push {cls:=.type "list",data:=.seq #[]}).get? s.heap.objs.size=some {cls:=.type "list",data:=.seq #[]}:=Heap.get?_push_size _ rfl
 have iS:I ≠ s.heap.objs.size:=by
  obtain⟨o,ho,_⟩:=hT
  exact Nat.ne_of_lt (Heap.lt_size ho)
 have ex:∀h:Heap,(∀ b o,b ≠ s.heap.objs.size->s.heap.get? b=some o->h.get? b=some o)->Shared.TypeIs {s with heap:=h} (.ref I) T:=fun h k=>by
  obtain⟨o,ho,hc⟩:=hT
  exact⟨o,k I o iS ho,hc⟩
 refine⟨⟨_,hS,rfl⟩,PySem.F.args_list_init_2 _ _,?_⟩
 show wpAny _ _ (do let old<-Builtin.List.listItems (.ref s.heap.objs.size);Builtin.List.listUpdate (.ref s.heap.objs.size) (fun _=>#[]);letGo old.toList.reverse;Builtin.List.listExtendWith (.ref s.heap.objs.size) (.ref I) .none) _ _ _
 refine wpAny_bind ?_
 unfold Builtin.List.listItems
 refine wpAny_bind (wpAny_seqItems hS rfl (wpAny_pure ?_))
 show wpAny _ _ (updateSeq s.heap.objs.size (fun _=>#[]) >>= fun _=>letGo (#[]:Array Value).toList.reverse >>= fun _=>Builtin.List.listExtendWith (.ref s.heap.objs.size) (.ref I) .none) _ _ _
 refine wpAny_bind (wpAny_updateSeq hS rfl ?_)
 have hS2:=Heap.get?_update_self (Obj.mapSeq (fun _=>(#[]:Array Value))) hS rfl
 have k2:∀b o,b ≠ s.heap.objs.size->s.heap.get? b=some o->((s.heap.push {cls:=.type "list",data:=.seq #[]}).update s.heap.objs.size (Obj.mapSeq (fun _=>(#[]:Array Value)))).get? b=some o:=
  fun b o hb e=>(Heap.get?_update_other _ _ (Ne.symm hb)).trans (Heap.get?_push_of_some _ e)
 refine wpAny_bind (wpAny_letGo ?_)
 generalize (s.heap.push {cls:=.type "list",data:=.seq #[]}).update s.heap.objs.size (Obj.mapSeq (fun _=>(#[]:Array Value)))=h2 at hS2 k2
 have loop:∀ (h:Heap) (c:Nat) (tk:Nat),(∀ b o,b ≠ s.heap.objs.size->s.heap.get? b=some o->h.get? b=some o)->h.get? s.heap.objs.size=some {cls:=.type "list",data:=.seq #[] c}->
   codeAny (model prog w) A.in1 (.builtin "list.extend.loop" ⟨[.ref s.heap.objs.size,.ref I,.none],[]⟩) (wants (fun r s₂=>r=.none/\Q (.ref s.heap.objs.size) s₂) E) {s with heap:=h,toks:=tk}:=fun h c tk k hs=>
  ext_loop W (fun h' acc c tk f e=>⟨rfl,hQ h' acc c tk f e⟩) n 0 h tk c #[] (Nat.sub_zero _) (Nat.zero_le _) (W.keep _ _ _ _ hj k) hs
 unfold Builtin.List.listExtendWith
 refine wpAny_bind (wpAny_typeOf (T:=T) (ex h2 k2) ?_)
 have h1:Builtin.List.listSameRef (.ref s.heap.objs.size) (.ref I)=false:=by simp[Builtin.List.listSameRef,Ne.symm iS]
 have h3:(Value.type T == Value.type "list")=false:=by simp[tl]
 have h4:(Value.type T == Value.type "tuple")=false:=by simp[tt]
 simp only[h1,h3,h4,Bool.or_false,Bool.false_eq_true,if_false]
 refine wpAny_bind (self _ _ _ _ (ex h2 k2) ?_)
 refine wpAny_bind (wpAny_holding (hint _ _ _ _ (ex h2 k2) fun room=>?_))
 refine wpAny_ite_split (fun _=>?_) (fun _=>wpAny_pure ⟨plainId_quiet PySem.F.plain_extend_loop _,loop h2 _ _ k2 hS2⟩)
 refine wpAny_bind (wpAny_rule ?_)
 refine wpAny_bind ?_
 show wpAny _ _ (updateSeq s.heap.objs.size (·.push .none) >>= fun _=>updateSeq s.heap.objs.size (·.pop)) _ _ _
 refine wpAny_bind (wpAny_updateSeq hS2 rfl ?_)
 have hS3:=Heap.get?_update_self (Obj.mapSeq (·.push Value.none)) hS2 rfl
 refine wpAny_updateSeq (hz:=by seq_fits) hS3 rfl ?_
 have hS4:=Heap.get?_update_self (Obj.mapSeq (·.pop)) hS3 rfl
 exact wpAny_pure ⟨plainId_quiet PySem.F.plain_extend_loop _,loop _ _ _ (fun b o hb e=>(Heap.get?_update_other _ _ (Ne.symm hb)).trans ((Heap.get?_update_other _ _ (Ne.symm hb)).trans (k2 b o hb e))) hS4⟩
end
end Zl
namespace Zl
open PySem
theorem nd {a b:Nat} (h:a < b\/b < a):@Ne Addr a b:=fun e=>by
 have e:(a:Nat)=b:=e
 omega
theorem rev_len:typeLookup (.type "list_reverseiterator") "__len__" =pure none:=by rw[typeLookup_type,builtinLookup_eq_fast];kernel_rfl
theorem rev_hint:typeLookup (.type "list_reverseiterator") "__length_hint__" =pure (some (.builtin "list_reverseiterator.__length_hint__")):=by rw[typeLookup_type,builtinLookup_eq_fast];kernel_rfl
structure RSt (h₀:Heap) (r l S:Nat) (xs:Array Value) (i:Nat) (acc:Array Value) (h:Heap):Prop where
 acc:acc.toList=xs.toList.reverse.take i
 le:i<=xs.size
 it:h.IsRevIter r l ((xs.size:Int) - 1 - (i:Int))
 lst:h.IsList l xs
 old:∀b o,b ≠ r->b ≠ S->h₀.get? b=some o->h.get? b=some o
section
variable {prog:Program} {w:World} {A:Around} {E:Value->Shared->Prop} {s:Shared}
theorem rev_walk {r l S:Nat} {xs:Array Value} (hh:A.handled=none) (few:xs.size<=sizeLine) (rl:r ≠ l) (rs:r < S) (ls:l < S):
  Walk prog w A s S r xs.size (RSt s.heap r l S xs) (fun acc h=>acc.toList=xs.toList.reverse/\∀b o,b ≠ r->b ≠ S->s.heap.get? b=some o->h.get? b=some o) where
 few:=few
 size:=fun i acc h j=>by
  rw[<-Array.length_toList,j.acc,List.length_take,List.length_reverse,Array.length_toList]
  have:=j.le
  omega
 keep:=fun i acc h h' j k=>⟨j.acc,j.le,j.it.at fun o e=>k _ o (nd (by omega)) e,j.lst.at fun o e=>k _ o (nd (by omega)) e,fun b o b1 b2 e=>k b o b2 (j.old b o b1 b2 e)⟩
 item:=fun i acc h tk Q E lt j hS q=>by
  have en:(xs.size:Int) - 1 - (i:Int)=((xs.size - 1 - i:Nat):Int):=by omega
  have it:=j.it
  rw[en]at it
  have hx:=Array.getElem?_eq_getElem (xs:=xs) (i:=xs.size - 1 - i) (by omega)
  refine wpAny_pyNext_rev_item (s:={s with heap:=h,toks:=tk}) it j.lst hx fun h' it' sb=>?_
  have en2:((xs.size - 1 - i:Nat):Int) - 1=(xs.size:Int) - 1 - ((i + 1:Nat):Int):=by omega
  rw[en2]at it'
  refine q _ h' ⟨?_,lt,it',j.lst.at fun o e=>sb.extBut _ _ (Ne.symm rl) e,fun b o b1 b2 e=>sb.extBut _ _ b1 (j.old b o b1 b2 e)⟩ fun o e=>sb.extBut _ _ (nd (by omega)) e
  rw[Array.toList_push,j.acc,List.take_succ,List.getElem?_reverse (by simpa using lt)]
  congr 1
  have e2:xs.toList[xs.toList.length - 1 - i]?=some xs[xs.size - 1 - i]:=by
   rw[Array.length_toList,Array.getElem?_toList]
   exact hx
  rw[e2]
  rfl
 done:=fun acc h tk Q E j hS q=>by
  have it:=j.it
  rw[show(xs.size:Int) - 1 - ((xs.size:Nat):Int)= -1 by omega]at it
  refine wpAny_pyNext_rev_end (s:={s with heap:=h,toks:=tk}) hh it fun h' eb=>?_
  refine q h' ⟨?_,fun b o b1 b2 e=>eb b o b1 (j.old b o b1 b2 e)⟩ fun o e=>eb _ _ (nd (by omega)) e
  rw[j.acc,List.take_of_length_le (by simp)]
theorem list_rev {l:Nat} {xs:Array Value} {Q:Value->Shared->Prop} (hh:A.handled=none) (hl:s.heap.IsList l xs) (few:xs.size<=sizeLine)
  (q:∀h' acc c tk,acc.toList=xs.toList.reverse->(∀ b o,s.heap.get? b=some o->h'.get? b=some o)->h'.get? (s.heap.objs.size + 1)=some {cls:=.type "list",dict:=none,data:=.seq acc c,slots:=#[]}->Q (.ref (s.heap.objs.size + 1)) {s with heap:=h',toks:=tk}):
  wpAny (model prog w) A (call (.type "reversed") [.ref l]) (fun v s'=>wpAny (model prog w) A (call (.type "list") [v]) Q E s') E s:=by
 have lt:l < s.heap.objs.size:=by obtain⟨o,e,_⟩:=id hl;exact Heap.lt_size e
 refine call_reversed_list hl ?_
 have st:Heap.IsRevIter (s.heap.push (revObj l ((xs.size:Int) - 1))) s.heap.objs.size l ((xs.size:Int) - 1 - ((0:Nat):Int)):=⟨_,Heap.get?_push_size _ rfl,rfl,by unfold revObj;simp⟩
 have hs:(s.heap.push (revObj l ((xs.size:Int) - 1))).objs.size=s.heap.objs.size + 1:=Heap.size_push ..
 have k:∀b o,s.heap.get? b=some o->(s.heap.push (revObj l ((xs.size:Int) - 1))).get? b=some o:=fun b o e=>Heap.get?_push_of_some _ e
 generalize s.heap.push (revObj l ((xs.size:Int) - 1))=h' at st hs k
 have W:=rev_walk (prog:=prog) (w:=w) (A:=A.in1.in1) (s:={s with heap:=h'}) (r:=s.heap.objs.size) (l:=l) (S:=h'.objs.size) (xs:=xs) hh few (by omega) (by omega) (by omega)
 refine list_iter (T:= "list_reverseiterator") (s:={s with heap:=h'}) W ⟨rfl,Nat.zero_le _,st,hl.at fun o e=>k _ o e,fun b o _ _ e=>e⟩ (by decide) (by decide) (Heap.IsRevIter.typeIs (s:={s with heap:=h'}) st) (fun B t K X hT hK=>?_) (fun B t K X hT hK=>?_) (fun h2 acc c tk f e=>?_)
 ·refine wpAny_pyIter_slot hT PySem.F.slot_lri_iter (wpAny_call_entry PySem.F.slot_lri_iter hT PySem.F.entry_lri_iter ?_ (PySem.F.args_lri_iter_1 _))
  show wpAny _ _ (ret (.ref _)) _ _ t
  exact wpAny_pure ⟨_,rfl,"list_reverseiterator",_,hT,PySem.F.slot_lri_next.lookup,hK⟩
 ·unfold Builtin.List.listLengthHint
  refine wpAny_bind (wpAny_specialOf hT rev_len ?_)
  show wpAny _ _ (specialOf (Value.ref _) (Str.ofString "__length_hint__") >>= _) _ _ _
  refine wpAny_bind (wpAny_specialOf hT rev_hint ?_)
  generalize hid:("list_reverseiterator.__length_hint__" :String)=id0
  wp_delta
  rw[show splitId id0=some ("list_reverseiterator","__length_hint__")from by subst hid;decide +kernel]
  subst hid
  refine wpAny_bind (wpAny_isInstance (b:=true) hT (by rw[isSubtype_type];kernel_rfl) ?_)
  refine wpAny_pure ?_
  exact hK _
 ·obtain⟨f1,f2⟩:=f
  show Q (.ref h'.objs.size) _
  have e':h2.get? h'.objs.size=some {cls:=.type "list",dict:=none,data:=.seq acc c,slots:=#[]}:=e
  dsimp only at f2
  rw[hs]at e' f2 ⊢
  exact q h2 acc c tk f1 (fun b o x=>by
   have:@LT.lt Nat _ b s.heap.objs.size:=Heap.lt_size x
   exact f2 b o (nd (by omega)) (nd (by omega)) (k b o x)) e'
end
end Zl
namespace Sw
open PySem PySem.Spec PyProof.Rows L2
noncomputable def unV:Value->V
 | .none=>.non
 | .bool b=>.bl b
 | .int i _=>.int i
 | .str x _=>.str x
 | .ref a=>.ref a
 | _=>.non
theorem unV_of {M:Mo} {H:Hp} {n:Nat} {x:V} {u:Value} {d:PyData} (r:RelV x u) (h:data M H n x=some d):unV u=x:=by
 cases x with
 | non=>rw[show u=Value.none from r];rfl
 | bl b=>rw[show u=Value.bool b from r];rfl
 | int i=>obtain⟨t,rfl⟩:=r;rfl
 | str y=>obtain⟨t,rfl⟩:=r;rfl
 | ref a=>rw[show u=Value.ref a from r];rfl
 | byt b=>cases n<;>cases h
 | flt b=>cases n<;>cases h
 | ty b=>cases n<;>cases h
noncomputable def eqD (M:Mo) (H:Hp) (d:PyData) (u:Value):Bool:=match data M H 8 (unV u)with
 | some e=>PyData.eqv e d
 | none=>false
section
variable {X:Cx} {M:Mo} {pins:List (Addr × Obj)} {σ:L2.St} {H:Hp} {s:Shared}
theorem eqD_at (mo:ModOk X.K M) (I:Inv X pins σ H s) {A:Around} (hu:A.units + 8 < cLine) {x:V} {v:Value} {d:PyData} (rx:RelV x v) (hx:data M H 8 x=some d):
  ∀ {ys:List V} {us:List Value} {ds:List PyData},Vals ys us->allM (data M H 8) ys=some ds->∀u ∈ us,SeqAt.EqAt A s u v (eqD M H d u)
 | _,_,_,.nil,_=>fun u hu=>by cases hu
 | y::ys,u::us,ds,.cons r t,h=>fun u' hm=>by
  obtain⟨e,es,h1,h2,rfl⟩:=allM_cons h
  rcases List.mem_cons.mp hm with rfl | hm
  ·have q:eqD M H d u'=PyData.eqv e d:=by
    unfold eqD
    rw[unV_of r h1,h1]
   rw[q]
   exact eqAt_data mo I 8 A y x u' v e d hu r rx h1 hx
  ·exact eqD_at mo I hu rx hx t h2 u' hm
theorem eqD_any {d:PyData}:∀ {ys:List V} {us:List Value} {ds:List PyData},Vals ys us->allM (data M H 8) ys=some ds->us.map (eqD M H d)=ds.map (fun e=>PyData.eqv e d)
 | _,_,ds,.nil,h=>by rw[allM_nil h];rfl
 | y::ys,u::us,ds,.cons r t,h=>by
  obtain⟨e,es,h1,h2,rfl⟩:=allM_cons h
  rw[List.map_cons,List.map_cons,eqD_any t h2]
  congr 1
  unfold eqD
  rw[unV_of r h1,h1]
theorem lset_ok (mo:ModOk X.K M) (hc:X.calm=true) {x:V} {u:Value} {Q:VK} (I:Inv X pins σ H s) (r:RelV x u) (h:lsetV M x H Q):
  wpAny (model X.prog X.w) X.A (call (.type "set") [u]) (fun v s1=>wpAny (model X.prog X.w) X.A (call (.builtin "len") [v]) (EP X pins σ Q) X.xe s1) X.xe s:=by
 unfold lsetV at h
 cases x with
 | ref p=>
  cases (show u=Value.ref p from r)
  dsimp only at h
  split at h
  ·rename_i xs e
   split at h
   ·rename_i ts et
    obtain⟨its,rv,pl,hz⟩:=I.list (rd_lst mo e)
    have hs:=strs_vals rv et
    have hl:its.length=ts.length:=hs.len_eq
    refine PySem.Sg.call_set_strs (I.ok.hd hc) pl.isList hs (by rw[List.size_toArray,hl];exact h.1) fun h' tk hS kp=>?_
    have hS2:PySem.Sg.SetIs X.prog X.w h' s.heap.objs.size (PySem.Sg.metS (fun i=>ts.getD i ⟨#[]⟩) ts.length):=by rw[<-hl];exact hS
    exact PySem.Sg.len_setIs (s:={s with heap:=h',toks:=tk}) hS2 fun t tk'=>⟨.int _,H,I.kept (t':=tk') kp,⟨t,rfl⟩,h.2⟩
   ·exact h.elim
  ·exact h.elim
 | _=>exact h.elim
theorem any_map {α:Type} (f:α->Bool) (l:List α):l.any f=(l.map f).any id:=by
 induction l with
 | nil=>rfl
 | cons a r ih=>rw[List.any_cons,List.map_cons,List.any_cons,ih];rfl
theorem cmpI_ok (hu:X.A.units + 64 < cLine) (mo:ModOk X.K M) (op:CmpOp):OpR X (compareOp op) (cmpIV M op):=by
 intro pins s σ H x y v u Q I rx ry h
 unfold cmpIV at h
 cases y with
 | ref p=>
  cases (show u=Value.ref p from ry)
  dsimp only at h
  split at h
  ·rename_i xs e
   split at h
   ·rename_i d ds hd hds
    obtain⟨its,r,pl,hz⟩:=I.list (rd_lst mo e)
    have he:=eqD_at mo I (A:=X.A.in1) (show X.A.in1.units + 8 < cLine by have:X.A.in1.units=X.A.units + 1:=rfl;omega) rx hd r hds
    have ea:its.toArray.any (eqD M H d)=ds.any (fun e=>PyData.eqv e d):=by
     rw[List.any_toArray,any_map,any_map (fun e=>PyData.eqv e d),eqD_any r hds]
    split at h
    ·refine SeqAt.in_listAt (eqD M H d) pl.isList (fun w hw=>he w (by simpa using hw)) ⟨.bl _,H,I,rfl,?_⟩
     rw[ea];exact h
    ·refine SeqAt.notIn_listAt (eqD M H d) pl.isList (fun w hw=>he w (by simpa using hw)) ⟨.bl _,H,I,rfl,?_⟩
     rw[ea];exact h
    ·exact h.elim
   ·exact h.elim
  ·exact h.elim
 | _=>exact h.elim
theorem lrev_ok (mo:ModOk X.K M) (hc:X.calm=true) {x:V} {u:Value} {Q:VK} (I:Inv X pins σ H s) (r:RelV x u) (h:lrevV M x H Q):
  wpAny (model X.prog X.w) X.A (call (.type "reversed") [u]) (fun v s1=>wpAny (model X.prog X.w) X.A (call (.type "list") [v]) (EP X pins σ Q) X.xe s1) X.xe s:=by
 unfold lrevV at h
 cases x with
 | ref p=>
  cases (show u=Value.ref p from r)
  dsimp only at h
  split at h
  ·rename_i xs e
   obtain⟨its,rv,pl,hz⟩:=I.list (rd_lst mo e)
   refine Zl.list_rev (I.ok.hd hc) pl.isList (by rw[List.size_toArray,<-rv.length];exact hz) fun h' acc c tk ea k el=>?_
   have hv:Vals xs.reverse its.reverse:=rv.reverse
   have ea':acc=its.reverse.toArray:=by
    apply Array.toList_inj.mp
    rw[ea]
   subst ea'
   have I1:Inv X pins σ (upd H (s.heap.objs.size + 1) (.lst xs.reverse)) {s with heap:=h',toks:=tk}:=I.laid k (Nat.le_succ _) ⟨by rw[List.length_reverse];exact hz,its.reverse,c,hv,el⟩
   exact⟨.ref _,_,I1,rfl,h _ (I.hok.fresh (Nat.le_succ _)) (OffM.new (Inv.offM mo I1))⟩
  ·exact h.elim
 | _=>exact h.elim
theorem dcop_ok (mo:ModOk X.K M) {x:V} {u:Value} {Q:VK} (I:Inv X pins σ H s) (r:RelV x u) (h:dcopV M x H Q):wpAny (model X.prog X.w) X.A (call (.type "dict") [u]) (EP X pins σ Q) X.xe s:=by
 unfold dcopV at h
 cases x with
 | ref p=>
  cases (show u=Value.ref p from r)
  dsimp only at h
  split at h
  ·rename_i kvs e
   obtain⟨z,hd,vs,rel,dd⟩:=dk_rd I.hok (.inl e)
   refine kt_call_dict (knd:=mixKind X.prog X.w) hd dd (by rw[<-rel.length];exact z) fun h' dd' sb=>?_
   have kp:∀b o,s.heap.get? b=some o->h'.get? b=some o:=fun b o q=>sb.extBut b o (Nat.ne_of_lt (Heap.lt_size q)) (Heap.get?_push_of_some _ q)
   have I':=I.laid (a:=s.heap.objs.size) (o:=.dK kvs) (t':=s.toks) kp (Nat.le_refl _) (dk_new z (beq_eq_false_iff_ne.mpr (Ne.symm (Nat.ne_of_lt I.big))) rel dd')
   exact⟨.ref _,_,I',rfl,h _ (I.hok.fresh (Nat.le_refl _)) (OffM.new (Inv.offM mo I'))⟩
  ·exact h.elim
 | _=>exact h.elim
theorem _root_.L2.Inv.turnedL {h':Heap} {t':Nat} {fp:List Addr} (I:Inv X pins σ H s) (f:∀b ∈ fp,FpOk X pins H b) (k:∀b o,b ∉ fp->s.heap.get? b=some o->h'.get? b=some o):Inv X pins σ H {s with heap:=h',toks:=t'}:=by
 have nf:∀b u,H b=some u->b ∉ fp:=fun b u e m=>by rw[(f b m).1]at e;cases e
 refine I.step (g':=s.gens) (d':=s.drawn) (ch:=fp) (fun b hb=>⟨(f b hb).2.2.2.1,(f b hb).2.1,(f b hb).2.2.2.2.1,(f b hb).2.2.2.2.2⟩) (fun b o _ _ m e _=>k b o m e) (fun b o _ _ m e _=>⟨o.slots,k b o m e⟩) (fun _ _ _ _ n=>n)
  (fun b o m e=>⟨o,k b o m e⟩) (fun _ _ e=>e) (fun _ _ _ e=>e) (fun b ps e=>⟨#[],by rw[e];simp⟩) (fun m hm=>?_) (fun b u e=>?_) I.bare
 ·obtain⟨o,es,ep,ho,r⟩:=hm
  exact⟨o,es,ep,k _ o (fun z=>(f _ z).2.1 rfl) ho,r⟩
 ·refine(I.hok b u e).stay (fun c v q r=>k c v ?_ r) (fun _ q=>q) fun _ _ q=>q
  rcases q with z | z
  ·rw[z];exact nf b u e
  ·exact nf c _ z
theorem enum_get {xs:List V} {i:Nat} {x:V} (h:xs[i]?=some x):((List.range xs.length).zip xs)[i]?=some (i,x):=by
 have lt:=(List.getElem?_eq_some_iff.mp h).1
 rw[List.getElem?_zip_eq_some]
 exact⟨by rw[List.getElem?_range lt],h⟩
noncomputable def Ite (M:Mo) (p:Addr) (xs:List V):It:=
 ⟨fun i H=>rd M H p=some (.lst xs)/\i < ((List.range xs.length).zip xs).length,fun i H x H'=>∃t a,H t=none/\M t=none/\((List.range xs.length).zip xs)[i]?=some a/\x=.ref t/\H'=upd H t (.tup [.int a.1,a.2]),
  fun i H=>rd M H p=some (.lst xs)/\((List.range xs.length).zip xs).length<=i⟩
theorem enum_len (xs:List V):((List.range xs.length).zip xs).length=xs.length:=by rw[List.length_zip,List.length_range,Nat.min_self]
theorem turn_enum {P:Program} {w:World} {K:PySem.W.Frag} (mo:ModOk K M) {ts:List Expr} {kt} {pt:Pos} {e it p:Addr} {xs:List V} (hei:e ≠ it) (hpe:p ≠ e) (hpi:p ≠ it):
  Turn P w K (.Tuple ts kt pt) (Ite M p xs) [e,it] e (fun i h=>(∃ old,IsEnum h e it i old)/\h.IsListIter it p i) where
 mem:=by simp
 obj:=fun i h st b hb=>by
  obtain⟨⟨old,he⟩,o1,e1,c1,d1⟩:=st
  simp only[List.mem_cons,List.not_mem_nil,or_false]at hb
  rcases hb with rfl | rfl
  ·exact⟨_,he,fun v z=>by cases z⟩
  ·exact⟨_,e1,fun v z=>by rw[d1]at z;cases z⟩
 keep:=fun i h h' st k=>by
  obtain⟨⟨old,he⟩,h1⟩:=st
  exact⟨⟨old,k _ (by simp) _ he⟩,h1.at fun o e=>k _ (by simp) o e⟩
 item:=by
  intro X hP hw hK hc i pins s σ H E I hf st hg
  subst hP hw hK
  obtain⟨g1,lt⟩:=hg
  rw[enum_len]at lt
  obtain⟨⟨old,he⟩,h1⟩:=st
  obtain⟨us,r1,l1,z1⟩:=I.list (rd_lst mo g1)
  have le1:=r1.length
  obtain⟨xv,hxv⟩:∃v,us[i]?=some v:=⟨_,List.getElem?_eq_getElem (by omega)⟩
  have hx:us.toArray[i]?=some xv:=by simpa using hxv
  obtain⟨x,ex,rx⟩:=Vals.back r1 hxv
  refine wpAny_pyNext_enum_item he h1 l1.isList hx hei fun h' a1 a2 a5 a6 k=>?_
  refine⟨_,rfl,wpAny_letOwnedTupleGo_enum (s:={s with heap:=h',toks:=s.toks + 1}) a1 fun h3 hz3 sb=>?_⟩
  have elt:e < s.heap.objs.size:=Heap.lt_size he
  have ilt:it < s.heap.objs.size:=by obtain⟨o1,e1,_⟩:=id h1;exact Heap.lt_size e1
  have there:∀b ∈ [e,it],b < s.heap.objs.size:=fun b hb=>by
   simp only[List.mem_cons,List.not_mem_nil,or_false]at hb
   rcases hb with rfl | rfl
   ·exact elt
   ·exact ilt
  have up:∀b ∈ [e,it],upd H s.heap.objs.size (.tup [.int i,x]) b=none:=fun b hb=>by rw[upd_ne (Nat.ne_of_lt (there b hb))];exact(hf b hb).1
  have I0:Inv X pins σ (upd H s.heap.objs.size (.tup [.int i,x])) {s with heap:=s.heap.push {cls:=.type "tuple",data:=.seq #[.int i s.toks,xv]},toks:=s.toks + 1}:=
   I.laid (fun b o e=>Heap.get?_push_of_some _ e) (Nat.le_refl _) ⟨by rw[sizeLine_eq];simp,_,.cons ⟨_,rfl⟩ (.cons rx .nil),IsTup.new _ _⟩
  have I1:Inv X pins σ (upd H s.heap.objs.size (.tup [.int i,x])) {s with heap:=h3,toks:=s.toks + 1}:=by
   refine L2.Inv.turnedL (s:={s with heap:=s.heap.push {cls:=.type "tuple",data:=.seq #[.int i s.toks,xv]},toks:=s.toks + 1}) (h':=h3) (fp:=[e,it]) I0 (fun b hb=>⟨up b hb,(hf b hb).2⟩) fun b o hb q=>?_
   simp only[List.mem_cons,List.not_mem_nil,or_false,not_or]at hb
   rcases Heap.get?_push_cases q with ⟨rfl,rfl⟩ | q'
   ·exact(sb.2 _ hb.1).trans a5
   ·exact(sb.2 b hb.1).trans (k b _ hb.1 hb.2 q')
  refine⟨.ref s.heap.objs.size,_,I1,rfl,⟨s.heap.objs.size,(i,x),I.hok.fresh (Nat.le_refl _),OffM.new (Inv.offM mo I1),enum_get ex,rfl,rfl⟩,⟨⟨_,hz3⟩,a2.extBut sb.extBut (Ne.symm hei)⟩,up⟩
 done:=by
  intro X hP hw hK hc i pins s σ H E I hf st hg
  subst hP hw hK
  obtain⟨g1,le⟩:=hg
  rw[enum_len]at le
  obtain⟨⟨old,he⟩,h1⟩:=st
  obtain⟨us,r1,l1,z1⟩:=I.list (rd_lst mo g1)
  have le1:=r1.length
  refine wpAny_pyNext_enum_end (I.ok.hd hc) he h1 l1.isList (by simp;omega) fun h' k=>⟨rfl,I.turnedL (t':=s.toks) hf fun b o hb q=>?_⟩
  simp only[List.mem_cons,List.not_mem_nil,or_false,not_or]at hb
  exact k b o hb.2 q
 self:=fun _ _ _ _ _ st h=>by
  obtain⟨⟨old,he⟩,_⟩:=st
  exact wpAny_pyIter_enum he h
end
end Sw
namespace Sw
open PySem PySem.Spec PyProof.Rows L2
theorem closure_go (env:Env):∀ (names:List (Str × NameKind)) (acc:List (Str × Addr)),(∀ y ∈ names,y.2=.free->∃c,env.cells.lookup y.1=some c)->
  ∃cl,((forIn names acc (fun(x:Str × NameKind) (r:List (Str × Addr))=>if(x.2 == .free)=true then(do let a<-cellOf env x.1;pure (ForInStep.yield ((x.1,a)::r)))else pure (ForInStep.yield r)):Sem (List (Str × Addr)))=pure (cl++acc))/\
   (∀ y ∈ cl,env.cells.lookup y.1=some y.2)/\(∀ y ∈ names,y.2=.free->∃c,(y.1,c) ∈ cl):=by
 intro names
 induction names with
 | nil=>intro acc _;exact⟨[],rfl,(fun _ h=>by cases h),(fun _ h=>by cases h)⟩
 | cons x r ih=>
  intro acc h
  obtain⟨n,k⟩:=x
  cases hk:(k == NameKind.free)with
  | false=>
   obtain⟨cl,e,h1,h2⟩:=ih acc fun y hy=>h y (List.mem_cons_of_mem _ hy)
   refine⟨cl,?_,h1,fun y hy hf=>?_⟩
   ·simp only[List.forIn_cons,hk,Bool.false_eq_true,if_false]
    exact e
   ·rcases List.mem_cons.mp hy with rfl | hy
    ·have hf:k=.free:=hf
     rw[hf]at hk;cases hk
    ·exact h2 y hy hf
  | true=>
   have hkf:k=.free:=by simpa using hk
   obtain⟨c,hc⟩:=h (n,k) List.mem_cons_self hkf
   obtain⟨cl,e,h1,h2⟩:=ih ((n,c)::acc) fun y hy=>h y (List.mem_cons_of_mem _ hy)
   refine⟨cl++[(n,c)],?_,fun y hy=>?_,fun y hy hf=>?_⟩
   ·simp only[List.forIn_cons,hk,if_true]
    unfold cellOf
    have hc':env.cells.lookup n=some c:=hc
    rw[hc']
    simp only[List.append_assoc,List.singleton_append]
    exact e
   ·rcases List.mem_append.mp hy with hy | hy
    ·exact h1 y hy
    ·have ey:y=(n,c):=by simpa using hy
     subst ey;exact hc
   ·rcases List.mem_cons.mp hy with rfl | hy
    ·exact⟨c,List.mem_append_right _ (by simp)⟩
    ·obtain⟨d,hd⟩:=h2 y hy hf
     exact⟨d,List.mem_append_left _ hd⟩
theorem closure_ok {env:Env} {csc:Scope} (h:∀y ∈ csc.names,y.2=.free->∃c,env.cells.lookup y.1=some c):
  ∃cl,closureFor csc env=pure cl/\(∀ y c,cl.lookup y=some c->env.cells.lookup y=some c)/\(∀ y,(y,NameKind.free) ∈ csc.names->∃c,cl.lookup y=some c):=by
 obtain⟨cl,e,h1,h2⟩:=closure_go env csc.names [] h
 refine⟨cl,?_,fun y c hl=>h1 (y,c) (PySem.mem_of_lookup hl),fun y hy=>?_⟩
 ·rw[List.append_nil]at e
  unfold closureFor
  simp only[e]
  rfl
 ·obtain⟨c,hc⟩:=h2 (y,.free) hy rfl
  cases q:cl.lookup y with
  | some d=>exact⟨d,rfl⟩
  | none=>
   exfalso
   clear h1 h2 e
   induction cl with
   | nil=>cases hc
   | cons z r ih=>
    obtain⟨a,b⟩:=z
    simp only[List.lookup_cons]at q
    cases hb:(y == a)with
    | true=>rw[hb]at q;cases q
    | false=>
     rw[hb]at q
     rcases List.mem_cons.mp hc with hc | hc
     ·cases hc
      simp at hb
     ·exact ih hc q
theorem relabel_vis {csc:Scope} {env:Env} {y:Str}:(relabel csc env).names.lookup y=(csc.names.lookup y).map fun k=>if(k == .free && env.scope.kind == .function && env.kindOf y == some .cell)then .cell else k:=by
 unfold relabel
 dsimp only
 generalize csc.names=names
 induction names with
 | nil=>rfl
 | cons z r ih=>
  obtain⟨n,k⟩:=z
  simp only[List.map_cons,List.lookup_cons]
  cases hb:(y == n)with
  | true=>
   have e:y=n:=by simpa using hb
   subst e
   by_cases hc:(k == NameKind.free && env.scope.kind == .function && env.kindOf y == some .cell)=true
   ·simp only[hc,if_true,List.lookup_cons,hb,Option.map_some]
   ·simp only[hc,if_false,List.lookup_cons,hb,Option.map_some,Bool.false_eq_true]
  | false=>
   by_cases hc:(k == NameKind.free && env.scope.kind == .function && env.kindOf n == some .cell)=true
   ·simp only[hc,if_true,List.lookup_cons,hb];exact ih
   ·simp only[hc,if_false,List.lookup_cons,hb,Bool.false_eq_true];exact ih
theorem mem_of_look {α β:Type} [BEq α] [LawfulBEq α] {l:List (α × β)} {a:α} {b:β} (h:l.lookup a=some b):(a,b) ∈ l:=by
 induction l with
 | nil=>cases h
 | cons x r ih=>
  obtain⟨c,d⟩:=x
  simp only[List.lookup_cons]at h
  cases hb:(a == c)with
  | true=>
   rw[hb]at h
   have e:a=c:=by simpa using hb
   subst e
   cases h
   exact List.mem_cons_self
  | false=>rw[hb]at h;exact List.mem_cons_of_mem _ (ih h)
structure CompOf (X X':Cx) (csc:Scope) (N':List Str):Prop where
 prog:X'.prog=X.prog
 w:X'.w=X.w
 K:X'.K=X.K
 mg:X'.mg=X.mg
 base:X'.base=X.base
 A:X'.A=X.A
 calm:X'.calm=true
 stack:X'.stack=X.stack
 frame:X'.env.frame=X.env.frame
 N:X'.N=N'
 scope:X'.env.scope=relabel csc X.env
noncomputable def PTs (X:Cx) (ifs:List Expr) (tt:TT):Prop:=
 ∀ (pins:List (Addr × Obj)) (s:Shared) (σ:L2.St) (H:Hp) (Q:Bool->Hp->Prop),Inv X pins σ H s->tt σ H Q->
  wpAny (model X.prog X.w) X.A (forIn ifs true fun c r=>if r=true then do let ok<-isTrue c X.env (eval c X.env);pure (ForInStep.yield ok)else pure (ForInStep.yield r)) (TP X pins σ Q) X.xe s
theorem vars_get {σ:L2.St} {fv:List (Str × Nat)} {i:Nat} {v:V} (h:(vars σ fv)[i]?=some (some v)):∃y,fv[i]?=some y/\σ[y.2]?=some (some v):=by
 unfold vars at h
 rw[List.getElem?_map]at h
 cases e:fv[i]? with
 | none=>rw[e]at h;cases h
 | some y=>
  rw[e]at h
  refine⟨y,rfl,?_⟩
  have h:(σ[y.2]?).join=some v:=by simpa using h
  cases q:σ[y.2]? with
  | none=>rw[q]at h;cases h
  | some z=>rw[q]at h;simp at h;rw[h]
set_option maxHeartbeats 8000000 in
theorem Inv.letgo {X:Cx} {pins:List (Addr × Obj)} {σ:L2.St} {H:Hp} {s:Shared} {C:Addr} {h':Heap} (I:Inv X pins σ H s) (f:FpOk X pins H C) (sb:Heap.SameBut C s.heap h'):Inv X pins σ H {s with heap:=h'}:=by
 have same:∀b o,b ≠ C->s.heap.get? b=some o->h'.get? b=some o:=fun b o hb e=>sb.extBut b o hb e
 obtain⟨f0,f1,f2,f3,f4,f5⟩:=f
 refine I.call' (ch:=[C]) (s':={s with heap:=h'}) rfl ⟨fun b o e n hb hx=>same b o (by simpa using hx) e,fun b o e n hb hx=>⟨o.slots,same b o (by simpa using hx) e⟩,fun b o e n _=>n,fun b o e hb=>⟨o,same b o (by simpa using hb) e⟩,fun _ _ q=>q,fun _ _ _ q=>q,fun b ps q=>⟨#[],by simpa using q⟩⟩ (fun b o e=>?_) I.bare (fun b hb=>?_)
 ·refine(I.hok b o e).stay (fun c u hcu q=>same c u (fun z=>?_) q) (fun _ q=>q) fun _ _ q=>q
  subst z
  rcases hcu with z | z
  ·rw[<-z,f0]at e;cases e
  ·rw[f0]at z;cases z
 ·rw[show b=C by simpa using hb]
  exact⟨f3,f1,f4,f5⟩
end Sw
namespace Sw
open PySem PySem.Spec PyProof.Rows L2
theorem mapFields_eq {o:Obj} {vs:Array Value} (h:o.data=.fields vs) (f:Array Value->Array Value):Obj.mapFields f o={o with data:=.fields (f vs)}:=by
 obtain⟨c,d,da,sl⟩:=o
 have h:da=.fields vs:=h
 subst h
 rfl
structure Landed (fs:List Addr) (h h':Heap) (e:Addr) (oe:Obj):Prop where
 keep:∀b o,b ∉ fs->b ≠ e->h.get? b=some o->h'.get? b=some o
 slot:∀b o,b ≠ e->h.get? b=some o->∃sl,h'.get? b=some {o with slots:=sl}
 exc:∃vs T oT ts,h'.get? e=some {oe with data:=.fields vs}/\vs[1]?=some (.ref T)/\h.objs.size<=T/\h'.get? T=some oT/\oT.data=.fields ts/\3 < ts.size/\vs.size=6/\∀vs0:Array Value,oe.data=.fields vs0->vs[2]?=vs0[2]?
section
variable {M:Model} {A:Around} {E:Value->Shared->Prop} {s:Shared}
theorem entry_D {base:Heap} {env:Env} {outer:List Env} {L e:Addr} {oe:Obj} {vs:Array Value} {head:Value} {hadNext:Bool} {Q:Unit->Shared->Prop}
  (hfr:A.frames=some (env::outer)) (hl:s.heap.FunFrames base (env::outer)) (hf:env.frame=some L)
  (he:s.heap.get? e=some oe) (hd:oe.data=.fields vs) (hsz:vs.size=6)
  (h:∀h',Landed (frs (env::outer)) s.heap h' e oe->Q () {s with heap:=h'}):
  wpAny M A (do let a<-frameOf env;let pl<-entryPlaceOf L hadNext;let b<-EntryCells.newEntry head a .none (rawInt L) .none pl;setField (.ref e) 1 b) Q E s:=by
 have hene:e ∉ (env::outer).filterMap (·.frame):=fun hm=>by
  obtain⟨_,o,ho,hnf⟩:=hl.mem hm
  rw[he]at ho;injection ho with ho;subst ho;exact hnf vs hd
 refine wpAny_bind (wpAny_frameOf_fun hfr hl hf fun h₁ hs₁=>?_)
 refine wpAny_bind (wpAny_entryPlaceOf fun pl hpl=>?_)
 unfold EntryCells.newEntry newFields
 refine wpAny_bind (wpAny_newObj_type ?_ (hpl.sizeOk5 _ _ _ _ _))
 have he₁:h₁.get? e=some oe:=(hs₁.2.1 e hene).trans he
 generalize hTO:({cls:=.type "traceback",dict:=none,data:=.fields ([head,.ref L,.none,rawInt L,.none]++(if pl.isEmpty then List.replicate 6 Value.none else pl)).toArray}:Obj)=TO
 have he₂:=Heap.get?_push_of_some (h:=h₁) TO he₁
 have hTd:∃ts,TO.data=.fields ts/\3 < ts.size:=by
  subst hTO
  exact⟨_,rfl,by simp only[List.size_toArray,List.length_append,List.length_cons,List.length_nil]<;>omega⟩
 obtain⟨ts,hTd,hT3⟩:=hTd
 refine wpAny_setField he₂ hd (by omega) (h _ ?_)
 have hTe:h₁.objs.size ≠ e:=Nat.ne_of_gt (Heap.lt_size he₁)
 have hd₃:=Obj.data_mapFields hd (·.setIfInBounds 1 (Value.ref h₁.objs.size))
 have he₃:=Heap.get?_update_self (Obj.mapFields (·.setIfInBounds 1 (Value.ref h₁.objs.size))) he₂ (Obj.isFreed_of_fields hd₃)
 have hfT:TO.isFreed=false:=Obj.isFreed_of_fields hTd
 have hT₃:=(Heap.get?_update_other (h₁.push TO) (Obj.mapFields (·.setIfInBounds 1 (Value.ref h₁.objs.size))) (Ne.symm hTe)).trans (Heap.get?_push_size h₁ hfT)
 have keep:∀b o,b ≠ e->h₁.get? b=some o->((h₁.push TO).update e (Obj.mapFields (·.setIfInBounds 1 (Value.ref h₁.objs.size)))).get? b=some o:=fun b o hbe hb=>by
  rw[Heap.get?_update_other _ _ (Ne.symm hbe)]
  exact Heap.get?_push_of_some _ hb
 refine⟨fun b o hbf hbe hb=>keep b o hbe ((hs₁.2.1 b hbf).trans hb),fun b o hbe hb=>?_,?_⟩
 ·obtain⟨sl,hs⟩:=hs₁.2.2 b o hb
  exact⟨sl,keep b _ hbe hs⟩
 ·refine⟨vs.setIfInBounds 1 (Value.ref h₁.objs.size),h₁.objs.size,_,ts,?_,by simp[hsz],Nat.le_of_eq hs₁.1.symm,hT₃,hTd,hT3,by simp[hsz],fun vs0 h0=>?_⟩
  ·rw[he₃,mapFields_eq hd]
  ·rw[hd]at h0;cases h0;simp[Array.getElem?_setIfInBounds]
noncomputable def ClsOf (Cv:Value) (oe:Obj) (vs:Array Value):Prop:=(∃ c,Cv=.ref c/\oe.cls=.ref c/\vs[2]?=some .none)\/∃c:Addr,Cv=rawInt c/\oe.cls=.ref c
theorem ClsOf.any {Cv:Value} {oe:Obj} {vs:Array Value} (h:ClsOf Cv oe vs):∃c:Addr,oe.cls=.ref c/\(Cv=.ref c\/Cv=rawInt c):=by
 rcases h with ⟨c,e,h,_⟩ | ⟨c,e,h⟩
 ·exact⟨c,h,.inl e⟩
 ·exact⟨c,h,.inr e⟩
theorem ClsOf.same {Cv:Value} {oe oe':Obj} {vs vs':Array Value} (h:ClsOf Cv oe vs) (h1:oe'.cls=oe.cls) (h2:vs'[2]?=vs[2]?):ClsOf Cv oe' vs':=by
 rcases h with ⟨c,e,h,k⟩ | ⟨c,e,h⟩
 ·exact .inl ⟨c,e,h1.trans h,h2.trans k⟩
 ·exact .inr ⟨c,e,h1.trans h⟩
noncomputable def XTb (h:Heap) (e:Addr) (Cv:Value) (d:Option Addr) (P:Addr->Prop):Prop:=
 ∃oe vs,h.get? e=some oe/\ClsOf Cv oe vs/\oe.dict=d/\oe.data=.fields vs/\vs.size=6/\∃T oT ts,vs[1]?=some (.ref T)/\P T/\T ≠ e/\h.get? T=some oT/\oT.data=.fields ts/\3 < ts.size
noncomputable def XAt (L:Option Addr) (h:Heap) (e:Addr) (Cv:Value) (d:Option Addr) (P:Addr->Prop):Prop:=
 ∃oe vs,h.get? e=some oe/\ClsOf Cv oe vs/\oe.dict=d/\oe.data=.fields vs/\vs.size=6/\(vs[1]?=some .none\/∃T oT ts,vs[1]?=some (.ref T)/\P T/\T ≠ e/\h.get? T=some oT/\oT.data=.fields ts/\3 < ts.size)
theorem XTb.at {L:Option Addr} {h:Heap} {e:Addr} {Cv:Value} {d:Option Addr} {P:Addr->Prop} (x:XTb h e Cv d P):XAt L h e Cv d P:=by
 obtain⟨oe,vs,h1,h2,h3,h4,h5,r⟩:=x
 exact⟨oe,vs,h1,h2,h3,h4,h5,.inr r⟩
theorem XTb.imp {h:Heap} {e:Addr} {C:Value} {d:Option Addr} {P P':Addr->Prop} (x:XTb h e C d P) (i:∀T,P T->P' T):XTb h e C d P':=by
 obtain⟨oe,vs,h1,h2,h3,h4,h5,T,oT,ts,r1,r2,r3⟩:=x
 exact⟨oe,vs,h1,h2,h3,h4,h5,T,oT,ts,r1,i T r2,r3⟩
theorem note1 {base:Heap} {env:Env} {outer:List Env} {L e:Addr} {L':Option Addr} {Cv:Value} {d:Option Addr} {P:Addr->Prop} {Q:Unit->Shared->Prop}
  (hfr:A.frames=some (env::outer)) (hl:s.heap.FunFrames base (env::outer)) (hf:env.frame=some L) (x:XAt L' s.heap e Cv d P)
  (h:∀ (h':Heap) (ch:List Addr),(∀ b ∈ ch,b=e\/P b)->(∀ b o,b ∉ frs (env::outer)->b ∉ ch->s.heap.get? b=some o->h'.get? b=some o)->(∀ b o,b ∉ ch->s.heap.get? b=some o->∃sl,h'.get? b=some {o with slots:=sl})->
   (∀ b o,s.heap.get? b=some o->∃o',h'.get? b=some o')->XTb h' e Cv d (fun T=>s.heap.objs.size<=T\/P T)->Q () {s with heap:=h'}):
  wpAny M A (noteFrame (.ref e) env) Q E s:=by
 obtain⟨oe,vs,he,hc,hdi,hd,hsz,r⟩:=x
 have fin:∀ (h1 h':Heap) (ch:List Addr),h1.objs.size=s.heap.objs.size->(∀ b ∈ ch,b=e\/P b)->(∀ b o,b ∉ ch->s.heap.get? b=some o->h1.get? b=some o)->(∀ b ∈ ch,∃o',h1.get? b=some o')->Landed (frs (env::outer)) h1 h' e oe->e ∈ ch->Q () {s with heap:=h'}:=by
  intro h1 h' ch hs hch k1 k2 ld hec
  obtain⟨vs',T,oT,ts,e1,e2,e3,e4,e5,e6,e7,e8⟩:=ld.exc
  have kE:∀b o,b ≠ e->h1.get? b=some o->∃o',h'.get? b=some o':=fun b o hb q=>by
   obtain⟨sl,q'⟩:=ld.slot b o hb q
   exact⟨_,q'⟩
  refine h h' ch hch (fun b o hb hc q=>ld.keep b o hb (fun z=>hc (by rw[z];exact hec)) (k1 b o hc q)) (fun b o hc q=>ld.slot b o (fun z=>hc (by rw[z];exact hec)) (k1 b o hc q))
   (fun b o q=>?_) ⟨_,vs',e1,hc.same rfl (e8 _ hd),hdi,rfl,e7,T,oT,ts,e2,.inl (by rw[<-hs];exact e3),?_,e4,e5,e6⟩
  ·by_cases hb:b=e
   ·subst hb;exact⟨_,e1⟩
   ·by_cases hbc:b ∈ ch
    ·obtain⟨o',q'⟩:=k2 b hbc
     exact kE b o' hb q'
    ·exact kE b o hb (k1 b o hbc q)
  ·exact Nat.ne_of_gt (Nat.lt_of_lt_of_le (Heap.lt_size he) (by rw[<-hs];exact e3))
 unfold noteFrame
 simp only[hf]
 rcases r with r | ⟨T,oT,ts,h1,hP,hTe,hT,hdT,h3⟩
 ·refine wpAny_bind (wpAny_field he hd r ?_)
  rw[if_neg (by decide)]
  exact entry_D hfr hl hf he hd hsz fun h' ld=>fin s.heap h' [e] rfl (fun b hb=>.inl (by simpa using hb)) (fun _ _ _ q=>q) (fun b hb=>⟨oe,by rw[show b=e by simpa using hb];exact he⟩) ld (by simp)
 ·have other:∀ (v:Value) b,b ≠ T->(s.heap.update T (Obj.mapFields (·.setIfInBounds 3 v))).get? b=s.heap.get? b:=fun v b hb=>Heap.get?_update_other _ _ (Ne.symm hb)
  have noRecord:∀b o,s.heap.get? b=some o->(∀ vs,o.data ≠ .fields vs)->b ≠ T:=fun b o hb hnf q=>by
   rw[q,hT]at hb;injection hb with hb;subst hb;exact hnf ts hdT
  refine wpAny_bind (wpAny_field he hd h1 ?_)
  rw[if_pos (show(Value.ref T != Value.none)=true from by simp)]
  refine wpAny_bind (wpAny_field hT hdT (Array.getElem?_eq_getElem h3) ?_)
  by_cases hv:(ts[3] == rawInt L)=true
  ·rw[if_pos hv]
   refine wpAny_pure ?_
   exact h s.heap [] (fun b hb=>absurd hb (by simp)) (fun _ _ _ _ q=>q) (fun b o _ q=>⟨o.slots,q⟩) (fun b o q=>⟨o,q⟩) ⟨oe,vs,he,hc,hdi,hd,hsz,T,oT,ts,h1,.inr hP,hTe,hT,hdT,h3⟩
  ·rw[if_neg hv]
   refine wpAny_bind (wpAny_setField hT hdT h3 ?_)
   refine entry_D (base:=base) hfr (hl.of_keeps fun b o hb hnf=>⟨o,(other _ b (noRecord b o hb hnf)).trans hb,rfl⟩) hf ((other _ e (Ne.symm hTe)).trans he) hd hsz fun h' ld=>?_
   refine fin (s.heap.update T (Obj.mapFields (·.setIfInBounds 3 Value.none))) h' [e,T] (Heap.size_update ..) (fun b hb=>?_) (fun b o hb q=>?_) (fun b hb=>?_) ld (by simp)
   ·rcases List.mem_cons.mp hb with z | z
    ·exact .inl z
    ·exact .inr (by rw[show b=T by simpa using z];exact hP)
   ·rw[other _ b (fun z=>hb (by simp[z]))];exact q
   ·rcases List.mem_cons.mp hb with z | z
    ·exact⟨oe,by rw[z,other _ e (Ne.symm hTe)];exact he⟩
    ·exact⟨_,by rw[show b=T by simpa using z];exact Heap.get?_update_self _ hT (Obj.isFreed_of_fields (Obj.data_mapFields hdT _))⟩
theorem set1 {e:Addr} {Cv:Value} {d:Option Addr} {P:Addr->Prop} {fl:Option Addr} {Q:Unit->Shared->Prop} (x:XTb s.heap e Cv d P)
  (h:∀ (h':Heap) (T:Addr),P T->(∀ b,b ≠ T->h'.get? b=s.heap.get? b)->(∃ o',h'.get? T=some o')->XTb h' e Cv d P->Q () {s with heap:=h'}):wpAny M A (setFlight (.ref e) fl) Q E s:=by
 obtain⟨oe,vs,he,hc,hdi,hd,hsz,T,oT,ts,h1,hP,hTe,hT,hdT,h3⟩:=x
 unfold setFlight
 refine wpAny_bind (wpAny_field he hd h1 ?_)
 rw[if_pos (show(Value.ref T != Value.none)=true from by simp)]
 have other:∀b,b ≠ T->(s.heap.update T (Obj.mapFields (·.setIfInBounds 3 (fl.elim Value.none fun f=>rawInt f)))).get? b=s.heap.get? b:=fun b hb=>Heap.get?_update_other _ _ (Ne.symm hb)
 have self:=Heap.get?_update_self (Obj.mapFields (·.setIfInBounds 3 (fl.elim Value.none fun f=>rawInt f))) hT (Obj.isFreed_of_fields (Obj.data_mapFields hdT _))
 exact wpAny_setField hT hdT h3 (h _ T hP other ⟨_,self⟩ ⟨oe,vs,(other e (Ne.symm hTe)).trans he,hc,hdi,hd,hsz,T,_,_,h1,hP,hTe,self,Obj.data_mapFields hdT _,by simp[h3]⟩)
theorem XTb.head {h:Heap} {e:Addr} {Cv:Value} {d:Option Addr} {P:Addr->Prop} (x:XTb h e Cv d P):∃oe vs T,h.get? e=some oe/\oe.data=.fields vs/\vs[1]?=some (.ref T):=by
 obtain⟨oe,vs,he,hc,hdi,hd,hsz,T,oT,ts,h1,r⟩:=x
 exact⟨oe,vs,T,he,hd,h1⟩
theorem note_set {A2:Around} {base:Heap} {env:Env} {outer:List Env} {L e:Addr} {L' fl:Option Addr} {Cv:Value} {d:Option Addr} {P:Addr->Prop} {Q:Unit->Shared->Prop} {E0:Value->Shared->Prop} {k:Sem Unit}
  (hfr:A.frames=some (env::outer)) (hl:s.heap.FunFrames base (env::outer)) (hf:env.frame=some L) (x:XAt L' s.heap e Cv d P)
  (hk:∀s' P',XTb s'.heap e Cv d P'->wpAny M A2 (setFlight (.ref e) fl) Q E s'->wpAny M A2 k Q E s')
  (h:∀ (h':Heap) (ch:List Addr),(∀ b ∈ ch,b=e\/P b)->(∀ b o,b ∉ frs (env::outer)->b ∉ ch->s.heap.get? b=some o->h'.get? b=some o)->(∀ b o,b ∉ ch->s.heap.get? b=some o->∃sl,h'.get? b=some {o with slots:=sl})->
   (∀ b o,s.heap.get? b=some o->∃o',h'.get? b=some o')->XAt L' h' e Cv d (fun T=>s.heap.objs.size<=T\/P T)->Q () {s with heap:=h'}):
  wpAny M A (noteFrame (.ref e) env) (fun _ s'=>wpAny M A2 k Q E s') E0 s:=by
 refine note1 hfr hl hf x fun h1 ch hch k1 k2 k3 x1=>?_
 refine hk _ _ x1 (set1 x1 fun h2 T hT ot th x2=>?_)
 refine h h2 (ch++(if s.heap.objs.size<=T then []else [T])) (fun b hb=>?_) (fun b o hb hc q=>?_) (fun b o hc q=>?_) (fun b o q=>?_) x2.at
 ·rcases List.mem_append.mp hb with z | z
  ·exact hch b z
  ·by_cases hs:s.heap.objs.size<=T
   ·rw[if_pos hs]at z;cases z
   ·rw[if_neg hs]at z
    rw[show b=T by simpa using z]
    rcases hT with q | q
    ·exact absurd q hs
    ·exact .inr q
 ·have hbT:b ≠ T:=fun z=>by
   subst z
   rw[if_neg (Nat.not_le.mpr (Heap.lt_size q))]at hc
   exact hc (List.mem_append_right _ (by simp))
  exact(ot b hbT).trans (k1 b o hb (fun z=>hc (List.mem_append_left _ z)) q)
 ·have hbT:b ≠ T:=fun z=>by
   subst z
   rw[if_neg (Nat.not_le.mpr (Heap.lt_size q))]at hc
   exact hc (List.mem_append_right _ (by simp))
  obtain⟨sl,q2⟩:=k2 b o (fun z=>hc (List.mem_append_left _ z)) q
  exact⟨sl,(ot b hbT).trans q2⟩
 ·by_cases hbT:b=T
  ·subst hbT;exact th
  ·obtain⟨o',q2⟩:=k3 b o q
   exact⟨o',(ot b hbT).trans q2⟩
theorem note_land {base:Heap} {env:Env} {outer:List Env} {L e:Addr} {L':Option Addr} {Cv:Value} {d:Option Addr} {P:Addr->Prop} {Q:Unit->Shared->Prop}
  (hfr:A.frames=some (env::outer)) (hl:s.heap.FunFrames base (env::outer)) (hf:env.frame=some L) (x:XAt L' s.heap e Cv d P)
  (h:∀ (h':Heap) (ch:List Addr),(∀ b ∈ ch,b=e\/P b)->(∀ b o,b ∉ frs (env::outer)->b ∉ ch->s.heap.get? b=some o->h'.get? b=some o)->(∀ b o,b ∉ ch->s.heap.get? b=some o->∃sl,h'.get? b=some {o with slots:=sl})->
   (∀ b o,s.heap.get? b=some o->∃o',h'.get? b=some o')->XAt L' h' e Cv d (fun T=>s.heap.objs.size<=T\/P T)->Q () {s with heap:=h'}):
  wpAny M A (noteFrame (.ref e) env) (fun _ s'=>wpAny M A (setFlight (.ref e) none) Q E s') E s:=
 note_set hfr hl hf x (fun _ _ _ q=>q) h
end
end Sw
namespace Sw
open PySem PySem.Spec PyProof.Rows L2
noncomputable def CXW (P:Program) (w:World):CXT:=fun outer H s E e s'=>∃ea C d H',e=.ref ea/\s'.os=s.os/\AllBare s'.gens/\Un (frs outer) [] H H' s.heap s'.heap/\HOk P w H' s'.heap/\
 s.heap.objs.size<=ea/\H' ea=none/\XAt none s'.heap ea C d (fun T=>s.heap.objs.size<=T/\H' T=none)/\E C d H'
structure Flew (X:Cx) (pins:List (Addr × Obj)) (σ:L2.St) (H:Hp) (e:Addr) (C:Value) (d:Option Addr) (s:Shared):Prop where
 inv:Inv X pins σ H s
 fe:FpOk X pins H e
 at_:XAt (some X.env.locals) s.heap e C d (FpOk X pins H)
noncomputable def XOk (X:Cx) (Ξ:XS):Prop:=∀pins σ H e C d s,Flew X pins σ H e C d s->Ξ C d σ H->X.xe (.ref e) s
theorem XAt.imp {L:Option Addr} {h:Heap} {e:Addr} {C:Value} {d:Option Addr} {P P':Addr->Prop} (x:XAt L h e C d P) (i:∀T,P T->P' T):XAt L h e C d P':=by
 obtain⟨oe,vs,h1,h2,h3,h4,h5,r⟩:=x
 refine⟨oe,vs,h1,h2,h3,h4,h5,r.imp id fun⟨T,oT,ts,r1,r2,r3⟩=>⟨T,oT,ts,r1,i T r2,r3⟩⟩
theorem XAt.fly {l l':Option Addr} {h:Heap} {e:Addr} {C:Value} {d:Option Addr} {P:Addr->Prop} (x:XAt l h e C d P):XAt l' h e C d P:=x
theorem XOk.no {X:Cx}:XOk X X0:=fun _ _ _ _ _ _ _ _ h=>h.elim
section
variable {X:Cx} {pins:List (Addr × Obj)} {σ:L2.St} {H:Hp} {s s':Shared}
theorem flew_of {E:XK} {e:Value} (I:Inv X pins σ H s) (h:CXW X.prog X.w X.stack H s E e s'):∃ea C d H',e=.ref ea/\Flew X pins σ H' ea C d s'/\E C d H':=by
 obtain⟨ea,C,d,H',rfl,ho,hg,u,hok,hs,hn,x,q⟩:=h
 have I':Inv X pins σ H' s':=I.call' (ch:=[]) ho u hok hg (fun b hb=>absurd hb (by simp))
 exact⟨ea,C,d,H',rfl,⟨I',I.fpOk hs hn,(x.imp fun T ⟨h1,h2⟩=>I.fpOk h1 h2).fly⟩,q⟩
theorem run_fnX {Q:VK} {us:List Value} {vs:List V} {k:Nat} {f:Addr} {fd:FuncData} {ps:List Str} {sp:Sp} {Ξ:XS} (F:FnOk X.prog X.w X.K X.mg X.base (CXW X.prog X.w) k f fd ps sp) (hr:Room k X.A) (hb:Binds X.K fd ps []) (xo:XOk X Ξ)
  (I:Inv X pins σ H s) (r:Vals vs us) (h:sp vs H Q fun C d H'=>Ξ C d σ H'):wpAny (model X.prog X.w) X.A (call (.ref f) us) (EP X pins σ Q) X.xe s:=by
 have hl:(us++[]).length=ps.length:=by rw[List.append_nil,<-r.length];exact F.len _ _ _ _ h
 refine wpAny_call (codeAny_mono (F.run X.A X.stack s H ⟨us,[]⟩ us vs Q (fun C d H'=>Ξ C d σ H') hr I.env0 (by have:=hb s us I.kIn hl;rwa[List.append_nil]at this) r h) fun r s' hq=>?_)
 cases r with
 | error e=>
  obtain⟨ea,C,d,H',e1,fl,q⟩:=flew_of (E:=fun C d H'=>Ξ C d σ H') (e:=e) (s':=s') I hq
  subst e1
  exact xo pins σ H' ea C d s' fl q
 | ok fl=>
  cases fl with
  | ret u=>exact I.after hq
  | next=>exact False.elim hq
  | brk=>exact False.elim hq
  | cont=>exact False.elim hq
end
theorem hok_land {X:Cx} {pins:List (Addr × Obj)} {σ:L2.St} {H:Hp} {e:Addr} {C:Value} {d:Option Addr} {s:Shared} (F:Flew X pins σ H e C d s) {h':Heap} {ch:List Addr} (hch:∀b ∈ ch,b=e\/FpOk X pins H b)
  (k:∀b o,b ∉ frs X.stack->b ∉ ch->s.heap.get? b=some o->h'.get? b=some o):HOk X.prog X.w H h':=by
 intro a o ea
 have nch:∀c u,H c=some u->c ∉ ch:=fun c u q hc=>by
  rcases hch c hc with z | z
  ·rw[z,F.fe.1]at q;cases q
  ·rw[z.1]at q;cases q
 refine(F.inv.hok a o ea).stay (fun c u hc q=>k c u (fun hm=>?_) (fun hm=>?_) q) (fun _ q=>q) fun _ _ q=>q
 ·have hn:=F.inv.stkFree c hm
  rcases hc with z | z
  ·rw[z,ea]at hn;cases hn
  ·rw[z]at hn;cases hn
 ·rcases hc with z | z
  ·exact nch c o (by rw[z];exact ea) hm
  ·exact nch c _ z hm
theorem xok_def {P:Program} {w:World} {K:PySem.W.Frag} {mg:Str->Option Value} {base:Heap} {N:List Str} {qual:Str} {scope:Scope} {f:Addr} {cd:Value} {A:Around} {outer:List Env} {s:Shared} {H:Hp} {E:XK}:
  XOk (cxOf (CXW P w) P w K mg base N qual scope f cd A outer s H E) (fun C d _ H'=>E C d H'):=by
 intro pins σ H' e C d s' F q
 have I:=F.inv
 show wpAny (model P w) (A.deeper (envOfC qual scope s.heap.objs.size f cd)) (leaving (envOfC qual scope s.heap.objs.size f cd) (.ref e)) _ _ s'
 unfold leaving
 have sz:s.heap.objs.size<=s'.heap.objs.size:=I.sz
 refine wpAny_bind (note_land (base:=base) I.ok.frames I.stack rfl F.at_ fun h' ch hch k1 k2 k3 x'=>?_)
 have fpS:∀b,FpOk (cxOf (CXW P w) P w K mg base N qual scope f cd A outer s H E) pins H' b->s.heap.objs.size<=b:=fun b z=>by
  rcases z.2.2.2.1 with z | z
  ·exact absurd (show b ∈ ([]:List Addr)from z) (by simp)
  ·exact z
 have big:∀b ∈ ch,s.heap.objs.size<=b:=fun b hb=>by
  have fp:∀b,FpOk (cxOf (CXW P w) P w K mg base N qual scope f cd A outer s H E) pins H' b->s.heap.objs.size<=b:=fun b z=>by
   rcases z.2.2.2.1 with z | z
   ·exact absurd (show b ∈ ([]:List Addr)from z) (by simp)
   ·exact z
  rcases hch b hb with z | z
  ·rw[z];exact fp e F.fe
  ·exact fp b z
 have nch:∀b o,s.heap.get? b=some o->b ∉ ch:=fun b o e hb=>absurd (Heap.lt_size e) (Nat.not_lt.mpr (big b hb))
 have B:=I.base
 have hok':HOk P w H' h':=hok_land F hch k1
 have fpe:s.heap.objs.size<=e:=by
  rcases F.fe.2.2.2.1 with z | z
  ·exact absurd (show e ∈ ([]:List Addr)from z) (by simp)
  ·exact z
 have un:Un (frs outer) [] H H' s.heap h':=by
  refine⟨fun b o eb n hb _=>k1 b o (fun hm=>?_) (nch b o eb) (B.keep b o eb n hb (by exact List.not_mem_nil)),fun b o eb n hb _=>?_,fun b o eb n _=>B.free b o eb n List.not_mem_nil,fun b o eb _=>?_,B.tups,B.frzs,B.tbls⟩
  ·rcases List.mem_cons.mp hm with z | z
   ·exact absurd (Heap.lt_size eb) (by rw[z];exact Nat.lt_irrefl _)
   ·exact hb z
  ·obtain⟨sl,q1⟩:=B.slot b o eb n hb List.not_mem_nil
   obtain⟨sl2,q2⟩:=k2 b _ (nch b o eb) q1
   exact⟨sl2,q2⟩
  ·obtain⟨o',q1⟩:=B.there b o eb List.not_mem_nil
   exact k3 b o' q1
 refine⟨e,C,d,H',rfl,I.os,I.bare,un,hok',fpe,F.fe.1,x'.imp fun T hT=>?_,q⟩
 rcases hT with hT | hT
 ·exact⟨Nat.le_trans sz hT,I.hok.fresh hT⟩
 ·exact⟨fpS T hT,hT.1⟩
end Sw
namespace Sw
open PySem PySem.Spec PyProof.Rows L2 PySem.W
open Sem (wp)
section
variable {prog:Program} {w:World} {A:Around} {R:Result->Shared->Prop} {h:Heap} {g:Array GenState} {d:Drawn} {t:Nat} {os:OsState}
variable {nm q:Str} {C N:Addr} {bs bm bmB:List Value} {hdct:Bool} {sn:List Str} {sub:List Value} {ab:Bool} {col:Option Bool} {dd:Option Addr} {k0 k1 k2 k3 k5:Option Value} {B newId initId:String}
end
noncomputable def excTail:List Value:=[.type "ValueError",.type "Exception",.type "BaseException",.type "object"]
noncomputable def excOnly:List Value->Bool
 | .ref _::r=>excOnly r
 | l=>l == excTail
noncomputable def plainExc (K:Frag) (C:Addr):Bool:=(clsIn K C).any fun cd=>excOnly cd.mro
section
variable {prog:Program} {w:World} {A:Around} {s:Shared} {K:Frag} {x C:Addr}
end
end Sw
namespace Sw
open PySem PySem.Spec PyProof.Rows L2
open PySem.W (Frag clsIn findIn takerIn hasDictIn typeIn InitBack nsIn nsOkIn tailIn)
noncomputable def excInI (K:Frag) (C fI:Addr):Bool:=match K.lookup C with
 | some ⟨.type "type",_,.cls cd,sl⟩=>(match cd.mro,sl.toList with
  | .ref C'::bm,[_,_,_,_,some (.builtin n),_]=>C' == C && n == "ValueError.__new__" && !cd.hasDel && tailIn K excTail bm && nsOkIn K cd.ns && nsIn K cd.ns "__init__" == some (some (.ref fI))
  | _,_=>false)
 | _=>false
structure XCls (K:Frag) (C fI:Addr) (f:Str):Prop where
 ex:excInI K C fI=true
 fn:typeIn K (.ref fI)=some (.type "function")
 sa:findIn K (.ref C) "__setattr__" =some (some (.builtin "object.__setattr__"))
 pl:plainExc K C=true
 tk:takerIn K C f=some none
 hd:hasDictIn K C=true
noncomputable def rawX (e C t:Addr) (d:Option Addr):Heap->Prop:=fun h=>∃o,h.get? e=some o/\o.cls=.ref C/\o.dict=d/\o.data=.fields #[.ref t,.none,.none,.none,.bool false,.none]
section
variable {X:Cx} {pins:List (Addr × Obj)} {σ:L2.St} {H:Hp} {s:Shared}
noncomputable def spX (C:Addr) (f:Str):Sp:=fun vs H Q _=>∃e t y,vs=[.ref e,y]/\H e=some (.ext (rawX e C t none))/\∀d,H d=none->Q .non (upd (upd H d (.xd [(f,y)])) e (.ext (rawX e C t (some d))))
end
structure RoomU (k:Nat) (A:Around):Prop where
 dp:A.depth + 3 * k + 5 < recursionLimit
 un:A.units + 16 * k + 200 < cLine
theorem RoomU.of {k:Nat} {A:Around} (r:Room k A):RoomU k A:=⟨r.dp,r.un⟩
theorem RoomU.mono {j k:Nat} {A:Around} (r:RoomU k A) (h:j<=k):RoomU j A:=⟨by have:=r.dp;omega,by have:=r.un;omega⟩
theorem RoomU.make {k:Nat} {A:Around} (r:RoomU (k + 1) A) (C:Addr) (us:List Value) (kw:List (Str × Value)):RoomU k (A.under (.builtin "type.__call__" ⟨.ref C::us,kw⟩)):=
 ⟨by have:=r.dp;rw[make_depth];omega,by have:=r.un;rw[make_units];omega⟩
structure FnOkU (P:Program) (w:World) (K:Frag) (mg:Str->Option Value) (base:Heap) (CX:CXT) (k:Nat) (f:Addr) (fd:FuncData) (ps:List Str) (sp:Sp):Prop where
 len:∀vs H Q E,sp vs H Q E->vs.length=ps.length
 run:∀ (A:Around) (outer:List Env) (s:Shared) (H:Hp) (args:Args) (us:List Value) (vs:List V) (Q:VK) (E:XK),RoomU k A->Env0 P w K mg base A outer s H->BindsTo s fd args (ps.zip us)->Vals vs us->sp vs H Q E->
  codeAny (model P w) A (.call (.ref f) args) (CR CX outer P w H s Q E) s
theorem FnOkU.mono {P:Program} {w:World} {K:Frag} {mg:Str->Option Value} {base:Heap} {CX:CXT} {j k:Nat} {f:Addr} {fd:FuncData} {ps:List Str} {sp:Sp} (F:FnOkU P w K mg base CX j f fd ps sp) (h:j<=k):
  FnOkU P w K mg base CX k f fd ps sp:=⟨F.len,fun A outer s H args us vs Q E hr=>F.run A outer s H args us vs Q E (hr.mono h)⟩
section
variable {X:Cx} {pins:List (Addr × Obj)} {σ:L2.St} {H:Hp} {s:Shared}
structure XRise (X:Cx) (k:Nat) (C fI:Addr) (f:Str):Prop where
 cls:XCls X.K C fI f
 run:∃fd ps,FnOkU X.prog X.w X.K X.mg X.base (CXW X.prog X.w) k fI fd ps (spX C f)/\Binds X.K fd ps []
end
end Sw
namespace Sw
open PySem PySem.Spec PyProof.Rows L2
open PySem.W (Frag clsIn findIn takerIn hasDictIn typeIn InitBack nsIn nsOkIn tailIn)
section
variable {P:Program} {w:World} {A:Around} {E:Value->Shared->Prop} {s:Shared}
end
section
variable {X:Cx} {pins:List (Addr × Obj)} {σ:L2.St} {H:Hp} {s:Shared}
noncomputable def InHand (X:Cx):Prop:=∃h0 o0 vs0,X.A.handled=some (.ref h0)/\(h0,o0) ∈ X.pn/\o0.data=.fields vs0/\vs0[2]?=some .none
end
end Sw
namespace Sw
open PySem PySem.Spec PyProof.Rows L2
open PySem.W (Frag clsIn findIn takerIn hasDictIn typeIn InitBack nsIn nsOkIn tailIn ktsIn mroIn)
section
variable {X:Cx} {pins pins':List (Addr × Obj)} {σ:L2.St} {H:Hp} {s:Shared} {E:Value->Shared->Prop} {e:Addr}
theorem Flew.land {C:Value} {d:Option Addr} (F:Flew X pins σ H e C d s) {h':Heap} {ch:List Addr} (hch:∀b ∈ ch,b=e\/FpOk X pins H b)
  (k1:∀b o,b ∉ frs X.stack->b ∉ ch->s.heap.get? b=some o->h'.get? b=some o) (k2:∀b o,b ∉ ch->s.heap.get? b=some o->∃sl,h'.get? b=some {o with slots:=sl}) (k3:∀b o,s.heap.get? b=some o->∃o',h'.get? b=some o')
  (x:XAt (some X.env.locals) h' e C d (fun T=>s.heap.objs.size<=T\/FpOk X pins H T)):Flew X pins σ H e C d {s with heap:=h'}:=by
 have I:=F.inv
 have I':Inv X pins σ H {s with heap:=h'}:=by
  refine I.call (g':=s.gens) (t':=s.toks) (d':=s.drawn) (ch:=ch) ⟨fun b o q n hb hc=>k1 b o hb hc q,fun b o q n hb hc=>k2 b o hc q,fun b o q n _=>n,fun b o q _=>k3 b o q,fun _ _ q=>q,fun _ _ _ q=>q,fun b ps q=>⟨#[],by simpa using q⟩⟩ (hok_land F hch k1) I.bare fun b hb=>?_
  rcases hch b hb with z | z
  ·subst z
   obtain⟨f0,f1,f2,f3,f4,f5⟩:=F.fe
   exact⟨f3,f1,f4,f5⟩
  ·obtain⟨f0,f1,f2,f3,f4,f5⟩:=z
   exact⟨f3,f1,f4,f5⟩
 refine⟨I',F.fe,x.imp fun T hT=>?_⟩
 rcases hT with z | z
 ·exact I.fpOk z (I.hok.fresh z)
 ·exact z
theorem Flew.again {C:Value} {d:Option Addr} {M:Model} {A:Around} {E:Value->Shared->Prop} {Q:Unit->Shared->Prop} (F:Flew X pins σ H e C d s) (h:∀s',Flew X pins σ H e C d s'->Q () s'):wpAny M A (setFlight (.ref e) none) Q E s:=by
 obtain⟨oe,vs,he,hc,hdi,hd,hsz,r⟩:=F.at_
 rcases r with r | r
 ·unfold setFlight
  refine wpAny_bind (wpAny_field he hd r ?_)
  rw[if_neg (by decide)]
  exact wpAny_pure (h s F)
 ·refine set1 (P:=FpOk X pins H) ⟨oe,vs,he,hc,hdi,hd,hsz,r⟩ fun h' T hT ot th x=>h _ ?_
  refine F.land (ch:=[T]) (fun b hb=>.inr (by rw[show b=T by simpa using hb];exact hT)) (fun b o _ hb q=>(ot b (by simpa using hb)).trans q) (fun b o hb q=>⟨o.slots,(ot b (by simpa using hb)).trans q⟩) (fun b o q=>?_) (x.imp fun _ z=>.inr z).at
  by_cases hb:b=T
  ·subst hb;exact th
  ·exact⟨o,(ot b hb).trans q⟩
end
end Sw
namespace Sw
open PySem PySem.Spec PyProof.Rows L2
open PySem.W (Frag clsIn findIn takerIn hasDictIn typeIn InitBack nsIn nsOkIn tailIn ktsIn mroIn Looks looks_mroIn kts_cls)
end Sw
namespace Sw
open PySem PySem.Spec PyProof.Rows L2 PySem.W
section
variable {prog:Program} {w:World} {A:Around} {E:Value->Shared->Prop} {s:Shared} {K:Frag} {x C:Addr} {ox:Obj} {od:Option Obj} {name:Str} {expr:Bool}
structure XGet (K:Frag) (C:Addr):Prop where
 ga:findIn K (.ref C) "__getattribute__" =some (some (.builtin "BaseException.__getattribute__"))
 gh:findIn K (.ref C) "__getattr__" =some none
 sb:mroIn K C (.type "BaseException")=some true
 ob:mroIn K C (.type "object")=some true
theorem xget_slot {R:Result->Shared->Prop} {tk:Tok} (X:K.In s.heap) (I:InstAt s.heap x ox C od) (c:XGet K C)
  (h:wpAny (model prog w) A.in1 (Builtin.«object.__getattribute__» ⟨[.ref x,.str name tk],[]⟩) (fun fin s'=>match fin with | .done f=>R (.ok f) s' | .again c'=>c'.quiet=true/\codeAny (model prog w) A c' R s') (fun e s'=>R (.error e) s') s):
  codeAny (model prog w) A (.call (.builtin "BaseException.__getattribute__") ⟨[.ref x,.str name tk],[]⟩) R s:=by
 have hk:builtinKind "BaseException.__getattribute__" =some .slot:=by decide +kernel
 have hsplit:splitId "BaseException.__getattribute__" =some ("BaseException","__getattribute__"):=by decide +kernel
 have L:Looks (model prog w) s.heap (isInstance (.ref x) (.type "BaseException")) true:=I.type.andThen (looks_mroIn X c.sb)
 exact codeAny_call_builtin PySem.F.excAttr_ValueError.ga.plain PySem.F.entry_bexc_ga (@check_slot (model prog w) _ _ s "BaseException.__getattribute__" "BaseException" "__getattribute__" (.ref x) [.str name tk] [] _ hk hsplit L (PySem.F.args_bexc_ga (.ref x) (.str name tk)) h)
theorem xget_by {fill:Bool} {tk:Tok} {Q:Value->Shared->Prop} (X:K.In s.heap) (I:InstAt s.heap x ox C od) (c:XGet K C)
  (h:wpAny (model prog w) A.in1 (Builtin.«object.__getattribute__» ⟨[.ref x,.str name tk],[]⟩) (fun fin s'=>match fin with | .done (.ret v)=>wpAny (model prog w) A (handedOut v) Q E s' | _=>False) (fun _ _=>False) s):
  wpAny (model prog w) A (getAttrBy (.ref x) (.str name tk) fill expr) Q E s:=by
 have hx0:(expr && onTheHeap (Value.builtin "BaseException.__getattribute__"))=false:=by cases expr<;>rfl
 have hx2:(Value.builtin "BaseException.__getattribute__" == Value.builtin "object.__getattribute__")=false:=by decide +kernel
 have hx1:(onTheHeap (Value.ref C) && Value.builtin "BaseException.__getattribute__" == Value.builtin "object.__getattribute__")=false:=by rw[hx2];exact Bool.and_false _
 unfold getAttrBy
 refine wpAny_holding (wpAny_bind (I.type.here (wpAny_bind ((looks_findIn X c.ga).here ?_))))
 show wpAny _ _ (if(onTheHeap (Value.ref C) && Value.builtin "BaseException.__getattribute__" == Value.builtin "object.__getattribute__")=true then _ else _) _ _ _
 rw[hx1,if_neg Bool.false_ne_true]
 unfold getAttrByItsOwn hookBefore
 refine wpAny_bind ?_
 show wpAny _ _ (typeLookup (.ref C) "__getattr__") _ _ _
 refine(looks_findIn X c.gh).here (wpAny_bind (wpAny_attempt (wpAny_holding ?_)))
 unfold callGetattribute boundAndCalled
 rw[hx0,if_neg Bool.false_ne_true,PySem.F.excAttr_ValueError.ga.bind]
 refine wpAny_bind (wpAny_pure (wpAny_call (xget_slot X I c (wpAny_mono h (fun fin s' z=>?_) fun _ _ z=>z.elim))))
 rcases fin with (_ | _ | _ | _) | _<;>first | exact z | exact z.elim
theorem xget_class {Q:Option Value->Shared->Prop} (X:K.In s.heap) (I:InstAt s.heap x ox C od) (c:XGet K C) (hf:findObj K C od "__class__" =some (.bind (.builtin "getset_descriptor.__get__") (.builtin "object.__class__")))
  (h:Q (some (.ref C)) {s with toks:=s.toks + 1}):wpAny (model prog w) A (getAttr? (.ref x) "__class__") Q E s:=by
 unfold getAttr? getAttrBy?
 refine wpAny_bind (wpAny_mkText (wpAny_bind (wpAny_attempt (xget_by (s:={s with toks:=s.toks + 1}) X I c ?_))))
 obtain⟨hh',g,d,t,os⟩:=s
 have L0:=I.type (M:=model prog w)
 have L1:=looks_find (M:=model prog w) X I hf
 unfold Builtin.«object.__getattribute__»
 repeat (first | (with_reducible refine wpAny_call (class_get X I c.ob ?_)) | lk)
 exact h
theorem kitx_exc (c:XGet K C) (hdct:hasDictIn K C=true) (hf:∀od,findObj K C od "__class__" =some (.bind (.builtin "getset_descriptor.__get__") (.builtin "object.__class__"))):
  KitX K (.ref x) (.ref C) (fun h=>∃ox od,InstAt h x ox C od) where
 ty:=fun _ _ _ ⟨_,_,I⟩=>I.type
 it:=fun _ _ X _=>by
  obtain⟨cdD,hcD,_⟩:=any_some hdct
  unfold clsIn at hcD
  split at hcD
  ·rename_i c' d' cd' sl' ho
   intro A' Q' E' s' k q
   unfold isType loadHead
   exact wpAny_bind (wpAny_loadPart (k _ _ (X _ _ ho)) (wpAny_pure q))
  ·cases hcD
 ne:=fun h tp dd its n sl X htp=>by
  obtain⟨cdD,hcD,_⟩:=any_some hdct
  refine Bool.eq_false_iff.mpr fun q=>?_
  have e:C=tp:=Value.ref.inj (beq_iff_eq.mp q)
  subst e
  unfold clsIn at hcD
  split at hcD
  ·rename_i c' d' cd' sl' ho
   have z:=(X _ _ ho).symm.trans htp
   cases z
  ·cases hcD
 ca:=fun X ⟨_,_,I⟩ k=>xget_class X I c (hf _) k
noncomputable def classBy (K:Frag) (C:Addr):Bool:=(clsIn K C).isSome && findIn K (.ref C) "__class__" == some (some (.builtin "object.__class__"))
 && specialIn K (.builtin "object.__class__") "__get__" == some (some (.builtin "getset_descriptor.__get__")) && takesIn K (.builtin "object.__class__") == some true
theorem classBy_find (h:classBy K C=true) (od:Option Obj):findObj K C od "__class__" =some (.bind (.builtin "getset_descriptor.__get__") (.builtin "object.__class__")):=by
 unfold classBy at h
 simp only[Bool.and_eq_true,beq_iff_eq]at h
 obtain⟨⟨⟨h1,h2⟩,h3⟩,h4⟩:=h
 obtain⟨cd,h1⟩:=Option.isSome_iff_exists.mp h1
 unfold findObj
 rw[h1,Option.bind_some,h2,Option.bind_some]
 simp only[h3,h4,Option.bind_some]
end
structure XRead (K:Frag) (C:Addr):Prop where
 get:XGet K C
 hd:hasDictIn K C=true
 cl:classBy K C=true
section
variable {X:Cx} {pins:List (Addr × Obj)} {σ:L2.St} {H:Hp} {s:Shared} {A:Around} {E:Value->Shared->Prop} {Q:Value->Shared->Prop} {e C:Addr} {d:Option Addr}
theorem isexc_ok {b:Bool} {cl:Value} (I:Inv X pins σ H s) (he:H e=some (.exo C d)) (hdx:∀dx,d=some dx->∃fs,H dx=some (.xd fs)) (c:XRead X.K C) (k:PySem.W.kitOne X.K (.ref C) cl=some b) (h:∀tk,Q (.bool b) {s with toks:=tk}):
  wpAny (model X.prog X.w) A (call (.builtin "isinstance") [.ref e,cl]) Q E s:=by
 obtain⟨oe,vs,h1,h2,h3,h4⟩:∃oe vs,s.heap.get? e=some oe/\oe.cls=.ref C/\oe.dict=d/\oe.data=.fields vs:=I.hok e _ he
 have nc:PySem.W.notCls oe=true:=by obtain⟨a,b,c,d⟩:=oe;have h4:c=.fields vs:=h4;subst h4;rfl
 have J:∃ox od,PySem.W.InstAt s.heap e ox C od:=by
  cases d with
  | none=>exact⟨oe,none,h1,h2,nc,by rw[h3];trivial⟩
  | some dx=>
   obtain⟨fs,hd⟩:=hdx dx rfl
   obtain⟨mA,⟨od,es,ep,hod,_⟩,_⟩:∃mA,s.heap.Ns1 dx mA/\∀f,RelO (fs.lookup f) (mA f):=I.hok dx _ hd
   exact⟨oe,some od,h1,h2,nc,by rw[h3];exact hod⟩
 exact PySem.W.kia_one (kitx_exc c.get c.hd (classBy_find c.cl)) I.kIn J k (fun z=>nomatch z) h
end
end Sw
namespace Sw
open PySem PySem.Spec PyProof.Rows L2
noncomputable def TopFr (X:Cx):Prop:=∃e0 o0 L,X.stack=e0::o0/\e0.frame=some L/\X.env.frame=some L
theorem noteFrame_by {env env':Env} {x:Value} (h:env.frame=env'.frame):noteFrame x env=noteFrame x env':=by
 unfold noteFrame PySem.frameOf
 rw[h]
structure SeqG {ι:Type} (J:It) (xs:List ι) (stay:Hp->Prop) (nxt:ι->Hp->(L2.St->Hp->Prop)->Prop) (g:TG) (n:Nat):Prop where
 go:∀i H,stay H->i < xs.length->J.go i H
 yld:∀i a H y H' R,xs[i]?=some a->J.yld i H y H'->stay H->nxt a H R->∃w,w.length=n/\R w H'/\∀ (w0 f:L2.St) (Q:L2.St->Hp->Prop),w0.length=n->Q (w++f) H'->g y (w0++f) H' Q
 stop:∀i H,stay H->xs.length<=i->J.stop i H
theorem comp_coreG {X:Cx} {M:Mo} (mo:ModOk X.K M) {sc csc:Scope} {elt iter tg:Expr} {ifs:List Expr} {ns:List Str} {pos:Pos} {fv:List (Str × Nat)} {te:TE} {tt:TT} {ι:Type} {nxt:ι->Hp->(L2.St->Hp->Prop)->Prop} {g:TG} {wi:TI} (hc:X.calm=true)
  (hcf:∀y,(sc.names.lookup y=some .cell\/sc.names.lookup y=some .free)->X.env.kindOf y=some .cell\/X.env.kindOf y=some .free)
  (ok:compOkN sc csc X.N ns fv=true) (hi:PI X tg iter wi) (hg:∀X',CompOf X X' csc (ns++fv.map (·.1))->(ns++fv.map (·.1)).Nodup->(∀ x ∈ ns,X'.env.scope.names.lookup x=some .local)->PG X' tg g)
  (top:TopFr X) {Ξ:XS} (xo:XOk X Ξ) {use:Option (Value->Sem Unit)} {R:Value->Shared->Prop} {pins:List (Addr × Obj)} {s:Shared} {σ:L2.St} {H:Hp} {Q:V->Hp->Prop}
  (he:∀X',CompOf X X' csc (ns++fv.map (·.1))->XOk X' (fun C d _ H'=>Ξ C d σ H')->PE X' elt te) (ht:∀X',CompOf X X' csc (ns++fv.map (·.1))->PTs X' ifs tt)
  (hs:∀v,foldedSetIterable iter X.env v=pure v) (I:Inv X pins σ H s)
  (h:wi σ H fun J H1=>∃ (xs:List ι) (stay:Hp->Prop),SeqG J xs stay nxt g ns.length/\∃kf:Addr->Hp->Prop,(∀ D H',kf D H'->Q (.ref D) H')/\∀D,H1 D=none->M D=none->compWG nxt te tt (vars σ fv) D stay xs [] (upd H1 D (.lst [])) (kf D))
  (hfin:∀D C s' H',Inv X pins σ H' s'->FpOk X pins H' C->(∃ m,s'.heap.Ns C m)->Q (.ref D) H'->compPost (model X.prog X.w) X.A X.xe use R (.ref D) C (.ok .next) s'):
  wpAny (model X.prog X.w) X.A (comprehension (.ListComp elt [⟨tg,iter,ifs,0⟩] csc pos) csc X.env (firstIterPos [⟨tg,iter,ifs,0⟩] pos) (newList []) (firstAsync [⟨tg,iter,ifs,0⟩]) (firstIter [⟨tg,iter,ifs,0⟩] X.env) use) R X.xe s:=by
 unfold compOkN at ok
 simp only[Bool.and_eq_true,decide_eq_true_eq,List.all_eq_true,Bool.or_eq_true]at ok
 obtain⟨⟨⟨⟨⟨hkind,hxl⟩,hsk⟩,hnames⟩,hfv⟩,hND⟩:=ok
 have hfr:∀y ∈ csc.names,y.2=.free->X.env.kindOf y.1=some .cell\/X.env.kindOf y.1=some .free:=fun y hy hf=>by
  rcases(hnames y hy).2 with q | q
  ·exact absurd hf q
  ·exact hcf _ q
 obtain⟨cl,hclos,hcl1,hcl2⟩:=closure_ok (env:=X.env) (csc:=csc) fun y hy hf=>I.ok.has _ (hfr y hy hf)
 refine wpAny_comprehension_free (cl:=cl) rfl hs hclos hkind (fun y hy hl=>?_) ?_
 ·rcases(hnames y hy).1.2 with q | q
  ·exact absurd hl q
  ·exact q
 show wpAny _ _ (eval iter X.env) _ _ _
 refine thn (hi pins s σ H _ I h) fun v s1 h1=>thn h1 fun itv s2 h2=>?_
 obtain⟨it,fp,tn,J,H2,rfl,I2,T,st2,f2,xs,stay,SQ,kf,hkf,hW⟩:=h2
 refine wpAny_newObj_type (wpAny_newFunctionEnv (fun y hy=>(hnames y hy).1.1) (by intro y hy;simp at hy) (fun h₁ hns₁ hsb₁=>?_) hkind)
 dsimp only at hns₁ hsb₁ ⊢
 generalize hG:s2.heap.push {cls:=.type "list",dict:=none,data:=.seq ([]:List Value).toArray}=G at hns₁ hsb₁ ⊢
 have hC:G.objs.size=s2.heap.objs.size + 1:=by rw[<-hG,Heap.size_push]
 have old:∀b o,s2.heap.get? b=some o->h₁.get? b=some o:=fun b o e=>
  hsb₁.extBut b o (by rw[hC];exact Nat.ne_of_lt (Nat.lt_succ_of_lt (Heap.lt_size e))) (Heap.get?_push_of_some _ (hG ▸ Heap.get?_push_of_some _ e))
 have hD1:h₁.get? s2.heap.objs.size=some {cls:=.type "list",data:=.seq ([]:List Value).toArray 0}:=
  hsb₁.extBut _ _ (by rw[hC];exact Nat.ne_of_lt (Nat.lt_succ_self _)) (Heap.get?_push_of_some _ (hG ▸ Heap.get?_push_size _ rfl))
 have fD:H2 s2.heap.objs.size=none:=I2.hok.fresh (Nat.le_refl _)
 have fC:H2 G.objs.size=none:=I2.hok.fresh (by rw[hC];exact Nat.le_succ _)
 have fpLt:∀b ∈ fp,b < s2.heap.objs.size:=fun b hb=>by
  obtain⟨o,e,_⟩:=T.obj 0 _ st2 b hb
  exact Heap.lt_size e
 have clLt:∀y c,cl.lookup y=some c->c < s2.heap.objs.size:=fun y c e=>by
  obtain⟨v,q⟩:=I2.cell y c (hcl1 y c e)
  exact q.lt
 let X':Cx:={prog:=X.prog,w:=X.w,K:=X.K,mg:=X.mg,base:=X.base,A:=X.A,N:=ns++fv.map (·.1),s₀:=s2,H₀:=H2,env:=compEnvC csc cl G.objs.size X.env,outer:=X.stack,stack:=X.stack,ex:=fp,fn:=fun _=>false,calm:=true,pn:=[],xe:=notedBy (model X.prog X.w) X.A (compEnvC csc cl G.objs.size X.env) fun e s'=>compPost (model X.prog X.w) X.A X.xe use R (.ref s2.heap.objs.size) G.objs.size (.error e) s'}
 have CO:CompOf X X' csc (ns++fv.map (·.1)):=⟨rfl,rfl,rfl,rfl,rfl,rfl,rfl,rfl,rfl,rfl,rfl⟩
 have okX:X'.Ok:=by
  refine⟨I.ok.mod,hkind,I.ok.glob,I.ok.blt,(by show s2.heap.objs.size<=G.objs.size;rw[hC];exact Nat.le_succ _),fun y z c e1 e2=>I.ok.inj y z c (hcl1 _ _ e1) (hcl1 _ _ e2),fun y hy=>?_,fun y c hf=>absurd (show false=true from hf) Bool.false_ne_true,fun _=>I.ok.hd hc,I.ok.frames,.inl rfl,
   fun b hb=>⟨?_,fun y c e=>?_⟩,I2.bs,?_,fun b o e hb=>?_,fun b hb hm=>?_,I2.stack,I2.stkFree⟩
  ·have hy:(relabel csc X.env).names.lookup y=some .cell\/(relabel csc X.env).names.lookup y=some .free:=hy
   rw[relabel_vis]at hy
   cases q:csc.names.lookup y with
   | none=>rw[q]at hy;rcases hy with hy | hy<;>cases hy
   | some k=>
    have hm:=mem_of_look q
    have kf:k=.free:=by
     rw[q]at hy
     simp only[Option.map_some]at hy
     by_cases hk:k=.free
     ·exact hk
     ·have e:(k == NameKind.free)=false:=by simpa using hk
      simp only[e,Bool.false_and,Bool.false_eq_true,if_false]at hy
      rcases hy with hy | hy
      ·exact absurd (Option.some.inj hy) (hnames _ hm).1.1
      ·exact Option.some.inj hy
    subst kf
    exact hcl2 y hm
  ·exact Nat.ne_of_lt (Nat.lt_of_lt_of_le (fpLt b hb) (by show _<=G.objs.size;rw[hC];exact Nat.le_succ _))
  ·exact(f2 b hb).2.2.2.2.1 y c (hcl1 y c e)
  ·exact Nat.le_trans I.ok.bsz I2.sz
  ·rcases(f2 b hb).2.2.2.1 with z | z
   ·exact I.ok.noex b o e z
   ·exact absurd (Nat.lt_of_lt_of_le (Heap.lt_size e) I.ok.bsz) (Nat.not_lt.mpr z)
  ·rcases List.mem_cons.mp (I2.stkSub b hm)with z | z
   ·exact(f2 b hb).2.1 z
   ·exact(f2 b hb).2.2.1 z
 have loc0:∀ (s':Shared) (H':Hp),(∀ y c,cl.lookup y=some c->s'.heap.get? c=s2.heap.get? c)->∀ (m:Str->Option Value) (i:Nat) (y:Str) (v:V),(ns++fv.map (·.1))[i]?=some y->(List.replicate ns.length none++vars σ fv)[i]?=some (some v)->∃u,RelV v u/\Look X'.env s'.heap m y u:=by
  intro s' H' hkc m i y v e1 e2
  by_cases hin:i < ns.length
  ·rw[List.getElem?_append_left (by rw[List.length_replicate];exact hin),List.getElem?_replicate,if_pos hin]at e2
   cases e2
  ·have hge:ns.length<=i:=Nat.le_of_not_lt hin
   rw[List.getElem?_append_right hge]at e1
   rw[List.getElem?_append_right (by rw[List.length_replicate];exact hge),List.length_replicate]at e2
   obtain⟨z,ez,sz⟩:=vars_get e2
   rw[List.getElem?_map,ez]at e1
   have ey:z.1=y:=by simpa using e1
   subst ey
   obtain⟨hN,hlf⟩:=hfv z (List.mem_of_getElem? ez)
   obtain⟨m2,hn2,hl2⟩:=I2.loc
   have hkz:X.env.kindOf z.1=some .cell\/X.env.kindOf z.1=some .free:=hfr _ (mem_of_look hlf) rfl
   have hvz:Vis X.env.scope z.1:=by
    rcases hkz with q | q
    ·exact .inr (.inl q)
    ·exact .inr (.inr q)
   obtain⟨u,ru,lk⟩:=hl2 z.2 z.1 v hN sz hvz
   refine⟨u,ru,.inr ⟨?_,?_⟩⟩
   ·show(relabel csc X.env).names.lookup z.1=some .cell\/(relabel csc X.env).names.lookup z.1=some .free
    rw[relabel_vis,hlf]
    simp only[Option.map_some]
    by_cases q:((NameKind.free == NameKind.free) && X.env.scope.kind == .function && X.env.kindOf z.1 == some .cell)=true
    ·rw[if_pos q];exact .inl rfl
    ·rw[if_neg q];exact .inr rfl
   ·obtain⟨c,hcz⟩:=hcl2 z.1 (mem_of_look hlf)
    rcases lk with ⟨q,_⟩ | ⟨_,c',hc',cell⟩
    ·rcases hkz with z1 | z1<;>(rw[z1]at q;cases q)
    ·have:c'=c:=by
      have:=hcl1 _ _ hcz
      rw[hc']at this
      exact Option.some.inj this
     subst this
     refine⟨c',hcz,?_⟩
     obtain⟨o,ho,hd⟩:=cell
     exact⟨o,by rw[hkc _ _ hcz];exact ho,hd⟩
 have hxr:∀x ∈ ns,(relabel csc X.env).names.lookup x=some .local:=fun x hx=>lookup_relabel_local (hxl x hx)
 have I0:∀tk0,Inv X' [] (List.replicate ns.length none++vars σ fv) (upd H2 s2.heap.objs.size (.lst [])) {s2 with heap:=h₁,toks:=tk0}:=fun tk0=>by
  refine⟨okX,rfl,I2.bare,Un.laid old (Nat.le_refl _) fD,⟨_,hns₁,fun i y v e1 e2 _=>loc0 {s2 with heap:=h₁,toks:=tk0} H2 (fun y c e=>?_) _ i y v e1 e2⟩,fun y c e=>?_,?_,fun y c e=>?_,fun p hp=>absurd (show p ∈ ([]:List (Addr × Obj))from hp) (by simp),I2.hok.laid old (Nat.le_refl _) ⟨Nat.zero_le _,[],0,.nil,hD1⟩,?_⟩
  ·obtain⟨v,o,ho,hd⟩:=I2.cell y c (hcl1 y c e)
   exact(old c o ho).trans ho.symm
  ·obtain⟨v,o,ho,hd⟩:=I2.cell y c (hcl1 y c e)
   exact⟨v,o,old c o ho,hd⟩
  ·show upd H2 s2.heap.objs.size (.lst []) G.objs.size=none
   rw[upd_ne (by rw[hC];exact Nat.ne_of_gt (Nat.lt_succ_self _))]
   exact fC
  ·rw[upd_ne (Nat.ne_of_lt (clLt y c e))]
   exact I2.freeC y c (hcl1 y c e)
  ·show(List.replicate ns.length none++vars σ fv).length=(ns++fv.map (·.1)).length
   simp[vars]
 have fpN:∀b ∈ fp,∀o,(upd H2 s2.heap.objs.size o) b=none:=fun b hb o=>by
  rw[upd_ne (Nat.ne_of_lt (fpLt b hb))]
  exact(f2 b hb).1
 have fpX:∀ {H':Hp},(∀ b ∈ fp,H' b=none)->∀b ∈ fp,FpOk X' [] H' b:=fun hn b hb=>by
  refine⟨hn b hb,(okX.exf b hb).1,okX.exfs b hb,.inl hb,(okX.exf b hb).2,fun p hp=>absurd (show p ∈ ([]:List (Addr × Obj))from hp) (by simp)⟩
 have toOut:∀ (s':Shared) (σ':L2.St) (H':Hp) (pins':List (Addr × Obj)),Inv X' pins' σ' H' s'->Inv X pins σ H' s':=fun s' σ' H' pins' I'=>by
  have B:=I'.base
  refine I2.call' (ch:=fp) (s':=s') I'.os ⟨fun b o e n hb hx=>B.keep b o e n hb hx,fun b o e n hb hx=>B.slot b o e n hb hx,B.free,fun b o e hx=>B.there b o e hx,B.tups,B.frzs,B.tbls⟩ I'.hok I'.bare (fun b hb=>?_)
  obtain⟨f0,f1,f2',f3,f4,f5⟩:=f2 b hb
  exact⟨f3,f1,f4,f5⟩
 have fpOut:∀ (H':Hp) (pins':List (Addr × Obj)) b,FpOk X' pins' H' b->FpOk X pins H' b/\b ≠ G.objs.size:=fun H' pins' b z=>by
  refine⟨?_,z.2.1⟩
  rcases z.2.2.2.1 with q | q
  ·obtain⟨f0,f1⟩:=f2 b q
   exact⟨z.1,f1⟩
  ·exact I2.fpOk q z.1
 have xoC:XOk X' (fun C d _ H'=>Ξ C d σ H'):=by
  intro pins' σ' H' e Cv d s' F q
  obtain⟨e0,o0,L,t1,t2,t3⟩:=top
  show wpAny (model X.prog X.w) X.A (noteFrame (.ref e) (compEnvC csc cl G.objs.size X.env)) _ _ s'
  rw[noteFrame_by (show(compEnvC csc cl G.objs.size X.env).frame=e0.frame from t3.trans t2.symm)]
  refine note1 (base:=X.base) (outer:=o0) (I.ok.frames.trans (congrArg some t1)) (by rw[<-t1];exact F.inv.stack) t2 F.at_ fun h1 ch hch k1 k2 k3 x1=>?_
  have F1:Flew X' pins' σ' H' e Cv d {s' with heap:=h1}:=F.land hch (by show ∀b o,b ∉ frs X.stack->_;rw[t1];exact k1) k2 k3 x1.at
  obtain⟨m,hm,_⟩:=id F1.inv.loc
  have goal:∃m,h1.Ns G.objs.size m/\∀h',Heap.SameBut G.objs.size h1 h'->∀cenv:Env,cenv.locals=G.objs.size->wpAny (model X.prog X.w) X.A (passOn "comprehension.variables-let-go" (.ref e) cenv:Sem Value) (fun _ _=>False) X.xe {s' with heap:=h'}:=by
   refine⟨m,hm,fun h' sb cenv hce=>?_⟩
   have x1':XTb h1 e Cv d (fun T=>FpOk X pins H' T/\T ≠ G.objs.size):=x1.imp fun T hT=>by
    rcases hT with z | z
    ·exact fpOut H' pins' T (F.inv.fpOk z (F.inv.hok.fresh z))
    ·exact fpOut H' pins' T z
   have fe:=fpOut H' pins' e F1.fe
   have sm:∀b o,b ≠ G.objs.size->h1.get? b=some o->h'.get? b=some o:=fun b o hb e=>sb.extBut b o hb e
   have x2:XTb h' e Cv d (FpOk X pins H'):=by
    obtain⟨oe,vs,g1,g2,g3,g4,g5,T,oT,ts,g6,g7,g8,g9,ga,gb⟩:=x1'
    exact⟨oe,vs,sm e oe fe.2 g1,g2,g3,g4,g5,T,oT,ts,g6,g7.1,g8,sm T oT g7.2 g9,ga,gb⟩
   have F2:Flew X pins σ H' e Cv d {s' with heap:=h'}:=
    ⟨Inv.letgo (s:={s' with heap:=h1}) (toOut _ σ' H' pins' F1.inv) (I2.fpOk (show s2.heap.objs.size<=G.objs.size by rw[hC];exact Nat.le_succ _) F1.inv.free) sb,fe.1,x2.at⟩
   unfold PySem.passOn
   obtain⟨oe,vs,T,g1,g2,g3⟩:=x2.head
   refine wpAny_bind (wpAny_field g1 g2 g3 ?_)
   rw[if_neg (show ¬ ((Value.ref T == Value.none)=true)from by simp)]
   have fin2:wpAny (model X.prog X.w) X.A (setFlight (.ref e) cenv.frame) (fun _ s3=>X.xe (.ref e) s3) X.xe {s' with heap:=h'}:=by
    refine set1 (s:={s' with heap:=h'}) (P:=FpOk X pins H') x2 fun h3 T hT ot th x3=>xo pins σ H' e Cv d _ ?_ q
    refine F2.land (ch:=[T]) (fun b hb=>.inr (by rw[show b=T by simpa using hb];exact hT)) (fun b o _ hb q=>(ot b (by simpa using hb)).trans q) (fun b o hb q=>⟨o.slots,(ot b (by simpa using hb)).trans q⟩) (fun b o q=>?_) (x3.imp fun _ z=>.inr z).at
    by_cases hb:b=T
    ·subst hb;exact th
    ·exact⟨o,(ot b hb).trans q⟩
   first
    | exact wpAny_bind (wpAny_mono fin2 (fun _ _ z=>wpAny_throw z) fun _ _ z=>z)
    | exact wpAny_bind (wpAny_pure (wpAny_bind (wpAny_mono fin2 (fun _ _ z=>wpAny_throw z) fun _ _ z=>z)))
  cases use<;>exact goal
 have fin:∀ (s':Shared) (σ':L2.St) (H':Hp),Inv X' [] σ' H' s'->Q (.ref s2.heap.objs.size) H'->compPost (model X.prog X.w) X.A X.xe use R (.ref s2.heap.objs.size) G.objs.size (.ok .next) s':=by
  intro s' σ' H' I' q
  obtain⟨m,hm,_⟩:=id I'.loc
  have I3:Inv X pins σ H' s':=toOut s' σ' H' [] I'
  exact hfin _ _ s' H' I3 (I2.fpOk (by rw[hC];exact Nat.le_succ _) I'.free) ⟨m,hm⟩ q
 have loop:∀s₃:Shared,(∃ tk0,s₃={s2 with heap:=h₁,toks:=tk0})->
   codeAny (model X.prog X.w) X.A (.compLoop (.ListComp elt [⟨tg,iter,ifs,0⟩] csc pos) 0 (.ref it) (.ref s2.heap.objs.size) (compEnvC csc cl G.objs.size X.env))
    (compPost (model X.prog X.w) X.A X.xe use R (.ref s2.heap.objs.size) G.objs.size) s₃:=by
  rintro s₃ ⟨tk0,rfl⟩
  refine codeAny_loop rfl (fun n s'=>∃i acc H' v0,v0.length=ns.length/\Inv X' [] (v0++vars σ fv) H' s'/\tn i s'.heap/\(∀ b ∈ fp,H' b=none)/\i + n=xs.length/\compWG nxt te tt (vars σ fv) s2.heap.objs.size stay (xs.drop i) acc H' (kf s2.heap.objs.size))
   (fun n s' hI=>?_) xs.length ⟨0,[],_,_,List.length_replicate,I0 tk0,T.keep 0 _ _ st2 (fun b hb o e=>old b o e),fun b hb=>fpN b hb _,by omega,by simpa using hW _ fD (OffM.new (Inv.offM (X:=X') mo (I0 tk0)))⟩
  obtain⟨i,acc,H',v0,hv0,I',st',fr',hin,cw⟩:=hI
  show wpAny _ _ ((compTurn (.ListComp elt [⟨tg,iter,ifs,0⟩] csc pos) 0 (.ref it) (.ref s2.heap.objs.size) (compEnvC csc cl G.objs.size X.env)).onRaise (fun x=>do noteFrame x (compEnvC csc cl G.objs.size X.env);theTreesLotGoes x)) _ _ _
  refine wpAny_noted ?_
  rw[compTurn_list]
  refine wpAny_bind (wpAny_standAt (wpAny_bind ?_))
  cases ed:xs.drop i with
  | nil=>
   rw[ed]at cw
   obtain⟨hst,hD,hq⟩:=cw
   have hle:xs.length<=i:=by simpa using ed
   refine wpAny_mono (T.done X' rfl rfl rfl rfl i [] s' _ H' (fun _ _=>False) I' (fpX fr') st' (SQ.stop i H' hst hle)) (fun r s4 ⟨hr,I4⟩=>?_) fun _ _ z=>z.elim
   subst hr
   exact wpAny_pure (fin s4 _ H' I4 (hkf _ _ hq))
  | cons v r=>
   rw[ed]at cw
   obtain⟨hst,cw⟩:=cw
   have hlt:i < xs.length:=by
    have:=congrArg List.length ed
    simp at this
    omega
   have hvi:xs[i]?=some v:=by
    have:=congrArg (fun l=>l[0]?) ed
    simpa using this
   have hdr:xs.drop (i + 1)=r:=by
    have:=congrArg List.tail ed
    simpa[List.tail_drop]using this
   refine wpAny_mono (T.item X' rfl rfl rfl rfl i [] s' _ H' (fun _ _=>False) I' (fpX fr') st' (SQ.go i H' hst hlt)) (fun r' s4 ⟨u,hr,h4⟩=>?_) fun _ _ z=>z.elim
   subst hr
   refine wpAny_bind (wpAny_mono h4 (fun _ s5 ⟨y,H5,I5,r5,y5,st5,fr5⟩=>?_) fun _ _ z=>z.elim)
   obtain⟨w,hwl,cw,hgw⟩:=SQ.yld i v H' y H5 _ hvi y5 hst cw
   have I5':=I5.pinned (fpX fr5) (T.obj _ _ st5)
   refine wpAny_bind (wpAny_mono (hg X' CO hND (fun x hx=>hxr x hx) _ s5 _ H5 y u (fun σ6 H6=>σ6=w++vars σ fv/\H6=H5) I5' r5 (hgw v0 _ _ hv0 ⟨rfl,rfl⟩)) (fun _ s6 ⟨σ6,H6,I6,e6,e6'⟩=>?_) fun _ _ z=>z)
   subst e6 e6'
   refine wpAny_bind (wpAny_mono (ht X' CO _ s6 _ H6 _ I6 cw) (fun okb s7 ⟨H7,I7,q7⟩=>?_) fun _ _ z=>z)
   have again:∀ {s8:Shared} {H8:Hp} {acc':List V},Inv X' ([]++pinsAt fp s5.heap) (w++vars σ fv) H8 s8->compWG nxt te tt (vars σ fv) s2.heap.objs.size stay r acc' H8 (kf s2.heap.objs.size)->
     ∃m,m < n/\∃i acc H' v0,v0.length=ns.length/\Inv X' [] (v0++vars σ fv) H' s8/\tn i s8.heap/\(∀ b ∈ fp,H' b=none)/\i + m=xs.length/\compWG nxt te tt (vars σ fv) s2.heap.objs.size stay (xs.drop i) acc H' (kf s2.heap.objs.size):=by
    intro s8 H8 acc' I8 c8
    refine⟨n - 1,by omega,i + 1,acc',H8,w,hwl,I8.unpinned,T.keep _ _ _ st5 fun b hb o e=>(I8.pin (b,o) (List.mem_append_right _ (List.mem_append_right _ (mem_pinsAt hb e)))).1,fun b hb=>?_,by omega,by rw[hdr];exact c8⟩
    obtain⟨o,e,d⟩:=T.obj _ _ st5 b hb
    exact(I8.pin (b,o) (List.mem_append_right _ (List.mem_append_right _ (mem_pinsAt hb e)))).2.1
   cases okb with
   | false=>
    simp only[Bool.false_eq_true,if_false]at q7 ⊢
    exact wpAny_pure ⟨rfl,again I7 q7⟩
   | true=>
    simp only[if_true]at q7 ⊢
    refine wpAny_bind (wpAny_bind (wpAny_mono (he X' CO xoC _ s7 _ H7 _ I7 q7) (fun yv s8 ⟨yy,H8,I8,r8,hD8,hz8,q8⟩=>?_) fun _ _ z=>z))
    refine wpAny_bind (wpAny_mono (mt_append (X:=X') _ s8 _ H8 (.ref s2.heap.objs.size) [yy] (.ref s2.heap.objs.size) [yv] (fun _ H9=>H9=upd H8 s2.heap.objs.size (.lst (acc++[yy]))) I8 rfl (.cons r8 .nil) ⟨_,acc,yy,rfl,rfl,hD8,hz8,rfl⟩) (fun _ s9 ⟨_,H9,I9,_,e9⟩=>?_) fun _ _ z=>z)
    subst e9
    exact wpAny_pure (wpAny_pure ⟨rfl,again I9 q8⟩)
 exact codeAny_compStart_list (loop _ ⟨_,rfl⟩) (T.self _ 0 _ _ _ (T.keep 0 _ _ st2 (fun b hb o e=>old b o e)) (loop _ ⟨_,rfl⟩))
noncomputable def nxtB (bd:V->Hp->Option L2.St) (v:V) (H:Hp) (R:L2.St->Hp->Prop):Prop:=match bd v H with
 | some w=>R w H
 | none=>False
theorem compWB_eq {bd:V->Hp->Option L2.St} {te:TE} {tt:TT} {fvs:L2.St} {D:Addr} {stay:Hp->Prop} {k:Hp->Prop}:∀ (xs acc:List V) (H:Hp),compWB bd te tt fvs D stay xs acc H k=compWG (nxtB bd) te tt fvs D stay xs acc H k
 | [],_,_=>rfl
 | v::r,acc,H=>by
  unfold compWB compWG
  simp only[compWB_eq r]
  rfl
theorem comp_core {X:Cx} {M:Mo} (mo:ModOk X.K M) {sc csc:Scope} {elt iter tg:Expr} {ifs:List Expr} {ns:List Str} {pos:Pos} {fv:List (Str × Nat)} {te:TE} {tt:TT} {bd:V->Hp->Option L2.St} {g:TG} {wi:L2.St->Hp->(List V->(Hp->Prop)->Hp->Prop)->Prop} (hc:X.calm=true)
  (hcf:∀y,(sc.names.lookup y=some .cell\/sc.names.lookup y=some .free)->X.env.kindOf y=some .cell\/X.env.kindOf y=some .free)
  (ok:compOkN sc csc X.N ns fv=true) (hi:PI X tg iter (iSeq wi)) (hg:∀X',CompOf X X' csc (ns++fv.map (·.1))->(ns++fv.map (·.1)).Nodup->(∀ x ∈ ns,X'.env.scope.names.lookup x=some .local)->PG X' tg g) (hgb:∀v w w0 f H Q,bd v H=some w->w0.length=ns.length->Q (w++f) H->g v (w0++f) H Q) (hgl:∀v w H,bd v H=some w->w.length=ns.length)
  (top:TopFr X) {Ξ:XS} (xo:XOk X Ξ) {use:Option (Value->Sem Unit)} {R:Value->Shared->Prop} {pins:List (Addr × Obj)} {s:Shared} {σ:L2.St} {H:Hp} {Q:V->Hp->Prop}
  (he:∀X',CompOf X X' csc (ns++fv.map (·.1))->XOk X' (fun C d _ H'=>Ξ C d σ H')->PE X' elt te) (ht:∀X',CompOf X X' csc (ns++fv.map (·.1))->PTs X' ifs tt)
  (hs:∀v,foldedSetIterable iter X.env v=pure v) (I:Inv X pins σ H s)
  {kk:List V->(Hp->Prop)->Hp->Prop} (h:wi σ H kk) (hkk:∀xs stay H1,kk xs stay H1->∃kf:Addr->Hp->Prop,(∀ D H',kf D H'->Q (.ref D) H')/\∀D,H1 D=none->M D=none->compWB bd te tt (vars σ fv) D stay xs [] (upd H1 D (.lst [])) (kf D))
  (hfin:∀D C s' H',Inv X pins σ H' s'->FpOk X pins H' C->(∃ m,s'.heap.Ns C m)->Q (.ref D) H'->compPost (model X.prog X.w) X.A X.xe use R (.ref D) C (.ok .next) s'):
  wpAny (model X.prog X.w) X.A (comprehension (.ListComp elt [⟨tg,iter,ifs,0⟩] csc pos) csc X.env (firstIterPos [⟨tg,iter,ifs,0⟩] pos) (newList []) (firstAsync [⟨tg,iter,ifs,0⟩]) (firstIter [⟨tg,iter,ifs,0⟩] X.env) use) R X.xe s:=by
 refine comp_coreG (nxt:=nxtB bd) mo hc hcf ok hi hg top xo he ht hs I ⟨kk,h,fun J xs stay H1 sq q=>⟨xs,stay,⟨sq.go,fun i a H y H' R e y1 st nx=>?_,sq.stop⟩,?_⟩⟩ hfin
 ·obtain⟨hlt,_⟩:=List.getElem?_eq_some_iff.mp e
  obtain⟨eH,ev⟩:=sq.yld i H y H' hlt y1 st
  subst eH
  rw[e]at ev
  obtain rfl:a=y:=Option.some.inj ev
  unfold nxtB at nx
  split at nx
  ·rename_i w ew
   exact⟨w,hgl _ _ _ ew,nx,fun w0 f Q hw q=>hgb _ _ _ _ _ _ ew hw q⟩
  ·exact nx.elim
 ·obtain⟨kf,k1,k2⟩:=hkk xs stay H1 q
  exact⟨kf,k1,fun D h1 h2=>by rw[<-compWB_eq];exact k2 D h1 h2⟩
noncomputable def gNames:List Nat->TGs
 | []=>gNil
 | i::is=>gCons (gName i) (gNames is)
theorem gNames_all:∀ {is:List Nat} {xs:List V} {σ:L2.St} {H:Hp} {Q:L2.St->Hp->Prop},xs.length=is.length->Q (setAll σ is xs) H->gNames is xs σ H Q
 | [],[],σ,H,Q,_,q=>⟨rfl,q⟩
 | i::is,x::xs,σ,H,Q,hl,q=>⟨x,xs,rfl,gNames_all (by simpa using hl) q⟩
 | [],_::_,_,_,_,hl,_=>by simp at hl
 | _::_,[],_,_,_,hl,_=>by simp at hl
theorem bN_map:∀ (is:List Nat) {ts:List Expr} {N:List Str} {env:Env},assignEach (bN N is ts) env=(bN N is ts).map fun t=>(false,assign t env)
 | [],_,_,_=>rfl
 | _::is,ts,N,env=>congrArg (_::·) (bN_map is (ts:=ts.tail) (N:=N) (env:=env))
theorem bN_length:∀ (is:List Nat) {ts:List Expr} {N:List Str},(bN N is ts).length=is.length
 | [],_,_=>rfl
 | _::is,_,_=>congrArg (·+ 1) (bN_length is)
theorem bN_len {is:List Nat} {ts:List Expr} {N:List Str} {env:Env}:(assignEach (bN N is ts) env).length=is.length:=by
 rw[bN_map,List.length_map,bN_length]
theorem bN_star {is:List Nat} {ts:List Expr} {N:List Str} {env:Env}:(assignEach (bN N is ts) env).findIdx? (·.1)=none:=by
 rw[bN_map,List.findIdx?_eq_none_iff]
 intro x hx
 obtain⟨t,_,rfl⟩:=List.mem_map.mp hx
 rfl
theorem nx_at {N:List Str} {i:Nat} (h:i < N.length):N[i]?=some (nx N i):=by
 unfold nx
 rw[List.getD_eq_getElem?_getD,List.getElem?_eq_getElem h]
 rfl
section
variable {X':Cx}
theorem pgs_local (nd:X'.N.Nodup):∀ {is:List Nat} {ts:List Expr},(∀ i ∈ is,i < X'.N.length/\X'.env.scope.names.lookup (nx X'.N i)=some .local)->PGs X' (bN X'.N is ts) (gNames is)
 | [],_,_=>pgs_nil
 | i::is,_,h=>pgs_cons (pg_name nd (nx_at (h i List.mem_cons_self).1) (.inl (h i List.mem_cons_self).2) (.inr (h i List.mem_cons_self).2)) (pgs_local nd fun j hj=>h j (List.mem_cons_of_mem _ hj)) rfl
end
theorem compW_eq {te:TE} {tt:TT} {fvs:L2.St} {D:Addr} {stay:Hp->Prop} {k:Hp->Prop}:∀ (xs acc:List V) (H:Hp),compW te tt fvs D stay xs acc H k=compWB (fun v _=>some [some v]) te tt fvs D stay xs acc H k
 | [],_,_=>rfl
 | v::r,acc,H=>by
  show(stay H/\tt (some v::fvs) H fun ok H1=>if ok=true then te (some v::fvs) H1 fun y H2=>H2 D=some (.lst acc)/\acc.length < sizeLine/\compW te tt fvs D stay r (acc++[y]) (upd H2 D (.lst (acc++[y]))) k else compW te tt fvs D stay r acc H1 k)=(stay H/\tt (some v::fvs) H fun ok H1=>if ok=true then te (some v::fvs) H1 fun y H2=>H2 D=some (.lst acc)/\acc.length < sizeLine/\compWB (fun v _=>some [some v]) te tt fvs D stay r (acc++[y]) (upd H2 D (.lst (acc++[y]))) k else compWB (fun v _=>some [some v]) te tt fvs D stay r acc H1 k)
  simp only[compW_eq r]
theorem name_in {v:V} {w w0 f:L2.St} {H:Hp} {Q:L2.St->Hp->Prop} (e:(some [some v]:Option L2.St)=some w) (hw:w0.length=([0]:List Nat).length) (q:Q (w++f) H):gName 0 v (w0++f) H Q:=by
 cases e
 match w0,hw with
 | [a],_=>exact q
section
variable {X:Cx} {M:Mo} {sc csc:Scope} {elt iter:Expr} {ifs:List Expr} {x:Str} {px pos:Pos} {fv:List (Str × Nat)} {te:L2.St->TE} {tt:TT} {wi:L2.St->Hp->(List V->(Hp->Prop)->Hp->Prop)->Prop} {Ξ:XS}
theorem pe_comp (mo:ModOk X.K M) (hc:X.calm=true) (top:TopFr X) (xo:XOk X Ξ)
  (hcf:∀y,(sc.names.lookup y=some .cell\/sc.names.lookup y=some .free)->X.env.kindOf y=some .cell\/X.env.kindOf y=some .free)
  (ok:compOkN sc csc X.N [x] fv=true) (hi:PI X (.Name x px) iter (iSeq wi))
  (he:∀σ X',CompOf X X' csc (x::fv.map (·.1))->XOk X' (fun C d _ H'=>Ξ C d σ H')->PE X' elt (te σ)) (ht:∀X',CompOf X X' csc (x::fv.map (·.1))->PTs X' ifs tt)
  (hs:∀v,foldedSetIterable iter X.env v=pure v):
  PE X (.ListComp elt [⟨.Name x px,iter,ifs,0⟩] csc pos) (fun σ H Q=>wi σ H fun xs stay H1=>∀D,H1 D=none->M D=none->compW (te σ) tt (vars σ fv) D stay xs [] (upd H1 D (.lst [])) fun H'=>Q (.ref D) H'):=by
 intro pins s σ H Q I h
 rw[eval_ListComp]
 refine comp_core (bd:=fun v _=>some [some v]) (g:=gName 0) mo hc hcf ok hi (fun X' c nd hl=>pg_name (by rw[c.N];exact nd) (by rw[c.N];rfl) (.inl (hl x (by simp))) (.inr (hl x (by simp)))) (fun v w w0 f H Q e hw q=>name_in e hw q) (fun v w H e=>by cases e;rfl) top xo (he σ) ht hs (use:=none) (R:=EP X pins σ Q) I h (fun xs stay H1 q=>⟨fun D H'=>Q (.ref D) H',fun _ _ z=>z,fun D h1 h2=>(compW_eq _ _ _).mp (q D h1 h2)⟩) fun D C s' H' I' f ⟨m,hm⟩ q=>?_
 refine⟨m,hm,fun h' sb=>⟨.ref D,H',?_,rfl,q⟩⟩
 exact Inv.letgo I' f sb
theorem ps_setC (mo:ModOk X.K M) (hc:X.calm=true) (top:TopFr X) (xo:XOk X Ξ)
  (hcf:∀y,(sc.names.lookup y=some .cell\/sc.names.lookup y=some .free)->X.env.kindOf y=some .cell\/X.env.kindOf y=some .free)
  (ok:compOkN sc csc X.N [x] fv=true) (hi:PI X (.Name x px) iter (iSeq wi))
  (he:∀σ X',CompOf X X' csc (x::fv.map (·.1))->XOk X' (fun C d _ H'=>Ξ C d σ H')->PE X' elt (te σ)) (ht:∀X',CompOf X X' csc (x::fv.map (·.1))->PTs X' ifs tt)
  (hs:∀v,foldedSetIterable iter X.env v=pure v) {i:Nat} {t:Str} {tp spos:Pos} (hN:X.N.Nodup) (hit:X.N[i]?=some t) (hx:Loc X.env.scope t) (hf:X.fn t=true\/X.env.scope.names.lookup t=some .local)
  (hsw:swapsWith (.ListComp elt [⟨.Name x px,iter,ifs,0⟩] csc pos) (some (.Name t tp)) spos.line X.env=pure true):
  PS X (.Assign [.Name t tp] (.ListComp elt [⟨.Name x px,iter,ifs,0⟩] csc pos) spos) (fun D σ H=>wi σ H fun xs stay H1=>∀B,H1 B=none->M B=none->compW (te σ) tt (vars σ fv) B stay xs [] (upd H1 B (.lst [])) fun H'=>D.nx (σ.set i (some (.ref B))) H'):=by
 intro pins s σ H D I h
 rw[exec_Assign_Name_used _ _ _ _ hsw]
 refine wpAny_bind (wpAny_standAt (wpAny_bind ?_))
 show wpAny _ _ (do let _<-comprehension _ _ _ _ _ _ _ (some _)) _ _ _
 refine wpAny_bind ?_
 refine comp_core (bd:=fun v _=>some [some v]) (g:=gName 0) mo hc hcf ok hi (fun X' c nd hl=>pg_name (by rw[c.N];exact nd) (by rw[c.N];rfl) (.inl (hl x (by simp))) (.inr (hl x (by simp)))) (fun v w w0 f H Q e hw q=>name_in e hw q) (fun v w H e=>by cases e;rfl) top xo (he σ) ht hs (Q:=fun v H'=>D.nx (σ.set i (some v)) H') I h (fun xs stay H1 q=>⟨fun B H'=>D.nx (σ.set i (some (.ref B))) H',fun _ _ z=>z,fun D h1 h2=>(compW_eq _ _ _).mp (q D h1 h2)⟩) fun B C s' H' I' f ⟨m,hm⟩ q=>?_
 show wpAny _ _ (assign (.Name t tp) X.env (.ref B)) _ _ _
 refine wpAny_bind (wpAny_standAt ?_)
 unfold bindName
 refine wpAny_bind (wpAny_holding (wpAny_point ?_))
 refine wpAny_bind (store_ok2 I' hN hit hx (v:=.ref B) rfl (fun s2 I2 ⟨a,sb,ha⟩=>?_) hf)
 refine wpAny_point ?_
 have hne:C ≠ a:=fun z=>by
  subst z
  rcases ha with z | z
  ·exact f.2.1 z
  ·exact f.2.2.2.2.1 _ _ z rfl
 obtain⟨o,es,ep,ho,r⟩:=hm
 have ho2:s2.heap.get? C=some o:=(sb.2 C hne).trans ho
 refine⟨m,⟨o,es,ep,ho2,r⟩,fun h' sb2=>?_⟩
 exact wpAny_pure (wpAny_pure ⟨_,H',Inv.letgo I2 f sb2,q⟩)
end
end Sw
namespace Sw
open PySem PySem.Spec PyProof.Rows L2
open PySem.W (Frag keepIn ktsIn mroIn kitOne)
noncomputable def bltNames:List Str:=["len","all","any","str","int","abs","sorted","list","tuple","max","min","sum","isinstance","range","bool","dict","set","ValueError","reversed","enumerate"]
noncomputable def NameVal (mg:Str->Option Value) (x:Str) (u:Value):Prop:=mg x=some u\/(mg x=none/\bootBuiltins x=some u)
structure VcOk (P:Program) (w:World) (K:Frag) (mg:Str->Option Value) (base:Heap) (k:Nat) (vc:Addr->Sp):Prop where
 run:∀ (A:Around) (outer:List Env) (s:Shared) (H:Hp) (f:Addr) (us:List Value) (vs:List V) (Q:VK) (E:XK),Room k A->Env0 P w K mg base A outer s H->Vals vs us->vc f vs H Q E->
  codeAny (model P w) A (.call (.ref f) ⟨us,[]⟩) (CR (CXW P w) outer P w H s Q E) s
 fnat:∀ (s:Shared) (H:Hp) (f:Addr) (vs:List V) (Q:VK) (E:XK),K.In s.heap->HOk P w H s.heap->vc f vs H Q E->PySem.W.FnAt f s.heap
theorem VcOk.mono {P:Program} {w:World} {K:Frag} {mg:Str->Option Value} {base:Heap} {j k:Nat} {vc:Addr->Sp} (F:VcOk P w K mg base j vc) (h:j<=k):VcOk P w K mg base k vc:=
 ⟨fun A outer s H f us vs Q E hr=>F.run A outer s H f us vs Q E (hr.mono h),F.fnat⟩
theorem VcOk.none {P:Program} {w:World} {K:Frag} {mg:Str->Option Value} {base:Heap} {k:Nat}:VcOk P w K mg base k (fun _ _ _ _ _=>False):=
 ⟨fun _ _ _ _ _ _ _ _ _ _ _ _ h=>h.elim,fun _ _ _ _ _ _ _ _ h=>h.elim⟩
theorem VcOk.or {P:Program} {w:World} {K:Frag} {mg:Str->Option Value} {base:Heap} {k:Nat} {a b:Addr->Sp} (F:VcOk P w K mg base k a) (G:VcOk P w K mg base k b):VcOk P w K mg base k (fun f vs H Q E=>a f vs H Q E\/b f vs H Q E):=
 ⟨fun A outer s H f us vs Q E hr he hv h=>h.elim (F.run A outer s H f us vs Q E hr he hv) (G.run A outer s H f us vs Q E hr he hv),fun s H f vs Q E hk ho h=>h.elim (F.fnat s H f vs Q E hk ho) (G.fnat s H f vs Q E hk ho)⟩
noncomputable def DictK (P:Program) (w:World) (mg:Str->Option Value) (base:Heap) (x:Str) (kvs:List (Key × V)):Prop:=∃a vs,mg x=some (.ref a)/\KV kvs vs/\base.DictOf (mixKind P w) a vs
structure OwnOk (P:Program) (w:World) (K:Frag) (mg:Str->Option Value) (base:Heap) (Γ:Gam) (k:Nat):Prop where
 ofl:∀C f,Γ.ofl C f=true->Cls K C/\NoAttr K C f
 omt:∀C m,Γ.omh C m=true->∃fa fd ps,Cls K C/\Meth K C m fa/\FnOk P w K mg base (CXW P w) k fa fd ps (Γ.omt C m)/\Binds K fd ps []
 ocl:∀x C,Γ.ocl x=some C->∃fa fd ps,mg x=some (.ref C)/\Mk K C fa/\FnOk P w K mg base (CXW P w) k fa fd ps (Γ.oin x)/\Binds K fd ps []
 osb:∀C c b,Γ.osb C c=some b->∃u,NameVal mg c u/\kitOne K (.ref C) u=some b/\∀ (H:Hp) a dx fs,H a=some (.ins C dx fs)->TyOf K H (.ref a) (.ref C)
theorem OwnOk.mono {P:Program} {w:World} {K:Frag} {mg:Str->Option Value} {base:Heap} {Γ:Gam} {j k:Nat} (o:OwnOk P w K mg base Γ j) (h:j<=k):OwnOk P w K mg base Γ k:=
 ⟨o.ofl,fun C m e=>let ⟨fa,fd,ps,h1,h2,h3,h4⟩:=o.omt C m e;⟨fa,fd,ps,h1,h2,h3.mono h,h4⟩,fun x C e=>let ⟨fa,fd,ps,h1,h2,h3,h4⟩:=o.ocl x C e;⟨fa,fd,ps,h1,h2,h3.mono h,h4⟩,o.osb⟩
structure GOk (P:Program) (w:World) (K:Frag) (mg:Str->Option Value) (base:Heap) (Γ:Gam) (k:Nat):Prop where
 mod:ModOk K Γ.mod
 con:∀x v,Γ.con x=some v->∃u,mg x=some u/\RelV v u
 fn:∀f,Γ.has f=true->∃fa fd ps,mg f=some (.ref fa)/\keepIn K (.ref fa)=true/\FnOk P w K mg base (CXW P w) k fa fd ps (Γ.fn f)/\Binds K fd ps []
 exc:∀C c fs,Γ.exc C=some (c,fs)->∃fI f fd ps,fs=[f]/\mg C=some (.ref c)/\keepIn K (.ref c)=true/\XCls K c fI f/\FnOkU P w K mg base (CXW P w) k fI fd ps (spX c f)/\Binds K fd ps []
 no:∀x ∈ bltNames,mg x=none
 sub:∀c C b,Γ.sub c C=some b->XRead K c/\∃u,NameVal mg C u/\kitOne K (.ref c) u=some b
 cat:∀C,Γ.cat C=true->∃C2,mg C=some (.ref C2)/\ktsIn K C2 "BaseException" =true/\∀c,Γ.sub c C=some true->mroIn K c (.ref C2)=some true
 fo:∀C f,Γ.fo C f=true->XRead K C/\NoAttr K C f
 vc:VcOk P w K mg base k Γ.vc
 gd:∀x kvs,Γ.gd x=some kvs->DictK P w mg base x kvs
 own:OwnOk P w K mg base Γ k
structure Ctx (X:Cx) (Γ:Gam) (sc:Scope) (k:Nat):Prop where
 g:GOk X.prog X.w X.K X.mg X.base Γ k
 room:Γ.cm=true->Room (k + 1) X.A
 calm:Γ.cm=true->X.calm=true
 un:X.A.units + 64 < cLine
 vis:∀x,isVis sc x=true->Vis X.env.scope x
 gl:∀x,isGl sc x=true->Gl X x
 cf:∀y,(sc.names.lookup y=some .cell\/sc.names.lookup y=some .free)->X.env.kindOf y=some .cell\/X.env.kindOf y=some .free
 top:TopFr X
section
variable {X:Cx} {a b e:Expr} {rest:List Expr} {ta tb:TE} {pos:Pos} {M:Mo}
theorem PE.of {t t':TE} (h:PE X e t) (i:∀σ H Q,t' σ H Q->t σ H Q):PE X e t':=fun pins s σ H Q I q=>h pins s σ H Q I (i σ H Q q)
theorem PT.of {t t':TT} (h:PT X e t) (i:∀σ H Q,t' σ H Q->t σ H Q):PT X e t':=fun pins s σ H Q I q=>h pins s σ H Q I (i σ H Q q)
theorem PE.never {t:TE} (i:∀σ H Q,¬t σ H Q):PE X e t:=fun pins s σ H Q I q=>(i σ H Q q).elim
theorem PT.never {t:TT} (i:∀σ H Q,¬t σ H Q):PT X e t:=fun pins s σ H Q I q=>(i σ H Q q).elim
theorem truV_mono {x:V} {H:Hp} {Q Q':Bool->Prop} (h:truV M x H Q) (i:∀k,Q k->Q' k):truV M x H Q':=by
 unfold truV at h ⊢
 cases x with
 | non=>exact i _ h
 | bl b=>exact i _ h
 | int j=>exact i _ h
 | str y=>exact⟨h.1,i _ h.2⟩
 | ref p=>
  dsimp only at h ⊢
  split at h
  ·exact i _ h
  ·exact i _ h
  ·exact h.elim
 | _=>exact h.elim
theorem tru_end (m:ModOk X.K M) {pins:List (Addr × Obj)} {s:Shared} {σ:L2.St} {H:Hp} {x:V} {v:Value} {Q:Bool->Prop} {Q':Bool->Shared->Prop} (I:Inv X pins σ H s) (rx:RelV x v) (q:truV M x H Q)
  (h:∀k s',Inv X pins σ H s'->Q k->Q' k s'):wpAny (model X.prog X.w) X.A (truthy v) Q' X.xe s:=by
 refine thn (tru_of m pins s σ H x v (fun k H2=>H2=H/\Q k) I rx (truV_mono q fun k z=>⟨rfl,z⟩)) fun k s2 ⟨H2,I2,e2,q2⟩=>?_
 subst e2
 exact h k s2 I2 q2
theorem pe_andV (m:ModOk X.K M) (ha:PE X a ta) (hb:PE X (.BoolOp .And (b::rest) pos) tb):PE X (.BoolOp .And (a::b::rest) pos) (fun σ H Q=>ta σ H fun x H1=>truV M x H1 fun k=>if k=true then tb σ H1 Q else Q x H1):=by
 intro pins s σ H Q I h
 refine BoolOp_and (thn (ha pins s σ H _ I h) fun v s1 ⟨x,H1,I1,r1,q1⟩=>tru_end m I1 r1 q1 fun k s2 I2 q2=>?_)
 cases k with
 | true=>exact hb pins s2 σ H1 Q I2 q2
 | false=>exact⟨x,H1,I2,r1,q2⟩
theorem pe_orV (m:ModOk X.K M) (ha:PE X a ta) (hb:PE X (.BoolOp .Or (b::rest) pos) tb):PE X (.BoolOp .Or (a::b::rest) pos) (fun σ H Q=>ta σ H fun x H1=>truV M x H1 fun k=>if k=true then Q x H1 else tb σ H1 Q):=by
 intro pins s σ H Q I h
 refine BoolOp_or (thn (ha pins s σ H _ I h) fun v s1 ⟨x,H1,I1,r1,q1⟩=>tru_end m I1 r1 q1 fun k s2 I2 q2=>?_)
 cases k with
 | false=>exact hb pins s2 σ H1 Q I2 q2
 | true=>exact⟨x,H1,I2,r1,q2⟩
theorem pe_notV (m:ModOk X.K M) (ha:PE X a ta):PE X (.UnaryOp .Not a pos) (fun σ H Q=>ta σ H fun x H1=>truV M x H1 fun k=>Q (.bl (!k)) H1):=by
 intro pins s σ H Q I h
 refine UnaryOp_ (thn (ha pins s σ H _ I h) fun v s1 ⟨x,H1,I1,r1,q1⟩=>not_of (tru_end m I1 r1 q1 fun k s2 I2 q2=>⟨.bl (!k),H1,I2,rfl,q2⟩))
theorem pt_tru (m:ModOk X.K M) (ha:PE X a ta) (he:∀whole,isTrue a X.env whole=(do let v<-whole;standAt a.pos;holding [v] (truthy v))):PT X a (fun σ H Q=>ta σ H fun x H1=>truV M x H1 fun k=>Q k H1):=by
 intro pins s σ H Q I h
 exact isTrue_plain (thn (ha pins s σ H _ I h) fun v s1 ⟨x,H1,I1,r1,q1⟩=>tru_end m I1 r1 q1 fun k s2 I2 q2=>⟨H1,I2,q2⟩) (he _)
theorem pt_ite {c:Expr} {tc:TT} {t u:TT} (hc:PT X c tc) (ha:PT X a t) (hb:PT X b u):PT X (.IfExp c a b pos) (fun σ H Q=>tc σ H fun k H1=>if k=true then t σ H1 Q else u σ H1 Q):=by
 intro pins s σ H Q I h
 show wpAny _ _ (do if<-isTrue c X.env (eval c X.env)then isTrue a X.env (eval a X.env)else isTrue b X.env (eval b X.env)) _ _ _
 refine wpAny_bind (thn (hc pins s σ H _ I h) fun k s1 ⟨H1,I1,q1⟩=>?_)
 cases k with
 | true=>exact ha pins s1 σ H1 Q I1 q1
 | false=>exact hb pins s1 σ H1 Q I1 q1
end
section
variable {X:Cx}
theorem star_cons {e:Expr} {es:List Expr} {env:Env} (h:plainE e=true):starEach (e::es) env=(false,eval e env)::starEach es env:=by
 cases e<;>first | rfl | cases h
theorem plain_any:∀ {es:List Expr} {env:Env} {pos:Pos},(∀ e ∈ es,plainE e=true)->(backTo pos (starEach es env)).any (·.1)=false
 | [],_,_,_=>rfl
 | e::es,env,pos,h=>by
  rw[star_cons (h e List.mem_cons_self)]
  show(false || (backTo pos (starEach es env)).any (·.1))=false
  rw[plain_any fun e he=>h e (List.mem_cons_of_mem _ he)]
  rfl
theorem plain_all:∀ {es:List Expr} {env:Env} {pos:Pos},(∀ e ∈ es,plainE e=true)->(backTo pos (starEach es env)).all (fun x=>!x.1)=true
 | [],_,_,_=>rfl
 | e::es,env,pos,h=>by
  rw[star_cons (h e List.mem_cons_self)]
  show((!false) && (backTo pos (starEach es env)).all (fun x=>!x.1))=true
  rw[plain_all fun e he=>h e (List.mem_cons_of_mem _ he)]
  rfl
theorem a2 {a b:Bool} (h:(a && b)=true):a=true/\b=true:=Bool.and_eq_true_iff.mp h
theorem nx_get {N:List Str} {i:Nat} (h:decide (i < N.length)=true):N[i]?=some (nx N i):=by
 have h:=of_decide_eq_true h
 unfold nx
 rw[List.getD_eq_getElem?_getD,List.getElem?_eq_getElem h]
 rfl
theorem bE_plain {N:List Str} (e:Ex) {a:Expr}:plainE (bE N e a)=true:=by cases e<;>rfl
theorem bI_plain {N:List Str} (it:Ix) {a:Expr}:plainE (bI N it a)=true:=by
 cases it with
 | ex e=>exact bE_plain e
 | rng1 _=>rfl
theorem bEs_plain {N:List Str}:∀ (cs:Exs) {es:List Expr},∀e ∈ bEs N cs es,plainE e=true
 | .nil,_=>fun e h=>nomatch (show e ∈ []from h)
 | .cons c r,es=>fun e h=>(List.mem_cons.mp (show e ∈ bE N c (es.headD default)::bEs N r es.tail from h)).elim (fun q=>q ▸ bE_plain c) (bEs_plain r e)
theorem bEs_len {N:List Str}:∀ (cs:Exs) {es:List Expr},(bEs N cs es).length=cs.len
 | .nil,_=>rfl
 | .cons _ r,_=>congrArg (·+ 1) (bEs_len r)
theorem okName_of {x:Str} (h:okName x=true):(x == ("__debug__" :Str))=false/\(x == ("__classdict__" :Str))=false/\x ≠ "__name__" :=by
 unfold okName at h
 simp only[Bool.and_eq_true,Bool.not_eq_true',decide_eq_false_iff_not]at h
 exact⟨h.1.1,h.1.2,h.2⟩
end
end Sw
namespace Sw
open PySem PySem.Spec PyProof.Rows L2
open PySem.W (Frag keepIn ktsIn mroIn kitOne)
theorem boot_bf (f:Bf):bootBuiltins f.name=some (bfV f):=by cases f<;>kernel_rfl
theorem bf_in (f:Bf):f.name ∈ bltNames:=by cases f<;>decide +kernel
theorem in_isin:("isinstance" :Str) ∈ bltNames:=by decide +kernel
theorem in_range:("range" :Str) ∈ bltNames:=by decide +kernel
theorem boot_isin:bootBuiltins "isinstance" =some (.builtin "isinstance"):=by kernel_rfl
noncomputable def tyN:Ty->Option String
 | .str=>some "str" | .int=>some "int" | .bool=>some "bool" | .list=>some "list" | .tuple=>some "tuple" | .dict=>some "dict" | .own _=>none
theorem boot_ty:∀ {T:Ty} {n:String},tyN T=some n->bootBuiltins T.name=some (.type n)/\T.name ∈ bltNames:=by
 intro T n h
 cases T<;>first | (cases h;exact⟨by kernel_rfl,by decide +kernel⟩) | cases h
theorem kit_ty {K:Frag} {M:Mo} {H:Hp} {x:V} {T:Ty} {n:String} (h:known M H x=true) (ht:tyN T=some n):∃t,TyOf K H x t/\kitOne K t (.type n)=some (isTy T H x):=by
 cases x with
 | non=>exact⟨_,.non,by cases T<;>first | (cases ht;kernel_rfl) | cases ht⟩
 | bl b=>exact⟨_,.bl b,by cases T<;>first | (cases ht;kernel_rfl) | cases ht⟩
 | int i=>exact⟨_,.int i,by cases T<;>first | (cases ht;kernel_rfl) | cases ht⟩
 | str y=>exact⟨_,.str y,by cases T<;>first | (cases ht;kernel_rfl) | cases ht⟩
 | ref p=>
  unfold known at h
  dsimp only at h
  split at h
  ·rename_i xs e
   exact⟨_,.lst e,by unfold isTy;simp only[e];cases T<;>first | (cases ht;kernel_rfl) | cases ht⟩
  ·rename_i xs e
   exact⟨_,.tup e,by unfold isTy;simp only[e];cases T<;>first | (cases ht;kernel_rfl) | cases ht⟩
  ·rename_i xs e
   exact⟨_,.dK e,by unfold isTy;simp only[e];cases T<;>first | (cases ht;kernel_rfl) | cases ht⟩
  ·rename_i o xs e
   exact⟨_,.frz e,by unfold isTy;simp only[e];cases T<;>first | (cases ht;kernel_rfl) | cases ht⟩
  ·cases h
 | _=>cases h
section
variable {X:Cx} {Γ:Gam} {sc:Scope} {k:Nat} {Ξ:XS}
theorem ld_name {pins:List (Addr × Obj)} {s:Shared} {σ:L2.St} {H:Hp} {x:Str} {u:Value} {pos:Pos} {Q:Value->Shared->Prop} {E:Value->Shared->Prop} (I:Inv X pins σ H s) (hg:Gl X x) (hv:NameVal X.mg x u) (ho:okName x=true) (h:Q u s):
  wpAny (model X.prog X.w) X.A (eval (.Name x pos) X.env) Q E s:=by
 obtain⟨o1,o2,o3⟩:=okName_of ho
 rcases hv with hv | ⟨hv,hb⟩
 ·exact ld_glob I hg hv h o1
 ·exact ld_blt I hg hv hb h o3 o1
theorem pe_isin {a:Expr} {ta:TE} {y:Str} {p py pos:Pos} {R:V->Hp->VK->Prop} (C:Ctx X Γ sc k) (hg:Gl X "isinstance") (ha:PE X a ta) (hp:plainE a=true) (hy:Gl X y) (ho:okName y=true)
  (hR:∀ (pins:List (Addr × Obj)) (s:Shared) (σ:L2.St) (H:Hp) (x:V) (v:Value) (Q:VK),Inv X pins σ H s->RelV x v->R x H Q->∃u,NameVal X.mg y u/\wpAny (model X.prog X.w) X.A (call (.builtin "isinstance") [v,u]) (EP X pins σ Q) X.xe s):
  PE X (.Call (.Name "isinstance" p) [a,.Name y py] [] pos) (fun σ H Q=>ta σ H fun x H1=>R x H1 Q):=by
 intro pins s σ H Q I h
 refine wpAny_Call_Name_kw (ld_blt I hg (C.g.no _ in_isin) boot_isin ?_)
 have hs:=star_cons (env:=X.env) (es:=[.Name y py]) hp
 refine PyProof.Rows.callWith_builtin1 ?_ hs rfl
 rw[hs]
 show wpAny _ _ (spliced ((false,eval a X.env)::backTo pos (starEach [.Name y py] X.env))) _ _ s
 refine Calls.spliced_cons (thn (ha pins s σ H _ I h) fun v s1 ⟨x,H1,I1,r1,q1⟩=>?_)
 obtain⟨u,hv,z⟩:=hR pins s1 σ H1 x v Q I1 r1 q1
 exact Calls.spliced_cons (ld_name I1 hy hv ho (Calls.spliced_nil z))
theorem Ctx.comp {X':Cx} {csc:Scope} {N':List Str} (C:Ctx X Γ sc k) (c:CompOf X X' csc N') (hc:Γ.cm=true):Ctx X' Γ csc k:=by
 have look:∀y,X'.env.scope.names.lookup y=(csc.names.lookup y).map fun k=>if(k == .free && X.env.scope.kind == .function && X.env.kindOf y == some .cell)then .cell else k:=fun y=>by
  rw[c.scope];exact relabel_vis
 refine⟨by rw[c.prog,c.w,c.K,c.mg,c.base];exact C.g,fun h=>by rw[c.A];exact C.room h,fun _=>c.calm,by rw[c.A];exact C.un,fun x h=>?_,fun x h=>?_,fun y h=>?_,let ⟨e0,o0,L,t1,t2,t3⟩:=C.top;⟨e0,o0,L,c.stack.trans t1,t2,c.frame.trans t3⟩⟩
 ·have l:=look x
  unfold isVis at h
  unfold Vis
  split at h
  ·rename_i e;rw[e]at l;exact .inl l
  ·rename_i e;rw[e]at l;exact .inr (.inl l)
  ·rename_i e
   rw[e]at l
   simp only[Option.map_some]at l
   by_cases q:((NameKind.free == NameKind.free) && X.env.scope.kind == .function && X.env.kindOf x == some .cell)=true
   ·rw[if_pos q]at l;exact .inr (.inl l)
   ·rw[if_neg q]at l;exact .inr (.inr l)
  ·cases h
 ·have l:=look x
  unfold isGl at h
  split at h
  ·rename_i e;rw[e]at l;exact l
  ·cases h
 ·have l:=look y
  rcases h with h | h
  ·rw[h]at l;exact .inl l
  ·rw[h]at l
   simp only[Option.map_some]at l
   by_cases q:((NameKind.free == NameKind.free) && X.env.scope.kind == .function && X.env.kindOf y == some .cell)=true
   ·rw[if_pos q]at l;exact .inl l
   ·rw[if_neg q]at l;exact .inr l
end
end Sw
namespace Sw
open PySem PySem.Spec PyProof.Rows L2
open PySem.W (Frag keepIn ktsIn mroIn kitOne)
section
open PySem.SeqAt
variable {X:Cx} {M:Mo} {pins:List (Addr × Obj)} {σ:L2.St} {H:Hp} {s:Shared}
theorem rd_dk {K:Frag} (m:ModOk K M) {p:Addr} {kvs:List (Key × V)} (h:rd M H p=some (.dK kvs)):Rd H p (.dK kvs):=by
 rcases rd_cases h with h | ⟨_,h⟩
 ·exact h
 ·exact(m p _ h).elim
theorem dOf_ref {K:Frag} (m:ModOk K M) {x:V} {kvs:List (Key × V)} (h:dOf M H x=some kvs):∃p,x=.ref p/\Rd H p (.dK kvs):=by
 unfold dOf at h
 cases x with
 | ref p=>
  dsimp only at h
  split at h
  ·rename_i e;cases h;exact⟨p,rfl,rd_dk m e⟩
  ·cases h
 | _=>cases h
theorem idxD_ok (m:ModOk X.K M):IxR X (idxDV M):=by
 intro value slice pins s σ H x y v u Q I rx ry h hs
 unfold idxDV at h
 cases x with
 | ref p=>
  dsimp only at h
  cases (show v=Value.ref p from rx)
  split at h
  ·rename_i kvs e
   split at h
   ·rename_i k ek
    split at h
    ·rename_i y' ev
     obtain⟨z,hd,vs,rel,dd⟩:=dk_rd I.hok (rd_dk m e)
     obtain⟨w',hw,rw'⟩:=RelO.some_of (v:=y') (o:=valueAt vs k) (by rw[<-ev];exact rel.val k)
     rw[dkOf_kV ek]at ry
     exact tail_any dd.mapOf.typeIs PySem.F.slot_dict_getitem.lookup (wpAny_getItem_of (kV_is ry) dd.mapOf hw ⟨y',H,I.tok _,rw',h⟩) hs
    ·exact h.elim
   ·exact h.elim
  ·exact h.elim
 | _=>exact h.elim
noncomputable def EqT (X:Cx) (A:Around) (s:Shared) (v u:Value):Prop:=∀ (E:Value->Shared->Prop) (Q:Bool->Shared->Prop),Q true s->wpAny (model X.prog X.w) A (eqBool v u) Q E s
theorem same_pairs {nm:String} {A:Around} {E:Value->Shared->Prop} {a b:Addr} {ka kb:List (Key × Value)} {Q:Bool->Shared->Prop} (ha:(a == sysModules)=false) (hb:(b == sysModules)=false)
  (da:s.heap.DictOf (mixKind X.prog X.w) a ka) (db:s.heap.DictOf (mixKind X.prog X.w) b kb) (hl:ka.length=kb.length) (hit:∀ (i:Nat) (k:Key) (v:Value),ka[i]?=some (k,v)->∃y,valueAt kb k=some y/\EqT X A s v y) (h:Q true s):
  wpAny (model X.prog X.w) A (Builtin.Dict.samePairs nm a b) Q E s:=by
 obtain⟨oa,ea,pa,ga,_,fa,xa,ra,_⟩:=da
 obtain⟨ob,eb,pb,gb,_,fb,xb,rb,_⟩:=db
 have la:ea.size=ka.length:=by rw[<-ra.length,Array.length_toList]
 have lb:eb.size=kb.length:=by rw[<-rb.length,Array.length_toList]
 have at_b:∀k,(eb.findIdx? fun e=>(mixKind X.prog X.w).is k e.key).bind (fun j=>eb[j]?.map (·.val))=valueAt kb k:=fun k=>by
  rw[<-rb.find k]
  cases q:eb.findIdx? fun e=>(mixKind X.prog X.w).is k e.key with
  | none=>
   have q2:eb.toList.find? (fun e=>(mixKind X.prog X.w).is k e.key)=none:=by
    rw[List.find?_eq_none]
    intro e he
    have:=(Array.findIdx?_eq_none_iff.mp q) e (by simpa using he)
    simpa using this
   rw[q2];rfl
  | some j=>
   obtain⟨hj,h1,h2⟩:=Array.findIdx?_eq_some_iff_getElem.mp q
   have q2:eb.toList.find? (fun e=>(mixKind X.prog X.w).is k e.key)=some eb[j]:=by
    rw[List.find?_eq_some_iff_getElem]
    exact⟨h1,j,by simpa using hj,by simp,fun i hi=>by simpa using h2 i hi⟩
   rw[q2,Option.bind_some,Array.getElem?_eq_getElem hj]
 unfold Builtin.Dict.samePairs
 unfold Builtin.Dict.showsAll
 rw[ha,hb]
 simp only[Bool.false_eq_true,if_false]
 refine wpAny_bind (wpAny_pure (wpAny_bind (wpAny_pure (wpAny_bind (wpAny_dictEntries ga fa (wpAny_bind (wpAny_dictEntries gb fb ?_)))))))
 have hne:(ea.size != eb.size)=false:=by rw[la,lb,hl];simp
 rw[hne]
 simp only[Bool.false_eq_true,if_false]
 refine wpAny_bind (wpAny_dictEpoch ga fa (wpAny_bind ?_))
 rw[Std.Legacy.Range.forIn_eq_forIn_range']
 simp only[Std.Legacy.Range.size,Nat.sub_zero,Nat.add_sub_cancel,Nat.div_one]
 refine wpAny_forIn_list _ (fun l q s'=>s'=s/\q=(none,())/\l <:+ List.range' 0 ea.size) _ ?_ ?_ _ _ ⟨rfl,rfl,List.suffix_refl _⟩
 ·intro i l q s' hI
  obtain⟨rfl,rfl,suf⟩:=hI
  have hi:i < ea.size:=by
   have:=suf.subset List.mem_cons_self
   simpa using this
  have hik:i < ka.length:=by omega
  obtain⟨y,hy,eqt⟩:=hit i ka[i].1 ka[i].2 (List.getElem?_eq_getElem hik)
  obtain⟨hkey,hval⟩:=ra.get? (i:=i) (e:=ea[i]) (k:=ka[i].1) (v:=ka[i].2) (by rw[Array.getElem?_toList,Array.getElem?_eq_getElem hi]) (List.getElem?_eq_getElem hik)
  obtain⟨k2,hk2,hash⟩:=xa ea[i] (Array.getElem_mem hi)
  obtain rfl:k2=ka[i].1:=(mixKind X.prog X.w).inj _ _ _ hk2 hkey
  refine wpAny_bind (wpAny_dictEntries ga fa ?_)
  rw[Array.getElem?_eq_getElem hi]
  show wpAny _ _ (holding [ea[i].key,ea[i].val] _ >>= _) _ _ _
  rw[hash]
  refine wpAny_bind (wpAny_holding (wpAny_bind (wpAny_dictFind_of hkey gb fb xb ?_)))
  have z:=at_b ka[i].1
  rw[hy]at z
  cases q:eb.findIdx? fun e=>(mixKind X.prog X.w).is ka[i].1 e.key with
  | none=>rw[q]at z;cases z
  | some j=>
   obtain⟨hj,_⟩:=Array.findIdx?_eq_some_iff_getElem.mp q
   rw[q,Option.bind_some,Array.getElem?_eq_getElem hj]at z
   have zv:eb[j].val=y:=Option.some.inj z
   refine wpAny_bind (wpAny_dictEntries gb fb ?_)
   rw[Array.getElem?_eq_getElem hj]
   rw[<-zv,<-hval]at eqt
   refine wpAny_holding (eqt _ _ ?_)
   show wpAny _ _ (if(!true)=true then _ else _) _ _ _
   rw[if_neg (by decide)]
   refine wpAny_bind (wpAny_dictEpoch ga fa ?_)
   rw[if_neg (by simp)]
   exact wpAny_pure ⟨rfl,rfl,(List.suffix_cons i l).trans suf⟩
 ·intro q s' hI
  obtain⟨rfl,rfl,_⟩:=hI
  exact wpAny_pure h
theorem eq_dicts {A:Around} {E:Value->Shared->Prop} {a b:Addr} {ka kb:List (Key × Value)} {Q:Value->Shared->Prop} (ha:(a == sysModules)=false) (hb:(b == sysModules)=false)
  (da:s.heap.DictOf (mixKind X.prog X.w) a ka) (db:s.heap.DictOf (mixKind X.prog X.w) b kb) (hu:A.units < cLine) (hl:ka.length=kb.length) (hit:∀ (i:Nat) (k:Key) (v:Value),ka[i]?=some (k,v)->∃y,valueAt kb k=some y/\EqT X A.in1 s v y) (h:Q (.bool true) s):
  wpAny (model X.prog X.w) A (richCompare .Eq (.ref a) (.ref b)) Q E s:=by
 have T1:=da.typeIs
 have T2:=db.typeIs
 refine wpAny_richCompare_same_room (op:=.Eq) T1 T2 PySem.F.slot_dict_eq ?_ hu
 refine wpAny_call_entry PySem.F.slot_dict_eq T1 PySem.F.entry_dict_eq ?_ (PySem.F.args_dict_eq_2 _ _)
 show wpAny _ _ (Builtin.Dict.dictSlotArgs "__eq__" _ >>= _) _ _ s
 unfold Builtin.Dict.dictSlotArgs
 refine wpAny_bind (wpAny_bind (wpAny_notOrdered_dict T1 ?_))
 show wpAny _ _ (pure (Value.ref a,Value.ref b)) _ _ s
 refine wpAny_pure (wpAny_bind (wpAny_isInstance (T:= "dict") T2 PySem.F.sub_dict_dict ?_))
 rw[if_neg (by decide)]
 refine wpAny_bind (wpAny_pure (wpAny_bind (wpAny_pure (wpAny_bind (same_pairs ha hb da db hl hit ?_)))))
 exact wpAny_pure ⟨_,rfl,fun x=>(by cases x),h⟩
theorem hits_of {n:Nat} {A:Around} (ih:∀ (x y:V) (v u:Value),RelV x v->RelV y u->deqT M H n x y=true->EqT X A s v u) {a b:List (Key × V)} {as bs:List (Key × Value)} (ra:KV a as) (rb:KV b bs)
  (h:(a.all fun e=>match valV b e.1 with | some u=>deqT M H n e.2 u | none=>false)=true):∀ (i:Nat) (k:Key) (v:Value),as[i]?=some (k,v)->∃y,valueAt bs k=some y/\EqT X A s v y:=by
 intro i k v e
 have hi:i < a.length:=by
  have:=(List.getElem?_eq_some_iff.mp e).1
  rw[ra.length];exact this
 obtain⟨u,hu,ru⟩:=KV.get ra (List.getElem?_eq_getElem hi)
 rw[e]at hu
 cases hu
 have z:=List.all_eq_true.mp h a[i] (List.getElem_mem hi)
 split at z
 ·rename_i y ey
  obtain⟨w',hw,rw'⟩:=RelO.some_of (v:=y) (o:=valueAt bs a[i].1) (by rw[<-ey];exact rb.val _)
  exact⟨w',hw,ih _ _ _ _ ru rw' z⟩
 ·cases z
theorem deqT_dict (m:ModOk X.K M) (I:Inv X pins σ H s) {n:Nat} {x y:V} {v u:Value} (rx:RelV x v) (ry:RelV y u) (dx:(dOf M H x).isSome=true) (dy:(dOf M H y).isSome=true) (h:deqT M H (n + 1) x y=true):
  ∃p q a b as bs,v=.ref p/\u=.ref q/\p ≠ q/\(p == sysModules)=false/\(q == sysModules)=false/\KV a as/\KV b bs/\s.heap.DictOf (mixKind X.prog X.w) p as/\s.heap.DictOf (mixKind X.prog X.w) q bs/\as.length=bs.length/\
   (a.all fun e=>match valV b e.1 with | some u=>deqT M H n e.2 u | none=>false)=true:=by
 obtain⟨a,ea⟩:=Option.isSome_iff_exists.mp dx
 obtain⟨b,eb⟩:=Option.isSome_iff_exists.mp dy
 obtain⟨p,rfl,e1⟩:=dOf_ref m ea
 obtain⟨q,rfl,e2⟩:=dOf_ref m eb
 cases (show v=Value.ref p from rx)
 cases (show u=Value.ref q from ry)
 have h':(decide (V.ref p ≠ V.ref q) && (decide (a.length=b.length) && a.all fun e=>match valV b e.1 with | some u=>deqT M H n e.2 u | none=>false))=true:=by
  unfold deqT at h
  rw[ea,eb]at h
  exact h
 obtain⟨h1,h2⟩:=a2 h'
 obtain⟨h2,h3⟩:=a2 h2
 obtain⟨_,hd1,vs,rel1,dd1⟩:=dk_rd I.hok e1
 obtain⟨_,hd2,us,rel2,dd2⟩:=dk_rd I.hok e2
 exact⟨p,q,a,b,vs,us,rfl,rfl,fun z=>of_decide_eq_true h1 (by rw[z]),hd1,hd2,rel1,rel2,dd1,dd2,by rw[<-rel1.length,<-rel2.length];exact of_decide_eq_true h2,h3⟩
theorem deqT_at (m:ModOk X.K M) (I:Inv X pins σ H s):∀ (n:Nat) (A:Around) (x y:V) (v u:Value),A.units + n < cLine->RelV x v->RelV y u->deqT M H n x y=true->EqT X A s v u:=by
 intro n
 induction n with
 | zero=>intro A x y v u _ _ _ h;cases h
 | succ n ih=>
  intro A x y v u hu rx ry h
  cases dx:dOf M H x with
  | some a=>
   cases dy:dOf M H y with
   | some b=>
    obtain⟨p,q,a,b,as,bs,rfl,rfl,hne,h1,h2,ra,rb,da,db,hl,hh⟩:=deqT_dict m I rx ry (by rw[dx];rfl) (by rw[dy];rfl) h
    intro E Q hq
    unfold eqBool
    refine wpAny_holding ?_
    rw[if_neg (by intro z;have:=eq_of_beq z;injection this;contradiction)]
    exact wpAny_bind (eq_dicts h1 h2 da db (by omega) hl (hits_of (fun x y v u=>ih A.in1 x y v u (by show A.units + 1 + n < cLine;omega)) ra rb hh) (wpAny_truthy_bool hq))
   | none=>unfold deqT at h;rw[dx,dy]at h;cases h
  | none=>
   cases dy:dOf M H y with
   | some b=>unfold deqT at h;rw[dx,dy]at h;cases h
   | none=>
    unfold deqT at h
    rw[dx,dy]at h
    dsimp only at h
    split at h
    ·rename_i d e h1 h2
     have z:=eqAt_data m I 0 A x y v u d e (by omega) rx ry h1 h2
     rw[h]at z
     exact fun E Q hq=>z X.prog X.w E Q hq
    ·cases h
theorem cmpD_ok (hu:X.A.units + 64 < cLine) (m:ModOk X.K M) (op:CmpOp):OpR X (compareOp op) (cmpDV M op):=by
 intro pins s σ H x y v u Q I rx ry h
 cases op with
 | Eq=>
  obtain⟨dx,dy,hd,q⟩:=(show(dOf M H x).isSome=true/\(dOf M H y).isSome=true/\deqT M H 4 x y=true/\Q (.bl true) H from h)
  obtain⟨p,r,a,b,as,bs,rfl,rfl,hne,h1,h2,ra,rb,da,db,hl,hh⟩:=deqT_dict m I rx ry dx dy hd
  exact eq_dicts h1 h2 da db (by omega) hl (hits_of (fun x y v u=>deqT_at m I 3 X.A.in1 x y v u (by show X.A.units + 1 + 3 < cLine;omega)) ra rb hh) ⟨.bl true,H,I,rfl,q⟩
 | In=>
  have h:(match dOf M H y,keyOf x with | some kvs,some k=>Q (.bl (valV kvs k).isSome) H | _,_=>False):=h
  revert h
  split
  ·rename_i kvs k e ek
   intro h0
   obtain⟨p,rfl,rd⟩:=dOf_ref m e
   cases (show u=Value.ref p from ry)
   exact d_in (by omega) I (.inl ⟨kvs,k,rd,dkOf_kV ek,rfl⟩) rx fun s' I'=>⟨.bl _,H,I',rfl,h0⟩
  ·exact fun h=>h.elim
 | _=>exact h.elim
end
end Sw
namespace Sw
open PySem PySem.Spec PyProof.Rows L2
open PySem.W (Frag keepIn ktsIn mroIn kitOne)
theorem mfS (m:Mf):PlainAttrs (mfT m)/\Slot (mfT m) m.name (mfId m)/\typeOf (.builtin (mfId m))=pure (.type "method_descriptor"):=by
 cases m
 ·exact⟨F.plainAttrs_str,F.slot_str_startswith,F.type_str_startswith⟩
 ·exact⟨F.plainAttrs_str,F.slot_str_endswith,F.type_str_endswith⟩
 ·exact⟨F.plainAttrs_str,F.slot_str_split,F.type_str_split⟩
 ·exact⟨F.plainAttrs_str,F.slot_str_join,F.type_str_join⟩
 ·exact⟨F.plainAttrs_list,F.slot_list_append,F.type_list_append⟩
 ·exact⟨F.plainAttrs_list,F.slot_list_pop,F.type_list_pop⟩
 ·exact⟨F.plainAttrs_list,F.slot_list_extend,F.type_list_extend⟩
 ·exact⟨F.plainAttrs_list,F.slot_list_clear,F.type_list_clear⟩
 ·exact⟨F.plainAttrs_dict,F.slot_dict_pop,F.type_dict_pop⟩
 ·exact⟨F.plainAttrs_dict,F.slot_dict_clear,F.type_dict_clear⟩
 ·exact⟨F.plainAttrs_dict,F.slot_dict_copy,F.type_dict_copy⟩
 ·exact⟨F.plainAttrs_dict,F.slot_dict_setdefault,F.type_dict_setdefault⟩
 ·exact⟨F.plainAttrs_dict,F.slot_dict_get,F.type_dict_get⟩
theorem base_of {o:Expr} {m:Str} {env:Env} {t:Sem Value} (h:noCall0 o=true):attributeBase o m env t=t:=by
 cases o with
 | Call f args kws pos=>
  cases f with
  | Name x p=>
   cases args with
   | nil=>
    cases kws with
    | nil=>cases h
    | cons _ _=>rfl
   | cons _ _=>rfl
  | _=>rfl
 | _=>rfl
section
variable {X:Cx}
theorem pe_mth0 {M:Mo} (mo:ModOk X.K M) {m:Mf} {o:Expr} {apos cpos:Pos} {to:TE} (ho:PE X o to) (hn:noCall0 o=true) (hl:(apos.endLine == cpos.line)=true):
  PE X (.Call (.Attribute o m.name apos) [] [] cpos) (fun σ H Q=>to σ H fun x H1=>mty M m x H1=true/\mthV M m x [] H1 Q):=by
 obtain⟨pa,slot,hty⟩:=mfS m
 intro pins s σ H Q I h
 refine wpAny_Call_method0_late (base_of hn) hl (thn (ho pins s σ H _ I h) fun v s1 ⟨x,H1,I1,r1,ty,q1⟩=>?_)
 obtain⟨h1,h2⟩:=tyV_is I1 r1 (mth_ty mo ty)
 exact⟨_,_,pa,slot,hty,h1,h2,Calls.callWith_builtin rfl (PySem.evalArgs_none (mth_ok mo m pins s1 σ H1 x [] v [] Q I1 r1 .nil q1))⟩
theorem pe_mth {M:Mo} (mo:ModOk X.K M) {m:Mf} {o e:Expr} {es:List Expr} {apos cpos:Pos} {to:TE} {t:TA} (ho:PE X o to) (ha:PA X (e::es) t) (hp:∀e' ∈ e::es,plainE e'=true) (hn:noCall0 o=true) (hl:(apos.endLine == cpos.line)=true) (hf:(e::es).length < 20):
  PE X (.Call (.Attribute o m.name apos) (e::es) [] cpos) (fun σ H Q=>to σ H fun x H1=>mty M m x H1=true/\t σ H1 fun vs H2=>mthV M m x vs H2 Q):=by
 obtain⟨pa,slot,hty⟩:=mfS m
 have hfew:((backTo cpos (starEach (e::es) X.env)).all (fun x=>!x.1) && (backToKw cpos (keywordEach [] X.env)).all (fun x=>x.1.isSome)
   && decide ((e::es).length + ([]:List Keyword).length + (if([]:List Keyword).isEmpty then 0 else 1) < 30))=true:=by
  rw[plain_all hp]
  simp only[Bool.true_and]
  rw[Bool.and_eq_true]
  refine⟨rfl,decide_eq_true ?_⟩
  simp at hf ⊢
  omega
 intro pins s σ H Q I h
 refine wpAny_Call_method_late (base_of hn) hfew hl rfl (thn (ho pins s σ H _ I h) fun v s1 ⟨x,H1,I1,r1,ty,q1⟩=>?_)
 obtain⟨h1,h2⟩:=tyV_is I1 r1 (mth_ty mo ty)
 refine⟨_,_,pa,slot,hty,h1,h2,?_⟩
 have hA:=ha cpos pins s1 σ H1 _ I1 q1
 have hs:=star_cons (env:=X.env) (es:=es) (hp e List.mem_cons_self)
 rw[hs]at hA ⊢
 refine Calls.callWith_builtin (by show(false || (backTo cpos (starEach es X.env)).any (·.1))=false;rw[plain_any fun e he=>hp e (List.mem_cons_of_mem _ he)];rfl) (Calls.evalArgs_plain ?_)
 exact thn hA fun us s2 ⟨vs,H2,I2,r2,q2⟩=>mth_ok mo m pins s2 σ H2 x vs v us Q I2 r1 r2 q2
end
section
variable (Γ:Gam) (k:Nat)
theorem one_marks {op:CmpOp} {b:Expr} (h:plainE b=true):behindInMarks op b=false:=by
 cases b<;>first | rfl | cases h
theorem un_negV {X:Cx}:UnR X (unaryOp .USub) (fun x H Q=>match x with | .int i=>Q (.int (-i)) H | _=>False):=by
 intro pins s σ H x v Q I r h
 split at h
 ·exact un_neg pins s σ H _ v Q I r ⟨_,rfl,h⟩
 ·exact h.elim
theorem pe_callG {X:Cx} {Γ:Gam} {sc:Scope} {k:Nat} {Ξ:XS} {f:Str} {es:List Expr} {t:TA} {p pos:Pos} (C:Ctx X Γ sc k) (xo:XOk X Ξ) (hg:Gl X f) (ho:okName f=true) (ha:PA X es t) (hp:∀e ∈ es,plainE e=true) (h0:es=[]->t=fun _ H Q=>Q [] H):
  PE X (.Call (.Name f p) es [] pos) (fun σ H Q=>(Γ.cm=true/\Γ.has f=true)/\t σ H fun vs H1=>Γ.fn f vs H1 Q fun C d H'=>Ξ C d σ H'):=by
 intro pins s σ H Q I ⟨⟨hc,hh⟩,h⟩
 obtain⟨fa,fd,ps,hm,hk,F,hb⟩:=C.g.fn f hh
 refine wpAny_Call_Name_kw (ld_glob I hg hm ?_ (okName_of ho).1)
 cases es with
 | nil=>
  rw[h0 rfl]at h
  exact PySem.W.callWith_K0 I.kIn hk (run_fnX (us:=[]) F ((C.room hc).mono (Nat.le_succ _)) hb xo I .nil h)
 | cons e es=>
  refine PySem.W.callWith_K (h₀:=X.base) I.ok.mod.kin hk (thn (ha pos pins s σ H _ I h) fun us s1 ⟨vs,H1,I1,r,q⟩=>⟨I1.kIn,?_⟩) (star_cons (hp e List.mem_cons_self)) (plain_any fun e he=>hp e (List.mem_cons_of_mem _ he))
  exact run_fnX F ((C.room hc).mono (Nat.le_succ _)) hb xo I1 r q
theorem pe_bltG {X:Cx} {M:Mo} {e:Expr} {es:List Expr} {t:TA} {p pos:Pos} {x:Str} (hc:X.calm=true) (mo:ModOk X.K M) (f:Bf) (hx:f.name=x) (hg:Gl X x) (hm:X.mg x=none) (ho:okName x=true) (ha:PA X (e::es) t) (hp:∀e' ∈ e::es,plainE e'=true):
  PE X (.Call (.Name x p) (e::es) [] pos) (tCB (bltV M f) t):=by
 subst hx
 have hb:=blt_ok hc mo f
 have hv:=boot_bf f
 have he:=star_cons (env:=X.env) (es:=es) (hp e List.mem_cons_self)
 have hpl:=plain_any (env:=X.env) (pos:=pos) (es:=es) fun e he=>hp e (List.mem_cons_of_mem _ he)
 obtain⟨o1,o2,o3⟩:=okName_of ho
 cases f with
 | str=>exact pe_callTy hb hg hm hv ha o3 o1 he hpl
 | int=>exact pe_callTy hb hg hm hv ha o3 o1 he hpl
 | list=>exact pe_callTy hb hg hm hv ha o3 o1 he hpl
 | tuple=>exact pe_callTy hb hg hm hv ha o3 o1 he hpl
 | _=>exact pe_callB hb hg hm hv ha o3 o1 he hpl
theorem boot_set:bootBuiltins ("set" :Str)=some (.type "set"):=by kernel_rfl
theorem plain_ix {b:Expr} (h:plainE b=true):PlainIx b:=by
 intro o i
 cases b<;>first | rfl | cases h
theorem plain_fold {e:Expr} {env:Env} (h:plainE e=true) (v:Value):foldedSetIterable e env v=pure v:=by
 cases e<;>first | rfl | cases h
theorem pe_compW {X:Cx} {M:Mo} {sc csc:Scope} {elt iter:Expr} {ifs:List Expr} {x:Str} {px pos:Pos} {fv:List (Str × Nat)} {tt:TT} {wi:L2.St->Hp->(List V->(Hp->Prop)->Hp->Prop)->Prop} {Ξ:XS} {Γ:Gam} {el:Ex} (mo:ModOk X.K M) (hc:X.calm=true) (top:TopFr X) (xo:XOk X Ξ)
  (hcf:∀y,(sc.names.lookup y=some .cell\/sc.names.lookup y=some .free)->X.env.kindOf y=some .cell\/X.env.kindOf y=some .free)
  (ok:compOkN sc csc X.N [x] fv=true) (hi:PI X (.Name x px) iter (iSeq wi))
  (he:∀σ X',CompOf X X' csc (x::fv.map (·.1))->XOk X' (fun C d _ H'=>Ξ C d σ H')->PE X' elt (wE Γ el fun C d _ H'=>Ξ C d σ H')) (ht:∀X',CompOf X X' csc (x::fv.map (·.1))->PTs X' ifs tt)
  (hs:∀v,foldedSetIterable iter X.env v=pure v):
  PE X (.ListComp elt [⟨.Name x px,iter,ifs,0⟩] csc pos) (fun σ H Q=>wi σ H fun xs stay H1=>∀D,H1 D=none->M D=none->compW (wE Γ el fun C d _ H'=>Ξ C d σ H') tt (vars σ fv) D stay xs [] (upd H1 D (.lst [])) fun H'=>Q (.ref D) H'):=
 pe_comp (te:=fun σ=>wE Γ el fun C d _ H'=>Ξ C d σ H') mo hc top xo hcf ok hi he ht hs
theorem boot_len:bootBuiltins ("len" :Str)=some (.builtin "len"):=by kernel_rfl
theorem pe_lset {X:Cx} {M:Mo} {e:Expr} {te:TE} {p p2 pos pos2:Pos} (hc:X.calm=true) (mo:ModOk X.K M) (g1:Gl X "len") (m1:X.mg "len" =none) (g2:Gl X "set") (m2:X.mg "set" =none) (ha:PE X e te) (hp:plainE e=true):
  PE X (.Call (.Name "len" p) [.Call (.Name "set" p2) [e] [] pos2] [] pos) (fun σ H Q=>te σ H fun x H1=>lsetV M x H1 Q):=by
 intro pins s σ H Q I h
 have hs:=star_cons (env:=X.env) (es:=[]) hp
 refine wpAny_Call_Name_kw (ld_blt I g1 m1 boot_len ?_)
 refine PyProof.Rows.callWith_builtin1 ?_ rfl rfl
 refine Calls.spliced_cons (wpAny_Call_Name_kw (ld_blt I g2 m2 boot_set ?_))
 refine PyProof.Rows.callWith_type1 ?_ hs rfl
 rw[hs]
 refine Calls.spliced_cons (thn (ha pins s σ H _ I h) fun u s1 ⟨x,H1,I1,r1,q1⟩=>Calls.spliced_nil ?_)
 exact thn (lset_ok mo hc I1 r1 q1) fun v s2 z=>Calls.spliced_nil z
theorem boot_list:bootBuiltins ("list" :Str)=some (.type "list"):=by kernel_rfl
theorem boot_dict:bootBuiltins ("dict" :Str)=some (.type "dict"):=by kernel_rfl
theorem boot_reversed:bootBuiltins ("reversed" :Str)=some (.type "reversed"):=by kernel_rfl
theorem boot_enum:bootBuiltins ("enumerate" :Str)=some (.type "enumerate"):=by kernel_rfl
theorem pe_lrev {X:Cx} {M:Mo} {e:Expr} {te:TE} {p p2 pos pos2:Pos} (hc:X.calm=true) (mo:ModOk X.K M) (g1:Gl X "list") (m1:X.mg "list" =none) (g2:Gl X "reversed") (m2:X.mg "reversed" =none) (ha:PE X e te) (hp:plainE e=true):
  PE X (.Call (.Name "list" p) [.Call (.Name "reversed" p2) [e] [] pos2] [] pos) (fun σ H Q=>te σ H fun x H1=>lrevV M x H1 Q):=by
 intro pins s σ H Q I h
 have hs:=star_cons (env:=X.env) (es:=[]) hp
 refine wpAny_Call_Name_kw (ld_blt I g1 m1 boot_list ?_)
 refine PyProof.Rows.callWith_type1 ?_ rfl rfl
 refine Calls.spliced_cons (wpAny_Call_Name_kw (ld_blt I g2 m2 boot_reversed ?_))
 refine PyProof.Rows.callWith_type1 ?_ hs rfl
 rw[hs]
 refine Calls.spliced_cons (thn (ha pins s σ H _ I h) fun u s1 ⟨x,H1,I1,r1,q1⟩=>Calls.spliced_nil ?_)
 exact thn (lrev_ok mo hc I1 r1 q1) fun v s2 z=>Calls.spliced_nil z
theorem pe_dcop {X:Cx} {M:Mo} {e:Expr} {te:TE} {p pos:Pos} (mo:ModOk X.K M) (g1:Gl X "dict") (m1:X.mg "dict" =none) (ha:PE X e te) (hp:plainE e=true):
  PE X (.Call (.Name "dict" p) [e] [] pos) (fun σ H Q=>te σ H fun x H1=>dcopV M x H1 Q):=by
 intro pins s σ H Q I h
 have hs:=star_cons (env:=X.env) (es:=[]) hp
 refine wpAny_Call_Name_kw (ld_blt I g1 m1 boot_dict ?_)
 refine PyProof.Rows.callWith_type1 ?_ hs rfl
 rw[hs]
 exact Calls.spliced_cons (thn (ha pins s σ H _ I h) fun u s1 ⟨x,H1,I1,r1,q1⟩=>Calls.spliced_nil (dcop_ok mo I1 r1 q1))
noncomputable def wiE (M:Mo) (ta:TE):TI:=fun σ H R=>∃Q0:V->Hp->Prop,ta σ H Q0/\∀x H2,Q0 x H2->∃p xs,x=.ref p/\rd M H2 p=some (.lst xs)/\R (Ite M p xs) H2
theorem pi_enum {X:Cx} {M:Mo} {a:Expr} {ta:TE} {ts:List Expr} {kt} {pt p pos:Pos} (mo:ModOk X.K M) (hg:Gl X "enumerate") (hm:X.mg "enumerate" =none) (ha:PE X a ta) (hp:plainE a=true):
  PI X (.Tuple ts kt pt) (.Call (.Name "enumerate" p) [a] [] pos) (wiE M ta):=by
 intro pins s σ H R I ⟨Q0,hw,hq⟩
 have hs:=star_cons (env:=X.env) (es:=[]) hp
 refine Call_ (ld_blt I hg hm boot_enum (PyProof.Rows.callWith_type1 ?_ hs rfl))
 rw[hs]
 refine Calls.spliced_cons (thn (ha pins s σ H _ I hw) fun v s2 ⟨x,H2,I2,r1,q2⟩=>Calls.spliced_nil ?_)
 obtain⟨p1,xs,rfl,e1,hR⟩:=hq x H2 q2
 cases (show v=Value.ref p1 from r1)
 obtain⟨us,_,l1,_⟩:=I2.list (rd_lst mo e1)
 have lt1:@LT.lt Nat _ p1 s2.heap.objs.size:=by obtain⟨o,e,_⟩:=id l1.isList;exact Heap.lt_size e
 refine call_enumerate_list l1.isList fun h' he h1 hsz k=>?_
 refine wpAny_pyIter_enum (s:={s2 with heap:=h'}) he ⟨_,_,_,_,H2,rfl,I2.kept (t':=s2.toks) k,turn_enum mo (Zl.nd (by omega)) (Zl.nd (by omega)) (Zl.nd (by omega)),⟨⟨_,he⟩,h1⟩,fun b hb=>?_,hR⟩
 have ge:s2.heap.objs.size<=b:=by
  simp only[List.mem_cons,List.not_mem_nil,or_false]at hb
  rcases hb with rfl | rfl<;>first | exact Nat.le_refl _ | exact Nat.le_add_right _ _
 exact I2.fpOk ge (I2.hok.fresh ge)
section
variable {X:Cx} {M:Mo} {sc csc:Scope} {elt a:Expr} {ifs:List Expr} {xs:List Str} {ts:List Expr} {kt:Nat} {pt p p2 pos:Pos} {fv:List (Str × Nat)} {ta:TE} {tt:TT} {te:L2.St->TE} {Ξ:XS}
theorem compE_core (mo:ModOk X.K M) (hc:X.calm=true) (top:TopFr X) (xo:XOk X Ξ)
  (hcf:∀y,(sc.names.lookup y=some .cell\/sc.names.lookup y=some .free)->X.env.kindOf y=some .cell\/X.env.kindOf y=some .free)
  (ok:compOkN sc csc X.N xs fv=true) (h2:xs.length=2) (hg:Gl X "enumerate") (hm:X.mg "enumerate" =none) (ha:PE X a ta) (hp:plainE a=true)
  (he:∀σ X',CompOf X X' csc (inT fv xs)->XOk X' (fun C d _ H'=>Ξ C d σ H')->PE X' elt (te σ)) (ht:∀X',CompOf X X' csc (inT fv xs)->PTs X' ifs tt)
  {use:Option (Value->Sem Unit)} {R:Value->Shared->Prop} {pins:List (Addr × Obj)} {s:Shared} {σ:L2.St} {H:Hp} {Q:V->Hp->Prop} (I:Inv X pins σ H s)
  (h:ta σ H fun x H2=>enumV M x H2 fun ps stay=>∀D,H2 D=none->M D=none->
   compWG (nxtE M) (te σ) tt (vars σ fv) D stay ps [] (upd H2 D (.lst [])) fun H'=>Q (.ref D) H')
  (hfin:∀D C s' H',Inv X pins σ H' s'->FpOk X pins H' C->(∃ m,s'.heap.Ns C m)->Q (.ref D) H'->compPost (model X.prog X.w) X.A X.xe use R (.ref D) C (.ok .next) s'):
  wpAny (model X.prog X.w) X.A (comprehension (.ListComp elt [⟨.Tuple (bN (inT fv xs) (List.range xs.length) ts) kt pt,.Call (.Name "enumerate" p) [a] [] p2,ifs,0⟩] csc pos) csc X.env (firstIterPos [⟨.Tuple (bN (inT fv xs) (List.range xs.length) ts) kt pt,.Call (.Name "enumerate" p) [a] [] p2,ifs,0⟩] pos) (newList []) (firstAsync [⟨.Tuple (bN (inT fv xs) (List.range xs.length) ts) kt pt,.Call (.Name "enumerate" p) [a] [] p2,ifs,0⟩]) (firstIter [⟨.Tuple (bN (inT fv xs) (List.range xs.length) ts) kt pt,.Call (.Name "enumerate" p) [a] [] p2,ifs,0⟩] X.env) use) R X.xe s:=by
 refine comp_coreG (nxt:=nxtE M) (g:=gTup X.K xs.length (gNames (List.range xs.length))) mo hc hcf ok (pi_enum mo hg hm ha hp) (fun X' c nd hl=>?_) top xo (he σ) ht (plain_fold rfl) (use:=use) (R:=R) (Q:=Q) I ⟨_,h,fun x H2 q=>?_⟩ hfin
 ·have cN:X'.N=inT fv xs:=c.N
  rw[<-c.K,<-cN]
  have ln:xs.length<=X'.N.length:=by rw[cN];unfold inT;rw[List.length_append];omega
  refine pg_tup c.calm (pgs_local (by rw[cN];exact nd) fun i hi=>?_) (by rw[bN_len,List.length_range]) bN_star
  have hi':=List.mem_range.mp hi
  refine⟨Nat.lt_of_lt_of_le hi' ln,hl _ ?_⟩
  have:nx X'.N i=xs[i]:=by
   unfold nx
   rw[cN,List.getD_eq_getElem?_getD]
   unfold inT
   rw[List.getElem?_append_left hi',List.getElem?_eq_getElem hi']
   rfl
  rw[this]
  exact List.getElem_mem hi'
 ·unfold enumV at q
  split at q
  ·rename_i p1
   split at q
   ·rename_i us e1
    refine⟨p1,us,rfl,e1,(List.range us.length).zip us,_,⟨fun i H st lt=>⟨st,lt⟩,fun i a H y H' R e y1 st nx=>?_,fun i H st le=>⟨st,le⟩⟩,fun D H'=>Q (.ref D) H',fun _ _ z=>z,q⟩
    obtain⟨t,a',t1,t2,t3,rfl,rfl⟩:=y1
    rw[e]at t3
    cases t3
    refine⟨[some (.int a.1),some a.2],h2.symm,nx t t1 t2,fun w0 f Q hw q=>?_⟩
    rw[h2]at hw ⊢
    match w0,hw with
    | [b1,b2],_=>exact⟨t,[.int a.1,a.2],rfl,SqT.of upd_same,rfl,gNames_all rfl q⟩
   ·exact q.elim
  ·exact q.elim
theorem pe_compE (mo:ModOk X.K M) (hc:X.calm=true) (top:TopFr X) (xo:XOk X Ξ)
  (hcf:∀y,(sc.names.lookup y=some .cell\/sc.names.lookup y=some .free)->X.env.kindOf y=some .cell\/X.env.kindOf y=some .free)
  (ok:compOkN sc csc X.N xs fv=true) (h2:xs.length=2) (hg:Gl X "enumerate") (hm:X.mg "enumerate" =none) (ha:PE X a ta) (hp:plainE a=true)
  (he:∀σ X',CompOf X X' csc (inT fv xs)->XOk X' (fun C d _ H'=>Ξ C d σ H')->PE X' elt (te σ)) (ht:∀X',CompOf X X' csc (inT fv xs)->PTs X' ifs tt):
  PE X (.ListComp elt [⟨.Tuple (bN (inT fv xs) (List.range xs.length) ts) kt pt,.Call (.Name "enumerate" p) [a] [] p2,ifs,0⟩] csc pos) (fun σ H Q=>ta σ H fun x H2=>enumV M x H2 fun ps stay=>∀D,H2 D=none->M D=none->
   compWG (nxtE M) (te σ) tt (vars σ fv) D stay ps [] (upd H2 D (.lst [])) fun H'=>Q (.ref D) H'):=by
 intro pins s σ H Q I h
 rw[eval_ListComp]
 refine compE_core mo hc top xo hcf ok h2 hg hm ha hp he ht (use:=none) (R:=EP X pins σ Q) (Q:=Q) I h fun D C s' H' I' f ⟨m,hm⟩ q=>?_
 exact⟨m,hm,fun h' sb=>⟨.ref D,H',Inv.letgo I' f sb,rfl,q⟩⟩
theorem pe_compEW {Γ:Gam} {el:Ex} (mo:ModOk X.K M) (hc:X.calm=true) (top:TopFr X) (xo:XOk X Ξ)
  (hcf:∀y,(sc.names.lookup y=some .cell\/sc.names.lookup y=some .free)->X.env.kindOf y=some .cell\/X.env.kindOf y=some .free)
  (ok:compOkN sc csc X.N xs fv=true) (h2:xs.length=2) (hg:Gl X "enumerate") (hm:X.mg "enumerate" =none) (ha:PE X a ta) (hp:plainE a=true)
  (he:∀σ X',CompOf X X' csc (inT fv xs)->XOk X' (fun C d _ H'=>Ξ C d σ H')->PE X' elt (wE Γ el fun C d _ H'=>Ξ C d σ H')) (ht:∀X',CompOf X X' csc (inT fv xs)->PTs X' ifs tt):
  PE X (.ListComp elt [⟨.Tuple (bN (inT fv xs) (List.range xs.length) ts) kt pt,.Call (.Name "enumerate" p) [a] [] p2,ifs,0⟩] csc pos) (fun σ H Q=>ta σ H fun x H2=>enumV M x H2 fun ps stay=>∀D,H2 D=none->M D=none->
   compWG (nxtE M) (wE Γ el fun C d _ H'=>Ξ C d σ H') tt (vars σ fv) D stay ps [] (upd H2 D (.lst [])) fun H'=>Q (.ref D) H'):=
 pe_compE (te:=fun σ=>wE Γ el fun C d _ H'=>Ξ C d σ H') mo hc top xo hcf ok h2 hg hm ha hp he ht
theorem ps_setE (mo:ModOk X.K M) (hc:X.calm=true) (top:TopFr X) (xo:XOk X Ξ)
  (hcf:∀y,(sc.names.lookup y=some .cell\/sc.names.lookup y=some .free)->X.env.kindOf y=some .cell\/X.env.kindOf y=some .free)
  (ok:compOkN sc csc X.N xs fv=true) (h2:xs.length=2) (hg:Gl X "enumerate") (hm:X.mg "enumerate" =none) (ha:PE X a ta) (hp:plainE a=true)
  (he:∀σ X',CompOf X X' csc (inT fv xs)->XOk X' (fun C d _ H'=>Ξ C d σ H')->PE X' elt (te σ)) (ht:∀X',CompOf X X' csc (inT fv xs)->PTs X' ifs tt)
  {i:Nat} {t:Str} {tp spos:Pos} (hN:X.N.Nodup) (hit:X.N[i]?=some t) (hx:Loc X.env.scope t) (hf:X.fn t=true\/X.env.scope.names.lookup t=some .local)
  (hsw:swapsWith (.ListComp elt [⟨.Tuple (bN (inT fv xs) (List.range xs.length) ts) kt pt,.Call (.Name "enumerate" p) [a] [] p2,ifs,0⟩] csc pos) (some (.Name t tp)) spos.line X.env=pure true):
  PS X (.Assign [.Name t tp] (.ListComp elt [⟨.Tuple (bN (inT fv xs) (List.range xs.length) ts) kt pt,.Call (.Name "enumerate" p) [a] [] p2,ifs,0⟩] csc pos) spos) (fun D σ H=>ta σ H fun x H2=>enumV M x H2 fun ps stay=>∀B,H2 B=none->M B=none->
   compWG (nxtE M) (te σ) tt (vars σ fv) B stay ps [] (upd H2 B (.lst [])) fun H'=>D.nx (σ.set i (some (.ref B))) H'):=by
 intro pins s σ H D I h
 rw[exec_Assign_Name_used _ _ _ _ hsw]
 refine wpAny_bind (wpAny_standAt (wpAny_bind ?_))
 show wpAny _ _ (do let _<-comprehension _ _ _ _ _ _ _ (some _)) _ _ _
 refine wpAny_bind ?_
 refine compE_core mo hc top xo hcf ok h2 hg hm ha hp he ht (Q:=fun v H'=>D.nx (σ.set i (some v)) H') I h fun B C s' H' I' f ⟨m,hm⟩ q=>?_
 show wpAny _ _ (assign (.Name t tp) X.env (.ref B)) _ _ _
 refine wpAny_bind (wpAny_standAt ?_)
 unfold bindName
 refine wpAny_bind (wpAny_holding (wpAny_point ?_))
 refine wpAny_bind (store_ok2 I' hN hit hx (v:=.ref B) rfl (fun s2 I2 ⟨a,sb,ha⟩=>?_) hf)
 refine wpAny_point ?_
 have hne:C ≠ a:=fun z=>by
  subst z
  rcases ha with z | z
  ·exact f.2.1 z
  ·exact f.2.2.2.2.1 _ _ z rfl
 obtain⟨o,es,ep,ho,r⟩:=hm
 have ho2:s2.heap.get? C=some o:=(sb.2 C hne).trans ho
 refine⟨m,⟨o,es,ep,ho2,r⟩,fun h' sb2=>?_⟩
 exact wpAny_pure (wpAny_pure ⟨_,H',Inv.letgo I2 f sb2,q⟩)
end
theorem pts_nil {X:Cx}:PTs X [] (fun _ H Q=>Q true H):=fun pins s σ H Q I q=>by
 show wpAny _ _ (pure true) _ _ _
 exact wpAny_pure ⟨H,I,q⟩
theorem pts_one {X:Cx} {c:Expr} {t:TT} (h:PT X c t):PTs X [c] t:=fun pins s σ H Q I q=>by
 show wpAny _ _ (forIn [c] true fun c r=>if r=true then do let ok<-isTrue c X.env (eval c X.env);pure (ForInStep.yield ok)else pure (ForInStep.yield r)) _ _ _
 rw[List.forIn_cons]
 simp only[if_true,List.forIn_nil]
 refine wpAny_bind (wpAny_bind (thn (h pins s σ H Q I q) fun b s1 z=>wpAny_pure ?_))
 exact wpAny_pure z
theorem po_int {X:Cx} {e:Expr} {te:TE} (h:PE X e te):PO X (some e) (fun σ H Q=>te σ H fun x H1=>match x with | .int i=>Q (some i) H1 | _=>False):=by
 intro pins s σ H Q I hw
 rw[evalPart_some]
 refine thn (h pins s σ H _ I hw) fun u s1 ⟨x,H1,I1,r1,q1⟩=>?_
 cases x with
 | int i=>
  obtain⟨t,e⟩:=(show ∃t,u=Value.int i t from r1)
  subst e
  exact⟨some i,H1,I1,.int i t,q1⟩
 | _=>exact q1.elim
theorem pi_rng1 {X:Cx} {tg a:Expr} {ta:TE} {p pos:Pos} (hg:Gl X "range") (hm:X.mg "range" =none) (ha:PE X a ta) (hp:plainE a=true):
  PI X tg (.Call (.Name "range" p) [a] [] pos) (iSeq fun σ H k=>ta σ H fun x H1=>match x with | .int j=>-(2 ^ 62)<=j/\j < 2 ^ 62/\k ((List.range j.toNat).map fun i:Nat=>.int i) (fun _=>True) H1 | _=>False):=by
 intro pins s σ H R I ⟨kk,hw,hk⟩
 have hs:=star_cons (env:=X.env) (es:=[]) hp
 refine Call_ (ld_blt I hg hm boot_range (PyProof.Rows.callWith_type1 ?_ hs rfl))
 rw[hs]
 refine Calls.spliced_cons (thn (ha pins s σ H _ I hw) fun v s1 ⟨x,H1,I1,r1,q1⟩=>Calls.spliced_nil ?_)
 cases x with
 | int j=>
  obtain⟨t,e⟩:=(show ∃t,v=Value.int j t from r1)
  subst e
  obtain⟨q1,q2,q⟩:=q1
  refine call_range_1 (range_it I1 (by omega) (by omega) q1 q2 ?_)
  have hq:=seq_range 0 j.toNat
  simp only[Int.zero_add]at hq
  rw[Int.sub_zero]
  exact hk _ _ _ _ hq q
 | _=>exact q1.elim
noncomputable def PD (X:Cx) (pos:Pos) (keys:List (Option Expr)) (values:List Expr) (t:L2.St->Hp->(List (Key × V)->Hp->Prop)->Prop):Prop:=
 ∀ (pins:List (Addr × Obj)) (s:Shared) (σ:L2.St) (H:Hp) (Q:List (Key × V)->Hp->Prop),Inv X pins σ H s->t σ H Q->
  wpAny (model X.prog X.w) X.A (evalPairs (pairTrees keys values X.env pos)) (fun vs s'=>∃ps H',Inv X pins σ H' s'/\VV (ps.map fun kv=>(kV kv.1,kv.2)) vs/\Q ps H') X.xe s
theorem keyOf_kV {x:V} {k:Key} (h:keyOf x=some k):x=kV k:=by
 cases x<;>first | (cases h;rfl) | cases h
theorem pd_nil {X:Cx} {pos:Pos}:PD X pos [] [] (fun _ H Q=>Q [] H):=fun pins s σ H Q I h=>pairTrees_nil_walk ⟨[],H,I,.nil,h⟩
theorem pd_cons {X:Cx} {pos:Pos} {k v:Expr} {ks:List (Option Expr)} {vs:List Expr} {tk tv:TE} {t:L2.St->Hp->(List (Key × V)->Hp->Prop)->Prop} (hk:PE X k tk) (hv:PE X v tv) (hr:PD X pos ks vs t):
  PD X pos (some k::ks) (v::vs) (fun σ H Q=>tk σ H fun x H1=>tv σ H1 fun y H2=>t σ H2 fun ps H3=>match keyOf x with | some k=>Q ((k,y)::ps) H3 | none=>False):=fun pins s σ H Q I h=>
 pairTrees_cons_walk (thn (hk pins s σ H _ I h) fun u s1 ⟨x,H1,I1,rx,q1⟩=>thn (hv pins s1 σ H1 _ I1 q1) fun w2 s2 ⟨y,H2,I2,ry,q2⟩=>
  thn (hr pins s2 σ H2 _ I2 q2) fun ws s3 ⟨ps,H3,I3,rel,q3⟩=>by
   cases e:keyOf x with
   | none=>rw[e]at q3;exact q3.elim
   | some kk=>
    rw[e]at q3
    exact⟨(kk,y)::ps,H3,I3,.cons ⟨by show RelV (kV kk) u;rw[<-keyOf_kV e];exact rx,ry⟩ rel,q3⟩)
theorem pe_dic {X:Cx} {M:Mo} (mo:ModOk X.K M) {pos:Pos} {keys:List (Option Expr)} {values:List Expr} {t:L2.St->Hp->(List (Key × V)->Hp->Prop)->Prop} (h:PD X pos keys values t) (hall:keys.all (·.isSome)=true) (hl:keys.length=values.length) (h0:keys ≠ []) (h15:keys.length<=15):
  PE X (.Dict keys values pos) (fun σ H Q=>∀p,H p=none->M p=none->t σ (upd H p (.dK [])) fun ps H2=>H2 p=some (.dK [])/\ps.length<=15/\Q (.ref p) (upd H2 p (.dK (mergeK [] ps)))):=by
 intro pins s σ H Q I q
 have hn:=I.hok.fresh (Nat.le_refl s.heap.objs.size)
 have I1:=I.laid (a:=s.heap.objs.size) (o:=.dK []) (h':=s.heap.push {cls:=.type "dict",data:=.dict #[]}) (t':=s.toks) (fun _ _ q=>Heap.get?_push_of_some _ q) (Nat.le_refl _) (dk_empty s.heap I.big)
 refine wpAny_Dict_walk (knd:=mixKind X.prog X.w) hall hl h0 h15 (thn (h pins _ σ _ _ I1 (q _ hn (OffM.new (Inv.offM mo I1)))) fun ws s2 ⟨kvs,H2,I2,rel,e,lk,q2⟩=>?_)
 obtain⟨rs,c,rk⟩:=carries_of (P:=X.prog) (w:=X.w) rel
 obtain⟨z,hd,vs0,r0,dd⟩:=dk_of I2.hok e
 cases r0
 refine⟨rs,c,dd,fun h' dd' hs=>⟨.ref s.heap.objs.size,_,?_,rfl,q2⟩⟩
 have hz:(mergeK [] kvs).length<=sizeLine:=by
  have h1:=length_mergeK kvs []
  rw[List.length_nil]at h1
  rw[sizeLine_eq];omega
 have he:∃q,h'.get? s.heap.objs.size=some q:=let ⟨q,_,_,hq,_⟩:=dd';⟨q,hq⟩
 exact d_write I2 (by rw[e];exact True.intro) hs he (dk_new hz hd (rk.merge .nil) dd')
theorem evs_all {α:Type} (l:List α):(l.map some).all (·.isSome)=true:=by
 induction l with
 | nil=>rfl
 | cons a r ih=>exact ih
theorem evs_len {α:Type}:∀ (l:List α),(evs l).length=(ods l).length/\2 * (evs l).length<=l.length
 | []=>⟨rfl,Nat.le_refl _⟩
 | [_]=>⟨rfl,Nat.zero_le _⟩
 | _::_::r=>⟨congrArg (·+ 1) (evs_len r).1,Nat.succ_le_succ (Nat.succ_le_succ (evs_len r).2)⟩
theorem evs_ne {α:Type}:∀ (l:List α),2<=l.length->(evs l).map some ≠ []
 | _::_::_,_=>List.cons_ne_nil _ _
 | [_],h=>by simp at h
 | [],h=>by simp at h
theorem pe_tupM {X:Cx} {M:Mo} (mo:ModOk X.K M) {es:List Expr} {t:TA} {x1} {pos:Pos} (h:PA X es t):PE X (.Tuple es x1 pos) (fun σ H Q=>t σ H fun xs H1=>xs.length<=sizeLine/\∀p,H1 p=none->M p=none->Q (.ref p) (upd H1 p (.tup xs))):=by
 intro pins s σ H Q I hq
 refine wpAny_Tuple_spliced (thn (h pos pins s σ H _ I hq) fun us s1 ⟨xs,H1,I1,r,z,q⟩=>⟨by rw[<-r.length];exact z,?_⟩)
 have hf:H1 s1.heap.objs.size=none:=I1.hok.fresh (Nat.le_refl _)
 have I2:Inv X pins σ (upd H1 s1.heap.objs.size (.tup xs)) {s1 with heap:=s1.heap.push {cls:=.type "tuple",data:=.seq us.toArray}}:=I1.laid (t':=s1.toks) (fun b u e=>Heap.get?_push_of_some _ e) (Nat.le_refl _) ⟨z,us,r,⟨_,Heap.get?_push_size _ rfl,rfl,_,rfl⟩⟩
 exact⟨.ref s1.heap.objs.size,_,I2,rfl,q _ hf (OffM.new (Inv.offM mo I2))⟩
theorem pe_lstM {X:Cx} {M:Mo} (mo:ModOk X.K M) {es:List Expr} {t:TA} {pos:Pos} (h:PA X es t):PE X (.List es pos) (fun σ H Q=>t σ H fun xs H1=>xs.length<=sizeLine/\∀p,H1 p=none->M p=none->Q (.ref p) (upd H1 p (.lst xs))):=by
 intro pins s σ H Q I hq
 refine wpAny_List_spliced (thn (h pos pins s σ H _ I hq) fun us s1 ⟨xs,H1,I1,r,z,q⟩=>⟨by rw[<-r.length];exact z,?_⟩)
 have hf:H1 s1.heap.objs.size=none:=I1.hok.fresh (Nat.le_refl _)
 have I2:Inv X pins σ (upd H1 s1.heap.objs.size (.lst xs)) {s1 with heap:=s1.heap.push {cls:=.type "list",data:=.seq us.toArray}}:=I1.laid (t':=s1.toks) (fun b u e=>Heap.get?_push_of_some _ e) (Nat.le_refl _) ⟨z,us,0,r,Heap.get?_push_size _ rfl⟩
 exact⟨.ref s1.heap.objs.size,_,I2,rfl,q _ hf (OffM.new (Inv.offM mo I2))⟩
theorem isin_ty {X:Cx} {Γ:Gam} {sc:Scope} {k:Nat} {pins:List (Addr × Obj)} {s:Shared} {σ:L2.St} {H:Hp} {x:V} {v:Value} {T:Ty} {n:String} {Q:VK} (C:Ctx X Γ sc k) (I:Inv X pins σ H s) (rx:RelV x v) (ht:tyN T=some n)
  (q:known Γ.mod H x=true/\Q (.bl (isTy T H x)) H):∃u,NameVal X.mg T.name u/\wpAny (model X.prog X.w) X.A (call (.builtin "isinstance") [v,u]) (EP X pins σ Q) X.xe s:=by
 obtain⟨b1,b2⟩:=boot_ty ht
 obtain⟨t,ty,kt⟩:=kit_ty (K:=X.K) q.1 ht
 exact⟨_,.inr ⟨C.g.no _ b2,b1⟩,isinst_ok I rx ty kt fun tk=>⟨.bl _,H,I.tok _,rfl,q.2⟩⟩
theorem isin_own {X:Cx} {Γ:Gam} {sc:Scope} {k:Nat} {pins:List (Addr × Obj)} {s:Shared} {σ:L2.St} {H:Hp} {x:V} {v:Value} {c:Str} {Q:VK} (C:Ctx X Γ sc k) (I:Inv X pins σ H s)
  (q:match x with | .ref p=>(match H p with | some (.exo C d)=>hasXd H d=true/\(match Γ.sub C c with | some b=>Q (.bl b) H | none=>False) | _=>False) | _=>False) (rx:RelV x v):
  ∃u,NameVal X.mg c u/\wpAny (model X.prog X.w) X.A (call (.builtin "isinstance") [v,u]) (EP X pins σ Q) X.xe s:=by
 cases x with
 | ref p=>
  cases (show v=Value.ref p from rx)
  dsimp only at q
  split at q
  ·rename_i Ca d he
   obtain⟨qx,q⟩:=q
   split at q
   ·rename_i b hs
    obtain⟨xr,u,hv,kt⟩:=C.g.sub _ _ _ hs
    refine⟨u,hv,isexc_ok I he (fun dx e=>?_) xr kt fun tk=>⟨.bl b,H,I.tok _,rfl,q⟩⟩
    subst e
    unfold hasXd at qx
    dsimp only at qx
    split at qx
    ·rename_i fs e;exact⟨fs,e⟩
    ·cases qx
   ·exact q.elim
  ·exact q.elim
 | _=>exact q.elim
theorem pe_conV {X:Cx} {v:V} {n:Nat} {p:Pos} (h:isC v=true):PE X (.Constant (cOf v) n p) (fun _ H Q=>Q v H):=by
 cases v
 case int i=>exact pe_int
 case str x=>exact pe_str
 case bl b=>exact pe_bl
 case non=>exact pe_non
 all_goals cases h
theorem pe_varG {X:Cx} {Γ:Gam} {sc:Scope} {k:Nat} {i:Nat} {p:Pos} (C:Ctx X Γ sc k) (hi:decide (i < X.N.length)=true) (h:isVis sc (nx X.N i)=true/\okName (nx X.N i)=true):
  PE X (.Name (nx X.N i) p) (fun σ H Q=>match σ[i]? with | some (some v)=>Q v H | _=>False):=by
 obtain⟨o1,o2,o3⟩:=okName_of h.2
 refine PE.of (pe_var (nx_get hi) (C.vis _ h.1) o1 o2) fun σ H Q q=>?_
 match e:σ[i]?,q with
 | some (some v),q=>exact⟨v,e,q⟩
theorem pe_isinG {X:Cx} {Γ:Gam} {sc:Scope} {k:Nat} {a:Expr} {ta:TE} {T:Ty} {p py pos:Pos} (C:Ctx X Γ sc k) (hg:Gl X "isinstance") (ha:PE X a ta) (hp:plainE a=true) (hy:Gl X T.name) (ho:okName T.name=true):
  PE X (.Call (.Name "isinstance" p) [a,.Name T.name py] [] pos) (fun σ H Q=>ta σ H fun x H1=>match(generalizing:=false) T with
   | .own c=>(match x with | .ref p=>(match H1 p with | some (.exo C d)=>hasXd H1 d=true/\(match Γ.sub C c with | some b=>Q (.bl b) H1 | none=>False) | _=>False) | _=>False)
   | T=>known Γ.mod H1 x=true/\Q (.bl (isTy T H1 x)) H1):=by
 refine pe_isin C hg ha hp hy ho fun pins s σ H x v Q I rx q=>?_
 cases T with
 | own c=>exact isin_own C I q rx
 | str=>exact isin_ty (T:=.str) (n:= "str") C I rx rfl q
 | int=>exact isin_ty (T:=.int) (n:= "int") C I rx rfl q
 | bool=>exact isin_ty (T:=.bool) (n:= "bool") C I rx rfl q
 | list=>exact isin_ty (T:=.list) (n:= "list") C I rx rfl q
 | tuple=>exact isin_ty (T:=.tuple) (n:= "tuple") C I rx rfl q
 | dict=>exact isin_ty (T:=.dict) (n:= "dict") C I rx rfl q
theorem and_b {N:List Str} {b:Ex} {tl:List Expr} {p:Pos} (h:isAnd b=true):∃x r,bE N b (.BoolOp .And tl p)=.BoolOp .And (x::r) p:=by
 cases b<;>first | exact⟨_,_,rfl⟩ | cases h
theorem or_b {N:List Str} {b:Ex} {tl:List Expr} {p:Pos} (h:isOr b=true):∃x r,bE N b (.BoolOp .Or tl p)=.BoolOp .Or (x::r) p:=by
 cases b<;>first | exact⟨_,_,rfl⟩ | cases h
theorem row_and {N:List Str} {b:Ex} {a:Expr} {l:Bool} {e1:Expr} {tl:List Expr} {p:Pos} {o1 o2:Bool} {P:Expr->Prop} (h:cond l o1 (isAnd b && o2)=true)
  (h1:o1=true->P (.BoolOp .And [a,bE N b e1] p)) (h2:o2=true->∀x r,bE N b (.BoolOp .And tl p)=.BoolOp .And (x::r) p->P (.BoolOp .And (a::x::r) p)):
  P (.BoolOp .And (a::cond l [bE N b e1] (ek (bE N b (.BoolOp .And tl p)))) p):=by
 cases l with
 | true=>exact h1 h
 | false=>
  obtain⟨h,ho⟩:=a2 h
  obtain⟨x,r,e⟩:=and_b (N:=N) (tl:=tl) (p:=p) h
  rw[e]
  exact h2 ho x r e
theorem row_or {N:List Str} {b:Ex} {a:Expr} {l:Bool} {e1:Expr} {tl:List Expr} {p:Pos} {o1 o2:Bool} {P:Expr->Prop} (h:cond l o1 (isOr b && o2)=true)
  (h1:o1=true->P (.BoolOp .Or [a,bE N b e1] p)) (h2:o2=true->∀x r,bE N b (.BoolOp .Or tl p)=.BoolOp .Or (x::r) p->P (.BoolOp .Or (a::x::r) p)):
  P (.BoolOp .Or (a::cond l [bE N b e1] (ek (bE N b (.BoolOp .Or tl p)))) p):=by
 cases l with
 | true=>exact h1 h
 | false=>
  obtain⟨h,ho⟩:=a2 h
  obtain⟨x,r,e⟩:=or_b (N:=N) (tl:=tl) (p:=p) h
  rw[e]
  exact h2 ho x r e
theorem pe_bltN {X:Cx} {Γ:Gam} {sc:Scope} {k:Nat} {f:Bf} {es:List Expr} {t:TA} {p pos:Pos} (C:Ctx X Γ sc k) (hg:isGl sc f.name=true) (ho:okName f.name=true) (h0:es.length ≠ 0) (ha:PA X es t) (hp:∀e' ∈ es,plainE e'=true):
  PE X (.Call (.Name f.name p) es [] pos) (fun σ H Q=>Γ.cm=true/\t σ H fun vs H1=>bltV Γ.mod f vs H1 Q):=by
 intro pins s σ H Q I ⟨hc,q⟩
 cases es with
 | nil=>exact absurd rfl h0
 | cons e es=>exact pe_bltG (C.calm hc) C.g.mod f rfl (C.gl _ hg) (C.g.no _ (bf_in f)) ho ha hp pins s σ H Q I q
theorem pe_mthN {X:Cx} {Γ:Gam} {m:Mf} {o:Expr} {es:List Expr} {apos cpos:Pos} {to:TE} {t:TA} (mo:ModOk X.K Γ.mod) (ho:PE X o to) (hn:noCall0 o=true) (hl:(apos.endLine == cpos.line)=true) (hf:es.length < 20) (ha:PA X es t) (hp:∀e' ∈ es,plainE e'=true) (h0:es=[]->t=fun _ H Q=>Q [] H):
  PE X (.Call (.Attribute o m.name apos) es [] cpos) (fun σ H Q=>to σ H fun x H1=>mty Γ.mod m x H1=true/\t σ H1 fun vs H2=>mthV Γ.mod m x vs H2 Q):=by
 cases es with
 | nil=>rw[h0 rfl];exact pe_mth0 mo ho hn hl
 | cons e es=>exact pe_mth mo ho ha hp hn hl hf
theorem nil_of {N:List Str} {Γ:Gam} {Ξ:XS} {es:List Expr}:∀ (args:Exs),bEs N args es=[]->wEs Γ args Ξ=fun _ H Q=>Q [] H
 | .nil,_=>rfl
 | .cons _ _,h=>nomatch (show _::_=[]from h)
theorem pe_dnewM {X:Cx} {M:Mo} (mo:ModOk X.K M) {pos:Pos}:PE X (.Dict [] [] pos) (fun _ H Q=>∀p,H p=none->M p=none->Q (.ref p) (upd H p (.dK []))):=by
 intro pins s σ H Q I h
 exact thn (pe_dnewK pins s σ H (fun v H'=>OffM M H'->Q v H') I fun p hp of=>h p hp of.new) fun _ _=>ep_off mo
theorem cN {P:List Str->Prop} {a b:List Str} (e:a=b) (h:P a):P b:=e ▸ h
theorem pe_dicN {X:Cx} {M:Mo} (mo:ModOk X.K M) {pos:Pos} {L:List Expr} {t:L2.St->Hp->(List (Key × V)->Hp->Prop)->Prop} (h:PD X pos ((evs L).map some) (ods L) t) (h1:2<=L.length) (h2:L.length<=30):
  PE X (.Dict ((evs L).map some) (ods L) pos) (fun σ H Q=>∀p,H p=none->M p=none->t σ (upd H p (.dK [])) fun ps H2=>H2 p=some (.dK [])/\ps.length<=15/\Q (.ref p) (upd H2 p (.dK (mergeK [] ps)))):=by
 have hl:=evs_len L
 exact pe_dic mo h (evs_all _) (by rw[List.length_map];exact hl.1) (evs_ne _ h1) (by rw[List.length_map];omega)
theorem pt_val {X:Cx} {Γ:Gam} {sc:Scope} {k:Nat} {e:Expr} {te:TE} {t:TT} (C:Ctx X Γ sc k) (h:PE X e te) (hl:∀whole,isTrue e X.env whole=(do let v<-whole;standAt e.pos;holding [v] (truthy v))) (i:∀σ H Q,t σ H Q->te σ H fun x H1=>truV Γ.mod x H1 fun k=>Q k H1):PT X e t:=
 PT.of (pt_tru C.g.mod h hl) i
theorem pe_ofld {X:Cx} {Γ:Gam} {sc:Scope} {k:Nat} {a:Expr} {ta:TE} {f:Str} {p:Pos} (C:Ctx X Γ sc k) (hn:noCall0 a=true) (ha:PE X a ta):PE X (.Attribute a f p) (fun σ H Q=>ta σ H fun x H1=>ofldV Γ x f H1 Q):=by
 intro pins s σ H Q I q
 refine attr_of (base_of hn) (thn (ha pins s σ H _ I q) fun u s1 ⟨x,H1,I1,rx,q1⟩=>?_)
 cases x with
 | ref p=>
  cases rx
  unfold ofldV at q1
  dsimp only at q1
  split at q1
  ·rename_i e
   obtain⟨q1,q2⟩:=q1
   split at q2
   ·rename_i l
    obtain⟨c,n⟩:=C.g.own.ofl _ _ q1
    exact getattr_ok I1 e c n l fun u' s2 I2 ru=>⟨_,H1,I2,ru,q2⟩
   ·exact q2.elim
  ·exact q1.elim
 | _=>exact q1.elim
theorem never_xe {X:Cx}:Passes (CXW X.prog X.w) X (fun _ _ _=>False):=fun pins σ H s e s' I hq=>by
 obtain⟨ea,C,d,H',e1,fl,q⟩:=flew_of (E:=fun _ _ _=>False) (e:=e) (s':=s') I hq
 exact q.elim
theorem fn_offM {P:Program} {w:World} {K:PySem.W.Frag} {mg:Str->Option Value} {base:Heap} {CX:CXT} {k:Nat} {f:Addr} {fd:FuncData} {ps:List Str} {sp:Sp} {M:Mo} (mo:ModOk K M) (F:FnOk P w K mg base CX k f fd ps sp):
  FnOk P w K mg base CX k f fd ps (fun vs H Q E=>vs.length=ps.length/\(OffM M H->sp vs H Q E)):=
 ⟨fun vs H Q E h=>h.1,fun A outer s H args us vs Q E hr he hb hv hs=>F.run A outer s H args us vs Q E hr he hb hv (hs.2 fun a ha=>let ⟨o,e⟩:=mo.look ha;(he.bs a o (he.mod.kin a o e)).2)⟩
theorem mod_new {X:Cx} {M:Mo} (mo:ModOk X.K M) {pins:List (Addr × Obj)} {σ:L2.St} {H:Hp} {s:Shared} (I:Inv X pins σ H s) {a:Addr} (h:s.heap.objs.size<=a):M a=none:=by
 cases e:M a with
 | none=>rfl
 | some u=>
  obtain⟨o,q⟩:=mo.look (a:=a) (by rw[e];intro z;cases z)
  exact absurd (Heap.lt_size (I.bk a o (I.ok.mod.kin a o q))) (Nat.not_lt.mpr h)
theorem pe_onew {X:Cx} {Γ:Gam} {sc:Scope} {k:Nat} {x:Str} {es:List Expr} {t:TA} {p pos:Pos} (C:Ctx X Γ sc k) (hg:Gl X x) (ho:okName x=true) (ha:PA X es t) (hp:∀e ∈ es,plainE e=true) (h0:es=[]->t=fun _ H Q=>Q [] H):
  PE X (.Call (.Name x p) es [] pos) (fun σ H Q=>(Γ.cm=true/\(Γ.ocl x).isSome=true)/\t σ H fun vs H1=>onewV Γ x vs H1 Q):=by
 intro pins s σ H Q I ⟨⟨hc,hs⟩,h⟩
 have run:∀ {Ca:Addr} {us:List Value} {vs:List V} {s1:Shared} {H1:Hp},Γ.ocl x=some Ca->Inv X pins σ H1 s1->Vals vs us->onewV Γ x vs H1 Q->wpAny (model X.prog X.w) X.A (call (.ref Ca) us) (EP X pins σ Q) X.xe s1:=by
  intro Ca us vs s1 H1 e I1 r q
  unfold onewV at q
  rw[e]at q
  obtain⟨fa,fd,ps,hm,mk,F,hb⟩:=C.g.own.ocl _ _ e
  have hlen:∀a:Addr,(V.ref a::vs).length=ps.length:=fun a=>by
   have n1:s1.heap.objs.size<=s1.heap.objs.size + 1:=Nat.le_succ _
   have z:=F.len _ _ _ _ (q (s1.heap.objs.size + 1) s1.heap.objs.size (I1.hok.fresh n1) (I1.hok.fresh (Nat.le_refl _)) (Nat.ne_of_lt (Nat.lt_succ_self _)) (mod_new C.g.mod I1 n1) (mod_new C.g.mod I1 (Nat.le_refl _)))
   rw[List.length_cons]at z ⊢
   exact z
  refine run_make (dvs:=[]) mk (fn_offM C.g.mod F) (C.room hc) hb .nil never_xe I1 r fun a dx n1 n2 ne=>?_
  rw[List.append_nil]
  refine⟨hlen a,fun off=>q a dx n1 n2 ne off.new ?_⟩
  cases e:Γ.mod dx with
  | none=>rfl
  | some u=>
   have z:=off dx (by rw[e];intro z;cases z)
   rw[upd_ne ne,upd_same]at z
   cases z
 cases e:Γ.ocl x with
 | none=>rw[e]at hs;cases hs
 | some Ca=>
  obtain⟨fa,fd,ps,hm,mk,F,hb⟩:=C.g.own.ocl _ _ e
  refine wpAny_Call_Name_kw (ld_glob I hg hm ?_ (okName_of ho).1)
  cases es with
  | nil=>
   rw[h0 rfl]at h
   exact PySem.W.callWith_K0 I.kIn mk.kp (run (us:=[]) e I .nil h)
  | cons e' es=>
   refine PySem.W.callWith_K (h₀:=X.base) I.ok.mod.kin mk.kp (thn (ha pos pins s σ H _ I h) fun us s1 ⟨vs,H1,I1,r,q⟩=>⟨I1.kIn,?_⟩) (star_cons (hp e' List.mem_cons_self)) (plain_any fun e he=>hp e (List.mem_cons_of_mem _ he))
   exact run e I1 r q
theorem pe_omth {X:Cx} {Γ:Gam} {sc:Scope} {k:Nat} {m:Str} {o:Expr} {es:List Expr} {apos cpos:Pos} {to:TE} {t:TA} (C:Ctx X Γ sc k) (ho:PE X o to) (hn:noCall0 o=true) (hl:(apos.endLine == cpos.line)=true) (hf:es.length < 20) (ha:PA X es t) (hp:∀e' ∈ es,plainE e'=true) (h0:es=[]->t=fun _ H Q=>Q [] H):
  PE X (.Call (.Attribute o m apos) es [] cpos) (fun σ H Q=>Γ.cm=true/\to σ H fun x H1=>omthV Γ m x H1 fun p Ca=>t σ H1 fun vs H2=>Γ.omt Ca m (.ref p::vs) H2 Q fun _ _ _=>False):=by
 intro pins s σ H Q I ⟨hc,h⟩
 have hfew:methodCallForm (es.length + ([]:List Keyword).length) (backTo cpos (starEach es X.env)) (backToKw cpos (keywordEach [] X.env))=true:=by
  show((backTo cpos (starEach es X.env)).all (fun x=>!x.1) && (backToKw cpos (keywordEach [] X.env)).all (fun x=>x.1.isSome) && decide (es.length + ([]:List Keyword).length + (if([]:List Keyword).isEmpty then 0 else 1) < 30))=true
  rw[plain_all hp]
  simp only[Bool.true_and]
  rw[Bool.and_eq_true]
  refine⟨rfl,decide_eq_true ?_⟩
  simp at hf ⊢
  omega
 have hpos:methodCallPos true o X.env apos cpos=pure cpos:=by unfold methodCallPos;simp[hl]
 rw[arm_eval_Call,base_of hn]
 refine wpAny_bind (thn (ho pins s σ H _ I h) fun u s1 ⟨x,H1,I1,rx,q⟩=>?_)
 refine wpAny_bind (wpAny_standAt ?_)
 unfold methodCall
 rw[hfew]
 cases x with
 | ref p=>
  cases rx
  unfold omthV at q
  dsimp only at q
  split at q
  ·rename_i e
   obtain⟨⟨q1,q2⟩,q3⟩:=q
   obtain⟨fa,fd,ps,c,hm,F,hb⟩:=C.g.own.omt _ _ q1
   refine wpAny_bind (wpAny_holding (getmeth_ok I1 e c hm q2 ?_))
   refine wpAny_bind (wpAny_of_eq hpos ?_)
   have hr:=(C.room hc).mono (Nat.le_succ _)
   cases es with
   | nil=>
    rw[h0 rfl]at q3
    exact PySem.W.callWith_K0 (first:=[.ref p]) I1.kIn hm.kp (run_fn (us:=[.ref p]) (vs:=[.ref p]) (dvs:=[]) F hr hb .nil never_xe I1 (.cons rfl .nil) (by rw[List.append_nil];exact q3))
   | cons e' es=>
    refine PySem.W.callWith_K (first:=[.ref p]) (h₀:=X.base) I.ok.mod.kin hm.kp (thn (ha cpos pins s1 σ H1 _ I1 q3) fun us s2 ⟨vs,H2,I2,r,q4⟩=>⟨I2.kIn,?_⟩) (star_cons (hp e' List.mem_cons_self)) (plain_any fun e he=>hp e (List.mem_cons_of_mem _ he))
    exact run_fn (us:=.ref p::us) (vs:=.ref p::vs) (dvs:=[]) F hr hb .nil never_xe I2 (.cons rfl r) (by rw[List.append_nil];exact q4)
  ·exact q.elim
 | _=>exact q.elim
mutual
theorem sE:(e:Ex)->∀ {X:Cx} {sc:Scope} {Ξ:XS} {ast:Expr},Ctx X Γ sc k->XOk X Ξ->oE sc X.N e ast=true->PE X (bE X.N e ast) (wE Γ e Ξ)
 | .var i=>fun C xo h=>pe_varG C (a2 h).1 (a2 (a2 h).2)
 | .con v=>fun C xo h=>pe_conV h
 | .bin op a b=>fun C xo h=>pe_op (bin_ok C.g.mod op) (sE a C xo (a2 h).1) (sE b C xo (a2 h).2)
 | .neg a=>fun C xo h=>pe_un un_negV (sE a C xo h)
 | .cmp op a b=>fun C xo h=>pe_cmpR (cmp_ok C.un C.g.mod op) (sE a C xo (a2 h).1) (sE b C xo (a2 h).2) (one_marks (bE_plain b))
 | .and a b=>fun C xo h=>row_and (P:=fun e=>PE _ e (wE Γ (.and a b) _)) (a2 h).2
   (fun h2=>pe_andV C.g.mod (sE a C xo (a2 h).1) (pe_one (sE b C xo h2)))
   (fun h2 x r e=>pe_andV C.g.mod (sE a C xo (a2 h).1) (e ▸ sE b C xo h2))
 | .or a b=>fun C xo h=>row_or (P:=fun e=>PE _ e (wE Γ (.or a b) _)) (a2 h).2
   (fun h2=>pe_orV C.g.mod (sE a C xo (a2 h).1) (pe_one (sE b C xo h2)))
   (fun h2 x r e=>pe_orV C.g.mod (sE a C xo (a2 h).1) (e ▸ sE b C xo h2))
 | .not a=>fun C xo h=>pe_notV C.g.mod (sE a C xo h)
 | .ite c a b=>fun C xo h=>pe_ifExp (sT c C xo (a2 h).1) (sE a C xo (a2 (a2 h).2).1) (sE b C xo (a2 (a2 h).2).2)
 | .call f args=>fun C xo h=>pe_callG C xo (C.gl _ (a2 (a2 h).1).1) (a2 (a2 h).1).2 (sEs args C xo (a2 h).2) (bEs_plain args) (nil_of args)
 | .blt f args=>fun C xo h=>pe_bltN C (a2 (a2 h).1).1 (a2 (a2 h).1).2 (by rw[bEs_len];exact of_decide_eq_true (a2 (a2 (a2 h).2).1).2) (sEs args C xo (a2 (a2 h).2).2) (bEs_plain args)
 | .mth m o args=>fun C xo h=>pe_mthN C.g.mod (sE o C xo (a2 (a2 (a2 h).2).2).1) (a2 (a2 h).1).1 (a2 (a2 h).1).2 (by rw[bEs_len];exact of_decide_eq_true (a2 (a2 h).2).1) (sEs args C xo (a2 (a2 (a2 h).2).2).2) (bEs_plain args) (nil_of args)
 | .isin a T=>fun C xo h=>pe_isinG C (C.gl _ (a2 (a2 h).1).1) (sE a C xo (a2 h).2) (bE_plain a) (C.gl _ (a2 (a2 (a2 h).1).2).1) (a2 (a2 (a2 h).1).2).2
 | .idx a b=>fun C xo h=>pe_ix (idx_ok C.g.mod) (sE a C xo (a2 h).1) (sE b C xo (a2 h).2) (plain_ix (bE_plain b))
 | .slc a lo hi=>fun C xo h=>pe_slice (slc_ok C.g.mod) (sE a C xo (a2 h).1) (sP lo C xo (a2 (a2 h).2).1) (sP hi C xo (a2 (a2 h).2).2)
 | .tup es=>fun C xo h=>pe_tupM C.g.mod (sEs es C xo h)
 | .lst es=>fun C xo h=>pe_lstM C.g.mod (sEs es C xo h)
 | .dic kvs=>fun C xo h=>pe_dicN C.g.mod (sD kvs C xo (a2 h).2) (by rw[bEs_len];exact of_decide_eq_true (a2 (a2 h).1).1) (by rw[bEs_len];exact of_decide_eq_true (a2 (a2 h).1).2)
 | .comp x fv it elt ifs=>fun C xo h pins s σ H Q I q=>
  pe_compW (Γ:=Γ) (el:=elt) C.g.mod (C.calm q.1) C.top xo C.cf (a2 (a2 h).1).1 (sI it C xo (a2 (a2 h).2).1)
   (fun σ X' c xc=>cN (P:=fun N=>PE X' (bE N elt _) _) c.N (sE elt (C.comp c q.1) xc (cN (P:=fun N=>oE _ N elt _=true) c.N.symm (a2 (a2 (a2 h).2).2).1)))
   (fun X' c=>cN (P:=fun N=>PTs X' (bEs N ifs _) _) c.N (sTs ifs (C.comp c q.1) XOk.no (cN (P:=fun N=>oEs _ N ifs _=true) c.N.symm (a2 (a2 (a2 h).2).2).2) (of_decide_eq_true (a2 (a2 h).1).2)))
   (plain_fold (bI_plain it)) pins s σ H Q I q.2
 | .cmpD op a b=>fun C xo h=>pe_cmpR (cmpD_ok C.un C.g.mod op) (sE a C xo (a2 h).1) (sE b C xo (a2 h).2) (one_marks (bE_plain b))
 | .idxD a b=>fun C xo h=>pe_ix (idxD_ok C.g.mod) (sE a C xo (a2 h).1) (sE b C xo (a2 h).2) (plain_ix (bE_plain b))
 | .dnew=>fun C xo h=>pe_dnewM C.g.mod
 | .lset a=>fun C xo h pins s σ H Q I q=>pe_lset (C.calm q.1) C.g.mod (C.gl _ (a2 (a2 h).1).1) (C.g.no _ (by decide +kernel)) (C.gl _ (a2 (a2 h).1).2) (C.g.no _ (by decide +kernel)) (sE a C xo (a2 h).2) (bE_plain a) pins s σ H Q I q.2
 | .cmpI op a b=>fun C xo h=>pe_cmpR (cmpI_ok C.un C.g.mod op) (sE a C xo (a2 h).1) (sE b C xo (a2 h).2) (one_marks (bE_plain b))
 | .lrev a=>fun C xo h pins s σ H Q I q=>pe_lrev (C.calm q.1) C.g.mod (C.gl _ (a2 (a2 h).1).1) (C.g.no _ (by decide +kernel)) (C.gl _ (a2 (a2 h).1).2) (C.g.no _ (by decide +kernel)) (sE a C xo (a2 h).2) (bE_plain a) pins s σ H Q I q.2
 | .dcop a=>fun C xo h pins s σ H Q I q=>pe_dcop C.g.mod (C.gl _ (a2 h).1) (C.g.no _ (by decide +kernel)) (sE a C xo (a2 h).2) (bE_plain a) pins s σ H Q I q.2
 | .compE xs fv a elt ifs=>fun C xo h pins s σ H Q I q=>
  pe_compEW (Γ:=Γ) (el:=elt) C.g.mod (C.calm q.1) C.top xo C.cf (a2 (a2 h).1).1 (of_decide_eq_true (a2 (a2 (a2 h).1).2).1) (C.gl _ (a2 (a2 h).2).1) (C.g.no _ (by decide +kernel)) (sE a C xo (a2 (a2 (a2 h).2).2).1) (bE_plain a)
   (fun σ X' c xc=>cN (P:=fun N=>PE X' (bE N elt _) _) c.N (sE elt (C.comp c q.1) xc (cN (P:=fun N=>oE _ N elt _=true) c.N.symm (a2 (a2 (a2 (a2 h).2).2).2).1)))
   (fun X' c=>cN (P:=fun N=>PTs X' (bEs N ifs _) _) c.N (sTs ifs (C.comp c q.1) XOk.no (cN (P:=fun N=>oEs _ N ifs _=true) c.N.symm (a2 (a2 (a2 (a2 h).2).2).2).2) (of_decide_eq_true (a2 (a2 (a2 h).1).2).2))) pins s σ H Q I q.2
 | .ofld a f=>fun C xo h=>pe_ofld C (a2 h).1 (sE a C xo (a2 h).2)
 | .onew x args=>fun C xo h=>pe_onew C (C.gl _ (a2 (a2 h).1).1) (a2 (a2 h).1).2 (sEs args C xo (a2 h).2) (bEs_plain args) (nil_of args)
 | .omth m o args=>fun C xo h=>pe_omth C (sE o C xo (a2 (a2 (a2 h).2).2).1) (a2 (a2 h).1).1 (a2 (a2 h).1).2 (by rw[bEs_len];exact of_decide_eq_true (a2 (a2 h).2).1) (sEs args C xo (a2 (a2 (a2 h).2).2).2) (bEs_plain args) (nil_of args)
theorem sT:(e:Ex)->∀ {X:Cx} {sc:Scope} {Ξ:XS} {ast:Expr},Ctx X Γ sc k->XOk X Ξ->oE sc X.N e ast=true->PT X (bE X.N e ast) (wT Γ e Ξ)
 | .and a b=>fun C xo h=>row_and (P:=fun e=>PT _ e (wT Γ (.and a b) _)) (a2 h).2
   (fun h2=>PW.pt (pw_and (sT a C xo (a2 h).1) (pw_and1 (sT b C xo h2))))
   (fun h2 x r e=>PW.pt (pw_and (sT a C xo (a2 h).1) fun _=>(show PT _ (.BoolOp .And (x::r) _) (wT Γ b _)from e ▸ sT b C xo h2)))
 | .or a b=>fun C xo h=>row_or (P:=fun e=>PT _ e (wT Γ (.or a b) _)) (a2 h).2
   (fun h2=>PW.pt (pw_or (sT a C xo (a2 h).1) (pw_or1 (sT b C xo h2))))
   (fun h2 x r e=>PW.pt (pw_or (sT a C xo (a2 h).1) fun _=>(show PT _ (.BoolOp .Or (x::r) _) (wT Γ b _)from e ▸ sT b C xo h2)))
 | .not a=>fun C xo h=>pt_not (sT a C xo h)
 | .ite c a b=>fun C xo h=>pt_ite (sT c C xo (a2 h).1) (sT a C xo (a2 (a2 h).2).1) (sT b C xo (a2 (a2 h).2).2)
 | .cmp op a b=>fun C xo h=>pt_cmpR (cmp_ok C.un C.g.mod op) (sE a C xo (a2 h).1) (sE b C xo (a2 h).2) (one_marks (bE_plain b))
 | .var i=>fun C xo h=>pt_val C (sE (.var i) C xo h) (fun _=>rfl) fun σ H Q q=>q
 | .call f args=>fun C xo h=>pt_val C (sE (.call f args) C xo h) (fun _=>rfl) fun σ H Q q=>q
 | .blt f args=>fun C xo h=>pt_val C (sE (.blt f args) C xo h) (fun _=>rfl) fun σ H Q q=>q
 | .mth m o args=>fun C xo h=>pt_val C (sE (.mth m o args) C xo h) (fun _=>rfl) fun σ H Q q=>q
 | .isin a T=>fun C xo h=>pt_val C (sE (.isin a T) C xo h) (fun _=>rfl) fun σ H Q q=>by cases T<;>exact q
 | .idx a b=>fun C xo h=>pt_val C (sE (.idx a b) C xo h) (fun _=>rfl) fun σ H Q q=>q
 | .con v=>fun C xo h=>pt_val C (sE (.con v) C xo h) (fun _=>rfl) fun σ H Q q=>q
 | .bin op a b=>fun C xo h=>PT.never fun σ H Q q=>q
 | .neg a=>fun C xo h=>PT.never fun σ H Q q=>q
 | .slc a lo hi=>fun C xo h=>PT.never fun σ H Q q=>q
 | .tup es=>fun C xo h=>PT.never fun σ H Q q=>q
 | .lst es=>fun C xo h=>PT.never fun σ H Q q=>q
 | .dic es=>fun C xo h=>PT.never fun σ H Q q=>q
 | .comp x fv it elt ifs=>fun C xo h=>PT.never fun σ H Q q=>q
 | .cmpD op a b=>fun C xo h=>pt_cmpR (cmpD_ok C.un C.g.mod op) (sE a C xo (a2 h).1) (sE b C xo (a2 h).2) (one_marks (bE_plain b))
 | .idxD a b=>fun C xo h=>PT.never fun σ H Q q=>q
 | .dnew=>fun C xo h=>PT.never fun σ H Q q=>q
 | .lset a=>fun C xo h=>PT.never fun σ H Q q=>q
 | .cmpI op a b=>fun C xo h=>pt_cmpR (cmpI_ok C.un C.g.mod op) (sE a C xo (a2 h).1) (sE b C xo (a2 h).2) (one_marks (bE_plain b))
 | .lrev a=>fun C xo h=>PT.never fun σ H Q q=>q
 | .dcop a=>fun C xo h=>PT.never fun σ H Q q=>q
 | .compE xs fv a elt ifs=>fun C xo h=>PT.never fun σ H Q q=>q
 | .ofld a f=>fun C xo h=>PT.never fun σ H Q q=>q
 | .onew x args=>fun C xo h=>PT.never fun σ H Q q=>q
 | .omth m o args=>fun C xo h=>PT.never fun σ H Q q=>q
theorem sP:(es:Exs)->∀ {X:Cx} {sc:Scope} {Ξ:XS} {ast:Expr},Ctx X Γ sc k->XOk X Ξ->oEs sc X.N es [ast]=true->PO X (bEs X.N es [ast]).head? (wP Γ es Ξ)
 | .nil=>fun C xo h=>po_none
 | .cons e .nil=>fun C xo h=>po_int (sE e C xo (a2 h).1)
 | .cons e (.cons f r)=>fun C xo h pins s σ H Q I q=>False.elim q
theorem sTs:(es:Exs)->∀ {X:Cx} {sc:Scope} {Ξ:XS} {asts:List Expr},Ctx X Γ sc k->XOk X Ξ->oEs sc X.N es asts=true->es.len<=1->PTs X (bEs X.N es asts) (wTs Γ es Ξ)
 | .nil=>fun C xo h hl=>pts_nil
 | .cons e .nil=>fun C xo h hl=>pts_one (sT e C xo (a2 h).1)
 | .cons e (.cons _ r)=>fun C xo h hl=>absurd (Nat.le_of_succ_le_succ hl) (Nat.not_succ_le_zero _)
theorem sI:(it:Ix)->∀ {X:Cx} {sc:Scope} {Ξ:XS} {tg ast:Expr},Ctx X Γ sc k->XOk X Ξ->oI sc X.N it ast=true->PI X tg (bI X.N it ast) (iSeq (wI Γ it Ξ))
 | .ex e=>fun C xo h pins s σ H R I ⟨kk,hw,hk⟩=>
  thn (sE e C xo h pins s σ H _ I hw) fun v s1 ⟨x,H1,I1,r1,q1⟩=>pi_val C.g.mod I1 r1 (iterV_mono q1 fun xs stay q J sq=>hk J xs stay H1 sq q)
 | .rng1 a=>fun C xo h=>pi_rng1 (C.gl _ (a2 h).1) (C.g.no _ in_range) (sE a C xo (a2 h).2) (bE_plain a)
theorem sD:(es:Exs)->∀ {X:Cx} {sc:Scope} {Ξ:XS} {pos:Pos} {as:List Expr},Ctx X Γ sc k->XOk X Ξ->oEs sc X.N es as=true->PD X pos ((evs (bEs X.N es as)).map some) (ods (bEs X.N es as)) (wD Γ es Ξ)
 | .nil=>fun C xo h=>pd_nil
 | .cons a .nil=>fun C xo h pins s σ H Q I q=>False.elim q
 | .cons a (.cons b r)=>fun C xo h=>pd_cons (sE a C xo (a2 h).1) (sE b C xo (a2 (a2 h).2).1) (sD r C xo (a2 (a2 h).2).2)
theorem sEs:(es:Exs)->∀ {X:Cx} {sc:Scope} {Ξ:XS} {asts:List Expr},Ctx X Γ sc k->XOk X Ξ->oEs sc X.N es asts=true->PA X (bEs X.N es asts) (wEs Γ es Ξ)
 | .nil=>fun C xo h=>pa_nil
 | .cons e r=>fun C xo h=>pa_cons (sE e C xo (a2 h).1) (sEs r C xo (a2 h).2) (star_cons (bE_plain e))
end
end
end Sw
namespace Sw
open PySem PySem.Spec PyProof.Rows L2
open PySem.W (Frag keepIn ktsIn mroIn kitOne)
structure SCtx (X:Cx) (Γ:Gam) (sc:Scope) (k:Nat):Prop extends Ctx X Γ sc k where
 nd:X.N.Nodup
 loc:∀x,isLoc sc x=true->Loc X.env.scope x/\(X.fn x=true\/X.env.scope.names.lookup x=some .local)
 lcl:∀x,sc.names.lookup x=some .local->X.env.scope.names.lookup x=some .local
 stk:X.stack=X.env::X.outer/\X.env.frame=some X.env.locals
 ru:RoomU (k + 1) X.A
 ih:Γ.hd=true->InHand X
section
variable {X:Cx} {Γ:Gam} {sc:Scope} {k:Nat}
theorem SCtx.nox (C:SCtx X Γ sc k):SCtx X.nox Γ sc k:=⟨⟨C.g,C.room,C.calm,C.un,C.vis,C.gl,C.cf,C.top⟩,C.nd,C.loc,C.lcl,C.stk,C.ru,C.ih⟩
theorem PS.nox {st:Stmt} {t:TS} (h:PS X.nox st t):PS X st t:=fun pins s σ H D I hw=>
 wpAny_mono (h pins s σ H D (I.wish _) hw) (fun _ _ q=>q.unwish) fun _ _ z=>False.elim z
theorem PS.of {st:Stmt} {t t':TS} (h:PS X st t) (i:∀D σ H,t' D σ H->t D σ H):PS X st t':=fun pins s σ H D I q=>h pins s σ H D I (i D σ H q)
theorem no_swap {e:Expr} {t:Option Expr} {n:Nat} {env:Env} (h:notComp e=true):swapsWith e t n env=pure false:=by
 cases e<;>first | rfl | cases h
theorem for_seq {i:Nat} {tb:TS} {J:It} {xs:List V} {stay:Hp->Prop} {D:Ends} {σ:L2.St} {H:Hp} (sq:SeqIt J xs stay) (h:forW i tb stay xs D σ H):
  ∃W:Nat->Nat->L2.St->Hp->Prop,(∃ m,W 0 m σ H)/\∀n m σ H,W n m σ H->
   (J.stop n H/\D.nx σ H)\/(J.go n H/\∃N:L2.St->Hp->Prop,(∀ σ' H',N σ' H'->∃m',m' < m/\W (n + 1) m' σ' H')/\∀x H',J.yld n H x H'->gName i x σ H' fun σ2 H2=>tb {D with nx:=N,ct:=N,bk:=D.nx} σ2 H2):=by
 refine⟨fun n m σ H=>m=xs.length - n/\n<=xs.length/\forW i tb stay (xs.drop n) D σ H,⟨xs.length,by simp,Nat.zero_le _,by simpa using h⟩,?_⟩
 rintro n m σ H ⟨rfl,hn,hw⟩
 cases e:xs.drop n with
 | nil=>
  rw[e]at hw
  have hle:xs.length<=n:=by simpa using e
  exact .inl ⟨sq.stop n H hw.1 hle,hw.2⟩
 | cons v r=>
  rw[e]at hw
  have hlt:n < xs.length:=by
   have:=congrArg List.length e
   simp at this
   omega
  have hvi:xs[n]?=some v:=by
   have:=congrArg (fun l=>l[0]?) e
   simpa using this
  have hdr:xs.drop (n + 1)=r:=by
   have:=congrArg List.tail e
   simpa[List.tail_drop]using this
  refine .inr ⟨sq.go n H hw.1 hlt,forW i tb stay r D,fun σ' H' z=>⟨xs.length - (n + 1),by omega,rfl,hlt,by rw[hdr];exact z⟩,fun x H' y=>?_⟩
  obtain⟨eH,ev⟩:=sq.yld n H x H' hlt y hw.1
  subst eH
  rw[hvi]at ev
  obtain rfl:v=x:=Option.some.inj ev
  exact hw.2
end
section
variable {X:Cx} {Γ:Gam} {sc:Scope} {k:Nat} {M:Mo}
theorem stoV_ok (hu:X.A.units + 64 < cLine):PSet X (fun x k v H Q=>stoV x k v H Q):=by
 intro pins s σ H o i v ov iv u Q I ro ri rv h
 unfold stoV at h
 cases o with
 | ref p=>
  dsimp only at h
  split at h
  ·rename_i xs e
   cases i with
   | int j=>
    dsimp only at h
    split at h
    ·rename_i n en
     exact set_list pins s σ H _ _ v ov iv u Q I ro ri rv ⟨_,_,_,_,rfl,rfl,e,en,h⟩
    ·exact h.elim
   | _=>exact h.elim
  ·rename_i kvs e
   split at h
   ·rename_i kk ek
    cases (show ov=Value.ref p from ro)
    have ei:=keyOf_kV ek
    subst ei
    exact d_setItem (by omega) I (DPut.k e h.1) ri rv fun s' I'=>⟨_,I',h.2⟩
   ·exact h.elim
  ·exact h.elim
 | _=>exact h.elim
theorem ps_sto {o i value:Expr} {to ti tv:TE} {pos pos':Pos} (hu:X.A.units + 64 < cLine) (ho:PE X o to) (hi:PE X i ti) (hv:PE X value tv) (hs:swapsWith value (some (.Subscript o i pos')) pos.line X.env=pure false):
  PS X (.Assign [.Subscript o i pos'] value pos) (fun D σ H=>tv σ H fun v H1=>to σ H1 fun x H2=>ti σ H2 fun k H3=>stoV x k v H3 (D.nx σ)):=by
 intro pins s σ H D I h
 refine wpAny_Assign_Subscript (thn (hv pins s σ H _ I h) fun r s1 ⟨v,H1,I1,rv,q1⟩=>thn (ho pins s1 σ H1 _ I1 q1) fun u s2 ⟨x,H2,I2,rx,q2⟩=>thn (hi pins s2 σ H2 _ I2 q2) fun iv s3 ⟨y,H3,I3,ry,q3⟩=>?_) hs
 exact thn (stoV_ok hu pins s3 σ H3 x y v u iv r _ I3 rx ry rv q3) fun _ s4 ⟨H4,I4,q4⟩=>⟨σ,H4,I4,q4⟩
theorem ps_oset {Γ:Gam} {sc:Scope} {k:Nat} {o value:Expr} {to tv:TE} {f:Str} {pos pos':Pos} (C:Ctx X Γ sc k) (ha:PE X o to) (hv:PE X value tv) (hs:swapsWith value (some (.Attribute o f pos')) pos.line X.env=pure false):
  PS X (.Assign [.Attribute o f pos'] value pos) (fun D σ H=>tv σ H fun v H1=>to σ H1 fun x H2=>osetV Γ x f v H2 (D.nx σ)):=by
 intro pins s σ H D I h
 refine plainObj_wpAny_Assign_Attribute (thn (hv pins s σ H _ I h) fun u s1 ⟨y,H1,I1,ry,q⟩=>thn (ha pins s1 σ H1 _ I1 q) fun ov s2 ⟨x,H2,I2,rx,q2⟩=>?_) hs
 cases x with
 | ref p=>
  cases rx
  unfold osetV at q2
  dsimp only at q2
  split at q2
  ·rename_i e
   obtain⟨⟨q3,q4⟩,q5⟩:=q2
   obtain⟨c,n⟩:=C.g.own.ofl _ _ q3
   exact setattr_ok I2 e c n q4 ry fun s3 I3=>⟨σ,_,I3,q5⟩
  ·exact q2.elim
 | _=>exact q2.elim
end
section
variable {X:Cx} {Γ:Gam} {sc:Scope} {k:Nat} {M:Mo}
end
theorem comp_b {N:List Str} {e:Ex} {a:Expr} (h:(!isComp e)=true):notComp (bE N e a)=true:=by
 cases e<;>first | rfl | cases h
section
variable {X:Cx} {Γ:Gam} {sc:Scope} {k:Nat} {Ξ:XS}
theorem ps_asgC {i:Nat} {x:Str} {fv:List (Str × Nat)} {it:Ix} {el:Ex} {ifs:Exs} {tp pos:Pos} {a:Expr} (C:SCtx X Γ sc k) (xo:XOk X Ξ) (h1:X.N[i]?=some (nx X.N i)) (h2:isLoc sc (nx X.N i)=true) (h3:usedOk sc (csc a) (nx X.N i) tp a.pos=true) (h:oE sc X.N (.comp x fv it el ifs) a=true):
  PS X (.Assign [.Name (nx X.N i) tp] (bE X.N (.comp x fv it el ifs) a) pos) (wS (.asg i (.comp x fv it el ifs)) Γ Ξ):=by
 obtain⟨k1,k0⟩:=a2 h3
 obtain⟨k2,k3⟩:=a2 k0
 have k1:=of_decide_eq_true k1
 have k3:=(Bool.not_eq_true' _).mp k3
 intro pins s σ H D I ⟨hc,q⟩
 refine ps_setC (te:=fun σ=>wE Γ el fun C d _ H'=>Ξ C d σ H') C.g.mod (C.calm hc) C.toCtx.top xo C.cf (a2 (a2 h).1).1 (sI _ _ it C.toCtx xo (a2 (a2 h).2).1)
   (fun σ X' c xc=>cN (P:=fun N=>PE X' (bE N el _) _) c.N (sE _ _ el (C.toCtx.comp c hc) xc (cN (P:=fun N=>oE _ N el _=true) c.N.symm (a2 (a2 (a2 h).2).2).1)))
   (fun X' c=>cN (P:=fun N=>PTs X' (bEs N ifs _) _) c.N (sTs _ _ ifs (C.toCtx.comp c hc) XOk.no (cN (P:=fun N=>oEs _ N ifs _=true) c.N.symm (a2 (a2 (a2 h).2).2).2) (of_decide_eq_true (a2 (a2 h).1).2)))
   (plain_fold (bI_plain it)) C.nd h1 (C.loc _ h2).1 (C.loc _ h2).2 ?_ pins s σ H D I q
 have e1:(X.env.kindOf (nx X.N i) == some .local)=true:=by
  have:=C.lcl _ k1
  show(X.env.scope.names.lookup (nx X.N i) == some .local)=true
  rw[this];rfl
 have e2:(X.env.blockKind == .function)=true:=by
  unfold Env.blockKind
  rw[I.ok.kind];rfl
 show(pure (X.env.blockKind == .function && X.env.kindOf (nx X.N i) == some .local && tp.line == a.pos.line && !((csc a).names.any fun(n,k)=>n == nx X.N i && (k == .local || k == .cell))):Sem Bool)=_
 rw[e1,e2,k2,k3]
 rfl
theorem ps_asgN {i:Nat} {xs:List Str} {fv:List (Str × Nat)} {ea el:Ex} {ifs:Exs} {tp pos:Pos} {a:Expr} (C:SCtx X Γ sc k) (xo:XOk X Ξ) (h1:X.N[i]?=some (nx X.N i)) (h2:isLoc sc (nx X.N i)=true) (h3:usedOk sc (csc a) (nx X.N i) tp a.pos=true) (h:oE sc X.N (.compE xs fv ea el ifs) a=true):
  PS X (.Assign [.Name (nx X.N i) tp] (bE X.N (.compE xs fv ea el ifs) a) pos) (wS (.asg i (.compE xs fv ea el ifs)) Γ Ξ):=by
 obtain⟨k1,k0⟩:=a2 h3
 obtain⟨k2,k3⟩:=a2 k0
 have k1:=of_decide_eq_true k1
 have k3:=(Bool.not_eq_true' _).mp k3
 intro pins s σ H D I ⟨hc,q⟩
 refine ps_setE (te:=fun σ=>wE Γ el fun C d _ H'=>Ξ C d σ H') C.g.mod (C.calm hc) C.toCtx.top xo C.cf (a2 (a2 h).1).1 (of_decide_eq_true (a2 (a2 (a2 h).1).2).1) (C.toCtx.gl _ (a2 (a2 h).2).1) (C.g.no _ (by decide +kernel)) (sE _ _ ea C.toCtx xo (a2 (a2 (a2 h).2).2).1) (bE_plain ea)
   (fun σ X' c xc=>cN (P:=fun N=>PE X' (bE N el _) _) c.N (sE _ _ el (C.toCtx.comp c hc) xc (cN (P:=fun N=>oE _ N el _=true) c.N.symm (a2 (a2 (a2 (a2 h).2).2).2).1)))
   (fun X' c=>cN (P:=fun N=>PTs X' (bEs N ifs _) _) c.N (sTs _ _ ifs (C.toCtx.comp c hc) XOk.no (cN (P:=fun N=>oEs _ N ifs _=true) c.N.symm (a2 (a2 (a2 (a2 h).2).2).2).2) (of_decide_eq_true (a2 (a2 (a2 h).1).2).2)))
   C.nd h1 (C.loc _ h2).1 (C.loc _ h2).2 ?_ pins s σ H D I q
 have e1:(X.env.kindOf (nx X.N i) == some .local)=true:=by
  have:=C.lcl _ k1
  show(X.env.scope.names.lookup (nx X.N i) == some .local)=true
  rw[this];rfl
 have e2:(X.env.blockKind == .function)=true:=by
  unfold Env.blockKind
  rw[I.ok.kind];rfl
 show(pure (X.env.blockKind == .function && X.env.kindOf (nx X.N i) == some .local && tp.line == a.pos.line && !((csc a).names.any fun(n,k)=>n == nx X.N i && (k == .local || k == .cell))):Sem Bool)=_
 rw[e1,e2,k2,k3]
 rfl
theorem ps_asgE {i:Nat} {e:Ex} {tp pos:Pos} {a:Expr} (C:SCtx X Γ sc k) (xo:XOk X Ξ) (hi:decide (i < X.N.length)=true) (hl:isLoc sc (nx X.N i)=true) (hu:(!isComp e || usedOk sc (csc a) (nx X.N i) tp a.pos)=true) (he:oE sc X.N e a=true):
  PS X (.Assign [.Name (nx X.N i) tp] (bE X.N e a) pos) (wS (.asg i e) Γ Ξ):=by
 rcases Bool.or_eq_true_iff.mp hu with hu | hu
 ·exact ps_set C.nd (nx_get hi) (C.loc _ hl).1 (sE _ _ e C.toCtx xo he) (no_swap (comp_b hu)) (C.loc _ hl).2
 ·cases hq:isComp e with
  | false=>exact ps_set C.nd (nx_get hi) (C.loc _ hl).1 (sE _ _ e C.toCtx xo he) (no_swap (comp_b (by rw[hq];rfl))) (C.loc _ hl).2
  | true=>cases e<;>first | exact ps_asgC C xo (nx_get hi) hl (by assumption) he | exact ps_asgN C xo (nx_get hi) hl (by assumption) he | (cases hq;done)
end
mutual
theorem sS:(st:Sx)->∀ {X:Cx} {Γ:Gam} {sc:Scope} {k:Nat} {Ξ:XS} {ast:Stmt},SCtx X Γ sc k->XOk X Ξ->oS sc X.N st ast=true->PS X (bS X.N st ast) (wS st Γ Ξ)
 | .asg i e=>fun C xo h=>ps_asgE C xo (a2 (a2 h).1).1 (a2 (a2 h).1).2 (a2 (a2 h).2).1 (a2 (a2 h).2).2
 | .exp e=>fun C xo h=>ps_expr (sE _ _ e C.toCtx xo (a2 h).2) (no_swap (comp_b (a2 h).1))
 | .ret e=>fun C xo h=>ps_ret (sE _ _ e C.toCtx xo h)
 | .iff c a b=>fun C xo h=>ps_if (sT _ _ c C.toCtx xo (a2 h).1) (sSs a C xo (a2 (a2 h).2).1) (sSs b C xo (a2 (a2 h).2).2)
 | .whl c b=>fun C xo h=>PS.nox (ps_while PassesOwn.never (sT _ _ c C.nox.toCtx XOk.no (a2 h).1) (sSs b C.nox XOk.no (a2 h).2))
 | .fr i it b=>fun C xo h pins s σ H D I q=>
  PS.nox (ps_for PassesOwn.never (C.calm q.1) (sI _ _ it C.nox.toCtx XOk.no (a2 (a2 h).2).1) (pg_name C.nd (nx_get (a2 (a2 h).1).1) (C.loc _ (a2 (a2 h).1).2).1 (C.loc _ (a2 (a2 h).1).2).2) (sSs b C.nox XOk.no (a2 (a2 h).2).2) (plain_fold (bI_plain it))) pins s σ H D I
   ⟨_,q.2,fun J xs stay H1 sq z=>for_seq sq z⟩
 | .oset o f e=>fun C xo h=>ps_oset C.toCtx (sE _ _ o C.toCtx xo (a2 (a2 h).2).1) (sE _ _ e C.toCtx xo (a2 (a2 h).2).2) (no_swap (comp_b (a2 h).1))
 | .sto o i e=>fun C xo h=>ps_sto C.un (sE _ _ o C.toCtx xo (a2 (a2 h).1).2) (sE _ _ i C.toCtx xo (a2 (a2 h).2).1) (sE _ _ e C.toCtx xo (a2 (a2 h).2).2) (no_swap (comp_b (a2 (a2 h).1).1))
theorem sSs:(ss:Sxs)->∀ {X:Cx} {Γ:Gam} {sc:Scope} {k:Nat} {Ξ:XS} {asts:List Stmt},SCtx X Γ sc k->XOk X Ξ->oSs sc X.N ss asts=true->PSs X (bSs X.N ss asts) (wSs ss Γ Ξ)
 | .nil=>fun C xo h=>pss_nil
 | .cons s r=>fun C xo h=>pss_cons (sS s C xo (a2 h).1) (sSs r C xo (a2 h).2)
end
theorem sB {X:Cx} {Γ:Gam} {sc:Scope} {k:Nat} {Ξ:XS} {ss:Sxs} {asts:List Stmt} (C:SCtx X Γ sc k) (xo:XOk X Ξ) (h:mSs sc X.N ss asts):PSs X asts (wSs ss Γ Ξ):=h.1 ▸ sSs ss C xo h.2
end Sw
namespace Sw
open PySem PySem.Spec PyProof.Rows L2
open PySem.W (Frag keepIn ktsIn mroIn kitOne)
noncomputable def spOf (Γ:Gam) (N:List Str) (n:Nat) (body:Sxs):Sp:=fun vs H Q E=>vs.length=n/\wSs body Γ (fun C d _ H'=>E C d H') {nx:=fun _ H'=>Q .non H',rt:=Q} (start N vs) H
section
variable {P:Program} {w:World} {K:Frag} {mg:Str->Option Value} {base:Heap} {Γ:Gam} {k:Nat}
theorem fn_spOf {x qual:Str} {st:Stmt} {f:Addr} {fd:FuncData} {N ps:List Str} {body:Sxs} (F:Fun K x qual st f fd) (S:FnScope N ps (defScope st)) (g:GOk P w K mg base Γ k) (hm:mSs (defScope st) N body (defBody st)) (hhd:Γ.hd=false):
  FnOk P w K mg base (CXW P w) (k + 2) f fd ps (spOf Γ N ps.length body):=by
 obtain⟨oc,od,kV,doc,pm,an,cdv,ct,osl,rfl,lk,hcd⟩:=F.ex
 refine fn_of lk hcd S (fun vs H Q E h=>h.1) fun A outer s H vs Q E hr hsp=>?_
 have C:SCtx (cxOf (CXW P w) P w K mg base N qual (defScope st) f cdv A outer s H E) Γ (defScope st) k:=by
  refine⟨⟨g,fun _=>hr,fun _=>rfl,hr.units,fun x h=>?_,fun x h=>?_,fun y h=>h,⟨_,_,_,rfl,rfl,rfl⟩⟩,S.nd,fun x h=>⟨?_,.inl rfl⟩,fun x h=>h,⟨rfl,rfl⟩,RoomU.of hr,fun h=>absurd (hhd.symm.trans h) Bool.false_ne_true⟩
  ·unfold isVis at h
   unfold Vis
   split at h<;>first | (rename_i e;first | exact .inl e | exact .inr (.inl e) | exact .inr (.inr e)) | cases h
  ·unfold isGl at h
   split at h<;>first | (rename_i e;exact e) | cases h
  ·unfold isLoc at h
   unfold L2.Loc
   split at h<;>first | (rename_i e;first | exact .inl e | exact .inr e) | cases h
 exact⟨_,sB C xok_def hm,hsp.2⟩
noncomputable def Gam.add (Γ:Gam) (f:Str) (sp:Sp):Gam:={Γ with has:=fun x=>decide (x=f) || Γ.has x,fn:=fun x=>if x=f then sp else Γ.fn x}
theorem GOk.add {f:Str} {fa:Addr} {fd:FuncData} {ps:List Str} {sp:Sp} {j:Nat} (g:GOk P w K mg base Γ k) (hm:mg f=some (.ref fa)) (hk:keepIn K (.ref fa)=true) (F:FnOk P w K mg base (CXW P w) j fa fd ps sp) (hb:Binds K fd ps []) (h1:j<=k):
  GOk P w K mg base (Γ.add f sp) k:=by
 refine⟨g.mod,g.con,fun x hx=>?_,g.exc,g.no,g.sub,g.cat,g.fo,g.vc,g.gd,⟨g.own.ofl,g.own.omt,g.own.ocl,g.own.osb⟩⟩
 by_cases e:x=f
 ·subst e
  exact⟨fa,fd,ps,hm,hk,by show FnOk P w K mg base _ k fa fd ps (if x=x then sp else _);rw[if_pos rfl];exact F.mono h1,hb⟩
 ·have hx:(decide (x=f) || Γ.has x)=true:=hx
  rw[decide_eq_false e,Bool.false_or]at hx
  obtain⟨fa',fd',ps',h1,h2,h3,h4⟩:=g.fn x hx
  exact⟨fa',fd',ps',h1,h2,by show FnOk P w K mg base _ k fa' fd' ps' (if x=f then sp else _);rw[if_neg e];exact h3,h4⟩
theorem GOk.mono {j:Nat} (g:GOk P w K mg base Γ j) (h:j<=k):GOk P w K mg base Γ k:=
 ⟨g.mod,g.con,fun f hf=>let ⟨fa,fd,ps,h1,h2,h3,h4⟩:=g.fn f hf;⟨fa,fd,ps,h1,h2,h3.mono h,h4⟩,
  fun C c fs e=>let ⟨fI,f,fd,ps,h1,h2,h3,h4,h5,h6⟩:=g.exc C c fs e;⟨fI,f,fd,ps,h1,h2,h3,h4,h5.mono h,h6⟩,g.no,g.sub,g.cat,g.fo,g.vc.mono h,g.gd,g.own.mono h⟩
noncomputable def Off (K:Frag) (H:Hp):Prop:=∀b o,K.lookup b=some o->H b=none
theorem FnOk.off {CX:CXT} {f:Addr} {fd:FuncData} {ps:List Str} {sp sp':Sp} (F:FnOk P w K mg base CX k f fd ps sp) (len:∀vs H Q E,sp' vs H Q E->vs.length=ps.length) (h:∀vs H Q E,Off K H->sp' vs H Q E->sp vs H Q E):
  FnOk P w K mg base CX k f fd ps sp':=
 ⟨len,fun A outer s H args us vs Q E hr he hb hv hs=>F.run A outer s H args us vs Q E hr he hb hv (h _ _ _ _ (fun b o e=>(he.bs b o (he.mod.kin b o e)).2) hs)⟩
end
noncomputable def LstK (K:Frag) (a:Addr) (xs:List V):Prop:=∃ (o:Obj) (its:Array Value) (n:Nat),K.lookup a=some o/\o.cls=.type "list" /\o.dict=none/\o.data=.seq its n/\its.size<=sizeLine/\Vals xs its.toList
noncomputable def TupK (K:Frag) (a:Addr) (xs:List V):Prop:=∃ (o:Obj) (its:Array Value) (n:Nat),K.lookup a=some o/\o.cls=.type "tuple" /\o.data=.seq its n/\its.size<=sizeLine/\Vals xs its.toList
open Classical in
noncomputable def modK (K:Frag):Mo:=fun a=>if h:∃xs,LstK K a xs then some (.lst h.choose)else if h:∃xs,TupK K a xs then some (.tup h.choose)else none
theorem modK_ok (K:Frag):ModOk K (modK K):=by
 intro a o h
 unfold modK at h
 split at h
 ·rename_i z;cases h;exact z.choose_spec
 ·split at h
  ·rename_i z;cases h;exact z.choose_spec
  ·cases h
theorem modK_lst {K:Frag} {a:Addr} {xs:List V} (h:LstK K a xs):modK K a=some (.lst xs):=by
 have z:∃xs,LstK K a xs:=⟨xs,h⟩
 unfold modK
 rw[dif_pos z]
 obtain⟨o,its,n,h1,h2,h3,h4,h5,h6⟩:=h
 obtain⟨o',its',n',k1,k2,k3,k4,k5,k6⟩:=z.choose_spec
 rw[h1]at k1;cases k1
 rw[h4]at k4;cases k4
 rw[Vals.inj k6 h6]
theorem script_rd {K:Frag} {H:Hp} {a:Addr} {xs:List V} (off:Off K H) (h:SqL K H a xs):rd (modK K) H a=some (.lst xs):=by
 unfold rd
 rcases h with (h | ⟨o,h⟩) | h
 ·rw[h]
 ·rw[h]
 ·have z:LstK K a xs:=h
  obtain⟨o,_,_,h1,_⟩:=h
  rw[off a o h1]
  exact modK_lst z
end Sw
namespace Sw
open PySem PySem.Spec PyProof.Rows L2
open PySem.W (Frag keepIn)
noncomputable def Gam.wit (Γ:Gam) (l:List (Str × Sp)):Gam:={Γ with has:=fun x=>(l.lookup x).isSome || Γ.has x,fn:=fun x=>(l.lookup x).getD (Γ.fn x)}
section
variable {P:Program} {w:World} {K:Frag} {mg:Str->Option Value} {base:Heap} {Γ:Gam} {k:Nat}
theorem GOk.wit0 (g:GOk P w K mg base Γ k):GOk P w K mg base (Γ.wit []) k:=⟨g.mod,g.con,g.fn,g.exc,g.no,g.sub,g.cat,g.fo,g.vc,g.gd,⟨g.own.ofl,g.own.omt,g.own.ocl,g.own.osb⟩⟩
theorem GOk.wit1 {l:List (Str × Sp)} {f:Str} {fa:Addr} {fd:FuncData} {ps:List Str} {sp:Sp} {j:Nat} (g:GOk P w K mg base (Γ.wit l) k) (hm:mg f=some (.ref fa)) (hk:keepIn K (.ref fa)=true) (F:FnOk P w K mg base (CXW P w) j fa fd ps sp) (hb:Binds K fd ps []) (h1:j<=k):
  GOk P w K mg base (Γ.wit ((f,sp)::l)) k:=by
 refine⟨g.mod,g.con,fun x hx=>?_,g.exc,g.no,g.sub,g.cat,g.fo,g.vc,g.gd,⟨g.own.ofl,g.own.omt,g.own.ocl,g.own.osb⟩⟩
 have e:∀x,((f,sp)::l).lookup x=if x == f then some sp else l.lookup x:=fun x=>by
  rw[List.lookup_cons]
  cases x == f<;>rfl
 have hx:((((f,sp)::l).lookup x).isSome || Γ.has x)=true:=hx
 show ∃fa fd ps,_/\_/\FnOk P w K mg base (CXW P w) k fa fd ps ((((f,sp)::l).lookup x).getD (Γ.fn x))/\_
 rw[e]at hx ⊢
 by_cases q:x=f
 ·subst q
  rw[beq_self_eq_true,if_pos rfl]
  exact⟨fa,fd,ps,hm,hk,F.mono h1,hb⟩
 ·have q':(x == f)=false:=by simpa using q
  rw[q']at hx ⊢
  rw[if_neg Bool.false_ne_true]at hx ⊢
  exact g.fn x hx
end
section
variable {K:Frag} {x qual:Str} {st:Stmt} {f:Addr} {fd:FuncData}
@[reducible] noncomputable def bindsAs (x qual:Str) (st:Stmt) (ps:List Str) (us:List Value):Prop:=∀ (kV doc pm:Value) (an:Option Addr) (cdv ct:Value),bindArgs (PySem.W.fnOf x qual (defArgs st) (defBody st) (defScope st) .none kV doc pm an cdv ct) ⟨us,[]⟩=pure (ps.zip us)
theorem len_one {α:Type}:∀ {us:List α},us.length=1->∃a,us=[a]
 | [a],_=>⟨a,rfl⟩
theorem len_two {α:Type}:∀ {us:List α},us.length=2->∃a b,us=[a,b]
 | [a,b],_=>⟨a,b,rfl⟩
theorem len_three {α:Type}:∀ {us:List α},us.length=3->∃a b c,us=[a,b,c]
 | [a,b,c],_=>⟨a,b,c,rfl⟩
theorem binds_1 {p:Str} (F:Fun K x qual st f fd) (h:∀a,bindsAs x qual st [p] [a]):Binds K fd [p] []:=F.binds fun kV doc pm an cdv ct us hl=>by
 obtain⟨a,rfl⟩:=len_one hl
 exact h a kV doc pm an cdv ct
theorem binds_2 {p q:Str} (F:Fun K x qual st f fd) (h:∀a b,bindsAs x qual st [p,q] [a,b]):Binds K fd [p,q] []:=F.binds fun kV doc pm an cdv ct us hl=>by
 obtain⟨a,b,rfl⟩:=len_two hl
 exact h a b kV doc pm an cdv ct
theorem binds_3 {p q r:Str} (F:Fun K x qual st f fd) (h:∀a b c,bindsAs x qual st [p,q,r] [a,b,c]):Binds K fd [p,q,r] []:=F.binds fun kV doc pm an cdv ct us hl=>by
 obtain⟨a,b,c,rfl⟩:=len_three hl
 exact h a b c kV doc pm an cdv ct
end
end Sw
namespace Sw
open PySem PySem.Spec PyProof.Rows L2
theorem for_inv {i:Nat} {tb:TS} {stay:Hp->Prop} {D:Ends} {xs:List V} (Pv:Nat->L2.St->Hp->Prop) (st:∀n σ H,Pv n σ H->stay H)
  (step:∀n v σ H (D':Ends),xs[n]?=some v->Pv n σ H->(∀ σ' H',Pv (n + 1) σ' H'->D'.nx σ' H')->(∀ σ' H',Pv (n + 1) σ' H'->D'.ct σ' H')->D'.rt=D.rt->D'.bk=D.nx->tb D' (σ.set i (some v)) H)
  (fin:∀σ H,Pv xs.length σ H->D.nx σ H) {σ:L2.St} {H:Hp} (h0:Pv 0 σ H):forW i tb stay xs D σ H:=by
 have go:∀ (r:List V) (n:Nat),xs.drop n=r->n<=xs.length->∀σ H,Pv n σ H->forW i tb stay r D σ H:=by
  intro r
  induction r with
  | nil=>
   intro n e hn σ H p
   have:xs.length<=n:=by simpa using e
   have hn':n=xs.length:=by omega
   subst hn'
   exact⟨st _ σ H p,fin σ H p⟩
  | cons v r ih=>
   intro n e hn σ H p
   have hlt:n < xs.length:=by
    have:=congrArg List.length e
    simp at this
    omega
   have hv:xs[n]?=some v:=by
    have:=congrArg (fun l=>l[0]?) e
    simpa using this
   have hr:xs.drop (n + 1)=r:=by
    have:=congrArg List.tail e
    simpa[List.tail_drop]using this
   exact⟨st _ σ H p,step n v σ H _ hv p (fun σ' H' q=>ih (n + 1) hr hlt σ' H' q) (fun σ' H' q=>ih (n + 1) hr hlt σ' H' q) rfl rfl⟩
 exact go xs 0 (by simp) (Nat.zero_le _) σ H h0
structure Ext (M:Mo) (H H':Hp):Prop where
 same:∀a o,H a=some o->H' a=some o
 off:∀a,M a ≠ none->H a=none->H' a=none
theorem Ext.refl {M:Mo} {H:Hp}:Ext M H H:=⟨fun _ _ h=>h,fun _ _ h=>h⟩
theorem Ext.trans {M:Mo} {H H1 H2:Hp} (a:Ext M H H1) (b:Ext M H1 H2):Ext M H H2:=⟨fun c o h=>b.same c o (a.same c o h),fun c m h=>b.off c m (a.off c m h)⟩
theorem Ext.upd {M:Mo} {H:Hp} {p:Addr} {o:HO} (h:H p=none) (m:M p=none):Ext M H (upd H p o):=
 ⟨fun b u e=>by rw[upd_ne (ne_of_none e h)];exact e,fun b mb e=>by rw[upd_ne (fun z=>mb (by rw[z];exact m))];exact e⟩
theorem Ext.rd {M:Mo} {H H':Hp} {a:Addr} {u:HO} (s:Ext M H H') (e:rd M H a=some u):rd M H' a=some u:=by
 unfold Sw.rd at e ⊢
 cases q:H a with
 | none=>
  rw[q]at e
  rw[s.off a (by intro z;rw[z]at e;cases e) q]
  exact e
 | some o=>rw[s.same a o q];rw[q]at e;exact e
section
variable {M:Mo} {H:Hp} {Q:VK}
theorem v_add (i j:Int):binV M .Add (.int i) (.int j) H Q=Q (.int (i + j)) H:=rfl
theorem v_adds (x y:Str):binV M .Add (.str x) (.str y) H Q=(x.length + y.length<=sizeLine/\Q (.str (x++y)) H):=rfl
theorem v_sub (i j:Int):binV M .Sub (.int i) (.int j) H Q=Q (.int (i - j)) H:=rfl
theorem v_mul (i j:Int):binV M .Mult (.int i) (.int j) H Q=((bnd i || bnd j)=true/\Q (.int (i * j)) H):=rfl
theorem v_div (i j:Int):binV M .FloorDiv (.int i) (.int j) H Q=(0 < j/\j < 1073741824/\Q (.int (i / j)) H):=rfl
theorem v_mod (i j:Int):binV M .Mod (.int i) (.int j) H Q=(0 < j/\Q (.int (i % j)) H):=rfl
theorem v_lt (i j:Int):cmpV M .Lt (.int i) (.int j) H Q=Q (.bl (decide (i < j))) H:=rfl
theorem v_gt (i j:Int):cmpV M .Gt (.int i) (.int j) H Q=Q (.bl (decide (j < i))) H:=rfl
theorem v_ins (x y:Str):cmpV M .In (.str x) (.str y) H Q=Q (.bl (!(Builtin.Str.occurrences y x 0 y.length 1).isEmpty)) H:=rfl
theorem v_eqi (i j:Int):cmpV M .Eq (.int i) (.int j) H Q=Q (.bl (decide (i=j))) H:=by
 show Q (.bl (decide (V.int i=V.int j))) H=_
 simp only[V.int.injEq]
theorem v_nei (i j:Int):cmpV M .NotEq (.int i) (.int j) H Q=Q (.bl (!decide (i=j))) H:=by
 show Q (.bl (!decide (V.int i=V.int j))) H=_
 simp only[V.int.injEq]
theorem v_eqs (x y:Str):cmpV M .Eq (.str x) (.str y) H Q=Q (.bl (decide (x=y))) H:=by
 show Q (.bl (decide (V.str x=V.str y))) H=_
 simp only[V.str.injEq]
theorem v_nes (x y:Str):cmpV M .NotEq (.str x) (.str y) H Q=Q (.bl (!decide (x=y))) H:=by
 show Q (.bl (!decide (V.str x=V.str y))) H=_
 simp only[V.str.injEq]
theorem v_neb (x y:Bool):cmpV M .NotEq (.bl x) (.bl y) H Q=Q (.bl (!decide (x=y))) H:=by
 show Q (.bl (!decide (V.bl x=V.bl y))) H=_
 simp only[V.bl.injEq]
theorem v_eqb (x y:Bool):cmpV M .Eq (.bl x) (.bl y) H Q=Q (.bl (decide (x=y))) H:=by
 show Q (.bl (decide (V.bl x=V.bl y))) H=_
 simp only[V.bl.injEq]
theorem s_rr (a b:Addr):scal (.ref a) (.ref b)=false:=rfl
theorem v_cat (a b:Addr):binV M .Add (.ref a) (.ref b) H Q=(match rd M H a,rd M H b with
  | some (.lst xs),some (.lst ys)=>xs.length + ys.length<=sizeLine/\∀p,H p=none->M p=none->Q (.ref p) (upd H p (.lst (xs++ys)))
  | some (.tup xs),some (.tup ys)=>xs ≠ []/\ys ≠ []/\xs.length + ys.length<=sizeLine/\∀p,H p=none->M p=none->Q (.ref p) (upd H p (.tup (xs++ys)))
  | _,_=>False):=rfl
theorem m_join (x:Str) (p:Addr):mthV M .join (.str x) [.ref p] H Q=(match rd M H p with | some (.lst xs)=>(match allM asS xs with | some ts=>JoinOk x ts=true/\Q (.str (Txt.join x ts)) H | none=>False) | _=>False):=rfl
theorem m_append (p:Addr) (v:V):mthV M .append (.ref p) [v] H Q=(match H p with | some (.lst xs)=>xs.length < sizeLine/\Q .non (upd H p (.lst (xs++[v]))) | _=>False):=rfl
theorem t_bl (b:Bool) {R:Bool->Prop}:truV M (.bl b) H R=R b:=rfl
theorem t_non {R:Bool->Prop}:truV M .non H R=R false:=rfl
theorem t_int (i:Int) {R:Bool->Prop}:truV M (.int i) H R=R (i != 0):=rfl
theorem b_lens (x:Str):bltV M .len [.str x] H Q=(x.length<=sizeLine/\Q (.int x.length) H):=rfl
theorem b_lenr (p:Addr):bltV M .len [.ref p] H Q=(match rd M H p with | some (.lst xs)=>Q (.int xs.length) H | some (.tup xs)=>Q (.int xs.length) H | _=>False):=rfl
theorem i_str (z:Str) (i:Int):idxV M (.str z) (.int i) H Q=(z.length<=sizeLine/\match atI z.cps.toList i with | some c=>Q (.str ⟨#[c]⟩) H | none=>False):=rfl
theorem i_ref (p:Addr) (i:Int):idxV M (.ref p) (.int i) H Q=(match rd M H p with | some (.lst xs)=>(match atI xs i with | some v=>Q v H | none=>False) | some (.tup xs)=>(match atI xs i with | some v=>Q v H | none=>False) | _=>False):=rfl
theorem s_str (z:Str) (lo hi:Option Int):slcV M (.str z) lo hi H Q=(z.length<=sizeLine/\Q (.str (Txt.slice z lo hi)) H):=rfl
theorem s_ref (p:Addr) (lo hi:Option Int):slcV M (.ref p) lo hi H Q=(match rd M H p with
  | some (.lst xs)=>∀l,H l=none->M l=none->Q (.ref l) (upd H l (.lst (cutV xs lo hi)))
  | some (.tup xs)=>¬ (HT.sIx xs.length 0 lo=0/\HT.sIx xs.length xs.length hi=xs.length)/\∀l,H l=none->M l=none->Q (.ref l) (upd H l (.tup (cutV xs lo hi)))
  | _=>False):=rfl
end
@[reducible] noncomputable def cps (x:Str):List Nat:=x.cps.toList
theorem seq {s:Sx} {r:Sxs} {Γ:Gam} {Ξ:XS} {D:Ends} {σ:L2.St} {H:Hp} (h:wS s Γ Ξ {D with nx:=wSs r Γ Ξ D} σ H):wSs (.cons s r) Γ Ξ D σ H:=by
 rw[wSs]
 exact h
theorem seq0 {Γ:Gam} {Ξ:XS} {D:Ends} {σ:L2.St} {H:Hp} (h:D.nx σ H):wSs .nil Γ Ξ D σ H:=by
 rw[wSs]
 exact h
end Sw
namespace Sw
theorem r_get0 {α:Type} (a:α) (l:List α):(a::l)[0]?=some a:=rfl
theorem r_getS {α:Type} (a:α) (l:List α) (n:Nat):(a::l)[n + 1]?=l[n]?:=rfl
theorem r_set0 {α:Type} (a b:α) (l:List α):(a::l).set 0 b=b::l:=rfl
theorem r_setS {α:Type} (a b:α) (l:List α) (n:Nat):(a::l).set (n + 1) b=a::l.set n b:=rfl
theorem r_map0 {α β:Type} (f:α->β):List.map f []=[]:=rfl
theorem r_mapS {α β:Type} (f:α->β) (a:α) (l:List α):List.map f (a::l)=f a::List.map f l:=rfl
theorem r_app0 {α:Type} (l:List α):[]++l=l:=rfl
theorem r_appS {α:Type} (a:α) (l m:List α):(a::l)++m=a::(l++m):=rfl
theorem r_len0 {α:Type}:([]:List α).length=0:=rfl
theorem r_lenS {α:Type} (a:α) (l:List α):(a::l).length=l.length + 1:=rfl
theorem r_rep0 {α:Type} (a:α):List.replicate 0 a=[]:=rfl
theorem r_repS {α:Type} (a:α) (n:Nat):List.replicate (n + 1) a=a::List.replicate n a:=rfl
theorem r_join {α:Type} (a:Option α):(some a).join=a:=rfl
end Sw
local macro_rules | `(tactic| walk_at "sw")=>`(tactic| dsimp only[Sw.wSs,Sw.wS,Sw.wE,Sw.wT,Sw.wEs,Sw.wTs,Sw.wI,Sw.wP,Sw.wD,Sw.keyOf,Sw.vars,L2.start,Sw.r_get0,Sw.r_getS,Sw.r_set0,Sw.r_setS,Sw.r_map0,Sw.r_mapS,Sw.r_app0,Sw.r_appS,Sw.r_len0,Sw.r_lenS,Sw.r_rep0,Sw.r_repS,Sw.r_join,Nat.reduceAdd,Nat.reduceSub])
local macro_rules | `(tactic| walk_at "s1")=>`(tactic| dsimp only[Sw.wS,Sw.wE,Sw.wT,Sw.wEs,Sw.wTs,Sw.wI,Sw.wP,Sw.wD,Sw.keyOf,Sw.vars,L2.start,Sw.r_get0,Sw.r_getS,Sw.r_set0,Sw.r_setS,Sw.r_map0,Sw.r_mapS,Sw.r_app0,Sw.r_appS,Sw.r_len0,Sw.r_lenS,Sw.r_rep0,Sw.r_repS,Sw.r_join,Nat.reduceAdd,Nat.reduceSub])
local macro_rules | `(tactic| walk_at "sv")=>`(tactic| simp (config:={maxSteps:=10000000,failIfUnchanged:=false}) only[Sw.v_add,Sw.v_adds,Sw.v_sub,Sw.v_mul,Sw.v_div,Sw.v_mod,Sw.v_lt,Sw.v_gt,Sw.v_ins,Sw.v_eqi,Sw.v_nei,Sw.v_eqs,Sw.v_nes,Sw.v_neb,Sw.v_eqb,Sw.t_bl,Sw.t_non,Sw.t_int,Sw.b_lens,Sw.b_lenr,Sw.i_str,Sw.i_ref,Sw.s_str,Sw.s_ref])
namespace Gr
variable {α:Type} [DecidableEq α]
section reach
variable (adj:α->List α)
inductive Reach:α->α->Prop where
 | refl (a:α):Reach a a
 | head {a p b:α}:p ∈ adj a->Reach p b->Reach a b
noncomputable def Within:Nat->α->α->Prop
 | 0,a,b=>a=b
 | t + 1,a,b=>Within t a b\/∃p ∈ adj a,Within t p b
variable {adj}
theorem Reach.trans {a b c:α} (h:Reach adj a b) (k:Reach adj b c):Reach adj a c:=by
 induction h with
 | refl=>exact k
 | head hp _ ih=>exact .head hp (ih k)
theorem Reach.one {a p:α} (h:p ∈ adj a):Reach adj a p:=.head h (.refl p)
theorem Reach.symm (sy:∀a b,b ∈ adj a->a ∈ adj b) {a b:α} (h:Reach adj a b):Reach adj b a:=by
 induction h with
 | refl=>exact .refl _
 | head hp _ ih=>exact ih.trans (.one (sy _ _ hp))
theorem Reach.closed {S:α->Prop} (hc:∀a b,S a->b ∈ adj a->S b) {a b:α} (h:Reach adj a b) (ha:S a):S b:=by
 induction h with
 | refl=>exact ha
 | head hp _ ih=>exact ih (hc _ _ ha hp)
theorem Within.up {t:Nat} {a b:α} (h:Within adj t a b):Within adj (t + 1) a b:=.inl h
theorem Within.le {t u:Nat} (hl:t<=u) {a b:α} (h:Within adj t a b):Within adj u a b:=by
 induction hl with
 | refl=>exact h
 | step _ ih=>exact ih.up
theorem Within.reach:∀ {t:Nat} {a b:α},Within adj t a b->Reach adj a b
 | 0,a,b,h=>by cases (show a=b from h);exact .refl _
 | t + 1,a,b,h=>by
  rcases(show Within adj t a b\/∃p ∈ adj a,Within adj t p b from h)with h | ⟨p,hp,h⟩
  ·exact h.reach
  ·exact .head hp h.reach
inductive Path (adj:α->List α):α->List α->α->Prop where
 | nil (a:α):Path adj a [] a
 | cons {a p b:α} {l:List α}:p ∈ adj a->Path adj p l b->Path adj a (p::l) b
theorem Path.from {a p b:α} {l:List α} (h:Path adj p l b) (ha:a ∈ p::l):∃l',Path adj a l' b/\(a::l').Sublist (p::l):=by
 induction h with
 | nil q=>cases List.mem_singleton.mp ha;exact⟨[],.nil _,List.Sublist.refl _⟩
 | @cons q r b l hp hr ih=>
  rcases List.mem_cons.mp ha with rfl | ha
  ·exact⟨r::l,.cons hp hr,List.Sublist.refl _⟩
  ·obtain⟨l',h1,h2⟩:=ih ha
   exact⟨l',h1,.cons _ h2⟩
theorem Path.mem {S:α->Prop} (hc:∀a b,S a->b ∈ adj a->S b) {a b:α} {l:List α} (h:Path adj a l b) (ha:S a):∀x ∈ a::l,S x:=by
 induction h with
 | nil=>intro x hx;cases List.mem_singleton.mp hx;exact ha
 | cons hp _ ih=>
  intro x hx
  rcases List.mem_cons.mp hx with rfl | hx
  ·exact ha
  ·exact ih (hc _ _ ha hp) x hx
end reach
structure Tot (r:α->α->Prop):Prop where
 irr:∀a,¬r a a
 tr:∀a b c,r a b->r b c->r a c
 tri:∀a b,a ≠ b->r a b\/r b a
section order
variable {r:α->α->Prop} [DecidableRel r]
theorem Tot.asym (T:Tot r) {a b:α} (h:r a b) (k:r b a):False:=T.irr a (T.tr _ _ _ h k)
theorem Tot.le_trans (T:Tot r) {a b c:α} (h:¬r b a) (k:¬r c b):¬r c a:=by
 intro z
 by_cases e:a=b
 ·subst e;exact k z
 ·rcases T.tri a b e with q | q
  ·exact k (T.tr _ _ _ z q)
  ·exact h q
theorem Tot.anti (T:Tot r) {a b:α} (h:¬r b a) (k:¬r a b):a=b:=by
 by_cases e:a=b
 ·exact e
 ·rcases T.tri a b e with q | q
  ·exact(k q).elim
  ·exact(h q).elim
theorem Tot.ext (T:Tot r):∀ {l l':List α},l.Pairwise r->l'.Pairwise r->(∀ x,x ∈ l ↔ x ∈ l')->l=l'
 | [],[],_,_,_=>rfl
 | [],y::m,_,_,h=>by have:=(h y).mpr List.mem_cons_self;cases this
 | x::l,[],_,_,h=>by have:=(h x).mp List.mem_cons_self;cases this
 | x::l,y::m,p,q,h=>by
  rw[List.pairwise_cons]at p q
  have e:x=y:=by
   have h1:=(h x).mp List.mem_cons_self
   have h2:=(h y).mpr List.mem_cons_self
   rcases List.mem_cons.mp h1 with e | h1
   ·exact e
   ·rcases List.mem_cons.mp h2 with e | h2
    ·exact e.symm
    ·exact(T.asym (p.1 y h2) (q.1 x h1)).elim
  subst e
  rw[T.ext p.2 q.2 fun z=>?_]
  constructor
  ·intro hz
   rcases List.mem_cons.mp ((h z).mp (List.mem_cons_of_mem _ hz))with e | k
   ·subst e;exact(T.irr _ (p.1 _ hz)).elim
   ·exact k
  ·intro hz
   rcases List.mem_cons.mp ((h z).mpr (List.mem_cons_of_mem _ hz))with e | k
   ·subst e;exact(T.irr _ (q.1 _ hz)).elim
   ·exact k
end order
section marks
variable (adj:α->List α) (r:α->α->Prop) [DecidableRel r]
variable {adj r}
theorem fold_le {β:Type} (T:Tot r) (f:(α->α)->β->α->α) (hf:∀m b x,¬r (m x) (f m b x)):∀ (l:List β) (m:α->α) (x:α),¬r (m x) (l.foldl f m x)
 | [],m,x=>T.irr _
 | b::l,m,x=>T.le_trans (fold_le T f hf l (f m b) x) (hf m b x)
structure Least (adj:α->List α) (r:α->α->Prop) (ks:List α) (m:α->α):Prop where
 at_:∀x,Reach adj x (m x)
 le:∀c ∈ ks,∀d,Reach adj c d->¬r d (m c)
theorem Least.same (T:Tot r) {ks:List α} {m:α->α} (L:Least adj r ks m) (sy:∀a b,b ∈ adj a->a ∈ adj b) {c d:α} (hc:c ∈ ks) (hd:d ∈ ks) (h:Reach adj c d):m c=m d:=
 T.anti (L.le c hc _ (h.trans (L.at_ d))) (L.le d hd _ ((h.symm sy).trans (L.at_ c)))
theorem Least.reach (T:Tot r) {ks:List α} {m:α->α} (L:Least adj r ks m) (sy:∀a b,b ∈ adj a->a ∈ adj b) {c d:α} (h:m c=m d):Reach adj c d:=(L.at_ c).trans (by rw[h];exact(L.at_ d).symm sy)
end marks
section groups
variable {adj:α->List α} {r:α->α->Prop} [DecidableRel r]
noncomputable def byMark (m:α->α) (L:List α):List (List α):=(L.filter fun c=>decide (m c=c)).map fun c=>L.filter fun x=>decide (m x=c)
theorem split_sorted {P S:List α} {c:α} (h:(P++c::S).Pairwise r):(∀ x ∈ P,r x c)/\∀x ∈ S,r c x:=by
 rw[List.pairwise_append]at h
 exact⟨fun x hx=>h.2.2 x hx c List.mem_cons_self,(List.pairwise_cons.mp h.2.1).1⟩
theorem ahead (T:Tot r) {P S:List α} {c d:α} (h:(P++c::S).Pairwise r) (hd:d ∈ P++c::S) (hl:r d c):d ∈ P:=by
 rcases List.mem_append.mp hd with k | k
 ·exact k
 ·rcases List.mem_cons.mp k with rfl | k
  ·exact(T.irr _ hl).elim
  ·exact(T.asym hl ((split_sorted h).2 d k)).elim
theorem first_iff (T:Tot r) (sy:∀a b,b ∈ adj a->a ∈ adj b) {P S:List α} {c:α} {m:α->α} (hs:(P++c::S).Pairwise r) (hc:∀a b,a ∈ P++c::S->b ∈ adj a->b ∈ P++c::S) (L:Least adj r (P++c::S) m):
  m c=c ↔ ¬∃d ∈ P,Reach adj d c:=by
 have ck:c ∈ P++c::S:=List.mem_append_right _ List.mem_cons_self
 constructor
 ·rintro e ⟨d,hd,hr⟩
  have:=L.le c ck d (hr.symm sy)
  rw[e]at this
  exact this ((split_sorted hs).1 d hd)
 ·intro h
  by_cases e:m c=c
  ·exact e
  ·exfalso
   have mk:m c ∈ P++c::S:=(L.at_ c).closed (S:=(·∈ P++c::S)) hc ck
   rcases T.tri _ _ e with q | q
   ·exact h ⟨m c,ahead T hs mk q,(L.at_ c).symm sy⟩
   ·exact L.le c ck c (.refl c) q
theorem mark_new (T:Tot r) (sy:∀a b,b ∈ adj a->a ∈ adj b) {P S:List α} {c:α} {m:α->α} (hs:(P++c::S).Pairwise r) (hc:∀a b,a ∈ P++c::S->b ∈ adj a->b ∈ P++c::S) (L:Least adj r (P++c::S) m):
  (m c=c/\∀d ∈ P,m d ≠ m c)\/(m c ≠ c/\m c ∈ P/\m (m c)=m c):=by
 have ck:c ∈ P++c::S:=List.mem_append_right _ List.mem_cons_self
 by_cases e:m c=c
 ·refine .inl ⟨e,fun d hd q=>?_⟩
  exact(first_iff T sy hs hc L).mp e ⟨d,hd,L.reach T sy q⟩
 ·refine .inr ⟨e,?_,?_⟩
  ·have mk:m c ∈ P++c::S:=(L.at_ c).closed (S:=(·∈ P++c::S)) hc ck
   rcases T.tri _ _ e with q | q
   ·exact ahead T hs mk q
   ·exact(L.le c ck c (.refl c) q).elim
  ·have mk:m c ∈ P++c::S:=(L.at_ c).closed (S:=(·∈ P++c::S)) hc ck
   exact(L.same T sy ck mk (L.at_ c)).symm
end groups
section walk
variable {adj:α->List α}
structure Dfs (adj:α->List α) (c:α) (R W:List α):Prop where
 nd:R.Nodup
 has:c ∈ R
 rch:∀x ∈ R,Reach adj c x
 sub:∀x ∈ W,x ∈ R
 cl:∀x ∈ R,x ∉ W->∀p ∈ adj x,p ∈ R
structure Dfi (adj:α->List α) (c h:α) (l R W:List α):Prop where
 nd:R.Nodup
 has:c ∈ R
 at_:h ∈ R
 rch:∀x ∈ R,Reach adj c x
 sub:∀x ∈ W,x ∈ R
 cl:∀x ∈ R,x ∉ W->x ≠ h->∀p ∈ adj x,p ∈ R
 seen:∀p ∈ l,p ∈ R
theorem Dfs.start (adj:α->List α) (c:α):Dfs adj c [c] [c]:=
 ⟨by simp,by simp,fun x hx=>by cases List.mem_singleton.mp hx;exact .refl _,fun x hx=>hx,fun x hx hn=>absurd hx hn⟩
theorem Dfs.pop {c h:α} {R W:List α} (D:Dfs adj c R (W++[h])):Dfi adj c h [] R W:=
 ⟨D.nd,D.has,D.sub h (by simp),D.rch,fun x hx=>D.sub x (List.mem_append_left _ hx),fun x hx hn hh=>D.cl x hx fun z=>(List.mem_append.mp z).elim hn fun z=>hh (List.mem_singleton.mp z),fun p hp=>by cases hp⟩
theorem Dfi.old {c h p:α} {l R W:List α} (D:Dfi adj c h l R W) (hp:p ∈ R):Dfi adj c h (l++[p]) R W:=
 ⟨D.nd,D.has,D.at_,D.rch,D.sub,D.cl,fun q hq=>(List.mem_append.mp hq).elim (D.seen q) fun z=>by rw[List.mem_singleton.mp z];exact hp⟩
theorem Dfi.new {c h p:α} {l R W:List α} (D:Dfi adj c h l R W) (ha:p ∈ adj h) (hp:p ∉ R):Dfi adj c h (l++[p]) (R++[p]) (W++[p]) where
 nd:=by
  rw[List.nodup_append]
  refine⟨D.nd,by simp,fun a h1 b h2 e=>?_⟩
  rw[List.mem_singleton.mp h2]at e
  exact hp (e ▸ h1)
 has:=List.mem_append_left _ D.has
 at_:=List.mem_append_left _ D.at_
 rch:=fun x hx=>(List.mem_append.mp hx).elim (D.rch x) fun z=>by
  rw[List.mem_singleton.mp z]
  exact(D.rch h D.at_).trans (.one ha)
 sub:=fun x hx=>(List.mem_append.mp hx).elim (fun z=>List.mem_append_left _ (D.sub x z)) fun z=>List.mem_append_right _ z
 cl:=fun x hx hn hh q hq=>by
  rcases List.mem_append.mp hx with z | z
  ·exact List.mem_append_left _ (D.cl x z (fun y=>hn (List.mem_append_left _ y)) hh q hq)
  ·exact absurd (List.mem_append_right _ z) hn
 seen:=fun q hq=>(List.mem_append.mp hq).elim (fun z=>List.mem_append_left _ (D.seen q z)) fun z=>List.mem_append_right _ z
theorem Dfi.done {c h:α} {R W:List α} (D:Dfi adj c h (adj h) R W):Dfs adj c R W:=
 ⟨D.nd,D.has,D.rch,D.sub,fun x hx hn=>by
  by_cases e:x=h
  ·subst e;exact D.seen
  ·exact D.cl x hx hn e⟩
theorem Dfs.all {c:α} {R:List α} (D:Dfs adj c R []) (x:α):x ∈ R ↔ Reach adj c x:=
 ⟨D.rch x,fun h=>h.closed (S:=(·∈ R)) (fun a b ha hb=>D.cl a ha (by simp) b hb) D.has⟩
end walk
section all
variable {adj:α->List α} {r:α->α->Prop} [DecidableRel r]
structure Wb (adj:α->List α) (r:α->α->Prop) (L:List α) (m:α->α):Prop where
 tot:Tot r
 sy:∀a b,b ∈ adj a->a ∈ adj b
 srt:L.Pairwise r
 cl:∀a b,a ∈ L->b ∈ adj a->b ∈ L
 lst:Least adj r L m
noncomputable def someM (m:α->α) (P:List α):List (α × List α):=(P.filter fun c=>decide (m c=c)).map fun c=>(c,P.filter fun x=>decide (m x=c))
theorem Wb.first {L:List α} {m:α->α} (B:Wb adj r L m) {P S:List α} {c:α} (hL:L=P++c::S):m c=c ↔ ¬∃d ∈ P,Reach adj d c:=by
 subst hL
 exact first_iff B.tot B.sy B.srt B.cl B.lst
theorem Wb.new {L:List α} {m:α->α} (B:Wb adj r L m) {P S:List α} {c:α} (hL:L=P++c::S):(m c=c/\∀d ∈ P,m d ≠ m c)\/(m c ≠ c/\m c ∈ P/\m (m c)=m c):=by
 subst hL
 exact mark_new B.tot B.sy B.srt B.cl B.lst
theorem someM_keys (m:α->α) (P:List α):(someM m P).map (·.1)=P.filter fun c=>decide (m c=c):=by
 unfold someM
 rw[List.map_map]
 exact(List.map_congr_left fun d _=>rfl).trans (List.map_id _)
end all
end Gr
namespace Sw
open PySem PySem.Spec PyProof.Rows L2
section
variable {M:Mo} {H H':Hp} {p l:Addr}
theorem rd_of {o:HO} (h:H p=some o) (nf:∀b u,o ≠ .frz b u):rd M H p=some o:=by
 unfold rd
 rw[h]
 cases o<;>first | rfl | exact absurd rfl (nf _ _)
theorem rd_same {a:Addr} (h:H' a=H a):rd M H' a=rd M H a:=by
 unfold rd
 rw[h]
theorem idxD_at {kvs:List (Key × V)} {x:Str} {v:V} {Q:VK} (h:rd M H p=some (.dK kvs)) (hv:valV kvs (.inr x)=some v) (q:Q v H):idxDV M (.ref p) (.str x) H Q:=by
 show(match rd M H p with | some (.dK kvs)=>(match keyOf (V.str x)with | some k=>(match valV kvs k with | some v=>Q v H | none=>False) | none=>False) | _=>False)
 rw[h]
 show(match valV kvs (.inr x)with | some v=>Q v H | none=>False)
 rw[hv]
 exact q
theorem inV_strs (x:Str) (ns:List Str):inV (.str x) (ns.map V.str)=decide (x ∈ ns):=by
 induction ns with
 | nil=>rfl
 | cons y r ih=>
  have e:inV (.str x) ((y::r).map V.str)=(eqV (.str y) (.str x) || inV (.str x) (r.map V.str)):=rfl
  rw[e,ih]
  have e2:eqV (.str y) (.str x)=decide (y=x):=by
   show(y == x)=decide (y=x)
   by_cases z:y=x
   ·rw[z];simp
   ·simp[z]
  rw[e2]
  by_cases z:y=x
  ·subst z;simp
  ·have z2:x ≠ y:=fun q=>z q.symm
   simp[z,z2]
end
end Sw
namespace Gw
open PySem PySem.Spec PyProof.Rows L2 Sw
@[reducible] noncomputable def Row:=List (Str × Int)
@[reducible] noncomputable def Ent:=Str × Addr × Row
noncomputable def rowK (r:Row):List (Key × V):=r.map fun y=>(Sum.inr y.1,V.int y.2)
noncomputable def topK (E:List Ent):List (Key × V):=E.map fun e=>(Sum.inr e.1,V.ref e.2.1)
theorem lookup_mem {β:Type}:∀ {l:List (Str × β)} {x:Str} {b:β},(l.map (·.1)).Nodup->(x,b) ∈ l->l.lookup x=some b
 | y::r,x,b,nd,h=>by
  obtain⟨n,c⟩:=y
  rw[List.lookup_cons]
  rw[List.map_cons,List.nodup_cons]at nd
  rcases List.mem_cons.mp h with e | h'
  ·cases e;simp
  ·have e:(x == n)=false:=by
    simp
    intro z
    subst z
    exact nd.1 (List.mem_map.mpr ⟨_,h',rfl⟩)
   rw[e]
   exact lookup_mem nd.2 h'
structure WebAt (H:Hp) (w:Addr) (E:List Ent):Prop where
 top:H w=some (.dK (topK E))
 row:∀e ∈ E,H e.2.1=some (.dK (rowK e.2.2))
 nd:(w::E.map (·.2.1)).Nodup
 keys:(E.map (·.1)).Nodup
 rk:∀e ∈ E,(e.2.2.map (·.1)).Nodup
 few:E.length<=20
 rfew:∀e ∈ E,e.2.2.length<=20
end Gw
namespace Gw
open PySem PySem.Spec PyProof.Rows L2 Sw
noncomputable def keep (ns:List Str) (r:Row):Row:=r.filter fun y=>!decide (y.1 ∈ ns)
@[reducible] noncomputable def Web:=List (Str × Row)
noncomputable def cont (E:List Ent):Web:=E.map fun e=>(e.1,e.2.2)
noncomputable def wo (ns:List Str) (W:Web):Web:=(W.filter fun y=>!decide (y.1 ∈ ns)).map fun y=>(y.1,keep ns y.2)
theorem cont_keys (E:List Ent):(cont E).map (·.1)=E.map (·.1):=by
 unfold cont
 rw[List.map_map]
 rfl
theorem wo_nodup {ns:List Str} {W:Web} (h:(W.map (·.1)).Nodup):((wo ns W).map (·.1)).Nodup:=by
 unfold wo
 rw[List.map_map]
 exact(List.filter_sublist.map _).nodup h
theorem keep_nodup {ns:List Str} {r:Row} (h:(r.map (·.1)).Nodup):((keep ns r).map (·.1)).Nodup:=(List.filter_sublist.map _).nodup h
structure ExtB (M:Mo) (w:Addr) (H H':Hp):Prop where
 same:∀a o,a ≠ w->H a=some o->H' a=some o
 off:∀a,M a ≠ none->H a=none->H' a=none
theorem ExtB.nn {M:Mo} {w:Addr} {H H':Hp} {o:HO} {l:Addr} (x:ExtB M w H H') (hw:H' w=some o) (hl:H' l=none):H l=none:=by
 cases e:H l with
 | none=>rfl
 | some u=>
  exfalso
  by_cases q:l=w
  ·rw[q,hw]at hl;cases hl
  ·rw[x.same l u q e]at hl;cases hl
theorem ExtB.rd {M:Mo} {w:Addr} {H H':Hp} {a:Addr} {u:HO} (x:ExtB M w H H') (hn:a ≠ w) (h:rd M H a=some u):rd M H' a=some u:=by
 unfold Sw.rd at h ⊢
 cases e:H a with
 | none=>
  rw[e]at h
  rw[x.off a (by intro z;rw[z]at h;cases h) e]
  exact h
 | some o=>rw[x.same a o hn e];rw[e]at h;exact h
theorem ExtB.upd {M:Mo} {w:Addr} {H H':Hp} {l:Addr} {o:HO} (x:ExtB M w H H') (hl:H l=none) (ml:M l=none):ExtB M w H (L2.upd H' l o):=
 ⟨fun a u hn e=>by rw[upd_ne (ne_of_none e hl)];exact x.same a u hn e,fun a m e=>by rw[upd_ne (fun z=>m (by rw[z];exact ml))];exact x.off a m e⟩
theorem ExtB.thaw {M:Mo} {w:Addr} {H H':Hp} {o:HO} (x:ExtB M w H H') (hw:H w=some o) (mw:M w=none):Ext M H (L2.upd H' w o):=
 ⟨fun a u e=>by
  by_cases q:a=w
  ·rw[q,upd_same,<-e,q];exact hw.symm
  ·rw[upd_ne q];exact x.same a u q e,
  fun a m e=>by rw[upd_ne (fun z=>m (by rw[z];exact mw))];exact x.off a m e⟩
noncomputable def spWO (M:Mo):Sp:=fun vs H Q _=>∃w q E ns,vs=[.ref w,.ref q]/\WebAt H w E/\OffM M H/\rd M H q=some (.lst (ns.map V.str))/\
 ∀H' r E',Ext M H H'->H r=none->M r=none->(∀ e ∈ E',H e.2.1=none)->WebAt H' r E'->cont E'=wo ns (cont E)->Q (.ref r) H'
theorem OffM.at {M:Mo} {H:Hp} (o:OffM M H) {a:Addr} {u:HO} (h:H a=some u):M a=none:=by
 cases e:M a with
 | none=>rfl
 | some x=>rw[o a (by rw[e];exact Option.some_ne_none x)]at h;cases h
end Gw
namespace Gw
open PySem PySem.Spec PyProof.Rows L2 Sw
@[reducible] noncomputable def slt (a b:Str):Prop:=a.cps.toList < b.cps.toList
theorem tot_slt:Gr.Tot slt where
 irr:=fun a=>List.lt_irrefl _
 tr:=fun a b c h k=>List.lt_trans h k
 tri:=fun a b h=>by
  by_cases h1:a.cps.toList < b.cps.toList
  ·exact .inl h1
  ·by_cases h2:b.cps.toList < a.cps.toList
   ·exact .inr h2
   ·exfalso
    have e:a.cps.toList=b.cps.toList:=List.le_antisymm (List.not_lt.mp h2) (List.not_lt.mp h1)
    apply h
    obtain⟨x⟩:=a
    obtain⟨y⟩:=b
    congr 1
    exact Array.toList_inj.mp e
theorem rises:∀ {r:List Str} {p:Str},risingS p r=true->(p::r).Nodup->(p::r).Pairwise slt
 | [],p,_,_=>by simp
 | x::r,p,h,nd=>by
  unfold risingS at h
  rw[ltCps_eq]at h
  simp only[Bool.and_eq_true,Bool.not_eq_true',decide_eq_false_iff_not]at h
  have nd':=List.nodup_cons.mp nd
  have ih:=rises h.2 nd'.2
  have px:slt p x:=by
   rcases tot_slt.tri p x (fun e=>nd'.1 (by rw[e];exact List.mem_cons_self))with q | q
   ·exact q
   ·exact absurd q h.1
  rw[List.pairwise_cons]
  refine⟨fun y hy=>?_,ih⟩
  rcases List.mem_cons.mp hy with rfl | hy
  ·exact px
  ·exact tot_slt.tr _ _ _ px ((List.pairwise_cons.mp ih).1 y hy)
theorem rises_all {l:List Str} (h:sortedS l=true) (nd:l.Nodup):l.Pairwise slt:=by
 cases l with
 | nil=>simp
 | cons x r=>exact rises h nd
noncomputable def adj (E:List Ent) (x:Str):List Str:=match E.lookup x with
 | some y=>y.2.map (·.1)
 | none=>[]
noncomputable def rK (R:List Str):List (Key × V):=R.map fun x=>(Sum.inr x,V.bl true)
theorem app_at {M:Mo} {H:Hp} {p:Addr} {ws:List Str} {x:Str} {Q:VK} (h:H p=some (.lst (ws.map V.str))) (hl:ws.length < sizeLine) (q:Q .non (upd H p (.lst ((ws++[x]).map V.str)))):mthV M .append (.ref p) [.str x] H Q:=by
 rw[Sw.m_append,h]
 dsimp only
 refine⟨by rw[List.length_map];exact hl,?_⟩
 rw[List.map_append]at q
 exact q
theorem mty_l {M:Mo} {H:Hp} {p:Addr} {xs:List V} (h:H p=some (.lst xs)):(match V.ref p with | .ref p=>(match rd M H p with | some (.lst _)=>true | _=>false) | _=>false)=true:=by
 dsimp only
 rw[rd_of h (by intro _ _ z;cases z)]
structure Wk (H:Hp) (E:List Ent) (c:Str) (r l:Addr) (R W:List Str) (H':Hp):Prop where
 hr:H' r=some (.dK (rK R))
 hl:H' l=some (.lst (W.map V.str))
 el:∀a,a ≠ r->a ≠ l->H' a=H a
 sub:∀x ∈ R,x ∈ E.map (·.1)
 wf:W.length<=R.length
end Gw
namespace Kn
open PySem PySem.Spec PyProof.Rows L2 Sw Gw
noncomputable def KOne (CS:Addr) (O:Addr->Prop) (H:Hp) (p:Addr) (ms:List Str):Prop:=O p/\∃dx c,H p=some (.ins CS dx [("couple",.str c)])/\ms=[c]
noncomputable def KAt (CS CG:Addr) (O:Addr->Prop):Nat->Hp->Addr->List Str->Prop
 | 0,H,p,ms=>KOne CS O H p ms
 | n + 1,H,p,ms=>KOne CS O H p ms\/∃ (dx r l:Addr) (qs:List Addr) (mss:List (List Str)) (xs:List V),(O p/\O r/\O l)/\H p=some (.ins CG dx [("ring",.ref r),("links",.ref l)])/\H r=some (.lst (qs.map V.ref))/\H l=some (.lst xs)/\
   (qs.length=mss.length/\∀ (i:Nat) q m,qs[i]?=some q->mss[i]?=some m->KAt CS CG O n H q m)/\ms.Perm mss.flatten/\sortedS ms=true/\ms.Nodup/\ms.length < 64
noncomputable def KGrp (CS CG:Addr) (O:Addr->Prop) (n:Nat) (H:Hp) (p:Addr) (ms:List Str):Prop:=∃ (dx r l:Addr) (qs:List Addr) (mss:List (List Str)) (xs:List V),(O p/\O r/\O l)/\H p=some (.ins CG dx [("ring",.ref r),("links",.ref l)])/\H r=some (.lst (qs.map V.ref))/\H l=some (.lst xs)/\
   (qs.length=mss.length/\∀ (i:Nat) q m,qs[i]?=some q->mss[i]?=some m->KAt CS CG O n H q m)/\ms.Perm mss.flatten/\sortedS ms=true/\ms.Nodup/\ms.length < 64
theorem KAt.cases {CS CG:Addr} {O:Addr->Prop} {n:Nat} {H:Hp} {p:Addr} {ms:List Str} (h:KAt CS CG O (n + 1) H p ms):KOne CS O H p ms\/KGrp CS CG O n H p ms:=h
theorem KGrp.at {CS CG:Addr} {O:Addr->Prop} {n:Nat} {H:Hp} {p:Addr} {ms:List Str} (h:KGrp CS CG O n H p ms):KAt CS CG O (n + 1) H p ms:=.inr h
theorem KOne.at {CS CG:Addr} {O:Addr->Prop} {n:Nat} {H:Hp} {p:Addr} {ms:List Str} (h:KOne CS O H p ms):KAt CS CG O n H p ms:=by
 cases n with
 | zero=>exact h
 | succ n=>exact .inl h
section
variable {CS CG:Addr} {O O':Addr->Prop} {H H':Hp}
theorem KAt.agree:∀ {n:Nat} {p:Addr} {ms:List Str},KAt CS CG O n H p ms->(∀ a,O a->O' a/\H' a=H a)->KAt CS CG O' n H' p ms
 | 0,p,ms,⟨o,dx,c,h1,h2⟩,k=>⟨(k p o).1,dx,c,by rw[(k p o).2];exact h1,h2⟩
 | n + 1,p,ms,h,k=>by
  rcases h with h | ⟨dx,r,l,qs,mss,xs,⟨o1,o2,o3⟩,h1,h2,h3,⟨h4,h5⟩,h6⟩
  ·exact .inl (KAt.agree (n:=0) h k)
  ·exact .inr ⟨dx,r,l,qs,mss,xs,⟨(k _ o1).1,(k _ o2).1,(k _ o3).1⟩,by rw[(k _ o1).2];exact h1,by rw[(k _ o2).2];exact h2,by rw[(k _ o3).2];exact h3,⟨h4,fun i q m a b=>KAt.agree (h5 i q m a b) k⟩,h6⟩
theorem KAt.up:∀ {n:Nat} {p:Addr} {ms:List Str},KAt CS CG O n H p ms->KAt CS CG O (n + 1) H p ms
 | 0,p,ms,h=>Or.inl h
 | n + 1,p,ms,h=>by
  rcases h with h | ⟨dx,r,l,qs,mss,xs,o,h1,h2,h3,⟨h4,h5⟩,h6⟩
  ·exact .inl h
  ·exact .inr ⟨dx,r,l,qs,mss,xs,o,h1,h2,h3,⟨h4,fun i q m a b=>KAt.up (h5 i q m a b)⟩,h6⟩
theorem KAt.le {n m:Nat} {p:Addr} {ms:List Str} (h:KAt CS CG O n H p ms) (l:n<=m):KAt CS CG O m H p ms:=by
 induction l with
 | refl=>exact h
 | step _ ih=>exact ih.up
theorem KAt.few {n:Nat} {p:Addr} {ms:List Str} (h:KAt CS CG O n H p ms):ms.length < 64:=by
 cases n with
 | zero=>obtain⟨_,_,_,_,rfl⟩:=h;exact Nat.lt_of_sub_eq_succ rfl
 | succ n=>
  rcases h with ⟨_,_,_,_,rfl⟩ | ⟨_,_,_,_,_,_,_,_,_,_,_,_,_,_,h⟩
  ·exact Nat.lt_of_sub_eq_succ rfl
  ·exact h
theorem KAt.ext {M:Mo} {n:Nat} {p:Addr} {ms:List Str} (h:KAt CS CG O n H p ms) (hO:∀a,O a->H a ≠ none) (x:Ext M H H'):KAt CS CG O n H' p ms:=
 h.agree fun a oa=>⟨oa,by
  cases e:H a with
  | none=>exact absurd e (hO a oa)
  | some u=>exact x.same a u e⟩
end
@[reducible] noncomputable def N_Single___init__:List Str:=["self","couple"]
noncomputable def b_Single___init__:Sxs:=(.cons (.oset (.var 0) "couple" (.var 1))
 .nil)
@[reducible] noncomputable def N_Single_members:List Str:=["self"]
noncomputable def b_Single_members:Sxs:=(.cons (.ret (.lst (.cons (.ofld (.var 0) "couple") .nil)))
 .nil)
@[reducible] noncomputable def N_Single_inner:List Str:=["self"]
noncomputable def b_Single_inner:Sxs:=(.cons (.ret (.lst .nil))
 .nil)
@[reducible] noncomputable def N_Group___init__:List Str:=["self","ring","links"]
noncomputable def b_Group___init__:Sxs:=(.cons (.oset (.var 0) "ring" (.blt .list (.cons (.var 1) .nil)))
 (.cons (.oset (.var 0) "links" (.blt .list (.cons (.var 2) .nil)))
 .nil))
@[reducible] noncomputable def N_Group_members:List Str:=["self","couples","knot"]
noncomputable def b_Group_members:Sxs:=(.cons (.asg 1 (.lst .nil))
 (.cons (.fr 2 (.ex (.ofld (.var 0) "ring")) (.cons (.exp (.mth .extend (.var 1) (.cons (.omth "members" (.var 2) .nil) .nil)))
 .nil))
 (.cons (.ret (.blt .sorted (.cons (.var 1) .nil)))
 .nil)))
@[reducible] noncomputable def N_Group_inner:List Str:=["self"]
noncomputable def b_Group_inner:Sxs:=(.cons (.ret (.blt .list (.cons (.ofld (.var 0) "ring") .nil)))
 .nil)
@[reducible] noncomputable def N_Group_base:List Str:=["self","mates","couples","left_over"]
noncomputable def b_Group_base:Sxs:=(.cons (.asg 2 (.omth "members" (.var 0) .nil))
 (.cons (.asg 3 (.comp "couple" [("couples",2),("mates",1)] (.ex (.var 2)) (.var 0) (.cons (.cmp .NotIn (.mth .get (.var 2) (.cons (.var 0) .nil)) (.var 1)) .nil)))
 (.cons (.ret (.idx (.var 3) (.con (.int 0))))
 .nil)))
noncomputable def spSInit (CS:Addr):Sp:=fun vs H Q _=>∃p c dx,vs=[.ref p,.str c]/\H p=some (.ins CS dx [])/\Q .non (upd H p (.ins CS dx [("couple",.str c)]))
theorem ok_sinit {Γ:Gam} {CS:Addr} (g1:Γ.ofl CS "couple" =true) (vs:List V) (H:Hp) (Q:VK) (E:XK) (h:spSInit CS vs H Q E):spOf Γ N_Single___init__ 2 b_Single___init__ vs H Q E:=by
 obtain⟨p,c,dx,rfl,hp,q⟩:=h
 refine⟨rfl,?_⟩
 unfold b_Single___init__
 refine seq ?_
 walk_at "s1"
 unfold osetV
 dsimp only
 rw[hp]
 exact⟨⟨g1,by decide⟩,seq0 q⟩
noncomputable def spMem (M:Mo) (R:(Addr->Prop)->Hp->Addr->List Str->Prop):Sp:=fun vs H Q _=>∃p ms O,vs=[.ref p]/\(∀ a,O a->H a ≠ none)/\R O H p ms/\∀l H',H l=none->M l=none->Ext M H H'->H' l=some (.lst (ms.map V.str))->Q (.ref l) H'
theorem ok_smem {M:Mo} {Γ:Gam} {CS:Addr} (gm:Γ.mod=M) (g1:Γ.ofl CS "couple" =true) (vs:List V) (H:Hp) (Q:VK) (E:XK) (h:spMem M (KOne CS) vs H Q E):spOf Γ N_Single_members 1 b_Single_members vs H Q E:=by
 obtain⟨p,ms,O,rfl,hO,⟨_,dx,c,hp,rfl⟩,q⟩:=h
 refine⟨rfl,?_⟩
 obtain rfl:=gm
 unfold b_Single_members
 refine seq ?_
 walk_at "s1"
 unfold ofldV
 dsimp only
 rw[hp]
 refine⟨g1,?_⟩
 rw[show List.lookup ("couple" :Str) [(("couple" :Str),V.str c)]=some (.str c) by rw[List.lookup_cons,beq_self_eq_true]]
 dsimp only
 refine⟨by rw[sizeLine_eq];decide,fun l hl ml=>?_⟩
 exact q l _ hl ml (Ext.upd hl ml) upd_same
end Kn
namespace Kn
open PySem PySem.Spec PyProof.Rows L2 Sw Gw
structure KM (M:Mo) (CS CG:Addr) (Γ:Gam) (n:Nat):Prop where
 one:Γ.omh CS "members" =true/\Γ.omt CS "members" =spMem M (KOne CS)
 grp:∀m,n=m + 1->Γ.omh CG "members" =true/\Γ.omt CG "members" =spMem M fun O=>KGrp CS CG O m
theorem look1 (x y:Str) (v:V) (h:(y == x)=false):List.lookup y [(x,v)]=none:=by rw[List.lookup_cons,h];rfl
theorem call_mem {M:Mo} {CS CG:Addr} {Γ:Gam} {n:Nat} (k:KM M CS CG Γ n) {O:Addr->Prop} {H:Hp} {p:Addr} {ms:List Str} {Q:VK} (hO:∀a,O a->H a ≠ none) (h:KAt CS CG O n H p ms)
  (q:∀l H',H l=none->M l=none->Ext M H H'->H' l=some (.lst (ms.map V.str))->Q (.ref l) H'):omthV Γ "members" (.ref p) H fun p C=>Γ.omt C "members" [.ref p] H Q fun _ _ _=>False:=by
 have one:KOne CS O H p ms->omthV Γ "members" (.ref p) H fun p C=>Γ.omt C "members" [.ref p] H Q fun _ _ _=>False:=fun h=>by
  have h0:=h
  obtain⟨_,dx,c,hp,_⟩:=h
  unfold omthV
  dsimp only
  rw[hp]
  refine⟨⟨k.one.1,look1 _ _ _ (by decide)⟩,?_⟩
  rw[k.one.2]
  exact⟨p,ms,O,rfl,hO,h0,q⟩
 cases n with
 | zero=>exact one h
 | succ n=>
  rcases h.cases with h | h
  ·exact one h
  ·have h0:=h
   obtain⟨dx,r,l,qs,mss,xs,o,hp,_⟩:=h
   obtain⟨g1,g2⟩:=k.grp n rfl
   unfold omthV
   dsimp only
   rw[hp]
   refine⟨⟨g1,by rw[List.lookup_cons,show(("members" :Str) == "ring")=false by decide,look1 _ _ _ (by decide)]⟩,?_⟩
   rw[g2]
   exact⟨p,ms,O,rfl,hO,h0,q⟩
theorem _root_.Sw.Ext.over {M:Mo} {H H':Hp} {c:Addr} {o:HO} (x:Ext M H H') (hc:H c=none) (mc:M c=none):Ext M H (upd H' c o):=
 ⟨fun a u e=>by rw[upd_ne (ne_of_none e hc)];exact x.same a u e,fun a m e=>by rw[upd_ne (fun z=>m (by rw[z];exact mc))];exact x.off a m e⟩
theorem _root_.Sw.Ext.there {M:Mo} {H H':Hp} {O:Addr->Prop} (x:Ext M H H') (hO:∀a,O a->H a ≠ none):∀a,O a->H' a ≠ none:=fun a oa z=>by
 cases e:H a with
 | none=>exact hO a oa e
 | some u=>rw[x.same a u e]at z;cases z
theorem sorted_same {ss ts us:List Str} (h1:ss.Perm us) (h2:ts.Perm us) (nd:us.Nodup) (s1:sortedS ss=true) (s2:sortedS ts=true):ss=ts:=
 tot_slt.ext (rises_all s1 (h1.nodup_iff.mpr nd)) (rises_all s2 (h2.nodup_iff.mpr nd)) fun x=>by rw[h1.mem_iff,h2.mem_iff]
theorem strs_all (ts:List Str):allM asS (ts.map V.str)=some ts:=by
 induction ts with
 | nil=>rfl
 | cons t r ih=>rw[List.map_cons];unfold allM;rw[ih];rfl
theorem ok_gmem {M:Mo} {CS CG:Addr} {Γ:Gam} {n:Nat} (gm:Γ.mod=M) (gc:Γ.cm=true) (k:KM M CS CG Γ n) (g1:Γ.ofl CG "ring" =true) (vs:List V) (H:Hp) (Q:VK) (E:XK) (h:spMem M (fun O=>KGrp CS CG O n) vs H Q E):spOf Γ N_Group_members 1 b_Group_members vs H Q E:=by
 obtain⟨p,ms,O,rfl,hO,⟨dx,r,l,qs,mss,xs,⟨o1,o2,o3⟩,hp,hr,hl,⟨ln,kids⟩,pm,so,nd,few⟩,q⟩:=h
 refine⟨rfl,?_⟩
 obtain rfl:=gm
 unfold b_Group_members
 refine seq ?_
 walk_at "s1"
 refine⟨by rw[sizeLine_eq];decide,fun c hc mc=>?_⟩
 have x0:Ext Γ.mod H (upd H c (.lst [])):=Ext.upd hc mc
 refine seq ?_
 walk_at "s1"
 refine⟨gc,?_⟩
 unfold ofldV
 dsimp only
 rw[x0.same _ _ hp]
 refine⟨g1,?_⟩
 rw[show List.lookup ("ring" :Str) [(("ring" :Str),V.ref r),("links",.ref l)]=some (.ref r) by rw[List.lookup_cons,beq_self_eq_true]]
 dsimp only
 unfold iterV
 dsimp only
 rw[rd_of (x0.same _ _ hr) (by intro _ _ z;cases z)]
 dsimp only
 refine for_inv (fun i σ Hn=>∃v2,σ=[some (.ref p),some (.ref c),v2]/\Ext Γ.mod H Hn/\Hn c=some (.lst ((mss.take i).flatten.map V.str))) (fun i σ Hn z=>?_) ?_ ?_ ⟨none,rfl,x0,upd_same⟩
 ·obtain⟨v2,rfl,x,_⟩:=z
  exact rd_of (x.same _ _ hr) (by intro _ _ z;cases z)
 ·intro i v σ Hn D' hv ⟨v2,e,x,hcn⟩ nx ct _ _
  subst e
  rw[List.getElem?_map]at hv
  cases hq:qs[i]? with
  | none=>rw[hq]at hv;cases hv
  | some y=>
   rw[hq]at hv
   cases hv
   obtain⟨m,hm⟩:∃m,mss[i]?=some m:=⟨_,List.getElem?_eq_getElem (by have:=(List.getElem?_eq_some_iff.mp hq).1;omega)⟩
   have ky:=(kids i y m hq hm).ext hO x
   have tk:(mss.take (i + 1)).flatten=(mss.take i).flatten++m:=by rw[List.take_succ,hm,List.flatten_append];simp
   have le:(mss.take (i + 1)).flatten.length<=ms.length:=by
    rw[pm.length_eq]
    have e1:mss.flatten=(mss.take (i + 1)).flatten++(mss.drop (i + 1)).flatten:=by rw[<-List.flatten_append,List.take_append_drop]
    rw[e1,List.length_append]
    exact Nat.le_add_right _ _
   refine seq ?_
   walk_at "s1"
   refine⟨?_,gc,call_mem k (x.there hO) ky fun l2 H2 n2 m2 x2 h2=>?_⟩
   ·unfold mty
    dsimp only
    rw[rd_of hcn (by intro _ _ z;cases z)]
   ·unfold mthV
    dsimp only
    rw[x2.same _ _ hcn,h2]
    rw[tk,List.length_append]at le
    refine⟨by rw[sizeLine_eq,List.length_map,List.length_map];omega,seq0 (nx _ _ ⟨_,rfl,(x.trans x2).over hc mc,?_⟩)⟩
    rw[upd_same,tk,List.map_append]
 ·rintro σ Hn ⟨v2,rfl,x,hcn⟩
  rw[List.length_map,ln,List.take_length]at hcn
  refine seq ?_
  walk_at "s1"
  refine⟨gc,?_⟩
  unfold bltV
  dsimp only
  rw[rd_of hcn (by intro _ _ z;cases z)]
  dsimp only
  rw[strs_all]
  refine⟨by rw[<-pm.length_eq];exact few,fun ss l2 p2 s2 n2 m2=>?_⟩
  rw[sorted_same p2 pm (pm.nodup_iff.mp nd) s2 so]
  have hl2:H l2=none:=by
   cases e:H l2 with
   | none=>rfl
   | some u=>rw[x.same _ _ e]at n2;cases n2
  exact q l2 _ hl2 m2 (x.trans (Ext.upd n2 m2)) upd_same
end Kn
namespace Kn
open PySem PySem.Spec PyProof.Rows L2 Sw Gw
theorem comp_keepS {te:TE} {tt:TT} {fvs:L2.St} {D:Addr} {stay:Hp->Prop} {k:Hp->Prop} {H0:Hp} (f:Str->Bool):∀ (ts:List Str) (acc:List V),(∀ l,stay (upd H0 D (.lst l)))->
  (∀ x ∈ ts,∀acc R,R (f x) (upd H0 D (.lst acc))->tt (some (.str x)::fvs) (upd H0 D (.lst acc)) R)->(∀ x ∈ ts,∀acc Q,Q (.str x) (upd H0 D (.lst acc))->te (some (.str x)::fvs) (upd H0 D (.lst acc)) Q)->acc.length + ts.length<=1000->
  k (upd H0 D (.lst (acc++(ts.filter f).map V.str)))->compW te tt fvs D stay (ts.map V.str) acc (upd H0 D (.lst acc)) k
 | [],acc,st,_,_,_,q=>⟨st _,upd_same,by simpa using q⟩
 | x::ts,acc,st,ht,he,hl,q=>by
  rw[List.length_cons]at hl
  refine⟨st _,ht x List.mem_cons_self acc _ ?_⟩
  cases m:f x with
  | false=>
   rw[if_neg (by decide)]
   refine comp_keepS f ts acc st (fun y hy=>ht y (List.mem_cons_of_mem _ hy)) (fun y hy=>he y (List.mem_cons_of_mem _ hy)) (by omega) ?_
   rw[List.filter_cons_of_neg (by simp[m])]at q
   exact q
  | true=>
   rw[if_pos rfl]
   refine he x List.mem_cons_self acc _ ⟨upd_same,by rw[sizeLine_eq];omega,?_⟩
   rw[upd_upd]
   refine comp_keepS f ts _ st (fun y hy=>ht y (List.mem_cons_of_mem _ hy)) (fun y hy=>he y (List.mem_cons_of_mem _ hy)) (by rw[List.length_append];simp;omega) ?_
   rw[List.filter_cons_of_pos (by simp[m])]at q
   rw[List.append_assoc]
   exact q
theorem comp_inv {te:TE} {tt:TT} {fvs:L2.St} {D:Addr} {stay:Hp->Prop} {k:Hp->Prop} {xs:List V} (Pv:Nat->List V->Hp->Prop) (st:∀n acc H,Pv n acc H->stay H/\H D=some (.lst acc))
  (step:∀n v acc H (K:List V->Hp->Prop),xs[n]?=some v->Pv n acc H->(∀ acc' H',Pv (n + 1) acc' H'->K acc' H')->tt (some v::fvs) H fun ok H1=>if ok=true then te (some v::fvs) H1 fun y H2=>H2 D=some (.lst acc)/\acc.length < sizeLine/\K (acc++[y]) (upd H2 D (.lst (acc++[y])))else K acc H1)
  (fin:∀acc H,Pv xs.length acc H->k H) {acc:List V} {H:Hp} (h0:Pv 0 acc H):compW te tt fvs D stay xs acc H k:=by
 have go:∀ (r:List V) (n:Nat),xs.drop n=r->n<=xs.length->∀acc H,Pv n acc H->compW te tt fvs D stay r acc H k:=by
  intro r
  induction r with
  | nil=>
   intro n e hn acc H p
   have:xs.length<=n:=by simpa using e
   have hn':n=xs.length:=by omega
   subst hn'
   exact⟨(st _ _ _ p).1,(st _ _ _ p).2,fin acc H p⟩
  | cons v r ih=>
   intro n e hn acc H p
   have hlt:n < xs.length:=by
    have:=congrArg List.length e
    simp at this
    omega
   have hv:xs[n]?=some v:=by
    have:=congrArg (fun l=>l[0]?) e
    simpa using this
   have hr:xs.drop (n + 1)=r:=by
    have:=congrArg List.tail e
    simpa[List.tail_drop]using this
   exact⟨(st _ _ _ p).1,step n v acc H (fun acc' H'=>compW te tt fvs D stay r acc' H' k) hv p fun acc' H' q=>ih (n + 1) hr hlt acc' H' q⟩
 exact go xs 0 (by simp) (Nat.zero_le _) acc H h0
theorem lk0 (x:Str) (v:V) (r:List (Str × V)):List.lookup x ((x,v)::r)=some v:=by rw[List.lookup_cons,beq_self_eq_true]
theorem lk1 (x y:Str) (v:V) (r:List (Str × V)) (h:(y == x)=false):List.lookup y ((x,v)::r)=List.lookup y r:=by rw[List.lookup_cons,h]
noncomputable def spSInner (M:Mo) (CS:Addr):Sp:=fun vs H Q _=>∃p ms O,vs=[.ref p]/\KOne CS O H p ms/\∀l,H l=none->M l=none->Q (.ref l) (upd H l (.lst []))
theorem ok_sinner {M:Mo} {Γ:Gam} {CS:Addr} (gm:Γ.mod=M) (vs:List V) (H:Hp) (Q:VK) (E:XK) (h:spSInner M CS vs H Q E):spOf Γ N_Single_inner 1 b_Single_inner vs H Q E:=by
 obtain⟨p,ms,O,rfl,_,q⟩:=h
 refine⟨rfl,?_⟩
 obtain rfl:=gm
 unfold b_Single_inner
 refine seq ?_
 walk_at "s1"
 exact⟨by rw[sizeLine_eq];decide,fun l hl ml=>q l hl ml⟩
noncomputable def spGInner (M:Mo) (CG:Addr):Sp:=fun vs H Q _=>∃p dx r l xs,vs=[.ref p]/\H p=some (.ins CG dx [("ring",.ref r),("links",.ref l)])/\H r=some (.lst xs)/\∀l,H l=none->M l=none->Q (.ref l) (upd H l (.lst xs))
theorem ok_ginner {M:Mo} {Γ:Gam} {CG:Addr} (gm:Γ.mod=M) (gc:Γ.cm=true) (g1:Γ.ofl CG "ring" =true) (vs:List V) (H:Hp) (Q:VK) (E:XK) (h:spGInner M CG vs H Q E):spOf Γ N_Group_inner 1 b_Group_inner vs H Q E:=by
 obtain⟨p,dx,r,l,xs,rfl,hp,hr,q⟩:=h
 refine⟨rfl,?_⟩
 obtain rfl:=gm
 unfold b_Group_inner
 refine seq ?_
 walk_at "s1"
 refine⟨gc,?_⟩
 unfold ofldV
 dsimp only
 rw[hp]
 refine⟨g1,?_⟩
 rw[lk0]
 dsimp only
 unfold bltV
 dsimp only
 rw[rd_of hr (by intro _ _ z;cases z)]
 exact fun l hl ml=>q l hl ml
noncomputable def spGInit (M:Mo) (CG:Addr):Sp:=fun vs H Q _=>∃p dx r0 l0 xs ys,vs=[.ref p,.ref r0,.ref l0]/\H p=some (.ins CG dx [])/\H r0=some (.lst xs)/\H l0=some (.lst ys)/\
 ∀r l H',H r=none->H l=none->M r=none->M l=none->r ≠ l->H' p=some (.ins CG dx [("ring",.ref r),("links",.ref l)])->H' r=some (.lst xs)->H' l=some (.lst ys)->(∀ a,a ≠ p->a ≠ r->a ≠ l->H' a=H a)->Q .non H'
theorem ok_ginit {M:Mo} {Γ:Gam} {CG:Addr} (gm:Γ.mod=M) (gc:Γ.cm=true) (g1:Γ.ofl CG "ring" =true) (g2:Γ.ofl CG "links" =true) (vs:List V) (H:Hp) (Q:VK) (E:XK) (h:spGInit M CG vs H Q E):spOf Γ N_Group___init__ 3 b_Group___init__ vs H Q E:=by
 obtain⟨p,dx,r0,l0,xs,ys,rfl,hp,hr,hl,q⟩:=h
 refine⟨rfl,?_⟩
 obtain rfl:=gm
 unfold b_Group___init__
 refine seq ?_
 walk_at "s1"
 refine⟨gc,?_⟩
 unfold bltV
 dsimp only
 rw[rd_of hr (by intro _ _ z;cases z)]
 dsimp only
 intro r nr mr
 have pr:p ≠ r:=ne_of_none hp nr
 unfold osetV
 dsimp only
 rw[upd_ne pr,hp]
 refine⟨⟨g1,by decide⟩,?_⟩
 have lp:l0 ≠ p:=fun e=>by rw[e,hp]at hl;cases hl
 have lr:l0 ≠ r:=ne_of_none hl nr
 refine seq ?_
 walk_at "s1"
 refine⟨gc,?_⟩
 unfold bltV
 dsimp only
 rw[rd_of (show upd (upd H r (.lst xs)) p (.ins CG dx (putF "ring" (.ref r) [])) l0=some (.lst ys) by rw[upd_ne lp,upd_ne lr];exact hl) (by intro _ _ z;cases z)]
 dsimp only
 intro l nl ml
 have pl:p ≠ l:=fun e=>by rw[<-e,upd_same]at nl;cases nl
 have rl:r ≠ l:=fun e=>by rw[<-e,upd_ne (Ne.symm pr),upd_same]at nl;cases nl
 have nl0:H l=none:=by rw[upd_ne (Ne.symm pl),upd_ne (Ne.symm rl)]at nl;exact nl
 unfold osetV
 dsimp only
 rw[upd_ne pl,upd_same]
 refine⟨⟨g2,by show 1 < 1000;decide⟩,seq0 ?_⟩
 refine q r l _ nr nl0 mr ml rl ?_ ?_ ?_ fun a a1 a2 a3=>?_
 ·rw[upd_same];rfl
 ·rw[upd_ne (Ne.symm pr),upd_ne rl,upd_ne (Ne.symm pr),upd_same]
 ·rw[upd_ne (Ne.symm pl),upd_same]
 ·rw[upd_ne a1,upd_ne a3,upd_ne a1,upd_ne a2]
structure BaseOf (kvs:List (Key × V)) (ms:List Str) (b:Str):Prop where
 mem:b ∈ ms
 out:∀x,valV kvs (.inr b)=some x->∃t,x=.str t/\t ∉ ms
 in_:∀c ∈ ms,c ≠ b->∃t ∈ ms,valV kvs (.inr c)=some (.str t)
noncomputable def spGBase (M:Mo) (CS CG:Addr) (n:Nat):Sp:=fun vs H Q _=>∃p d ms O kvs b,vs=[.ref p,.ref d]/\(∀ a,O a->H a ≠ none)/\KGrp CS CG O n H p ms/\H d=some (.dK kvs)/\BaseOf kvs ms b/\∀H',Ext M H H'->Q (.str b) H'
theorem not_in {M:Mo} {H:Hp} {x:V} {p:Addr} {ns:List Str} {Q:VK} (h:H p=some (.lst (ns.map V.str))) (f:flatV x=true) (q:Q (.bl (!inV x (ns.map V.str))) H):cmpV M .NotIn x (.ref p) H Q:=by
 have e:(match rd M H p with | some (.lst xs)=>flatV x=true/\xs.all flatV=true/\Q (.bl (!inV x xs)) H | some (.tup xs)=>flatV x=true/\xs.all flatV=true/\Q (.bl (!inV x xs)) H | _=>False):=by
  rw[rd_of h (by intro _ _ z;cases z)]
  exact⟨f,by rw[List.all_map];exact List.all_eq_true.mpr fun _ _=>rfl,q⟩
 cases x<;>exact e
theorem inV_non (ns:List Str):inV .non (ns.map V.str)=false:=by
 induction ns with
 | nil=>rfl
 | cons y r ih=>
  have e:inV .non ((y::r).map V.str)=(eqV (.str y) .non || inV .non (r.map V.str)):=rfl
  rw[e,ih]
  rfl
theorem filter_one {b:Str} {f:Str->Bool}:∀ {ms:List Str},ms.Nodup->b ∈ ms->f b=true->(∀ c ∈ ms,c ≠ b->f c=false)->ms.filter f=[b]
 | [],_,h,_,_=>by simp at h
 | x::r,nd,h,fb,fo=>by
  obtain⟨n1,n2⟩:=List.nodup_cons.mp nd
  by_cases e:x=b
  ·subst e
   rw[List.filter_cons_of_pos fb,List.filter_eq_nil_iff.mpr fun c hc=>by rw[fo c (List.mem_cons_of_mem _ hc) fun z=>n1 (z ▸ hc)];decide]
  ·rw[List.filter_cons_of_neg (by rw[fo x List.mem_cons_self e];decide)]
   exact filter_one n2 ((List.mem_cons.mp h).resolve_left (Ne.symm e)) fb fun c hc=>fo c (List.mem_cons_of_mem _ hc)
theorem ok_gbase {M:Mo} {CS CG:Addr} {Γ:Gam} {n:Nat} (gm:Γ.mod=M) (gc:Γ.cm=true) (k:KM M CS CG Γ (n + 1)) (vs:List V) (H:Hp) (Q:VK) (E:XK) (h:spGBase M CS CG n vs H Q E):spOf Γ N_Group_base 2 b_Group_base vs H Q E:=by
 obtain⟨p,d,ms,O,kvs,b,rfl,hO,hk,hd,bo,q⟩:=h
 have nd:ms.Nodup:=by obtain⟨_,_,_,_,_,_,_,_,_,_,_,_,_,nd,_⟩:=hk;exact nd
 have few:=hk.at.few
 refine⟨rfl,?_⟩
 obtain rfl:=gm
 unfold b_Group_base
 refine seq ?_
 walk_at "s1"
 refine⟨gc,call_mem k hO hk.at fun l H1 nl ml x1 h1=>?_⟩
 have hd1:=x1.same _ _ hd
 refine seq ?_
 walk_at "s1"
 refine⟨gc,?_⟩
 unfold iterV
 dsimp only
 rw[rd_of h1 (by intro _ _ z;cases z)]
 dsimp only
 intro D hD mD
 have lD:l ≠ D:=ne_of_none h1 hD
 have dD:d ≠ D:=ne_of_none hd1 hD
 refine comp_keepS (fun c=>match valV kvs (.inr c)with | some (.str t)=>!decide (t ∈ ms) | _=>true) ms [] (fun zs=>by rw[rd_of (show upd H1 D (.lst zs) l=_ by rw[upd_ne lD];exact h1) (by intro _ _ z;cases z)]) (fun c hc acc R hR=>?_) (fun c hc acc Q hQ=>?_) (by simp;omega) ?_
 ·walk_at "s1"
  have hdD:upd H1 D (.lst acc) d=some (.dK kvs):=by rw[upd_ne dD];exact hd1
  have hlD:upd H1 D (.lst acc) l=some (.lst (ms.map V.str)):=by rw[upd_ne lD];exact h1
  refine⟨by unfold mty isDk;dsimp only;rw[hdD],?_⟩
  unfold mthV
  dsimp only
  rw[hdD]
  show cmpV Γ.mod .NotIn ((valV kvs (.inr c)).getD .non) (.ref l) _ _
  have vs:valV kvs (.inr c)=none\/∃t,valV kvs (.inr c)=some (.str t):=by
   by_cases e:c=b
   ·subst e
    cases e:valV kvs (.inr c)with
    | none=>exact .inl rfl
    | some x=>obtain⟨t,rfl,_⟩:=bo.out x e;exact .inr ⟨t,rfl⟩
   ·obtain⟨t,_,e⟩:=bo.in_ c hc e
    exact .inr ⟨t,e⟩
  rcases vs with e | ⟨t,e⟩
  ·rw[e]at hR ⊢
   exact not_in hlD rfl ⟨_,rfl,by rw[show((none:Option V).getD .non)=V.non from rfl,inV_non];exact hR⟩
  ·rw[e]at hR ⊢
   exact not_in hlD rfl ⟨_,rfl,by rw[show((some (V.str t)).getD .non)=V.str t from rfl,inV_strs];exact hR⟩
 ·walk_at "s1"
  exact hQ
 ·have fe:ms.filter (fun c=>match valV kvs (.inr c)with | some (.str t)=>!decide (t ∈ ms) | _=>true)=[b]:=by
   refine filter_one nd bo.mem ?_ fun c hc ne=>?_
   ·cases e:valV kvs (.inr b)with
    | none=>rfl
    | some x=>
     obtain⟨t,rfl,ht⟩:=bo.out x e
     simp[ht]
   ·obtain⟨t,ht,e⟩:=bo.in_ c hc ne
    rw[e]
    simp[ht]
  rw[fe]
  refine seq ?_
  walk_at "s1"
  rw[i_ref,rd_of upd_same (by intro _ _ z;cases z)]
  exact q _ (x1.trans (Ext.upd hD mD))
end Kn
namespace Gw
open PySem PySem.Spec PyProof.Rows L2 Sw
noncomputable def adjW (W:Web) (x:Str):List Str:=match W.lookup x with
 | some r=>r.map (·.1)
 | none=>[]
structure WebOk (W:Web):Prop where
 keys:(W.map (·.1)).Nodup
 sy:∀a b,b ∈ adjW W a->a ∈ adjW W b
 cl:∀a b,b ∈ adjW W a->b ∈ W.map (·.1)
theorem lookup_wo (ns:List Str) (x:Str):∀W:Web,(wo ns W).lookup x=if x ∈ ns then none else(W.lookup x).map (keep ns)
 | []=>by unfold wo;simp
 | y::W=>by
  obtain⟨n,r⟩:=y
  have ih:=lookup_wo ns x W
  have e:wo ns ((n,r)::W)=if n ∈ ns then wo ns W else(n,keep ns r)::wo ns W:=by
   unfold wo
   by_cases h:n ∈ ns
   ·rw[if_pos h];simp[h]
   ·rw[if_neg h];simp[h]
  rw[e,List.lookup_cons]
  by_cases q:x=n
  ·subst q
   by_cases h:x ∈ ns
   ·rw[if_pos h,ih,if_pos h,if_pos h]
   ·rw[if_neg h,if_neg h,List.lookup_cons]
    simp
  ·have q2:(x == n)=false:=by simpa using q
   rw[q2]
   by_cases h:n ∈ ns
   ·rw[if_pos h,ih]
   ·rw[if_neg h,List.lookup_cons,q2,ih]
theorem adjW_wo (ns:List Str) (W:Web) (a b:Str):b ∈ adjW (wo ns W) a ↔ a ∉ ns/\b ∉ ns/\b ∈ adjW W a:=by
 unfold adjW
 rw[lookup_wo]
 by_cases h:a ∈ ns
 ·rw[if_pos h];simp[h]
 ·rw[if_neg h]
  cases W.lookup a with
  | none=>simp
  | some r=>
   simp only[Option.map_some,h,not_false_eq_true,true_and]
   unfold keep
   constructor
   ·intro z
    obtain⟨y,hy,e⟩:=List.mem_map.mp z
    obtain⟨h1,h2⟩:=List.mem_filter.mp hy
    have h2':y.1 ∉ ns:=by simpa using h2
    exact⟨e ▸ h2',List.mem_map.mpr ⟨y,h1,e⟩⟩
   ·rintro⟨h1,h2⟩
    obtain⟨y,hy,e⟩:=List.mem_map.mp h2
    exact List.mem_map.mpr ⟨y,List.mem_filter.mpr ⟨hy,by rw[e];simpa using h1⟩,e⟩
theorem wo_mem (ns:List Str) (W:Web) (x:Str):x ∈ (wo ns W).map (·.1) ↔ x ∉ ns/\x ∈ W.map (·.1):=by
 unfold wo
 rw[List.map_map]
 constructor
 ·intro h
  obtain⟨y,hy,e⟩:=List.mem_map.mp h
  obtain⟨h1,h2⟩:=List.mem_filter.mp hy
  have e:y.1=x:=e
  have h2':y.1 ∉ ns:=by simpa using h2
  exact⟨e ▸ h2',List.mem_map.mpr ⟨y,h1,e⟩⟩
 ·rintro⟨h1,h2⟩
  obtain⟨y,hy,e⟩:=List.mem_map.mp h2
  have e:y.1=x:=e
  exact List.mem_map.mpr ⟨y,List.mem_filter.mpr ⟨hy,by rw[e];simpa using h1⟩,e⟩
theorem WebOk.wo {W:Web} (ns:List Str) (k:WebOk W):WebOk (wo ns W) where
 keys:=wo_nodup k.keys
 sy:=fun a b h=>by
  rw[adjW_wo]at h ⊢
  exact⟨h.2.1,h.1,k.sy a b h.2.2⟩
 cl:=fun a b h=>by
  rw[adjW_wo]at h
  rw[wo_mem]
  exact⟨h.2.1,k.cl a b h.2.2⟩
noncomputable def IsGroups (W:Web) (G:List (List Str)):Prop:=∃ (L:List Str) (m:Str->Str),L.Pairwise slt/\(∀ x,x ∈ L ↔ x ∈ W.map (·.1))/\Gr.Least (adjW W) slt L m/\G=Gr.byMark m L
theorem IsGroups.nil {G:List (List Str)} (h:IsGroups [] G):G=[]:=by
 obtain⟨L,m,h1,h2,h3,rfl⟩:=h
 have e:L=[]:=List.eq_nil_iff_forall_not_mem.mpr fun x hx=>by
  have:=(h2 x).mp hx
  cases this
 rw[e]
 rfl
structure GrpAt (H:Hp) (l:Addr) (P:List (Addr × List Str)):Prop where
 top:H l=some (.lst (P.map fun y=>V.ref y.1))
 at_:∀y ∈ P,H y.1=some (.lst (y.2.map V.str))
 nd:(l::P.map (·.1)).Nodup
theorem allM_map {α β:Type} {f:V->Option β} {g:α->V} {k:α->β}:∀ {l:List α},(∀ x ∈ l,f (g x)=some (k x))->allM f (l.map g)=some (l.map k)
 | [],_=>rfl
 | x::r,h=>by
  rw[List.map_cons,List.map_cons]
  unfold allM
  rw[h x List.mem_cons_self,allM_map fun y hy=>h y (List.mem_cons_of_mem _ hy)]
theorem data_str {M:Mo} {H:Hp} (n:Nat) (x:Str):data M H n (.str x)=some (.str x):=by cases n<;>rfl
theorem data_strs {M:Mo} {H:Hp} {p:Addr} {ns:List Str} (n:Nat) (h:rd M H p=some (.lst (ns.map V.str))):data M H (n + 1) (.ref p)=some (.list (ns.map PyData.str)):=by
 unfold data
 rw[h]
 dsimp only
 rw[allM_map (k:=PyData.str) fun x _=>data_str n x]
 rfl
theorem nofrz_l {xs:List V}:∀b u,(HO.lst xs) ≠ .frz b u:=by intro _ _ z;cases z
theorem nofrz_d {kvs:List (Key × V)}:∀b u,(HO.dK kvs) ≠ .frz b u:=by intro _ _ z;cases z
theorem GrpAt.data {M:Mo} {H:Hp} {l:Addr} {P:List (Addr × List Str)} (g:GrpAt H l P) (n:Nat):data M H (n + 2) (.ref l)=some (.list (P.map fun y=>.list (y.2.map PyData.str))):=by
 unfold Sw.data
 rw[rd_of g.top nofrz_l]
 dsimp only
 rw[allM_map (k:=fun y:Addr × List Str=>PyData.list (y.2.map PyData.str)) fun y hy=>data_strs n (rd_of (g.at_ y hy) nofrz_l)]
 rfl
end Gw
namespace Sw
open PySem PySem.Spec PyProof.Rows L2 Gw
theorem Ext.web {M:Mo} {H H':Hp} {w:Addr} {E:List Ent} (x:Ext M H H') (W:WebAt H w E):WebAt H' w E:=
 ⟨x.same _ _ W.top,fun e he=>x.same _ _ (W.row e he),W.nd,W.keys,W.rk,W.few,W.rfew⟩
theorem Ext.grp {M:Mo} {H H':Hp} {l:Addr} {P:List (Addr × List Str)} (x:Ext M H H') (W:GrpAt H l P):GrpAt H' l P:=
 ⟨x.same _ _ W.top,fun e he=>x.same _ _ (W.at_ e he),W.nd⟩
theorem Ext.offM {M:Mo} {H H':Hp} (x:Ext M H H') (o:OffM M H):OffM M H':=fun a h=>x.off a h (o a h)
theorem Ext.non {M:Mo} {H H':Hp} {a:Addr} (x:Ext M H H') (h:H' a=none):H a=none:=by
 cases e:H a with
 | none=>rfl
 | some u=>rw[x.same a u e]at h;cases h
end Sw
namespace Gw
open PySem PySem.Spec PyProof.Rows L2 Sw
noncomputable def spGO (M:Mo):Sp:=fun vs H Q _=>∃w q E ns,vs=[.ref w,.ref q]/\WebAt H w E/\OffM M H/\WebOk (cont E)/\rd M H q=some (.lst (ns.map V.str))/\
 ∀H' l P,Ext M H H'->H l=none->(∀ y ∈ P,H y.1=none)->GrpAt H' l P->IsGroups (wo ns (cont E)) (P.map (·.2))->Q (.ref l) H'
end Gw
namespace Gw
open PySem PySem.Spec PyProof.Rows L2 Sw
structure Grow (M:Mo) (w r:Addr) (H H':Hp) (E':List Ent):Prop where
 hr:H' r=some (.dK (topK E'))
 rows:∀e ∈ E',H' e.2.1=some (.dK (rowK e.2.2))/\H e.2.1=none/\e.2.1 ≠ r
 nd:(E'.map (·.2.1)).Nodup
 x:ExtB M w H H'
theorem Grow.add {M:Mo} {w r l:Addr} {H H':Hp} {E':List Ent} (g:Grow M w r H H' E') (hl:H' l=none) (hl0:H l=none) (hr0:H r=none) (mr:M r=none) (ml:M l=none) (c:Str) (row:Row):
  Grow M w r H (upd (upd H' l (.dK (rowK row))) r (.dK (topK (E'++[(c,l,row)])))) (E'++[(c,l,row)]):=by
 have rl:r ≠ l:=ne_of_none g.hr hl
 refine⟨upd_same,fun e he=>?_,?_,(g.x.upd hl0 ml).upd hr0 mr⟩
 ·rcases List.mem_append.mp he with he | he
  ·obtain⟨h1,h2,h3⟩:=g.rows e he
   exact⟨by rw[upd_ne h3,upd_ne (ne_of_none h1 hl)];exact h1,h2,h3⟩
  ·rw[List.mem_singleton.mp he]
   exact⟨by rw[upd_ne rl.symm,upd_same],hl0,rl.symm⟩
 ·rw[List.map_append,List.nodup_append]
  refine⟨g.nd,by simp,fun a ha b hb z=>?_⟩
  obtain⟨e,he,rfl⟩:=List.mem_map.mp ha
  have hb':b=l:=by simpa using hb
  have:=(g.rows e he).1
  rw[z,hb',hl]at this
  cases this
theorem Grow.fin {M:Mo} {w r:Addr} {H H':Hp} {E E':List Ent} {ns:List Str} (g:Grow M w r H H' E') (W:WebAt H w E) (off:OffM M H) (hr:H r=none) (c:cont E'=wo ns (cont E)):
  Ext M H (upd H' w (.dK (topK E)))/\WebAt (upd H' w (.dK (topK E))) r E':=by
 have wr:w ≠ r:=ne_of_none W.top hr
 have mw:M w=none:=OffM.at off W.top
 have ke:E'.map (·.1)=(wo ns (cont E)).map (·.1):=by rw[<-cont_keys,c]
 have inE:∀e ∈ E',∃e0 ∈ E,keep ns e0.2.2=e.2.2:=fun e he=>by
  have z:(e.1,e.2.2) ∈ wo ns (cont E):=by rw[<-c];exact List.mem_map.mpr ⟨e,he,rfl⟩
  obtain⟨y,hy,q⟩:=List.mem_map.mp z
  obtain⟨e0,he0,q0⟩:=List.mem_map.mp (List.mem_filter.mp hy).1
  cases q0
  exact⟨e0,he0,congrArg Prod.snd q⟩
 refine⟨g.x.thaw W.top mw,by rw[upd_ne wr.symm];exact g.hr,fun e he=>?_,?_,?_,?_,?_,?_⟩
 ·have hw:e.2.1 ≠ w:=fun z=>by
   have:=(g.rows e he).2.1
   rw[z,W.top]at this
   cases this
  rw[upd_ne hw]
  exact(g.rows e he).1
 ·rw[List.nodup_cons]
  refine⟨fun z=>?_,g.nd⟩
  obtain⟨e,he,q⟩:=List.mem_map.mp z
  exact(g.rows e he).2.2 q
 ·rw[ke]
  exact wo_nodup (by rw[cont_keys];exact W.keys)
 ·intro e he
  obtain⟨e0,he0,q2⟩:=inE e he
  rw[<-q2]
  exact keep_nodup (W.rk e0 he0)
 ·have l1:E'.length=(cont E').length:=by unfold cont;rw[List.length_map]
  have l2:(wo ns (cont E)).length<=(cont E).length:=by unfold wo;rw[List.length_map];exact List.length_filter_le _ _
  have l3:(cont E).length=E.length:=by unfold cont;rw[List.length_map]
  have l5:=W.few
  rw[l1,c]
  omega
 ·intro e he
  obtain⟨e0,he0,q2⟩:=inE e he
  rw[<-q2]
  exact Nat.le_trans (List.length_filter_le _ _) (W.rfew e0 he0)
theorem web_pw {H:Hp} {w:Addr} {E:List Ent} (W:WebAt H w E) {c:Str} {p:Addr} {row:Row} (hm:(c,p,row) ∈ E):p ≠ w:=by
 intro z
 have:=W.nd
 rw[List.nodup_cons]at this
 exact this.1 (List.mem_map.mpr ⟨_,hm,z⟩)
end Gw
namespace Gw
open PySem PySem.Spec PyProof.Rows L2 Sw
theorem Grow.inner {M:Mo} {w r l p:Addr} {H Hs Hk:Hp} {E':List Ent} {c:Str} {row row':Row} (g:Grow M w r H Hs (E'++[(c,l,[])])) (hp:H p=some (.dK (rowK row))) (hr0:H r=none) (mp:M p=none)
  (k1:Hk r=some (.dK (topK (E'++[(c,l,[])])))) (k2:Hk l=some (.dK (rowK row'))) (k3:∀a u,a ≠ p->a ≠ l->Hs a=some u->Hk a=some u) (k4:∀a,M a ≠ none->Hs a=none->Hk a=none):
  Grow M w r H (upd Hk p (.dK (rowK row))) (E'++[(c,l,row')]):=by
 have hl0:H l=none:=(g.rows (c,l,[]) (by simp)).2.1
 have lr:l ≠ r:=(g.rows (c,l,[]) (by simp)).2.2
 have pl:p ≠ l:=ne_of_none hp hl0
 have pr:p ≠ r:=ne_of_none hp hr0
 have nd:=g.nd
 have tk:topK (E'++[(c,l,[])])=topK (E'++[(c,l,row')]):=by unfold topK;rw[List.map_append,List.map_append];rfl
 refine⟨by rw[upd_ne pr.symm,k1,tk],fun e he=>?_,by rw[List.map_append]at nd ⊢;exact nd,⟨fun a u hn e=>?_,fun a m e=>?_⟩⟩
 ·rcases List.mem_append.mp he with he | he
  ·obtain⟨h1,h2,h3⟩:=g.rows e (List.mem_append_left _ he)
   have np:e.2.1 ≠ p:=fun z=>by rw[z,hp]at h2;cases h2
   have nl:e.2.1 ≠ l:=fun z=>by
    rw[List.map_append,List.nodup_append]at nd
    exact nd.2.2 e.2.1 (List.mem_map.mpr ⟨e,he,rfl⟩) l (by simp) z
   exact⟨by rw[upd_ne np];exact k3 _ _ np nl h1,h2,h3⟩
  ·rw[List.mem_singleton.mp he]
   exact⟨by rw[upd_ne pl.symm];exact k2,hl0,lr⟩
 ·by_cases q:a=p
  ·rw[q,upd_same,<-e,q];exact hp.symm
  ·rw[upd_ne q]
   exact k3 a u q (ne_of_none e hl0) (g.x.same a u hn e)
 ·rw[upd_ne (fun z=>m (by rw[z];exact mp))]
  exact k4 a m (g.x.off a m e)
end Gw
namespace Gw
open PySem PySem.Spec PyProof.Rows L2 Sw
theorem atI_at {α:Type} {xs:List α} {i:Int} (h0:0<=i) (h1:i < xs.length):∃x,atI xs i=some x/\x ∈ xs:=by
 have hlt:i.toNat < xs.length:=by omega
 refine⟨xs[i.toNat],?_,List.getElem_mem hlt⟩
 unfold atI ixN
 rw[if_pos h0,if_pos h1,Option.bind_some,List.getElem?_eq_getElem hlt]
theorem ix_at {M:Mo} {H:Hp} {p:Addr} {xs:List V} {i:Int} {v:V} {Q:VK} (h:rd M H p=some (.lst xs)) (e:atI xs i=some v) (q:Q v H):idxV M (.ref p) (.int i) H Q:=by
 rw[i_ref,h]
 dsimp only
 rw[e]
 exact q
theorem ix_str {M:Mo} {H:Hp} {p:Addr} {ns:List Str} {i:Int} {Q:VK} (h:rd M H p=some (.lst (ns.map V.str))) (h0:0<=i) (h1:i < ns.length) (q:∀x ∈ ns,Q (.str x) H):idxV M (.ref p) (.int i) H Q:=by
 obtain⟨v,e,hv⟩:=atI_at (xs:=ns.map V.str) h0 (by rw[List.length_map];exact h1)
 obtain⟨x,hx,rfl⟩:=List.mem_map.mp hv
 exact ix_at h e (q x hx)
theorem len_at {M:Mo} {H:Hp} {p:Addr} {xs:List V} {Q:VK} (h:rd M H p=some (.lst xs)) (q:Q (.int xs.length) H):bltV M .len [.ref p] H Q:=by
 rw[Sw.b_lenr,h]
 exact q
theorem bnd_of {i:Int} (h0: -4294967296<=i) (h1:i<=4294967296):bnd i=true:=by
 unfold bnd
 simp only[Bool.and_eq_true,decide_eq_true_eq]
 omega
theorem bnd_r {i j:Int} (h0: -4294967296<=j) (h1:j<=4294967296):(bnd i || bnd j)=true:=by rw[bnd_of h0 h1,Bool.or_true]
theorem bnd_l {i j:Int} (h0: -4294967296<=i) (h1:i<=4294967296):(bnd i || bnd j)=true:=by rw[bnd_of h0 h1,Bool.true_or]
theorem len_cat (x y:Str):(x++y).length=x.length + y.length:=by
 show(x.cps++y.cps).size=x.cps.size + y.cps.size
 rw[Array.size_append]
end Gw
namespace Kn
open PySem PySem.Spec PyProof.Rows L2 Sw Gw
noncomputable def joinL (g:List Nat):List Str->List Nat
 | []=>[]
 | x::r=>cps x++(r.map fun p=>g++cps p).flatten
theorem glue_fold (g:Array Nat):∀ (ps:List Str) (acc:Array Nat),(ps.foldl (fun acc p=>acc++g++p.cps) acc).toList=acc.toList++(ps.map fun p=>g.toList++cps p).flatten
 | [],acc=>by simp
 | p::r,acc=>by
  rw[List.foldl_cons,glue_fold g r]
  simp[cps]
theorem cps_join (sep:Str) (l:List Str):cps (Txt.join sep l)=joinL (cps sep) l:=by
 cases l with
 | nil=>rfl
 | cons x r=>
  show((r.foldl (fun acc p=>acc++sep.cps++p.cps) x.cps)).toList=_
  rw[glue_fold]
  rfl
theorem joinL_nil:∀l:List Str,joinL [] l=(l.map cps).flatten
 | []=>rfl
 | x::r=>by simp[joinL]
theorem fold_len (n B:Nat):∀ (l:List Str) (a:Nat),(∀ x ∈ l,x.length<=B)->l.foldl (fun a (x:Str)=>a + x.length + n) a<=a + l.length * (B + n)
 | [],a,h=>by simp
 | x::r,a,h=>by
  rw[List.foldl_cons]
  refine Nat.le_trans (fold_len n B r _ fun y hy=>h y (List.mem_cons_of_mem _ hy)) ?_
  have:=h x List.mem_cons_self
  rw[List.length_cons,Nat.succ_mul]
  omega
theorem joinOk (sep:Str) (l:List Str) (B:Nat) (h:∀x ∈ l,x.length<=B) (hb:l.length * (B + sep.length)<=16777216):JoinOk sep l=true:=by
 unfold JoinOk Builtin.Str.tooLong
 have z:=fold_len sep.length B l 0 h
 rw[List.foldl_toArray]
 simp only[Bool.not_eq_true',decide_eq_false_iff_not,gt_iff_lt,Nat.not_lt]
 rw[sizeLine_eq]
 omega
theorem join_one (cs:List Nat) (h:cs.length<=8):JoinOk (Str.ofString "") (cs.map fun c=>(⟨#[c]⟩:Str))=true/\(Txt.join (Str.ofString "") (cs.map fun c=>(⟨#[c]⟩:Str))).cps.toList=cs:=by
 refine⟨joinOk _ _ 1 (fun x hx=>?_) ?_,?_⟩
 ·obtain⟨c,_,rfl⟩:=List.mem_map.mp hx
  exact Nat.le_refl 1
 ·rw[List.length_map,show(Str.ofString "").length=0 from rfl]
  omega
 ·have e:=cps_join (Str.ofString "") (cs.map fun c=>(⟨#[c]⟩:Str))
  rw[show cps (Str.ofString "")=[]from rfl,joinL_nil,List.map_map]at e
  have e2:∀l:List Nat,(l.map (cps ∘ fun c=>(⟨#[c]⟩:Str))).flatten=l:=fun l=>by
   induction l with
   | nil=>rfl
   | cons c r ih=>
    rw[List.map_cons,List.flatten_cons,ih]
    rfl
  rw[e2]at e
  exact e
theorem comp_at {te:TE} {fvs:L2.St} {D:Addr} {stay:Hp->Prop} {H0:Hp} {k:Hp->Prop} (f:V->V):∀ (xs acc:List V),(∀ v ∈ xs,∀acc Q,Q (f v) (upd H0 D (.lst acc))->te (some v::fvs) (upd H0 D (.lst acc)) Q)->(∀ l,stay (upd H0 D (.lst l)))->acc.length + xs.length<=sizeLine->
  k (upd H0 D (.lst (acc++xs.map f)))->compW te (fun _ H Q=>Q true H) fvs D stay xs acc (upd H0 D (.lst acc)) k:=by
 intro xs
 induction xs with
 | nil=>
  intro acc h1 h2 h3 h4
  exact⟨h2 _,upd_same,by simpa using h4⟩
 | cons v r ih=>
  intro acc h1 h2 h3 h4
  refine⟨h2 _,?_⟩
  show if true=true then _ else _
  rw[if_pos rfl]
  refine h1 v List.mem_cons_self _ _ ⟨upd_same,by rw[List.length_cons]at h3;omega,?_⟩
  rw[upd_upd]
  refine ih (acc++[f v]) (fun v hv=>h1 v (List.mem_cons_of_mem _ hv)) h2 (by rw[List.length_append];simp at h3 ⊢;omega) ?_
  simpa using h4
@[reducible] noncomputable def N__law_cell_at:List Str:=["_law_script","_law_k"]
noncomputable def b__law_cell_at:Sxs:=(.cons (.iff (.cmp .Lt (.var 1) (.blt .len (.cons (.var 0) .nil))) (.cons (.ret (.idx (.var 0) (.var 1)))
 .nil) .nil)
 (.cons (.ret (.con (.int 0)))
 .nil))
@[reducible] noncomputable def N__law_mix:List Str:=["_law_cell","_law_k","_law_number"]
noncomputable def b__law_mix:Sxs:=(.cons (.asg 2 (.bin .Mod (.bin .Mult (.bin .Add (.bin .Add (.bin .Mod (.var 0) (.con (.int 2147483647))) (.bin .Mult (.con (.int 7919)) (.var 1))) (.con (.int 1))) (.con (.int 48271))) (.con (.int 2147483647))))
 (.cons (.asg 2 (.bin .Mod (.bin .Add (.bin .Mult (.var 2) (.var 2)) (.var 1)) (.con (.int 2147483629))))
 (.cons (.ret (.bin .Mod (.bin .Mult (.var 2) (.var 2)) (.con (.int 2147483587))))
 .nil)))
@[reducible] noncomputable def N__law_names:List Str:=["_law_cell","_law_many","_law_letters","_law_base","_law_at","_law_size","_law_names_here","_law_k","_law_name"]
noncomputable def b__law_names:Sxs:=(.cons (.asg 2 (.con (.str "abcdefghijklmnopqrstuvwxyz")))
 (.cons (.asg 3 (.mth .join (.con (.str "")) (.cons (.comp "_law_j" [("_law_letters",2),("_law_cell",0)] (.rng1 (.con (.int 7))) (.idx (.var 1) (.bin .Mod (.call "_law_mix" (.cons (.var 2) (.cons (.var 0) .nil))) (.con (.int 26)))) .nil) .nil)))
 (.cons (.asg 4 (.bin .Mod (.call "_law_mix" (.cons (.var 0) (.cons (.con (.int 9)) .nil))) (.con (.int 6))))
 (.cons (.asg 5 (.bin .Add (.con (.int 2)) (.bin .Mod (.var 0) (.con (.int 6)))))
 (.cons (.asg 6 (.lst .nil))
 (.cons (.fr 7 (.rng1 (.var 1)) (.cons (.asg 8 (.bin .Add (.bin .Add (.slc (.var 3) .nil (.cons (.var 4) .nil)) (.idx (.var 2) (.bin .Mod (.bin .Add (.call "_law_mix" (.cons (.var 0) (.cons (.con (.int 8)) .nil))) (.var 7)) (.con (.int 26))))) (.slc (.var 3) (.cons (.var 4) .nil) .nil)))
 (.cons (.exp (.mth .append (.var 6) (.cons (.slc (.var 8) .nil (.cons (.blt .max (.cons (.bin .Add (.var 4) (.con (.int 1))) (.cons (.idx (.lst (.cons (.var 5) (.cons (.bin .Add (.con (.int 2)) (.bin .Mod (.bin .Add (.var 5) (.bin .Mult (.con (.int 5)) (.var 7))) (.con (.int 7)))) .nil))) (.bin .Mod (.bin .FloorDiv (.var 0) (.con (.int 6))) (.con (.int 2)))) .nil))) .nil)) .nil)))
 .nil)))
 (.cons (.ret (.var 6))
 .nil)))))))
noncomputable def spCellA (M:Mo):Sp:=fun vs H Q _=>∃a i,∃ns:List Int,vs=[.ref a,.int i]/\0<=i/\rd M H a=some (.lst (ns.map V.int))/\∀c,Q (.int c) H
theorem ok_cellA {M:Mo} {Γ:Gam} (hM:Γ.mod=M) (hc:Γ.cm=true) (vs:List V) (H:Hp) (Q:VK) (E:XK) (h:spCellA M vs H Q E):spOf Γ N__law_cell_at 2 b__law_cell_at vs H Q E:=by
 subst hM
 obtain⟨a,i,ns,rfl,h0,ha,h⟩:=h
 refine⟨rfl,?_⟩
 unfold b__law_cell_at
 walk_at "sw"
 refine⟨hc,?_⟩
 rw[Sw.b_lenr,ha]
 dsimp only
 rw[Sw.v_lt]
 refine⟨_,rfl,?_⟩
 by_cases q:i < (ns.map V.int).length
 ·rw[if_pos (by simpa using q)]
  obtain⟨x,e1,e2⟩:=atI_at h0 q
  obtain⟨n,_,rfl⟩:=List.mem_map.mp e2
  exact ix_at ha e1 (h n)
 ·rw[if_neg (by simpa using q)]
  exact h 0
noncomputable def mixF (c k:Int):Int:=
 ((((c % 2147483647 + 7919 * k + 1) * 48271 % 2147483647) * ((c % 2147483647 + 7919 * k + 1) * 48271 % 2147483647) + k) % 2147483629) * ((((c % 2147483647 + 7919 * k + 1) * 48271 % 2147483647) * ((c % 2147483647 + 7919 * k + 1) * 48271 % 2147483647) + k) % 2147483629) % 2147483587
noncomputable def spMixF:Sp:=fun vs H Q _=>∃c k,vs=[.int c,.int k]/\Q (.int (mixF c k)) H
theorem ok_mixF {Γ:Gam} (vs:List V) (H:Hp) (Q:VK) (E:XK) (h:spMixF vs H Q E):spOf Γ N__law_mix 2 b__law_mix vs H Q E:=by
 obtain⟨c,k,rfl,h⟩:=h
 refine⟨rfl,?_⟩
 unfold b__law_mix
 walk_at "sw"
 walk_at "sv"
 have r1:∀x:Int,bnd (x % 2147483647)=true:=fun x=>bnd_of (by have:=Int.emod_nonneg x (show(2147483647:Int) ≠ 0 by decide);omega) (by have:=Int.emod_lt_of_pos x (show(0:Int) < 2147483647 by decide);omega)
 have r2:∀x:Int,bnd (x % 2147483629)=true:=fun x=>bnd_of (by have:=Int.emod_nonneg x (show(2147483629:Int) ≠ 0 by decide);omega) (by have:=Int.emod_lt_of_pos x (show(0:Int) < 2147483629 by decide);omega)
 refine⟨by decide,bnd_l (by decide) (by decide),bnd_r (by decide) (by decide),by decide,by rw[r1];rfl,by decide,by rw[r2];rfl,by decide,?_⟩
 exact h
theorem alpha_cps:(Str.ofString "abcdefghijklmnopqrstuvwxyz").cps.toList=(List.range 26).map (·+ 97):=by decide +kernel
theorem alpha_i {i:Int} {M:Mo} {H:Hp} {Q:VK} (q:Q (.str ⟨#[(i % 26).toNat + 97]⟩) H):idxV M (.str (Str.ofString "abcdefghijklmnopqrstuvwxyz")) (.int (i % 26)) H Q:=by
 rw[i_str,alpha_cps]
 refine⟨by rw[sizeLine_eq];decide +kernel,?_⟩
 have h0:=Int.emod_nonneg i (show(26:Int) ≠ 0 by decide)
 have h1:=Int.emod_lt_of_pos i (show(0:Int) < 26 by decide)
 have e:atI ((List.range 26).map (·+ 97)) (i % 26)=some ((i % 26).toNat + 97):=by
  unfold atI ixN
  rw[if_pos h0,if_pos (by simpa using h1),Option.bind_some,List.getElem?_map,List.getElem?_range (by omega)]
  rfl
 rw[e]
 exact q
theorem len_cps' (x:Str):x.length=x.cps.toList.length:=by simp[Str.length]
theorem slice_to {x:Str} {j:Int} (h0:0<=j) (h1:j<=x.cps.toList.length):(Txt.slice x none (some j)).cps.toList=x.cps.toList.take j.toNat:=by
 rw[eq_of_beq (slice_closes_to (x:=x) (j:=j) ⟨h0,h1⟩)]
 simp
theorem slice_from {x:Str} {j:Int} (h0:0<=j) (h1:j<=x.cps.toList.length):(Txt.slice x (some j) none).cps.toList=x.cps.toList.drop j.toNat:=by
 rw[eq_of_beq (slice_closes_from (x:=x) (i:=j) ⟨h0,h1⟩)]
 simp only[List.toList_toArray]
 exact List.take_of_length_le (by rw[List.length_drop];omega)
theorem cat_cps (x y:Str):(x++y).cps.toList=x.cps.toList++y.cps.toList:=by
 show(x.cps++y.cps).toList=_
 rw[Array.toList_append]
end Kn
namespace Kn
open PySem PySem.Spec PyProof.Rows L2 Sw Gw
noncomputable def letterK (c:Int) (j:Nat):Nat:=(mixF c j % 26).toNat + 97
noncomputable def spNamesK (M:Mo):Sp:=fun vs H Q _=>∃c n,vs=[.int c,.int n]/\0<=n/\n<=26/\
 ∀ (l:Addr) (H':Hp) (ns:List Str),H l=none->M l=none->Ext M H H'->H' l=some (.lst (ns.map V.str))->(ns.length:Int)=n->ns.Nodup->Q (.ref l) H'
theorem ok_namesK {M:Mo} {Γ:Gam} (gm:Γ.mod=M) (gc:Γ.cm=true) (gx:Γ.has "_law_mix" =true/\Γ.fn "_law_mix" =spMixF) (vs:List V) (H:Hp) (Q:VK) (E:XK) (h:spNamesK M vs H Q E):spOf Γ N__law_names 2 b__law_names vs H Q E:=by
 obtain⟨c,n,rfl,n0,n1,h⟩:=h
 refine⟨rfl,?_⟩
 obtain rfl:=gm
 obtain⟨gx1,gx2⟩:=gx
 unfold b__law_names
 refine seq ?_
 walk_at "s1"
 refine seq ?_
 walk_at "s1"
 refine⟨rfl,gc,by decide,by decide,fun D hD mD=>?_⟩
 refine comp_at (fun v=>match v with | .int j=>.str ⟨#[(mixF c j % 26).toNat + 97]⟩ | v=>v) _ [] (fun v hv acc Q q=>?_) (fun _=>trivial) (by rw[sizeLine_eq];decide) ?_
 ·obtain⟨j,hj,rfl⟩:=List.mem_map.mp hv
  walk_at "s1"
  refine⟨⟨gc,gx1⟩,?_⟩
  rw[gx2]
  refine⟨_,_,rfl,?_⟩
  dsimp only
  rw[Sw.v_mod]
  exact⟨by decide,alpha_i q⟩
 have e0:([]:List V)++List.map (fun v=>match v with | .int j=>V.str ⟨#[(mixF c j % 26).toNat + 97]⟩ | v=>v) (List.map (fun i:Nat=>V.int i) (List.range (Int.toNat 7)))=(((List.range 7).map (letterK c)).map fun x=>(⟨#[x]⟩:Str)).map V.str:=by
  rw[List.nil_append,List.map_map,List.map_map,List.map_map]
  rfl
 obtain⟨jo,jc⟩:=join_one ((List.range 7).map (letterK c)) (by rw[List.length_map,List.length_range];decide)
 have lb:((List.range 7).map (letterK c)).length=7:=by rw[List.length_map,List.length_range]
 rw[Sw.m_join,rd_of upd_same (by intro _ _ z;cases z)]
 dsimp only
 rw[e0,strs_all]
 refine⟨jo,?_⟩
 generalize Txt.join (Str.ofString "") (((List.range 7).map (letterK c)).map fun x=>(⟨#[x]⟩:Str))=bt at jc
 rw[<-jc]at lb
 have xD:Ext Γ.mod H (upd H D (.lst ((((List.range 7).map (letterK c)).map fun x=>(⟨#[x]⟩:Str)).map V.str))):=Ext.upd hD mD
 generalize upd H D _=H1 at xD ⊢
 clear jc e0
 refine seq ?_
 walk_at "s1"
 refine⟨⟨gc,gx1⟩,?_⟩
 rw[gx2]
 refine⟨_,_,rfl,?_⟩
 dsimp only
 rw[Sw.v_mod]
 refine⟨by decide,?_⟩
 have a0:=Int.emod_nonneg (mixF c 9) (show(6:Int) ≠ 0 by decide)
 have a1:=Int.emod_lt_of_pos (mixF c 9) (show(0:Int) < 6 by decide)
 generalize mixF c 9 % 6=at_ at a0 a1 ⊢
 refine seq ?_
 walk_at "s1"
 rw[Sw.v_mod]
 refine⟨by decide,?_⟩
 rw[Sw.v_add]
 have s0:=Int.emod_nonneg c (show(6:Int) ≠ 0 by decide)
 have s1:=Int.emod_lt_of_pos c (show(0:Int) < 6 by decide)
 generalize c % 6=sz at s0 s1 ⊢
 refine seq ?_
 walk_at "s1"
 refine⟨by rw[sizeLine_eq];decide,fun l hl ml=>?_⟩
 have nl:H l=none:=by
  cases e:H l with
  | none=>rfl
  | some u=>rw[xD.same _ _ e]at hl;cases hl
 refine seq ?_
 walk_at "s1"
 refine⟨gc,by omega,by omega,?_⟩
 refine for_inv (fun k σ Hn=>∃ (v7 v8:Option V) (ns:List Str),σ=[some (.int c),some (.int n),some (.str (Str.ofString "abcdefghijklmnopqrstuvwxyz")),some (.str bt),some (.int at_),some (.int (2 + sz)),some (.ref l),v7,v8]/\Ext Γ.mod H Hn/\Hn l=some (.lst (ns.map V.str))/\ns.length=k/\
   ∀ (j:Nat) (x:Str),ns[j]?=some x->x.cps.toList[at_.toNat]?=some (((mixF c 8 + j) % 26).toNat + 97)) (fun k σ Hn z=>trivial) ?_ ?_
  ⟨none,none,[],rfl,xD.over nl ml,upd_same,rfl,fun j x z=>by simp at z⟩
 ·intro k v σ Hn D' hv ⟨v7,v8,ns,e1,x1,h1,e2,e3⟩ nx ct _ _
  subst e1
  rw[List.getElem?_map]at hv
  obtain⟨k',hk,rfl⟩:=Option.map_eq_some_iff.mp hv
  obtain⟨hk1,hk2⟩:=List.getElem?_eq_some_iff.mp hk
  rw[List.getElem_range]at hk2
  subst hk2
  rw[List.length_range]at hk1
  refine seq ?_
  walk_at "s1"
  rw[Sw.s_str]
  have lb':bt.length=7:=by rw[len_cps'];exact lb
  refine⟨by rw[lb',sizeLine_eq];decide,⟨gc,gx1⟩,?_⟩
  rw[gx2]
  refine⟨_,_,rfl,?_⟩
  dsimp only
  rw[Sw.v_add,Sw.v_mod]
  refine⟨by decide,alpha_i ?_⟩
  have t1:(Txt.slice bt none (some at_)).cps.toList=bt.cps.toList.take at_.toNat:=slice_to a0 (by rw[lb];omega)
  have t2:(Txt.slice bt (some at_) none).cps.toList=bt.cps.toList.drop at_.toNat:=slice_from a0 (by rw[lb];omega)
  have l1:(Txt.slice bt none (some at_)).length=at_.toNat:=by rw[len_cps',t1,List.length_take,lb];omega
  have l2:(Txt.slice bt (some at_) none).length=7 - at_.toNat:=by rw[len_cps',t2,List.length_drop,lb]
  generalize hch:((mixF c 8 + (k:Int)) % 26).toNat + 97=ch
  have lc:(⟨#[ch]⟩:Str).length=1:=rfl
  rw[Sw.v_adds]
  refine⟨by rw[l1,lc,sizeLine_eq];omega,?_⟩
  rw[Sw.s_str]
  refine⟨by rw[lb',sizeLine_eq];decide,?_⟩
  rw[Sw.v_adds]
  refine⟨by rw[Gw.len_cat,l1,l2,lc,sizeLine_eq];omega,?_⟩
  have cn:(Txt.slice bt none (some at_)++(⟨#[ch]⟩:Str)++Txt.slice bt (some at_) none).cps.toList=bt.cps.toList.take at_.toNat++[ch]++bt.cps.toList.drop at_.toNat:=by rw[cat_cps,cat_cps,t1,t2]
  generalize Txt.slice bt none (some at_)++(⟨#[ch]⟩:Str)++Txt.slice bt (some at_) none=nm at cn ⊢
  have ln:nm.cps.toList.length=8:=by rw[cn,List.length_append,List.length_append,List.length_take,List.length_drop,lb];simp;omega
  have ca:nm.cps.toList[at_.toNat]?=some ch:=by
   rw[cn,List.append_assoc,List.getElem?_append_right (by rw[List.length_take];omega),List.length_take,lb,show at_.toNat - min at_.toNat 7=0 by omega]
   rfl
  refine seq ?_
  walk_at "s1"
  refine⟨mty_l h1,?_⟩
  refine⟨gc,?_⟩
  rw[Sw.v_add,Sw.v_mul]
  refine⟨bnd_l (by decide) (by decide),?_⟩
  rw[Sw.v_add,Sw.v_mod]
  refine⟨by decide,?_⟩
  rw[Sw.v_add]
  have u0:=Int.emod_nonneg (2 + sz + 5 * (k:Int)) (show(7:Int) ≠ 0 by decide)
  have u1:=Int.emod_lt_of_pos (2 + sz + 5 * (k:Int)) (show(0:Int) < 7 by decide)
  generalize (2 + sz + 5 * (k:Int)) % 7=u at u0 u1 ⊢
  refine⟨by rw[sizeLine_eq];decide,fun p np mp=>?_⟩
  rw[Sw.v_div]
  refine⟨by decide,by decide,?_⟩
  rw[Sw.v_mod]
  refine⟨by decide,?_⟩
  have w0:=Int.emod_nonneg (c / 6) (show(2:Int) ≠ 0 by decide)
  have w1:=Int.emod_lt_of_pos (c / 6) (show(0:Int) < 2 by decide)
  generalize c / 6 % 2=w at w0 w1 ⊢
  have lp:l ≠ p:=ne_of_none h1 np
  have fin:∀z:Int,2<=z->z<=8->bltV Γ.mod .max [.int (at_ + 1),.int z] (upd Hn p (.lst [.int (2 + sz),.int (2 + u)])) fun x H1=>match x with
    | .int i=>slcV Γ.mod (.str nm) none (some i) H1 fun x H1=>mthV Γ.mod .append (.ref l) [x] H1 fun x H1=>wSs Sxs.nil Γ X0 D' [some (.int c),some (.int n),some (.str (Str.ofString "abcdefghijklmnopqrstuvwxyz")),some (.str bt),some (.int at_),some (.int (2 + sz)),some (.ref l),some (.int k),some (.str nm)] H1
    | x=>False:=fun z z0 z1=>by
   unfold bltV
   dsimp only
   have m0:at_ + 1<=(if z > at_ + 1 then z else at_ + 1):=by split<;>omega
   have m1:(if z > at_ + 1 then z else at_ + 1)<=8:=by split<;>omega
   generalize (if z > at_ + 1 then z else at_ + 1)=m at m0 m1
   rw[Sw.s_str]
   refine⟨by rw[len_cps',ln,sizeLine_eq];decide,?_⟩
   have cm:(Txt.slice nm none (some m)).cps.toList=nm.cps.toList.take m.toNat:=slice_to (by omega) (by rw[ln];omega)
   refine app_at (x:=Txt.slice nm none (some m)) (ws:=ns) (by rw[upd_ne lp];exact h1) (by rw[e2,sizeLine_eq];omega) (seq0 (nx _ _ ⟨_,_,ns++[Txt.slice nm none (some m)],rfl,(x1.trans (Ext.upd np mp)).over nl ml,upd_same,by rw[List.length_append,e2];rfl,fun j x hx=>?_⟩))
   by_cases q:j < ns.length
   ·rw[List.getElem?_append_left q]at hx
    exact e3 j x hx
   ·rw[List.getElem?_append_right (by omega)]at hx
    have j0:j - ns.length=0:=by
     have:=(List.getElem?_eq_some_iff.mp hx).1
     simp at this
     omega
    rw[j0]at hx
    cases hx
    rw[cm,List.getElem?_take_of_lt (by omega),ca,<-hch,show j=k by omega]
  have hp:rd Γ.mod (upd Hn p (.lst [.int (2 + sz),.int (2 + u)])) p=some (.lst [.int (2 + sz),.int (2 + u)]):=rd_of upd_same (by intro _ _ z;cases z)
  by_cases q:w=0
  ·subst q
   exact ix_at hp rfl (fin _ (by omega) (by omega))
  ·have:w=1:=by omega
   subst this
   exact ix_at hp rfl (fin _ (by omega) (by omega))
 ·rintro σ Hn ⟨v7,v8,ns,rfl,x1,h1,e2,e3⟩
  rw[List.length_map,List.length_range]at e2
  refine seq ?_
  walk_at "s1"
  refine h l Hn ns nl ml x1 h1 (by omega) ?_
  refine List.pairwise_iff_getElem.mpr fun i j hi hj ij e=>?_
  have z1:=e3 i _ (List.getElem?_eq_getElem hi)
  have z2:=e3 j _ (List.getElem?_eq_getElem hj)
  rw[e]at z1
  rw[z1]at z2
  injection z2 with z2
  omega
end Kn
namespace Kn
open PySem PySem.Spec PyProof.Rows L2 Sw Gw
inductive Way (m l:Str->Str->Prop):Str->Str->List Str->Prop where
 | one (x:Str):Way m l x x [x]
 | two {x y z b:Str} {r:List Str}:m x y->l y z->Way m l z b r->Way m l x b (x::y::r)
section
variable {m l:Str->Str->Prop}
theorem Way.mono {l':Str->Str->Prop} {c b:Str} {r:List Str} (h:Way m l c b r) (k:∀x y,l x y->l' x y):Way m l' c b r:=by
 induction h with
 | one x=>exact .one x
 | two a b _ ih=>exact .two a (k _ _ b) ih
theorem Way.odd {c b:Str} {r:List Str} (h:Way m l c b r):r.length % 2=1:=by
 induction h with
 | one x=>rfl
 | two _ _ _ ih=>rw[List.length_cons,List.length_cons];omega
theorem Way.head {c b:Str} {r:List Str} (h:Way m l c b r):r[0]?=some c:=by
 cases h with
 | one x=>rfl
 | two _ _ _=>rfl
theorem Way.last {c b:Str} {r:List Str} (h:Way m l c b r):r[r.length - 1]?=some b:=by
 induction h with
 | one x=>rfl
 | @two x y z b r _ _ h ih=>
  have o:=h.odd
  rw[List.length_cons,List.length_cons,show r.length + 1 + 1 - 1=r.length - 1 + 1 + 1 by omega,List.getElem?_cons_succ,List.getElem?_cons_succ]
  exact ih
theorem Way.at {c b:Str} {r:List Str} (h:Way m l c b r):∀ (k:Nat) (x y:Str),r[k]?=some x->r[k + 1]?=some y->(k % 2=0->m x y)/\(k % 2=1->l x y):=by
 induction h with
 | one x=>intro k x y _ h2;simp at h2
 | @two x y z b r a1 a2 h ih=>
  intro k u v h1 h2
  match k with
  | 0=>
   simp at h1 h2
   subst h1 h2
   exact⟨fun _=>a1,fun e=>by cases e⟩
  | 1=>
   rw[List.getElem?_cons_succ,List.getElem?_cons_zero]at h1
   rw[List.getElem?_cons_succ,List.getElem?_cons_succ,h.head]at h2
   cases h1
   cases h2
   exact⟨(fun e=>by cases e),fun _=>a2⟩
  | k + 2=>
   rw[List.getElem?_cons_succ,List.getElem?_cons_succ]at h1 h2
   obtain⟨p,q⟩:=ih k u v h1 h2
   exact⟨fun e=>p (by omega),fun e=>q (by omega)⟩
theorem Way.join {c b x y d:Str} {r t:List Str} (h:Way m l c b r) (hm:m b x) (hl:l x y) (ht:Way m l y d t):Way m l c d (r++x::t):=by
 induction h with
 | one z=>exact .two hm hl ht
 | two a1 a2 _ ih=>exact .two a1 a2 (ih hm)
theorem Way.glue {c b:Str} {r:List Str} (ms:∀x y,m x y->m y x) (ls:∀x y,l x y->l y x) (h:Way m l c b r) {x b2:Str} {s:List Str} (hs:Way m l x b2 s):m b b2->∀ {y d:Str} {t:List Str},l x y->Way m l y d t->Way m l c d (r++(s.reverse++t)):=by
 induction hs with
 | one z=>intro hm y d t hl ht;exact h.join hm hl ht
 | @two x u z b2 s a1 a2 _ ih=>
  intro hm y d t hl ht
  have:=ih hm (ls _ _ a2) (.two (ms _ _ a1) hl ht)
  rw[List.reverse_cons,List.reverse_cons,List.append_assoc,List.append_assoc]
  exact this
end
noncomputable def rstp (s a g:Nat):Int:=if((a:Int) - g) % s % 2=1 then 1 else -1
noncomputable def rpos (s a g k:Nat):Nat:=(((a:Int) + rstp s a g * k) % s).toNat
noncomputable def rfar (s a g:Nat):Nat:=if((a:Int) - g) % s % 2=1 then s - (((a:Int) - g) % s).toNat else(((a:Int) - g) % s).toNat
structure Road (s a g:Nat):Prop where
 z:rpos s a g 0=a
 t:rpos s a g (rfar s a g)=g
 e:rfar s a g % 2=0
 f:rfar s a g < s
 i:∀j,j < rfar s a g + 1->∀i,i < j->rpos s a g i ≠ rpos s a g j
 b:∀k,k < rfar s a g->((rpos s a g k:Int) + rstp s a g) % s=rpos s a g (k + 1)
 m1:rstp s a g=1->∀k,k < rfar s a g->k % 2=0->((rpos s a g k:Int) - g) % s % 2=1
 m2:rstp s a g= -1->∀k,k < rfar s a g->k % 2=0->((rpos s a g (k + 1):Int) - g) % s % 2=1
 n1:rstp s a g=1->∀k,k < rfar s a g->(rpos s a g k + 1) % s=rpos s a g (k + 1)
 n2:rstp s a g= -1->∀k,k < rfar s a g->(rpos s a g (k + 1) + 1) % s=rpos s a g k
noncomputable def roadB (s a g:Nat):Bool:=
 decide (rpos s a g 0=a) && (decide (rpos s a g (rfar s a g)=g) && (decide (rfar s a g % 2=0) && (decide (rfar s a g < s) &&
 (decide (∀ j,j < rfar s a g + 1->∀i,i < j->rpos s a g i ≠ rpos s a g j) && (decide (∀ k,k < rfar s a g->((rpos s a g k:Int) + rstp s a g) % s=rpos s a g (k + 1)) &&
 (decide (rstp s a g=1->∀k,k < rfar s a g->k % 2=0->((rpos s a g k:Int) - g) % s % 2=1) && (decide (rstp s a g= -1->∀k,k < rfar s a g->k % 2=0->((rpos s a g (k + 1):Int) - g) % s % 2=1) &&
 (decide (rstp s a g=1->∀k,k < rfar s a g->(rpos s a g k + 1) % s=rpos s a g (k + 1)) && decide (rstp s a g= -1->∀k,k < rfar s a g->(rpos s a g (k + 1) + 1) % s=rpos s a g k)))))))))
theorem roadB_ok {s a g:Nat} (h:roadB s a g=true):Road s a g:=by
 unfold roadB at h
 simp only[Bool.and_eq_true,decide_eq_true_eq]at h
 obtain⟨h1,h2,h3,h4,h5,h6,h7,h8,h9,h10⟩:=h
 exact⟨h1,h2,h3,h4,h5,h6,h7,h8,h9,h10⟩
theorem road3:∀a g:Fin 3,roadB 3 a g=true:=by decide +kernel
theorem road5:∀a g:Fin 5,roadB 5 a g=true:=by decide +kernel
theorem road7:∀a g:Fin 7,roadB 7 a g=true:=by decide +kernel
theorem road {s a g:Nat} (hs:s=3\/s=5\/s=7) (ha:a < s) (hg:g < s):Road s a g:=by
 rcases hs with rfl | rfl | rfl
 ·exact roadB_ok (road3 ⟨a,ha⟩ ⟨g,hg⟩)
 ·exact roadB_ok (road5 ⟨a,ha⟩ ⟨g,hg⟩)
 ·exact roadB_ok (road7 ⟨a,ha⟩ ⟨g,hg⟩)
theorem rpos_lt {s a g k:Nat} (hs:s=3\/s=5\/s=7):rpos s a g k < s:=by
 unfold rpos
 generalize (a:Int) + rstp s a g * k=x
 rcases hs with rfl | rfl | rfl<;>omega
theorem rstp_or (s a g:Nat):rstp s a g=1\/rstp s a g= -1:=by
 unfold rstp
 split
 ·exact .inl rfl
 ·exact .inr rfl
end Kn
namespace Kn
open PySem PySem.Spec PyProof.Rows L2 Sw Gw
noncomputable def LinkP (H:Hp) (x:V) (P:Str × Str):Prop:=∃t,x=.ref t/\H t=some (.tup [.str P.1,.str P.2])
structure LG (CG:Addr) (O:Addr->Prop) (μ:Str->Option V) (L:Str × Str->Prop) (R:Addr->List Str->Str->Prop) (H:Hp) (p:Addr) (ms:List Str) (b:Str) (dx r l:Addr) (qs:List Addr) (mss:List (List Str)) (bs:List Str) (xs:List V) (ps:List (Str × Str)) (s lead:Nat):Prop where
 o:O p/\O r/\O l
 hp:H p=some (.ins CG dx [("ring",.ref r),("links",.ref l)])
 hr:H r=some (.lst (qs.map V.ref))
 hl:H l=some (.lst xs)
 ln:qs.length=s/\mss.length=s/\bs.length=s/\xs.length=s/\ps.length=s
 hs:s=3\/s=5\/s=7
 ld:lead < s
 bl:bs[lead]?=some b
 kid:∀ (i:Nat) q m c,qs[i]?=some q->mss[i]?=some m->bs[i]?=some c->R q m c
 pm:ms.Perm mss.flatten
 so:sortedS ms=true
 nd:ms.Nodup
 few:ms.length < 64
 lk:∀ (i:Nat) x P,xs[i]?=some x->ps[i]?=some P->LinkP H x P
 lf:∀ (i:Nat) P,ps[i]?=some P->L P/\(∃ m,mss[i]?=some m/\P.1 ∈ m)/\∃m,mss[(i + 1) % s]?=some m/\P.2 ∈ m
 mt:∀ (i:Nat) x y,i < s->((i:Int) - lead) % s % 2=1->bs[i]?=some x->bs[(i + 1) % s]?=some y->μ x=some (.str y)/\μ y=some (.str x)
noncomputable def LOne (CS:Addr) (O:Addr->Prop) (H:Hp) (p:Addr) (ms:List Str) (b:Str):Prop:=KOne CS O H p ms/\ms=[b]
noncomputable def LAt (CS CG:Addr) (O:Addr->Prop) (μ:Str->Option V) (L:Str × Str->Prop):Nat->Hp->Addr->List Str->Str->Prop
 | 0,H,p,ms,b=>LOne CS O H p ms b
 | n + 1,H,p,ms,b=>LOne CS O H p ms b\/∃dx r l qs mss bs xs ps s lead,LG CG O μ L (fun q m c=>LAt CS CG O μ L n H q m c) H p ms b dx r l qs mss bs xs ps s lead
noncomputable def LGrp (CS CG:Addr) (O:Addr->Prop) (μ:Str->Option V) (L:Str × Str->Prop) (n:Nat) (H:Hp) (p:Addr) (ms:List Str) (b:Str):Prop:=∃dx r l qs mss bs xs ps s lead,LG CG O μ L (LAt CS CG O μ L n H) H p ms b dx r l qs mss bs xs ps s lead
theorem LAt.cases {CS CG:Addr} {O:Addr->Prop} {μ:Str->Option V} {L:Str × Str->Prop} {n:Nat} {H:Hp} {p:Addr} {ms:List Str} {b:Str} (h:LAt CS CG O μ L (n + 1) H p ms b):LOne CS O H p ms b\/LGrp CS CG O μ L n H p ms b:=h
theorem LGrp.at {CS CG:Addr} {O:Addr->Prop} {μ:Str->Option V} {L:Str × Str->Prop} {n:Nat} {H:Hp} {p:Addr} {ms:List Str} {b:Str} (h:LGrp CS CG O μ L n H p ms b):LAt CS CG O μ L (n + 1) H p ms b:=.inr h
theorem LOne.at {CS CG:Addr} {O:Addr->Prop} {μ:Str->Option V} {L:Str × Str->Prop} {n:Nat} {H:Hp} {p:Addr} {ms:List Str} {b:Str} (h:LOne CS O H p ms b):LAt CS CG O μ L n H p ms b:=by
 cases n with
 | zero=>exact h
 | succ n=>exact .inl h
theorem disjL {mss:List (List Str)} (nd:mss.flatten.Nodup) {i j:Nat} {m m':List Str} (h1:mss[i]?=some m) (h2:mss[j]?=some m') (ne:i ≠ j) {c:Str} (c1:c ∈ m):c ∉ m':=fun c2=>by
 obtain⟨_,p⟩:=List.pairwise_flatten.mp nd
 obtain⟨i1,i2⟩:=List.getElem?_eq_some_iff.mp h1
 obtain⟨j1,j2⟩:=List.getElem?_eq_some_iff.mp h2
 rcases Nat.lt_or_gt_of_ne ne with q | q
 ·exact List.pairwise_iff_getElem.mp p i j i1 j1 q c (by rw[i2];exact c1) c (by rw[j2];exact c2) rfl
 ·exact List.pairwise_iff_getElem.mp p j i j1 i1 q c (by rw[j2];exact c2) c (by rw[i2];exact c1) rfl
theorem lback3:∀i l:Fin 3,i ≠ l->¬ ((i.val:Int) - (l.val:Int)) % 3 % 2=1->((((i.val + 2) % 3:Nat):Int) - (l.val:Int)) % 3 % 2=1:=by decide +kernel
theorem lback5:∀i l:Fin 5,i ≠ l->¬ ((i.val:Int) - (l.val:Int)) % 5 % 2=1->((((i.val + 4) % 5:Nat):Int) - (l.val:Int)) % 5 % 2=1:=by decide +kernel
theorem lback7:∀i l:Fin 7,i ≠ l->¬ ((i.val:Int) - (l.val:Int)) % 7 % 2=1->((((i.val + 6) % 7:Nat):Int) - (l.val:Int)) % 7 % 2=1:=by decide +kernel
section
variable {CS CG:Addr} {O O':Addr->Prop} {μ μ':Str->Option V} {L L':Str × Str->Prop} {H H':Hp} {R:Addr->List Str->Str->Prop} {p dx r l:Addr} {ms:List Str} {b:Str} {qs:List Addr} {mss:List (List Str)} {bs:List Str} {xs:List V} {ps:List (Str × Str)} {s lead:Nat}
theorem LG.pos (h:LG CG O μ L R H p ms b dx r l qs mss bs xs ps s lead) {i:Nat} (hi:i < s):∃q m c,qs[i]?=some q/\mss[i]?=some m/\bs[i]?=some c:=by
 obtain⟨l1,l2,l3,_⟩:=h.ln
 exact⟨_,_,_,List.getElem?_eq_getElem (by omega),List.getElem?_eq_getElem (by omega),List.getElem?_eq_getElem (by omega)⟩
theorem LG.sub (h:LG CG O μ L R H p ms b dx r l qs mss bs xs ps s lead) {i:Nat} {m:List Str} (hm:mss[i]?=some m) {c:Str} (hc:c ∈ m):c ∈ ms:=h.pm.mem_iff.mpr (List.mem_flatten.mpr ⟨m,List.mem_of_getElem? hm,hc⟩)
theorem LG.has (h:LG CG O μ L R H p ms b dx r l qs mss bs xs ps s lead) {c:Str} (hc:c ∈ ms):∃ (i:Nat) (m:List Str),mss[i]?=some m/\c ∈ m/\i < s:=by
 obtain⟨m,hm,hc⟩:=List.mem_flatten.mp (h.pm.mem_iff.mp hc)
 obtain⟨i,hi⟩:=List.mem_iff_getElem?.mp hm
 exact⟨i,m,hi,hc,by have:=(List.getElem?_eq_some_iff.mp hi).1;have:=h.ln.2.1;omega⟩
theorem LG.ndf (h:LG CG O μ L R H p ms b dx r l qs mss bs xs ps s lead):mss.flatten.Nodup:=h.pm.nodup_iff.mp h.nd
theorem LG.odd (h:LG CG O μ L R H p ms b dx r l qs mss bs xs ps s lead) {i:Nat} (o:((i:Int) - lead) % s % 2=1):i ≠ lead/\(i + 1) % s ≠ lead:=by
 have:=h.hs
 refine⟨fun e=>?_,fun e=>?_⟩
 ·subst e
  rcases this with rfl | rfl | rfl<;>omega
 ·subst e
  rcases this with rfl | rfl | rfl<;>omega
theorem LG.mate (h:LG CG O μ L R H p ms b dx r l qs mss bs xs ps s lead) {i:Nat} (hi:i < s) (ne:i ≠ lead) {x:Str} (hx:bs[i]?=some x):∃j y,j < s/\j ≠ i/\bs[j]?=some y/\μ x=some (.str y):=by
 have hs:=h.hs
 by_cases o:((i:Int) - lead) % s % 2=1
 ·have js:(i + 1) % s < s:=Nat.mod_lt _ (by omega)
  obtain⟨_,_,y,_,_,hy⟩:=h.pos js
  exact⟨_,y,js,(by rcases hs with rfl | rfl | rfl<;>omega),hy,(h.mt i x y hi o hx hy).1⟩
 ·have js:(i + (s - 1)) % s < s:=Nat.mod_lt _ (by omega)
  obtain⟨_,_,y,_,_,hy⟩:=h.pos js
  have ld:=h.ld
  have o2:((((i + (s - 1)) % s:Nat):Int) - lead) % s % 2=1:=by
   rcases hs with rfl | rfl | rfl
   ·exact lback3 ⟨i,hi⟩ ⟨lead,ld⟩ (fun e=>ne (Fin.mk.inj e)) o
   ·exact lback5 ⟨i,hi⟩ ⟨lead,ld⟩ (fun e=>ne (Fin.mk.inj e)) o
   ·exact lback7 ⟨i,hi⟩ ⟨lead,ld⟩ (fun e=>ne (Fin.mk.inj e)) o
  have e2:((i + (s - 1)) % s + 1) % s=i:=by rcases hs with rfl | rfl | rfl<;>omega
  exact⟨_,y,js,(by rcases hs with rfl | rfl | rfl<;>omega),hy,(h.mt _ y x js o2 hy (by rw[e2];exact hx)).2⟩
theorem LAt.mem:∀ {n:Nat} {p:Addr} {ms:List Str} {b:Str},LAt CS CG O μ L n H p ms b->b ∈ ms
 | 0,_,_,_,⟨_,h⟩=>by rw[h];exact List.mem_singleton.mpr rfl
 | n + 1,_,_,_,h=>by
  rcases h.cases with ⟨_,h⟩ | ⟨dx,r,l,qs,mss,bs,xs,ps,s,lead,h⟩
  ·rw[h];exact List.mem_singleton.mpr rfl
  ·obtain⟨q,m,c,h1,h2,h3⟩:=h.pos h.ld
   have:=(h.kid _ _ _ _ h1 h2 h3).mem
   rw[h.bl]at h3
   cases h3
   exact h.sub h2 this
theorem LAt.map (hO:∀a,O a->O' a/\H' a=H a) (ht:∀a zs,H a=some (.tup zs)->H' a=some (.tup zs)) (hL:∀P,L P->L' P):∀ {n:Nat} {p:Addr} {ms:List Str} {b:Str},LAt CS CG O μ L n H p ms b->(∀ c ∈ ms,c ≠ b->μ' c=μ c)->LAt CS CG O' μ' L' n H' p ms b
 | 0,p,ms,b,⟨k,h⟩,_=>⟨KAt.agree (CG:=CG) (n:=0) k hO,h⟩
 | n + 1,p,ms,b,h,hm=>by
  rcases h.cases with ⟨k,h⟩ | ⟨dx,r,l,qs,mss,bs,xs,ps,s,lead,h⟩
  ·exact .inl ⟨KAt.agree (CG:=CG) (n:=0) k hO,h⟩
  ·obtain⟨o1,o2,o3⟩:=h.o
   obtain⟨ql,ml,cl,gl1,gl2,gl3⟩:=h.pos h.ld
   have bm:=(h.kid _ _ _ _ gl1 gl2 gl3).mem
   rw[h.bl]at gl3
   cases gl3
   have off:∀ {i:Nat} {m:List Str} {c:Str},mss[i]?=some m->c ∈ m->i ≠ lead->c ≠ b:=fun h2 hc ne e=>disjL h.ndf h2 gl2 ne hc (by rw[e];exact bm)
   refine .inr ⟨dx,r,l,qs,mss,bs,xs,ps,s,lead,⟨⟨(hO _ o1).1,(hO _ o2).1,(hO _ o3).1⟩,by rw[(hO _ o1).2];exact h.hp,by rw[(hO _ o2).2];exact h.hr,by rw[(hO _ o3).2];exact h.hl,h.ln,h.hs,h.ld,h.bl,fun i q m c h1 h2 h3=>?_,h.pm,h.so,h.nd,h.few,fun i x P h1 h2=>?_,fun i P h1=>?_,fun i x y hi o h1 h2=>?_⟩⟩
   ·refine(h.kid i q m c h1 h2 h3).map hO ht hL fun d hd ne=>hm d (h.sub h2 hd) ?_
    by_cases e:i=lead
    ·subst e
     rw[h.bl]at h3
     cases h3
     exact ne
    ·exact off h2 hd e
   ·obtain⟨t,e,q⟩:=h.lk i x P h1 h2
    exact⟨t,e,ht _ _ q⟩
   ·obtain⟨q1,q2⟩:=h.lf i P h1
    exact⟨hL P q1,q2⟩
   ·obtain⟨n1,n2⟩:=h.odd o
    obtain⟨m1,m2⟩:=h.mt i x y hi o h1 h2
    have js:(i + 1) % s < s:=Nat.mod_lt _ (by omega)
    obtain⟨q,m,c,g1,g2,g3⟩:=h.pos hi
    obtain⟨q',m',c',g1',g2',g3'⟩:=h.pos js
    rw[h1]at g3
    rw[h2]at g3'
    cases g3
    cases g3'
    have a1:=(h.kid _ _ _ _ g1 g2 h1).mem
    have a2:=(h.kid _ _ _ _ g1' g2' h2).mem
    rw[hm x (h.sub g2 a1) (off g2 a1 n1),hm y (h.sub g2' a2) (off g2' a2 n2)]
    exact⟨m1,m2⟩
theorem LAt.up:∀ {n:Nat} {p:Addr} {ms:List Str} {b:Str},LAt CS CG O μ L n H p ms b->LAt CS CG O μ L (n + 1) H p ms b
 | 0,_,_,_,h=>Or.inl h
 | n + 1,_,_,_,h=>by
  rcases h.cases with h | ⟨dx,r,l,qs,mss,bs,xs,ps,s,lead,h⟩
  ·exact .inl h
  ·exact .inr ⟨dx,r,l,qs,mss,bs,xs,ps,s,lead,{h with kid:=fun i q m c h1 h2 h3=>(h.kid i q m c h1 h2 h3).up}⟩
theorem LAt.le {n m:Nat} {p:Addr} {ms:List Str} {b:Str} (h:LAt CS CG O μ L n H p ms b) (l:n<=m):LAt CS CG O μ L m H p ms b:=by
 induction l with
 | refl=>exact h
 | step _ ih=>exact ih.up
theorem LAt.ext {M:Mo} {n:Nat} {p:Addr} {ms:List Str} {b:Str} (h:LAt CS CG O μ L n H p ms b) (hO:∀a,O a->H a ≠ none) (x:Ext M H H'):LAt CS CG O μ L n H' p ms b:=
 h.map (fun a oa=>⟨oa,by
  cases e:H a with
  | none=>exact absurd e (hO a oa)
  | some u=>exact x.same a u e⟩) (fun a zs e=>x.same _ _ e) (fun _ h=>h) fun _ _ _=>rfl
theorem LAt.kat:∀ {n:Nat} {p:Addr} {ms:List Str} {b:Str},LAt CS CG O μ L n H p ms b->KAt CS CG O n H p ms
 | 0,_,_,_,⟨k,_⟩=>k
 | n + 1,_,_,_,h=>by
  rcases h.cases with ⟨k,_⟩ | ⟨dx,r,l,qs,mss,bs,xs,ps,s,lead,h⟩
  ·exact .inl k
  ·refine .inr ⟨dx,r,l,qs,mss,xs,h.o,h.hp,h.hr,h.hl,⟨by rw[h.ln.1,h.ln.2.1],fun i q m h1 h2=>?_⟩,h.pm,h.so,h.nd,h.few⟩
   have lt:=(List.getElem?_eq_some_iff.mp h1).1
   rw[h.ln.1]at lt
   obtain⟨_,_,c,_,_,h3⟩:=h.pos lt
   exact(h.kid i q m c h1 h2 h3).kat
theorem LGrp.grp {n:Nat} {p:Addr} {ms:List Str} {b:Str} (h:LGrp CS CG O μ L n H p ms b):KGrp CS CG O n H p ms:=by
 obtain⟨dx,r,l,qs,mss,bs,xs,ps,s,lead,h⟩:=h
 refine⟨dx,r,l,qs,mss,xs,h.o,h.hp,h.hr,h.hl,⟨by rw[h.ln.1,h.ln.2.1],fun i q m h1 h2=>?_⟩,h.pm,h.so,h.nd,h.few⟩
 have lt:=(List.getElem?_eq_some_iff.mp h1).1
 rw[h.ln.1]at lt
 obtain⟨_,_,c,_,_,h3⟩:=h.pos lt
 exact(h.kid i q m c h1 h2 h3).kat
theorem LAt.in_:∀ {n:Nat} {p:Addr} {ms:List Str} {b:Str},LAt CS CG O μ L n H p ms b->∀c ∈ ms,c ≠ b->∃t ∈ ms,μ c=some (.str t)
 | 0,_,_,_,⟨_,h⟩=>fun c hc ne=>by rw[h]at hc;exact absurd (List.mem_singleton.mp hc) ne
 | n + 1,_,_,_,h=>fun c hc ne=>by
  rcases h.cases with ⟨_,h⟩ | ⟨dx,r,l,qs,mss,bs,xs,ps,s,lead,h⟩
  ·rw[h]at hc;exact absurd (List.mem_singleton.mp hc) ne
  ·obtain⟨i,m,h2,hc,hi⟩:=h.has hc
   obtain⟨q,m',x,h1,h2',h3⟩:=h.pos hi
   rw[h2]at h2'
   cases h2'
   by_cases e:c=x
   ·subst e
    have il:i ≠ lead:=fun z=>by
     subst z
     rw[h.bl]at h3
     cases h3
     exact ne rfl
    obtain⟨j,y,js,_,hy,v⟩:=h.mate hi il h3
    obtain⟨q2,m2,c2,g1,g2,g3⟩:=h.pos js
    rw[hy]at g3
    cases g3
    exact⟨y,h.sub g2 (h.kid _ _ _ _ g1 g2 hy).mem,v⟩
   ·obtain⟨t,ht,v⟩:=(h.kid _ _ _ _ h1 h2 h3).in_ c hc e
    exact⟨t,h.sub h2 ht,v⟩
noncomputable def Out (μ:Str->Option V) (ms:List Str) (b:Str):Prop:=∀x,μ b=some x->∃t,x=.str t/\t ∉ ms
theorem LAt.base {kvs:List (Key × V)} {n:Nat} {p:Addr} {ms:List Str} {b:Str} (h:LAt CS CG O (fun c=>valV kvs (.inr c)) L n H p ms b) (o:Out (fun c=>valV kvs (.inr c)) ms b):BaseOf kvs ms b:=⟨h.mem,o,h.in_⟩
theorem LG.out {n:Nat} (h:LG CG O μ L (LAt CS CG O μ L n H) H p ms b dx r l qs mss bs xs ps s lead) (o:Out μ ms b) {i:Nat} {m:List Str} {c:Str} (h2:mss[i]?=some m) (h3:bs[i]?=some c):Out μ m c:=fun x hx=>by
 have hi:i < s:=by have:=(List.getElem?_eq_some_iff.mp h2).1;have:=h.ln.2.1;omega
 by_cases e:i=lead
 ·subst e
  rw[h.bl]at h3
  cases h3
  obtain⟨t,e1,e2⟩:=o x hx
  exact⟨t,e1,fun z=>e2 (h.sub h2 z)⟩
 ·obtain⟨j,y,js,ji,hy,v⟩:=h.mate hi e h3
  obtain⟨q2,m2,c2,g1,g2,g3⟩:=h.pos js
  rw[hy]at g3
  cases g3
  rw[v]at hx
  cases hx
  exact⟨y,rfl,disjL h.ndf g2 h2 ji (h.kid _ _ _ _ g1 g2 hy).mem⟩
end
end Kn
namespace Gw
open PySem PySem.Spec PyProof.Rows L2 Sw
theorem inj_of_nodup {α β:Type} {f:α->β}:∀ {l:List α},(l.map f).Nodup->∀ {a b:α},a ∈ l->b ∈ l->f a=f b->a=b
 | x::r,nd,a,b,ha,hb,e=>by
  rw[List.map_cons,List.nodup_cons]at nd
  rcases List.mem_cons.mp ha with h1 | h1
  ·rcases List.mem_cons.mp hb with h2 | h2
   ·rw[h1,h2]
   ·exact(nd.1 (List.mem_map.mpr ⟨b,h2,by rw[<-e,h1]⟩)).elim
  ·rcases List.mem_cons.mp hb with h2 | h2
   ·exact(nd.1 (List.mem_map.mpr ⟨a,h1,by rw[e,h2]⟩)).elim
   ·exact inj_of_nodup nd.2 h1 h2 e
noncomputable def setRow (x:Str) (row':Row) (E:List Ent):List Ent:=E.map fun e=>if e.1=x then(e.1,e.2.1,row')else e
theorem setRow_keys (x:Str) (row':Row) (E:List Ent):(setRow x row' E).map (·.1)=E.map (·.1):=by
 unfold setRow
 rw[List.map_map]
 refine List.map_congr_left fun e _=>?_
 show(if e.1=x then(e.1,e.2.1,row')else e).1=e.1
 split<;>rfl
theorem setRow_adrs (x:Str) (row':Row) (E:List Ent):(setRow x row' E).map (·.2.1)=E.map (·.2.1):=by
 unfold setRow
 rw[List.map_map]
 refine List.map_congr_left fun e _=>?_
 show(if e.1=x then(e.1,e.2.1,row')else e).2.1=e.2.1
 split<;>rfl
theorem setRow_top (x:Str) (row':Row) (E:List Ent):topK (setRow x row' E)=topK E:=by
 unfold topK setRow
 rw[List.map_map]
 refine List.map_congr_left fun e _=>?_
 show((Sum.inr (if e.1=x then(e.1,e.2.1,row')else e).1:Key),V.ref (if e.1=x then(e.1,e.2.1,row')else e).2.1)=_
 split<;>rfl
theorem setRow_mem {x:Str} {row':Row} {E:List Ent} {e:Ent} (h:e ∈ setRow x row' E):(e ∈ E/\e.1 ≠ x)\/(e.1=x/\e.2.2=row'/\∃r,(x,e.2.1,r) ∈ E):=by
 obtain⟨f,hf,q⟩:=List.mem_map.mp h
 by_cases z:f.1=x
 ·rw[if_pos z]at q
  subst q
  exact .inr ⟨z,rfl,f.2.2,by rw[<-z];exact hf⟩
 ·rw[if_neg z]at q
  subst q
  exact .inl ⟨hf,z⟩
theorem WebAt.set {H:Hp} {w p:Addr} {E:List Ent} {x:Str} {row row':Row} (W:WebAt H w E) (h:(x,p,row) ∈ E) (rk:(row'.map (·.1)).Nodup) (few:row'.length<=20):WebAt (upd H p (.dK (rowK row'))) w (setRow x row' E):=by
 have pw:=web_pw W h
 have one:∀e ∈ E,e.2.1=p->e.1=x:=fun e he z=>by
  have nd:=(List.nodup_cons.mp W.nd).2
  exact congrArg Prod.fst (inj_of_nodup nd he h z)
 refine⟨by rw[upd_ne pw.symm,setRow_top];exact W.top,fun e he=>?_,by rw[setRow_adrs];exact W.nd,by rw[setRow_keys];exact W.keys,fun e he=>?_,by unfold setRow;rw[List.length_map];exact W.few,fun e he=>?_⟩
 ·rcases setRow_mem he with ⟨h1,h2⟩ | ⟨h1,h2,r,h3⟩
  ·rw[upd_ne (fun z=>h2 (one e h1 z))]
   exact W.row e h1
  ·have e1:=lookup_mem W.keys h
   have e2:=lookup_mem W.keys h3
   rw[e1]at e2
   have:p=e.2.1:=congrArg Prod.fst (Option.some.inj e2)
   rw[<-this,upd_same,h2]
 ·rcases setRow_mem he with ⟨h1,h2⟩ | ⟨h1,h2,r,h3⟩
  ·exact W.rk e h1
  ·rw[h2];exact rk
 ·rcases setRow_mem he with ⟨h1,h2⟩ | ⟨h1,h2,r,h3⟩
  ·exact W.rfew e h1
  ·rw[h2];exact few
noncomputable def spTie:Sp:=fun vs H Q _=>∃w E a b v,vs=[.ref w,.str a,.str b,.int v]/\WebAt H w E/\WebOk (cont E)/\a ∈ E.map (·.1)/\b ∈ E.map (·.1)/\
 ∀H' E',WebAt H' w E'->WebOk (cont E')->E'.map (·.1)=E.map (·.1)->E'.map (·.2.1)=E.map (·.2.1)->(∀ x,x ∉ E.map (·.2.1)->H' x=H x)->Q .non H'
end Gw
namespace Gw
open PySem PySem.Spec PyProof.Rows L2 Sw
structure Tied (H2:Hp) (w:Addr) (E0:List Ent) (H:Hp) (E:List Ent):Prop where
 web:WebAt H w E
 ok:WebOk (cont E)
 keys:E.map (·.1)=E0.map (·.1)
 adrs:E.map (·.2.1)=E0.map (·.2.1)
 rest:∀x,x ∉ E0.map (·.2.1)->H x=H2 x
theorem Tied.rd {M:Mo} {H2 H:Hp} {w q:Addr} {E0 E:List Ent} {xs:List V} (t:Tied H2 w E0 H E) (W:WebAt H2 w E0) (h:rd M H2 q=some (.lst xs)):rd M H q=some (.lst xs):=by
 rw[rd_same (t.rest q fun z=>?_)]
 ·exact h
 ·obtain⟨e,he,e1⟩:=List.mem_map.mp z
  rw[<-e1,rd_of (W.row e he) nofrz_d]at h
  cases h
theorem Tied.ext {M:Mo} {H0 H2 H:Hp} {w:Addr} {E0 E:List Ent} (t:Tied H2 w E0 H E) (W:WebAt H2 w E0) (x:Ext M H0 H2) (fr:∀e ∈ E0,H0 e.2.1=none):Ext M H0 H:=by
 constructor
 ·intro a o e
  rw[t.rest a fun z=>?_]
  ·exact x.same a o e
  ·obtain⟨f,hf,q⟩:=List.mem_map.mp z
   have:=fr f hf
   rw[q,e]at this
   cases this
 ·intro a m e
  have e2:=x.off a m e
  rw[t.rest a fun z=>?_]
  ·exact e2
  ·obtain⟨f,hf,q⟩:=List.mem_map.mp z
   have:=W.row f hf
   rw[q,e2]at this
   cases this
end Gw
namespace Gw
open PySem PySem.Spec PyProof.Rows L2 Sw
noncomputable def mK (K:List Str) (m:Str->Str):List (Key × V):=K.map fun x=>(Sum.inr x,V.str (m x))
end Gw
namespace Gw
open PySem PySem.Spec PyProof.Rows L2 Sw
theorem comp_at {te:TE} {fvs:L2.St} {D:Addr} {stay:Hp->Prop} {H0:Hp} {k:Hp->Prop} (f:V->V):∀ (xs acc:List V),(∀ v ∈ xs,∀acc Q,Q (f v) (upd H0 D (.lst acc))->te (some v::fvs) (upd H0 D (.lst acc)) Q)->(∀ l,stay (upd H0 D (.lst l)))->acc.length + xs.length<=sizeLine->
  k (upd H0 D (.lst (acc++xs.map f)))->compW te (fun _ H Q=>Q true H) fvs D stay xs acc (upd H0 D (.lst acc)) k:=by
 intro xs
 induction xs with
 | nil=>
  intro acc h1 h2 h3 h4
  exact⟨h2 _,upd_same,by simpa using h4⟩
 | cons v r ih=>
  intro acc h1 h2 h3 h4
  refine⟨h2 _,?_⟩
  show if true=true then _ else _
  rw[if_pos rfl]
  refine h1 v List.mem_cons_self _ _ ⟨upd_same,by rw[List.length_cons]at h3;omega,?_⟩
  rw[upd_upd]
  refine ih (acc++[f v]) (fun v hv=>h1 v (List.mem_cons_of_mem _ hv)) h2 (by rw[List.length_append];simp at h3 ⊢;omega) ?_
  simpa using h4
@[reducible] noncomputable def Grp:=Str × Addr × List Str
noncomputable def gK (P:List Grp):List (Key × V):=P.map fun y=>(Sum.inr y.1,V.ref y.2.1)
structure Due (M:Mo) (H:Hp) (k g l:Addr) (m:Str->Str) (K L T:List Str) (P:List Grp) (Hn:Hp):Prop where
 top:Hn g=some (.dK (gK P))
 at_:∀y ∈ P,Hn y.2.1=some (.lst (y.2.2.map V.str))/\H y.2.1=none/\y.2.1 ≠ g/\y.2.1 ≠ l
 nd:(P.map (·.2.1)).Nodup
 eq:P.map (fun y=>(y.1,y.2.2))=Gr.someM m T
 x:Ext M H Hn
 hk:Hn k=some (.dK (mK K m))
 hl:Hn l=some (.lst (L.map V.str))
theorem Due.keys {M:Mo} {H:Hp} {k g l:Addr} {m:Str->Str} {K L T:List Str} {P:List Grp} {Hn:Hp} (d:Due M H k g l m K L T P Hn):P.map (·.1)=T.filter fun c=>decide (m c=c):=by
 rw[<-Gr.someM_keys,<-d.eq,List.map_map]
 rfl
noncomputable def spDue (M:Mo):Sp:=fun vs H Q _=>∃w E,vs=[.ref w]/\WebAt H w E/\OffM M H/\WebOk (cont E)/\
 ∀H' l P,Ext M H H'->H l=none->(∀ y ∈ P,H y.1=none)->GrpAt H' l P->IsGroups (cont E) (P.map (·.2))->Q (.ref l) H'
end Gw
namespace Gw
open PySem PySem.Spec PyProof.Rows L2 Sw
theorem ne_data {M:Mo} {H:Hp} {p q:Addr} {d:PyData} {Q:VK} (h1:data M H 16 (.ref p)=some d) (h2:data M H 16 (.ref q)=some d) (h:Q (.bl false) H):cmpV M .NotEq (.ref p) (.ref q) H Q:=by
 show if scal (.ref p) (.ref q)=true then Q (.bl (!decide (V.ref p=V.ref q))) H else(match data M H 16 (.ref p),data M H 16 (.ref q)with | some d,some e=>Q (.bl (!PyData.eqv d e)) H | _,_=>False)
 rw[s_rr,if_neg (by decide),h1,h2]
 dsimp only
 rw[data_self _ _ _ h1]
 exact h
theorem eq_data {M:Mo} {H:Hp} {p q:Addr} {d:PyData} {Q:VK} (h1:data M H 16 (.ref p)=some d) (h2:data M H 16 (.ref q)=some d) (h:Q (.bl true) H):cmpV M .Eq (.ref p) (.ref q) H Q:=by
 show if scal (.ref p) (.ref q)=true then Q (.bl (decide (V.ref p=V.ref q))) H else(match data M H 16 (.ref p),data M H 16 (.ref q)with | some d,some e=>Q (.bl (PyData.eqv d e)) H | _,_=>False)
 rw[s_rr,if_neg (by decide),h1,h2]
 dsimp only
 rw[data_self _ _ _ h1]
 exact h
theorem dOf_at {M:Mo} {H:Hp} {p:Addr} {kvs:List (Key × V)} (h:H p=some (.dK kvs)):dOf M H (.ref p)=some kvs:=by
 show(match rd M H p with | some (.dK kvs)=>some kvs | _=>none)=some kvs
 rw[rd_of h nofrz_d]
theorem deq_dicts {M:Mo} {H:Hp} {n:Nat} {p q:Addr} {a b:List (Key × V)} (hp:H p=some (.dK a)) (hq:H q=some (.dK b)) (ne:p ≠ q) (l:a.length=b.length) (h:∀e ∈ a,∃u,valV b e.1=some u/\deqT M H n e.2 u=true):deqT M H (n + 1) (.ref p) (.ref q)=true:=by
 show(match dOf M H (.ref p),dOf M H (.ref q)with
  | some a,some b=>decide (V.ref p ≠ V.ref q) && (decide (a.length=b.length) && a.all fun e=>match valV b e.1 with | some u=>deqT M H n e.2 u | none=>false)
  | none,none=>(match data M H 0 (.ref p),data M H 0 (.ref q)with | some d,some e=>PyData.eqv d e | _,_=>false)
  | _,_=>false)=true
 rw[dOf_at hp,dOf_at hq]
 dsimp only
 have e1:decide (V.ref p ≠ V.ref q)=true:=decide_eq_true fun z=>ne (V.ref.inj z)
 rw[e1,decide_eq_true l,Bool.true_and,Bool.true_and,List.all_eq_true]
 intro e he
 obtain⟨u,h1,h2⟩:=h e he
 rw[h1]
 exact h2
theorem GrpAt.nil {H:Hp} {p:Addr} (h:H p=some (.lst [])):GrpAt H p []:=⟨h,fun y hy=>by (cases hy),by simp⟩
theorem WebAt.nil {H:Hp} {p:Addr} (h:H p=some (.dK [])):WebAt H p []:=⟨h,fun e he=>by (cases he),by simp,by simp,fun e he=>by (cases he),by simp,fun e he=>by (cases he)⟩
theorem WebOk.nil:WebOk []:=⟨by simp,fun a b h=>by (cases h),fun a b h=>by (cases h)⟩
structure Mid (M:Mo) (H:Hp) (nm w ot kp hd rs du:Addr) (ns os:List Str) (E Ek Er:List Ent) (P:List (Addr × List Str)):Prop where
 rn:rd M H nm=some (.lst (ns.map V.str))
 ro:rd M H ot=some (.lst (os.map V.str))
 rh:rd M H hd=some (.lst (os.map V.str))
 web:WebAt H w E
 ok:WebOk (cont E)
 kept:WebAt H kp Ek
 ck:cont Ek=cont E
 rest:WebAt H rs Er
 cr:cont Er=wo os (cont E)
 due:GrpAt H du P
 gr:IsGroups (cont Er) (P.map (·.2))
 off:OffM M H
 ks:∀x,x ∈ E.map (·.1) ↔ x ∈ ns
 n0:0 < ns.length
 wk:w ≠ kp
 dis:∀e ∈ E,∀f ∈ Ek,e.2.1 ≠ f.2.1
theorem Mid.ext {M:Mo} {H H':Hp} {nm w ot kp hd rs du:Addr} {ns os:List Str} {E Ek Er:List Ent} {P:List (Addr × List Str)} (m:Mid M H nm w ot kp hd rs du ns os E Ek Er P) (x:Ext M H H'):Mid M H' nm w ot kp hd rs du ns os E Ek Er P:=
 ⟨x.rd m.rn,x.rd m.ro,x.rd m.rh,x.web m.web,m.ok,x.web m.kept,m.ck,x.web m.rest,m.cr,x.grp m.due,m.gr,x.offM m.off,m.ks,m.n0,m.wk,m.dis⟩
structure KG (M:Mo) (Γ:Gam):Prop where
 gm:Γ.mod=M
 gc:Γ.cm=true
 wo:Γ.has "without" =true/\Γ.fn "without" =spWO M
 go:Γ.has "groups_of" =true/\Γ.fn "groups_of" =spGO M
 lo:Γ.has "_law_left_over" =true/\Γ.fn "_law_left_over" =spWO M
 due:Γ.has "_law_due" =true/\Γ.fn "_law_due" =spDue M
 tie:Γ.has "_law_tie" =true/\Γ.fn "_law_tie" =spTie
end Gw
namespace Kn
open PySem PySem.Spec PyProof.Rows L2 Sw Gw
@[reducible] noncomputable def N_Single_led:List Str:=["self","couple","mates"]
noncomputable def b_Single_led:Sxs:=(.cons (.ret (.lst (.cons (.ofld (.var 0) "couple") .nil)))
 .nil)
@[reducible] noncomputable def N_Group_place_of:List Str:=["self","couple","places"]
noncomputable def b_Group_place_of:Sxs:=(.cons (.asg 2 (.compE ["place","knot"] [("couple",1)] (.ofld (.var 0) "ring") (.var 0) (.cons (.cmp .In (.var 2) (.omth "members" (.var 1) .nil)) .nil)))
 (.cons (.ret (.idx (.var 2) (.con (.int 0))))
 .nil))
@[reducible] noncomputable def N_Group_beside:List Str:=["self","place","step"]
noncomputable def b_Group_beside:Sxs:=(.cons (.ret (.bin .Mod (.bin .Add (.var 1) (.var 2)) (.blt .len (.cons (.ofld (.var 0) "ring") .nil))))
 .nil)
@[reducible] noncomputable def N_Group_link_from:List Str:=["self","place","step","link"]
noncomputable def b_Group_link_from:Sxs:=(.cons (.iff (.cmp .Eq (.var 2) (.con (.int 1))) (.cons (.ret (.idx (.ofld (.var 0) "links") (.var 1)))
 .nil) .nil)
 (.cons (.asg 3 (.idx (.ofld (.var 0) "links") (.omth "beside" (.var 0) (.cons (.var 1) (.cons (.var 2) .nil)))))
 (.cons (.ret (.tup (.cons (.idx (.var 3) (.con (.int 1))) (.cons (.idx (.var 3) (.con (.int 0))) .nil))))
 .nil)))
theorem in_at {M:Mo} {H:Hp} {x:Str} {p:Addr} {ns:List Str} {Q:VK} (h:H p=some (.lst (ns.map V.str))) (q:Q (.bl (decide (x ∈ ns))) H):cmpV M .In (.str x) (.ref p) H Q:=by
 have e:(match rd M H p with | some (.lst xs)=>flatV (.str x)=true/\xs.all flatV=true/\Q (.bl (inV (.str x) xs)) H | some (.tup xs)=>flatV (.str x)=true/\xs.all flatV=true/\Q (.bl (inV (.str x) xs)) H | _=>False):=by
  rw[rd_of h (by intro _ _ z;cases z)]
  exact⟨rfl,by rw[List.all_map];exact List.all_eq_true.mpr fun _ _=>rfl,by rw[inV_strs];exact q⟩
 exact e
theorem atI_nat' {α:Type} {xs:List α} {n:Nat} {x:α} {i:Int} (h:xs[n]?=some x) (e:i=n):atI xs i=some x:=by
 subst e
 have lt:=(List.getElem?_eq_some_iff.mp h).1
 unfold atI ixN
 rw[if_pos (Int.natCast_nonneg _),if_pos (by exact_mod_cast lt),Option.bind_some,Int.toNat_natCast]
 exact h
theorem compG_inv {ι:Type} {nxt:ι->Hp->(L2.St->Hp->Prop)->Prop} {te:TE} {tt:TT} {fvs:L2.St} {D:Addr} {stay:Hp->Prop} {k:Hp->Prop} {xs:List ι} (Pv:Nat->List V->Hp->Prop) (st:∀n acc H,Pv n acc H->stay H/\H D=some (.lst acc))
  (step:∀n v acc H (K:List V->Hp->Prop),xs[n]?=some v->Pv n acc H->(∀ acc' H',Pv (n + 1) acc' H'->K acc' H')->nxt v H fun w H0=>tt (w++fvs) H0 fun ok H1=>if ok=true then te (w++fvs) H1 fun y H2=>H2 D=some (.lst acc)/\acc.length < sizeLine/\K (acc++[y]) (upd H2 D (.lst (acc++[y])))else K acc H1)
  (fin:∀acc H,Pv xs.length acc H->k H) {acc:List V} {H:Hp} (h0:Pv 0 acc H):compWG nxt te tt fvs D stay xs acc H k:=by
 have go:∀ (r:List ι) (n:Nat),xs.drop n=r->n<=xs.length->∀acc H,Pv n acc H->compWG nxt te tt fvs D stay r acc H k:=by
  intro r
  induction r with
  | nil=>
   intro n e hn acc H p
   have:xs.length<=n:=by simpa using e
   have hn':n=xs.length:=by omega
   subst hn'
   exact⟨(st _ _ _ p).1,(st _ _ _ p).2,fin acc H p⟩
  | cons v r ih=>
   intro n e hn acc H p
   have hlt:n < xs.length:=by
    have:=congrArg List.length e
    simp at this
    omega
   have hv:xs[n]?=some v:=by
    have:=congrArg (fun l=>l[0]?) e
    simpa using this
   have hr:xs.drop (n + 1)=r:=by
    have:=congrArg List.tail e
    simpa[List.tail_drop]using this
   exact⟨(st _ _ _ p).1,step n v acc H (fun acc' H'=>compWG nxt te tt fvs D stay r acc' H' k) hv p fun acc' H' q=>ih (n + 1) hr hlt acc' H' q⟩
 exact go xs 0 (by simp) (Nat.zero_le _) acc H h0
structure RowOk (μ:Str->Option V) (L:Str × Str->Prop) (ms:List Str) (c b:Str) (row:List Str):Prop where
 way:Way (fun x y=>μ x=some (.str y)/\μ y=some (.str x)) (fun x y=>L (x,y)\/L (y,x)) c b row
 nd:row.Nodup
 sub:∀x ∈ row,x ∈ ms
noncomputable def spLed (M:Mo) (R:(Addr->Prop)->(Str->Option V)->(Str × Str->Prop)->Hp->Addr->List Str->Str->Prop):Sp:=fun vs H Q _=>∃p c d ms b O kvs L,vs=[.ref p,.str c,.ref d]/\(∀ a,O a->H a ≠ none)/\R O (fun c=>valV kvs (.inr c)) L H p ms b/\c ∈ ms/\H d=some (.dK kvs)/\Out (fun c=>valV kvs (.inr c)) ms b/\
 ∀l H' row,H l=none->M l=none->Ext M H H'->H' l=some (.lst (row.map V.str))->RowOk (fun c=>valV kvs (.inr c)) L ms c b row->Q (.ref l) H'
theorem ok_sled {M:Mo} {Γ:Gam} {CS:Addr} (gm:Γ.mod=M) (g1:Γ.ofl CS "couple" =true) (vs:List V) (H:Hp) (Q:VK) (E:XK) (h:spLed M (fun O _ _=>LOne CS O) vs H Q E):spOf Γ N_Single_led 3 b_Single_led vs H Q E:=by
 obtain⟨p,c,d,ms,b,O,kvs,L,rfl,hO,⟨⟨_,dx,c',hp,e1⟩,e2⟩,hc,hd,o,q⟩:=h
 refine⟨rfl,?_⟩
 obtain rfl:=gm
 subst e1
 cases (List.cons.inj e2).1
 cases List.mem_singleton.mp hc
 unfold b_Single_led
 refine seq ?_
 walk_at "s1"
 unfold ofldV
 dsimp only
 rw[hp]
 refine⟨g1,?_⟩
 rw[lk0]
 dsimp only
 refine⟨by rw[sizeLine_eq];decide,fun l hl ml=>?_⟩
 exact q l _ [c] hl ml (Ext.upd hl ml) upd_same ⟨.one c,by simp,fun x hx=>hx⟩
noncomputable def spPlace (M:Mo) (CS CG:Addr) (N:Nat):Sp:=fun vs H Q _=>∃ (p:Addr) (c:Str) (O:Addr->Prop) (dx r l:Addr) (qs:List Addr) (mss:List (List Str)) (i:Nat),vs=[.ref p,.str c]/\(∀ a,O a->H a ≠ none)/\H p=some (.ins CG dx [("ring",.ref r),("links",.ref l)])/\H r=some (.lst (qs.map V.ref))/\
 (qs.length=mss.length/\∀ (j:Nat) q m,qs[j]?=some q->mss[j]?=some m->KAt CS CG O N H q m)/\(∀ j m,mss[j]?=some m->(c ∈ m ↔ j=i))/\i < mss.length/\∀H',Ext M H H'->Q (.int i) H'
theorem ok_place {M:Mo} {CS CG:Addr} {Γ:Gam} {N:Nat} (gm:Γ.mod=M) (gc:Γ.cm=true) (k:KM M CS CG Γ N) (g1:Γ.ofl CG "ring" =true) (vs:List V) (H:Hp) (Q:VK) (E:XK) (h:spPlace M CS CG N vs H Q E):spOf Γ N_Group_place_of 2 b_Group_place_of vs H Q E:=by
 obtain⟨p,c,O,dx,r,l,qs,mss,i,rfl,hO,hp,hr,⟨ln,kids⟩,un,il,q⟩:=h
 refine⟨rfl,?_⟩
 obtain rfl:=gm
 unfold b_Group_place_of
 refine seq ?_
 walk_at "s1"
 refine⟨gc,?_⟩
 unfold ofldV
 dsimp only
 rw[hp]
 refine⟨g1,?_⟩
 rw[lk0]
 dsimp only
 unfold enumV
 dsimp only
 rw[rd_of hr nofrz_l]
 dsimp only
 intro D nD mD
 refine compG_inv (fun n acc Hn=>acc=(if i < n then [V.int i]else [])/\Ext Γ.mod H Hn/\Hn D=some (.lst acc)) (fun n acc Hn z=>⟨rd_of (z.2.1.same _ _ hr) nofrz_l,z.2.2⟩) ?_ ?_ ⟨rfl,Ext.upd nD mD,upd_same⟩
 ·rintro n v acc Hn K hv ⟨rfl,x,hD⟩ nx
  obtain⟨hn,hq⟩:=List.getElem?_zip_eq_some.mp hv
  obtain⟨n1,n2⟩:=List.getElem?_eq_some_iff.mp hn
  rw[List.getElem_range]at n2
  rw[List.getElem?_map]at hq
  obtain⟨y,hy,e⟩:=Option.map_eq_some_iff.mp hq
  obtain⟨v1,v2⟩:=v
  dsimp only at n2 e
  subst n2 e
  have lt:=(List.getElem?_eq_some_iff.mp hy).1
  obtain⟨m,hm⟩:∃m,mss[n]?=some m:=⟨_,List.getElem?_eq_getElem (by omega)⟩
  intro t nt mt
  have x1:=x.trans (Ext.upd (o:=.tup [.int n,.ref y]) nt mt)
  have hD1:upd Hn t (.tup [.int n,.ref y]) D=some (.lst (if i < n then [V.int i]else [])):=by rw[upd_ne (ne_of_none hD nt)];exact hD
  generalize upd Hn t (.tup [.int n,.ref y])=H1 at x1 hD1 ⊢
  walk_at "s1"
  refine⟨gc,call_mem k (x1.there hO) ((kids n y m hy hm).ext hO x1) fun l2 H2 nl ml x2 h2=>?_⟩
  refine in_at h2 ⟨_,rfl,?_⟩
  have hD2:=x2.same _ _ hD1
  by_cases e:n=i
  ·subst e
   rw[if_pos (decide_eq_true ((un n m hm).mpr rfl))]
   rw[if_neg (Nat.lt_irrefl _)]at hD2 ⊢
   refine⟨hD2,by rw[sizeLine_eq];decide,nx _ _ ⟨?_,(x1.trans x2).over nD mD,upd_same⟩⟩
   rw[if_pos (Nat.lt_succ_self _)]
   rfl
  ·rw[if_neg (by rw[decide_eq_false (fun z=>e ((un n m hm).mp z))];decide)]
   refine nx _ _ ⟨?_,x1.trans x2,hD2⟩
   by_cases c:i < n
   ·rw[if_pos c,if_pos (Nat.lt_succ_of_lt c)]
   ·rw[if_neg c,if_neg (by omega)]
 ·rintro acc Hn ⟨rfl,x,hD⟩
  rw[enum_len,List.length_map,if_pos (by omega)]at hD
  refine seq ?_
  walk_at "s1"
  exact ix_at (rd_of hD nofrz_l) rfl (q _ x)
noncomputable def spBeside (CG:Addr):Sp:=fun vs H Q _=>∃ (p dx r l:Addr) (xs:List V) (a t:Int),vs=[.ref p,.int a,.int t]/\H p=some (.ins CG dx [("ring",.ref r),("links",.ref l)])/\H r=some (.lst xs)/\xs.length ≠ 0/\Q (.int ((a + t) % (xs.length:Int))) H
theorem ok_beside {Γ:Gam} {CG:Addr} (gc:Γ.cm=true) (g1:Γ.ofl CG "ring" =true) (vs:List V) (H:Hp) (Q:VK) (E:XK) (h:spBeside CG vs H Q E):spOf Γ N_Group_beside 3 b_Group_beside vs H Q E:=by
 obtain⟨p,dx,r,l,xs,a,t,rfl,hp,hr,n0,q⟩:=h
 refine⟨rfl,?_⟩
 unfold b_Group_beside
 refine seq ?_
 walk_at "s1"
 rw[Sw.v_add]
 refine⟨gc,?_⟩
 unfold ofldV
 dsimp only
 rw[hp]
 refine⟨g1,?_⟩
 rw[lk0]
 dsimp only
 refine len_at (rd_of hr nofrz_l) ?_
 rw[Sw.v_mod]
 exact⟨by omega,q⟩
noncomputable def LkF (ps:List (Str × Str)) (s:Nat) (a st:Int) (u v:Str):Prop:=(st=1->∃P,ps[a.toNat]?=some P/\u=P.1/\v=P.2)/\(st= -1->∃P,ps[((a - 1) % s).toNat]?=some P/\u=P.2/\v=P.1)
noncomputable def spLinkF (M:Mo) (CG:Addr):Sp:=fun vs H Q _=>∃ (p dx r l:Addr) (qs:List V) (xs:List V) (ps:List (Str × Str)) (a st:Int),vs=[.ref p,.int a,.int st]/\H p=some (.ins CG dx [("ring",.ref r),("links",.ref l)])/\H r=some (.lst qs)/\H l=some (.lst xs)/\(qs.length ≠ 0/\xs.length=qs.length/\ps.length=qs.length)/\
 (∀ (i:Nat) x P,xs[i]?=some x->ps[i]?=some P->LinkP H x P)/\(0<=a/\a < qs.length)/\(st=1\/st= -1)/\∀t H' u v,Ext M H H'->H' t=some (.tup [.str u,.str v])->LkF ps qs.length a st u v->Q (.ref t) H'
theorem ok_linkf {M:Mo} {Γ:Gam} {CG:Addr} (gm:Γ.mod=M) (gc:Γ.cm=true) (gb:Γ.omh CG "beside" =true/\Γ.omt CG "beside" =spBeside CG) (g1:Γ.ofl CG "links" =true) (vs:List V) (H:Hp) (Q:VK) (E:XK) (h:spLinkF M CG vs H Q E):spOf Γ N_Group_link_from 3 b_Group_link_from vs H Q E:=by
 obtain⟨p,dx,r,l,qs,xs,ps,a,st,rfl,hp,hr,hl,⟨n0,lx,lp⟩,lk,⟨a0,a1⟩,hst,q⟩:=h
 refine⟨rfl,?_⟩
 obtain rfl:=gm
 unfold b_Group_link_from
 refine seq ?_
 walk_at "s1"
 rw[Sw.v_eqi]
 refine⟨_,rfl,?_⟩
 have fl:∀ {Q:VK},Q (.ref l) H->ofldV Γ (.ref p) "links" H Q:=fun q=>by
  unfold ofldV
  dsimp only
  rw[hp]
  refine⟨g1,?_⟩
  rw[lk1 _ _ _ _ (by decide),lk0]
  exact q
 rcases hst with rfl | rfl
 ·rw[if_pos (decide_eq_true rfl)]
  refine seq ?_
  walk_at "s1"
  refine fl ?_
  have lt:a.toNat < xs.length:=by omega
  obtain⟨P,hP⟩:∃P,ps[a.toNat]?=some P:=⟨_,List.getElem?_eq_getElem (by omega)⟩
  have hx:=List.getElem?_eq_getElem lt
  obtain⟨t,et,ht⟩:=lk _ _ P hx hP
  rw[et]at hx
  refine ix_at (rd_of hl nofrz_l) (atI_nat' hx (by omega)) (q t H _ _ Ext.refl ht ⟨fun _=>⟨P,hP,rfl,rfl⟩,fun e=>by cases e⟩)
 ·rw[if_neg (by decide)]
  refine seq0 ?_
  dsimp only
  refine seq ?_
  walk_at "s1"
  refine fl ⟨gc,?_⟩
  unfold omthV
  dsimp only
  rw[hp]
  refine⟨⟨gb.1,by rw[lk1 _ _ _ _ (by decide),look1 _ _ _ (by decide)]⟩,?_⟩
  rw[gb.2]
  refine⟨p,dx,r,l,qs,a,-1,rfl,hp,hr,n0,?_⟩
  have j0:=Int.emod_nonneg (a + -1) (show(qs.length:Int) ≠ 0 by omega)
  have j1:=Int.emod_lt_of_pos (a + -1) (show(0:Int) < qs.length by omega)
  have lt:((a + -1) % (qs.length:Int)).toNat < xs.length:=by omega
  obtain⟨P,hP⟩:∃P,ps[((a + -1) % (qs.length:Int)).toNat]?=some P:=⟨_,List.getElem?_eq_getElem (by omega)⟩
  have hx:=List.getElem?_eq_getElem lt
  obtain⟨t,et,ht⟩:=lk _ _ P hx hP
  rw[et]at hx
  refine ix_at (rd_of hl nofrz_l) (atI_nat' hx (by omega)) ?_
  have tix:∀ {Q:VK} {i:Int} {v:V},atI [V.str P.1,.str P.2] i=some v->Q v H->idxV Γ.mod (.ref t) (.int i) H Q:=fun e q=>by
   rw[Sw.i_ref,rd_of ht (by intro _ _ z;cases z)]
   dsimp only
   rw[e]
   exact q
  refine seq ?_
  walk_at "s1"
  refine tix rfl (tix rfl ?_)
  refine⟨by rw[sizeLine_eq];decide,fun t2 nt mt=>?_⟩
  exact q t2 _ _ _ (Ext.upd nt mt) upd_same ⟨(fun e=>by cases e),fun _=>⟨P,hP,rfl,rfl⟩⟩
end Kn
namespace Kn
open PySem PySem.Spec PyProof.Rows L2 Sw Gw
@[reducible] noncomputable def N_Group_led:List Str:=["self","couple","mates","goal","place","step","row","through","link"]
noncomputable def b_Group_led:Sxs:=(.cons (.asg 3 (.omth "place_of" (.var 0) (.cons (.omth "base" (.var 0) (.cons (.var 2) .nil)) .nil)))
 (.cons (.asg 4 (.omth "place_of" (.var 0) (.cons (.var 1) .nil)))
 (.cons (.asg 5 (.ite (.cmp .Eq (.bin .Mod (.bin .Mod (.bin .Sub (.var 4) (.var 3)) (.blt .len (.cons (.ofld (.var 0) "ring") .nil))) (.con (.int 2))) (.con (.int 1))) (.con (.int 1)) (.neg (.con (.int 1)))))
 (.cons (.asg 6 (.omth "led" (.idx (.ofld (.var 0) "ring") (.var 4)) (.cons (.var 1) (.cons (.var 2) .nil))))
 (.cons (.whl (.cmp .NotEq (.var 4) (.var 3)) (.cons (.asg 7 (.omth "beside" (.var 0) (.cons (.var 4) (.cons (.var 5) .nil))))
 (.cons (.asg 8 (.omth "link_from" (.var 0) (.cons (.var 7) (.cons (.var 5) .nil))))
 (.cons (.exp (.mth .extend (.var 6) (.cons (.lrev (.omth "led" (.idx (.ofld (.var 0) "ring") (.var 7)) (.cons (.idx (.var 8) (.con (.int 0))) (.cons (.var 2) .nil)))) .nil)))
 (.cons (.asg 4 (.omth "beside" (.var 0) (.cons (.var 7) (.cons (.var 5) .nil))))
 (.cons (.exp (.mth .extend (.var 6) (.cons (.omth "led" (.idx (.ofld (.var 0) "ring") (.var 4)) (.cons (.idx (.var 8) (.con (.int 1))) (.cons (.var 2) .nil))) .nil)))
 .nil))))))
 (.cons (.ret (.var 6))
 .nil))))))
@[reducible] def bLed:Sxs:=(.cons (.asg 7 (.omth "beside" (.var 0) (.cons (.var 4) (.cons (.var 5) .nil))))
 (.cons (.asg 8 (.omth "link_from" (.var 0) (.cons (.var 7) (.cons (.var 5) .nil))))
 (.cons (.exp (.mth .extend (.var 6) (.cons (.lrev (.omth "led" (.idx (.ofld (.var 0) "ring") (.var 7)) (.cons (.idx (.var 8) (.con (.int 0))) (.cons (.var 2) .nil)))) .nil)))
 (.cons (.asg 4 (.omth "beside" (.var 0) (.cons (.var 7) (.cons (.var 5) .nil))))
 (.cons (.exp (.mth .extend (.var 6) (.cons (.omth "led" (.idx (.ofld (.var 0) "ring") (.var 4)) (.cons (.idx (.var 8) (.con (.int 1))) (.cons (.var 2) .nil))) .nil)))
 .nil)))))
theorem nodup_le:∀ {l ms:List Str},l.Nodup->(∀ x ∈ l,x ∈ ms)->l.length<=ms.length
 | [],_,_,_=>Nat.zero_le _
 | x::l,ms,nd,h=>by
  obtain⟨n1,n2⟩:=List.nodup_cons.mp nd
  have hx:=h x List.mem_cons_self
  have ih:=nodup_le (ms:=ms.erase x) n2 fun y hy=>(List.mem_erase_of_ne (fun e=>n1 (by rw[<-e];exact hy))).mpr (h y (List.mem_cons_of_mem _ hy))
  rw[List.length_erase_of_mem hx]at ih
  have:=List.length_pos_of_mem hx
  rw[List.length_cons]
  omega
theorem KGrp.le {CS CG:Addr} {O:Addr->Prop} {n m:Nat} {H:Hp} {p:Addr} {ms:List Str} (h:KGrp CS CG O n H p ms) (l:n<=m):KGrp CS CG O m H p ms:=by
 obtain⟨dx,r,l',qs,mss,xs,o,h1,h2,h3,⟨h4,h5⟩,h6⟩:=h
 exact⟨dx,r,l',qs,mss,xs,o,h1,h2,h3,⟨h4,fun i q m a b=>(h5 i q m a b).le l⟩,h6⟩
structure KLd (M:Mo) (CS CG:Addr) (Γ:Gam) (N n:Nat):Prop where
 gm:Γ.mod=M
 gc:Γ.cm=true
 mem:KM M CS CG Γ (N + 1)
 bg:Γ.omh CG "base" =true/\Γ.omt CG "base" =spGBase M CS CG N
 pl:Γ.omh CG "place_of" =true/\Γ.omt CG "place_of" =spPlace M CS CG (N + 1)
 be:Γ.omh CG "beside" =true/\Γ.omt CG "beside" =spBeside CG
 lf:Γ.omh CG "link_from" =true/\Γ.omt CG "link_from" =spLinkF M CG
 l1:Γ.omh CS "led" =true/\Γ.omt CS "led" =spLed M fun O _ _=>LOne CS O
 lg:∀m,n=m + 1->Γ.omh CG "led" =true/\Γ.omt CG "led" =spLed M fun O μ L=>LGrp CS CG O μ L m
 fr:Γ.ofl CG "ring" =true
theorem call_led {M:Mo} {CS CG:Addr} {Γ:Gam} {N n:Nat} (k:KLd M CS CG Γ N n) {O:Addr->Prop} {L:Str × Str->Prop} {H:Hp} {p d:Addr} {ms:List Str} {b c:Str} {kvs:List (Key × V)} {Q:VK} {K:Addr->Addr->Prop} (hO:∀a,O a->H a ≠ none) (h:LAt CS CG O (fun c=>valV kvs (.inr c)) L n H p ms b) (hc:c ∈ ms) (hd:H d=some (.dK kvs)) (o:Out (fun c=>valV kvs (.inr c)) ms b)
  (hk:∀C,Γ.omt C "led" [.ref p,.str c,.ref d] H Q (fun _ _ _=>False)->K p C)
  (q:∀l H' row,H l=none->M l=none->Ext M H H'->H' l=some (.lst (row.map V.str))->RowOk (fun c=>valV kvs (.inr c)) L ms c b row->Q (.ref l) H'):omthV Γ "led" (.ref p) H K:=by
 have one:LOne CS O H p ms b->omthV Γ "led" (.ref p) H K:=fun h=>by
  have h0:=h
  obtain⟨⟨_,dx,c',hp,_⟩,_⟩:=h
  unfold omthV
  dsimp only
  rw[hp]
  refine⟨⟨k.l1.1,look1 _ _ _ (by decide)⟩,hk _ ?_⟩
  rw[k.l1.2]
  exact⟨p,c,d,ms,b,O,kvs,L,rfl,hO,h0,hc,hd,o,q⟩
 cases n with
 | zero=>exact one h
 | succ n=>
  rcases h.cases with h | h
  ·exact one h
  ·have h0:=h
   obtain⟨dx,r,l,qs,mss,bs,xs,ps,s,lead,h⟩:=h
   obtain⟨g1,g2⟩:=k.lg n rfl
   unfold omthV
   dsimp only
   rw[h.hp]
   refine⟨⟨g1,by rw[lk1 _ _ _ _ (by decide),look1 _ _ _ (by decide)]⟩,hk _ ?_⟩
   rw[g2]
   exact⟨p,c,d,ms,b,O,kvs,L,rfl,hO,h0,hc,hd,o,q⟩
section
variable {CS CG:Addr} {O:Addr->Prop} {μ:Str->Option V} {L:Str × Str->Prop} {H:Hp} {R:Addr->List Str->Str->Prop} {p dx r l:Addr} {ms:List Str} {b:Str} {qs:List Addr} {mss:List (List Str)} {bs:List Str} {xs:List V} {ps:List (Str × Str)} {s lead:Nat}
theorem LG.un (h:LG CG O μ L R H p ms b dx r l qs mss bs xs ps s lead) {i:Nat} {m0:List Str} {c:Str} (h0:mss[i]?=some m0) (hc:c ∈ m0):∀ (j:Nat) m,mss[j]?=some m->(c ∈ m ↔ j=i):=fun j m hm=>by
 refine⟨fun z=>?_,fun z=>?_⟩
 ·refine Decidable.byContradiction fun ne=>?_
  exact disjL h.ndf hm h0 ne z hc
 ·subst z
  rw[h0]at hm
  cases hm
  exact hc
structure Part (μ:Str->Option V) (L:Str × Str->Prop) (mss:List (List Str)) (bs:List Str) (s a g k:Nat) (c:Str) (row:List Str):Prop where
 way:∃y,bs[rpos s a g k]?=some y/\Way (fun x y=>μ x=some (.str y)/\μ y=some (.str x)) (fun x y=>L (x,y)\/L (y,x)) c y row
 nd:row.Nodup
 sub:∀x ∈ row,∃i,i<=k/\∃m,mss[rpos s a g i]?=some m/\x ∈ m
theorem Part.few (h:LG CG O μ L R H p ms b dx r l qs mss bs xs ps s lead) {a k:Nat} {c:Str} {row:List Str} (w:Part μ L mss bs s a lead k c row):row.length < 64:=
 Nat.lt_of_le_of_lt (nodup_le w.nd fun x hx=>let ⟨_,_,_,hm,hx⟩:=w.sub x hx;h.sub hm hx) h.few
theorem Part.next (h:LG CG O μ L R H p ms b dx r l qs mss bs xs ps s lead) {a k:Nat} (rd:Road s a lead) (ke:k % 2=0) (kt:k + 2<=rfar s a lead) {c u v y1 y2:Str} {row S T m1 m2:List Str} (w:Part μ L mss bs s a lead k c row) (e1:mss[rpos s a lead (k + 1)]?=some m1) (b1:bs[rpos s a lead (k + 1)]?=some y1) (e2:mss[rpos s a lead (k + 2)]?=some m2) (b2:bs[rpos s a lead (k + 2)]?=some y2)
  (lk:L (u,v)\/L (v,u)) (hS:RowOk μ L m1 u y1 S) (hT:RowOk μ L m2 v y2 T):Part μ L mss bs s a lead (k + 2) c (row++(S.reverse++T)):=by
 obtain⟨y,hy,w1⟩:=w.way
 have k0:rpos s a lead k < s:=rpos_lt h.hs
 have k1:rpos s a lead (k + 1) < s:=rpos_lt h.hs
 have mt:μ y=some (.str y1)/\μ y1=some (.str y):=by
  rcases rstp_or s a lead with st | st
  ·exact h.mt _ y y1 k0 (rd.m1 st k (by omega) ke) hy (by rw[rd.n1 st k (by omega)];exact b1)
  ·exact(h.mt _ y1 y k1 (rd.m2 st k (by omega) ke) b1 (by rw[rd.n2 st k (by omega)];exact hy)).symm
 refine⟨⟨y2,b2,Way.glue (fun x y q=>⟨q.2,q.1⟩) (fun x y q=>q.symm) w1 hS.way mt lk hT.way⟩,?_,fun x hx=>?_⟩
 ·rw[List.nodup_append,List.nodup_append]
  refine⟨w.nd,⟨(List.reverse_perm _).nodup_iff.mpr hS.nd,hT.nd,fun x hx z hz e=>?_⟩,fun x hx z hz e=>?_⟩
  ·exact disjL h.ndf e1 e2 (rd.i (k + 2) (by omega) (k + 1) (by omega)) (hS.sub x (List.mem_reverse.mp hx)) (by rw[e];exact hT.sub z hz)
  ·obtain⟨i,ik,m,hm,hx⟩:=w.sub x hx
   rcases List.mem_append.mp hz with hz | hz
   ·exact disjL h.ndf hm e1 (rd.i (k + 1) (by omega) i (by omega)) hx (by rw[e];exact hS.sub z (List.mem_reverse.mp hz))
   ·exact disjL h.ndf hm e2 (rd.i (k + 2) (by omega) i (by omega)) hx (by rw[e];exact hT.sub z hz)
 ·rcases List.mem_append.mp hx with hx | hx
  ·obtain⟨i,ik,m,hm,hx⟩:=w.sub x hx
   exact⟨i,by omega,m,hm,hx⟩
  ·rcases List.mem_append.mp hx with hx | hx
   ·exact⟨k + 1,by omega,m1,e1,hS.sub x (List.mem_reverse.mp hx)⟩
   ·exact⟨k + 2,Nat.le_refl _,m2,e2,hT.sub x hx⟩
theorem Part.link (h:LG CG O μ L R H p ms b dx r l qs mss bs xs ps s lead) {a k:Nat} (rd:Road s a lead) (kt:k + 2<=rfar s a lead) {u v:Str} (f:LkF ps s (rpos s a lead (k + 1):Int) (rstp s a lead) u v):
  (∃ m,mss[rpos s a lead (k + 1)]?=some m/\u ∈ m)/\(∃ m,mss[rpos s a lead (k + 2)]?=some m/\v ∈ m)/\(L (u,v)\/L (v,u)):=by
 rcases rstp_or s a lead with st | st
 ·obtain⟨P,hP,rfl,rfl⟩:=f.1 st
  rw[Int.toNat_natCast]at hP
  obtain⟨g1,g2,g3⟩:=h.lf _ P hP
  rw[rd.n1 st (k + 1) (by omega)]at g3
  exact⟨g2,g3,.inl g1⟩
 ·obtain⟨P,hP,rfl,rfl⟩:=f.2 st
  have e:=rd.b (k + 1) (by omega)
  rw[st]at e
  rw[show((rpos s a lead (k + 1):Int) - 1)=(rpos s a lead (k + 1):Int) + -1 from rfl,e,Int.toNat_natCast]at hP
  obtain⟨g1,g2,g3⟩:=h.lf _ P hP
  rw[rd.n2 st (k + 1) (by omega)]at g3
  exact⟨g3,g2,.inr g1⟩
end
end Kn
namespace Kn
open PySem PySem.Spec PyProof.Rows L2 Sw Gw
theorem ext_lst {M:Mo} {H:Hp} {p q:Addr} {xs ys:List V} {Q:VK} (h1:H p=some (.lst xs)) (h2:H q=some (.lst ys)) (hl:xs.length + ys.length<=sizeLine) (k:Q .non (upd H p (.lst (xs++ys)))):mthV M .extend (.ref p) [.ref q] H Q:=by
 unfold mthV
 dsimp only
 rw[h1,h2]
 exact⟨hl,k⟩
theorem led_loop {M:Mo} {CS CG:Addr} {Γ:Gam} {Ξ:XS} {D:Ends} {N n:Nat} (g:KLd M CS CG Γ N n) {O:Addr->Prop} {L:Str × Str->Prop} {H:Hp} {p d dx r l lr:Addr} {ms:List Str} {b c:Str} {kvs:List (Key × V)} {qs:List Addr} {mss:List (List Str)} {bs:List Str} {xs:List V} {ps:List (Str × Str)} {s lead a:Nat}
  (h:LG CG O (fun c=>valV kvs (.inr c)) L (LAt CS CG O (fun c=>valV kvs (.inr c)) L n H) H p ms b dx r l qs mss bs xs ps s lead) (hO:∀a,O a->H a ≠ none) (hd:H d=some (.dK kvs)) (o:Out (fun c=>valV kvs (.inr c)) ms b) (ha:a < s) (nlr:H lr=none) (mlr:M lr=none)
  (fin:∀ (v7 v8:Option V) (H':Hp) (row:List Str),Ext M H H'->H' lr=some (.lst (row.map V.str))->RowOk (fun c=>valV kvs (.inr c)) L ms c b row->D.nx [some (.ref p),some (.str c),some (.ref d),some (.int lead),some (.int lead),some (.int (rstp s a lead)),some (.ref lr),v7,v8] H')
  {Hn:Hp} {row:List Str} (x:Ext M H Hn) (hrow:Hn lr=some (.lst (row.map V.str))) (w:Part (fun c=>valV kvs (.inr c)) L mss bs s a lead 0 c row):
  wS (.whl (.cmp .NotEq (.var 4) (.var 3)) bLed) Γ Ξ D [some (.ref p),some (.str c),some (.ref d),some (.int lead),some (.int a),some (.int (rstp s a lead)),some (.ref lr),none,none] Hn:=by
 have rdx:=road h.hs ha h.ld
 obtain⟨l1,l2,l3,l4,l5⟩:=h.ln
 have s0:s ≠ 0:=by have:=h.hs;omega
 have gm:=g.gm
 subst gm
 have gc:=g.gc
 have look:∀m:Str,(m == "ring")=false->(m == "links")=false->List.lookup m [(("ring" :Str),V.ref r),("links",.ref l)]=none:=fun m h1 h2=>by rw[lk1 _ _ _ _ h1,look1 _ _ _ h2]
 have ring:∀ {H':Hp} {Q:VK},Ext Γ.mod H H'->Q (.ref r) H'->ofldV Γ (.ref p) "ring" H' Q:=fun x q=>by
  unfold ofldV
  dsimp only
  rw[x.same _ _ h.hp]
  refine⟨g.fr,?_⟩
  rw[lk0]
  exact q
 have at_:∀ {H':Hp} {Q:VK} {i:Nat} {q:Addr},Ext Γ.mod H H'->qs[i]?=some q->Q (.ref q) H'->idxV Γ.mod (.ref r) (.int i) H' Q:=fun{H' Q i q} x hq k=>ix_at (rd_of (x.same _ _ h.hr) nofrz_l) (atI_nat' (n:=i) (x:=V.ref q) (by rw[List.getElem?_map,hq];rfl) rfl) k
 have kid:∀ {H':Hp} {i:Nat} {q:Addr} {m:List Str} {y:Str},Ext Γ.mod H H'->qs[i]?=some q->mss[i]?=some m->bs[i]?=some y->LAt CS CG O (fun c=>valV kvs (.inr c)) L n H' q m y:=fun x h1 h2 h3=>(h.kid _ _ _ _ h1 h2 h3).ext hO x
 have beside:∀ {H':Hp} {k:Nat} {Q:VK},Ext Γ.mod H H'->k < rfar s a lead->Q (.int (rpos s a lead (k + 1))) H'->omthV Γ "beside" (.ref p) H' fun p C=>Γ.omt C "beside" [.ref p,.int (rpos s a lead k),.int (rstp s a lead)] H' Q fun _ _ _=>False:=fun{H' k Q} x kt q=>by
  unfold omthV
  dsimp only
  rw[x.same _ _ h.hp]
  refine⟨⟨g.be.1,look _ (by decide) (by decide)⟩,?_⟩
  rw[g.be.2]
  refine⟨p,dx,r,l,_,_,_,rfl,x.same _ _ h.hp,x.same _ _ h.hr,by rw[List.length_map,l1];exact s0,?_⟩
  rw[List.length_map,l1,rdx.b k kt]
  exact q
 dsimp only[Sw.wS]
 refine⟨fun m σ Hm=>∃ (k:Nat) (v7 v8:Option V) (row:List Str),k + m=rfar s a lead/\k % 2=0/\σ=[some (.ref p),some (.str c),some (.ref d),some (.int lead),some (.int (rpos s a lead k)),some (.int (rstp s a lead)),some (.ref lr),v7,v8]/\Ext Γ.mod H Hm/\Hm lr=some (.lst (row.map V.str))/\Part (fun c=>valV kvs (.inr c)) L mss bs s a lead k c row,
  ⟨rfar s a lead,0,none,none,row,Nat.zero_add _,rfl,by rw[rdx.z],x,hrow,w⟩,?_⟩
 rintro m σ Hm ⟨k,v7,v8,row,km,ke,rfl,x,hrow,w⟩
 walk_at "s1"
 rw[Sw.v_nei]
 refine⟨_,rfl,?_⟩
 cases m with
 | zero=>
  have kT:k=rfar s a lead:=by omega
  subst kT
  rw[rdx.t,if_neg (by simp)]
  obtain⟨y,hy,w1⟩:=w.way
  rw[rdx.t,h.bl]at hy
  cases hy
  exact fin v7 v8 Hm row x hrow ⟨w1,w.nd,fun x hx=>let ⟨_,_,_,hm,hx⟩:=w.sub x hx;h.sub hm hx⟩
 | succ m=>
  have ev:=rdx.e
  have kt:k + 2<=rfar s a lead:=by omega
  have ne:¬ ((rpos s a lead k:Int)=(lead:Int)):=fun e=>rdx.i (rfar s a lead) (by omega) k (by omega) (by rw[rdx.t];exact_mod_cast e)
  rw[if_pos (by simp only[Bool.not_eq_true',decide_eq_false_iff_not];exact ne)]
  refine⟨fun σ' H'=>∃ (v7 v8:Option V) (row:List Str),σ'=[some (.ref p),some (.str c),some (.ref d),some (.int lead),some (.int (rpos s a lead (k + 2))),some (.int (rstp s a lead)),some (.ref lr),v7,v8]/\Ext Γ.mod H H'/\H' lr=some (.lst (row.map V.str))/\Part (fun c=>valV kvs (.inr c)) L mss bs s a lead (k + 2) c row,
   fun σ' H' ⟨v7,v8,row,e,x,hr,w⟩=>⟨m - 1,by omega,k + 2,v7,v8,row,by omega,by omega,e,x,hr,w⟩,?_⟩
  obtain⟨q1,m1,y1,g1,g2,g3⟩:=h.pos (rpos_lt (a:=a) (g:=lead) (k:=k + 1) h.hs)
  obtain⟨q2,m2,y2,f1,f2,f3⟩:=h.pos (rpos_lt (a:=a) (g:=lead) (k:=k + 2) h.hs)
  have rl:=w.few h
  unfold bLed
  refine seq ?_
  walk_at "s1"
  refine⟨gc,beside x (by omega) ?_⟩
  refine seq ?_
  walk_at "s1"
  refine⟨gc,?_⟩
  unfold omthV
  dsimp only
  rw[x.same _ _ h.hp]
  refine⟨⟨g.lf.1,look _ (by decide) (by decide)⟩,?_⟩
  rw[g.lf.2]
  refine⟨p,dx,r,l,_,xs,ps,_,_,rfl,x.same _ _ h.hp,x.same _ _ h.hr,x.same _ _ h.hl,⟨by rw[List.length_map,l1];exact s0,by rw[List.length_map,l1,l4],by rw[List.length_map,l1,l5]⟩,fun i x' P h1 h2=>?_,⟨Int.natCast_nonneg _,by rw[List.length_map,l1];exact_mod_cast rpos_lt h.hs⟩,rstp_or _ _ _,fun t H2 u v x2 ht f=>?_⟩
  ·obtain⟨t,e1,e2⟩:=h.lk i x' P h1 h2
   exact⟨t,e1,x.same _ _ e2⟩
  rw[List.length_map,l1]at f
  obtain⟨⟨m1',e1,hu⟩,⟨m2',e2,hv⟩,lk⟩:=Part.link h rdx kt f
  rw[g2]at e1
  cases e1
  rw[f2]at e2
  cases e2
  have xx:=x.trans x2
  have hrow2:=x2.same _ _ hrow
  have tix:∀ {H':Hp} {Q:VK} {i:Int} {v':V},H' t=some (.tup [.str u,.str v])->atI [V.str u,.str v] i=some v'->Q v' H'->idxV Γ.mod (.ref t) (.int i) H' Q:=fun h' e q=>by
   rw[Sw.i_ref,rd_of h' (by intro _ _ z;cases z)]
   dsimp only
   rw[e]
   exact q
  refine seq ?_
  walk_at "s1"
  refine⟨mty_l hrow2,gc,gc,ring xx (at_ xx g1 ?_)⟩
  refine call_led g (xx.there hO) (kid xx g1 g2 g3) hu (xx.same _ _ hd) (h.out o g2 g3) (fun C z=>tix ht rfl z) fun ls H3 S nls mls x3 hS rS=>?_
  unfold lrevV
  dsimp only
  rw[rd_of hS nofrz_l]
  dsimp only
  intro l4 n4 m4
  have x4:=x3.trans (Ext.upd (M:=Γ.mod) (o:=.lst (S.map V.str).reverse) n4 m4)
  have h4:upd H3 l4 (.lst (S.map V.str).reverse) l4=some (.lst (S.reverse.map V.str)):=by rw[upd_same,List.map_reverse]
  generalize upd H3 l4 (.lst (S.map V.str).reverse)=H4 at x4 h4 ⊢
  have sl:S.length < 64:=Nat.lt_of_le_of_lt (nodup_le rS.nd fun x hx=>h.sub g2 (rS.sub x hx)) h.few
  refine ext_lst (x4.same _ _ hrow2) h4 (by rw[List.length_map,List.length_map,List.length_reverse,sizeLine_eq];omega) ?_
  rw[<-List.map_append]
  have x5:Ext Γ.mod H (upd H4 lr (.lst ((row++S.reverse).map V.str))):=(xx.trans x4).over nlr mlr
  have y5:upd H4 lr (.lst ((row++S.reverse).map V.str)) t=some (.tup [.str u,.str v]):=by
   rw[upd_ne (fun e=>by rw[e,hrow2]at ht;cases ht)]
   exact x4.same _ _ ht
  have hrow5:upd H4 lr (.lst ((row++S.reverse).map V.str)) lr=some (.lst ((row++S.reverse).map V.str)):=upd_same
  generalize upd H4 lr (.lst ((row++S.reverse).map V.str))=H5 at x5 y5 hrow5 ⊢
  refine seq ?_
  walk_at "s1"
  refine⟨gc,beside x5 (by omega) ?_⟩
  refine seq ?_
  walk_at "s1"
  refine⟨mty_l hrow5,gc,ring x5 (at_ x5 f1 ?_)⟩
  refine call_led g (x5.there hO) (kid x5 f1 f2 f3) hv (x5.same _ _ hd) (h.out o f2 f3) (fun C z=>tix y5 rfl z) fun lt H6 T nlt mlt x6 hT rT=>?_
  have tl:T.length < 64:=Nat.lt_of_le_of_lt (nodup_le rT.nd fun x hx=>h.sub f2 (rT.sub x hx)) h.few
  refine ext_lst (x6.same _ _ hrow5) hT (by rw[List.length_map,List.length_map,List.length_append,List.length_reverse,sizeLine_eq];omega) ?_
  rw[<-List.map_append,List.append_assoc]
  exact seq0 ⟨_,_,_,rfl,(x5.trans x6).over nlr mlr,upd_same,w.next h rdx ke kt g2 g3 f2 f3 lk rS rT⟩
theorem ok_gled {M:Mo} {CS CG:Addr} {Γ:Gam} {N n:Nat} (g:KLd M CS CG Γ N n) (nN:n<=N) (vs:List V) (H:Hp) (Q:VK) (E:XK) (h:spLed M (fun O μ L=>LGrp CS CG O μ L n) vs H Q E):spOf Γ N_Group_led 3 b_Group_led vs H Q E:=by
 obtain⟨p,c,d,ms,b,O,kvs,L,rfl,hO,h0,hc,hd,o,q⟩:=h
 refine⟨rfl,?_⟩
 have gm:=g.gm
 subst gm
 have gc:=g.gc
 have hk:=h0.grp
 have bo:=h0.at.base o
 obtain⟨dx,r,l,qs,mss,bs,xs,ps,s,lead,h⟩:=h0
 obtain⟨l1,l2,l3,l4,l5⟩:=h.ln
 have s0:s ≠ 0:=by have:=h.hs;omega
 have look:∀m:Str,(m == "ring")=false->(m == "links")=false->List.lookup m [(("ring" :Str),V.ref r),("links",.ref l)]=none:=fun m h1 h2=>by rw[lk1 _ _ _ _ h1,look1 _ _ _ h2]
 obtain⟨ql,ml,yl,gl1,gl2,gl3⟩:=h.pos h.ld
 have bml:=(h.kid _ _ _ _ gl1 gl2 gl3).mem
 rw[h.bl]at gl3
 cases gl3
 obtain⟨a,ma,ha2,hca,ha⟩:=h.has hc
 obtain⟨qa,ma',ya,ha1,ha2',ha3⟩:=h.pos ha
 rw[ha2]at ha2'
 cases ha2'
 have kids:∀ {H':Hp},Ext Γ.mod H H'->∀ (j:Nat) q m,qs[j]?=some q->mss[j]?=some m->KAt CS CG O (N + 1) H' q m:=fun x j q m h1 h2=>by
  have lt:=(List.getElem?_eq_some_iff.mp h1).1
  rw[l1]at lt
  obtain⟨_,_,y,_,_,h3⟩:=h.pos lt
  exact(((h.kid _ _ _ _ h1 h2 h3).kat).le (by omega)).ext hO x
 unfold b_Group_led
 refine seq ?_
 walk_at "s1"
 refine⟨gc,?_⟩
 unfold omthV
 dsimp only
 rw[h.hp]
 refine⟨⟨g.pl.1,look _ (by decide) (by decide)⟩,gc,⟨g.bg.1,look _ (by decide) (by decide)⟩,?_⟩
 rw[g.bg.2]
 refine⟨p,d,ms,O,kvs,b,rfl,hO,hk.le nN,hd,bo,fun H1 x1=>?_⟩
 rw[g.pl.2]
 refine⟨p,b,O,dx,r,l,qs,mss,lead,rfl,x1.there hO,x1.same _ _ h.hp,x1.same _ _ h.hr,⟨by omega,kids x1⟩,h.un gl2 bml,by rw[l2];exact h.ld,fun H2 y2=>?_⟩
 have x2:=x1.trans y2
 refine seq ?_
 walk_at "s1"
 refine⟨gc,?_⟩
 unfold omthV
 dsimp only
 rw[x2.same _ _ h.hp]
 refine⟨⟨g.pl.1,look _ (by decide) (by decide)⟩,?_⟩
 rw[g.pl.2]
 refine⟨p,c,O,dx,r,l,qs,mss,a,rfl,x2.there hO,x2.same _ _ h.hp,x2.same _ _ h.hr,⟨by omega,kids x2⟩,h.un ha2 hca,by omega,fun H3 y3=>?_⟩
 have x3:=x2.trans y3
 have ring:∀ {Q:VK},Q (.ref r) H3->ofldV Γ (.ref p) "ring" H3 Q:=fun q=>by
  unfold ofldV
  dsimp only
  rw[x3.same _ _ h.hp]
  refine⟨g.fr,?_⟩
  rw[lk0]
  exact q
 have rest:∀ (st:Int),st=rstp s a lead->∀ {D:Ends} {Ξ:XS},(∀ l H' row,H l=none->Γ.mod l=none->Ext Γ.mod H H'->H' l=some (.lst (row.map V.str))->RowOk (fun c=>valV kvs (.inr c)) L ms c b row->D.rt (.ref l) H')->wSs (.cons (.asg 6 (.omth "led" (.idx (.ofld (.var 0) "ring") (.var 4)) (.cons (.var 1) (.cons (.var 2) .nil)))) (.cons (.whl (.cmp .NotEq (.var 4) (.var 3)) bLed) (.cons (.ret (.var 6)) .nil))) Γ Ξ D [some (.ref p),some (.str c),some (.ref d),some (.int lead),some (.int a),some (.int st),none,none,none] H3:=by
  rintro st rfl D Ξ q
  refine seq ?_
  walk_at "s1"
  refine⟨gc,ring ?_⟩
  refine ix_at (rd_of (x3.same _ _ h.hr) nofrz_l) (atI_nat' (n:=a) (x:=V.ref qa) (by rw[List.getElem?_map,ha1];rfl) rfl) ?_
  refine call_led g (x3.there hO) ((h.kid _ _ _ _ ha1 ha2 ha3).ext hO x3) hca (x3.same _ _ hd) (h.out o ha2 ha3) (fun C z=>z) fun lr H4 row nlr mlr x4 hrow rR=>?_
  have nl:H lr=none:=by
   cases e:H lr with
   | none=>rfl
   | some u=>rw[x3.same _ _ e]at nlr;cases nlr
  have z0:=(road h.hs ha h.ld).z
  refine seq (led_loop g h hO hd o ha nl mlr (fun v7 v8 H' row x' h' rw'=>?_) (x3.trans x4) hrow ⟨⟨ya,by rw[z0];exact ha3,rR.way⟩,rR.nd,fun x hx=>⟨0,Nat.le_refl _,ma,by rw[z0];exact ha2,rR.sub x hx⟩⟩)
  dsimp only
  refine seq ?_
  walk_at "s1"
  exact q lr H' row nl mlr x' h' rw'
 refine seq ?_
 walk_at "s1"
 rw[Sw.v_sub]
 refine⟨gc,ring (len_at (rd_of (x3.same _ _ h.hr) nofrz_l) ?_)⟩
 rw[List.length_map,l1,Sw.v_mod]
 refine⟨by omega,?_⟩
 rw[Sw.v_mod]
 refine⟨by decide,?_⟩
 rw[Sw.v_eqi]
 refine⟨_,rfl,?_⟩
 by_cases od:((a:Int) - lead) % s % 2=1
 ·rw[if_pos (decide_eq_true od)]
  exact rest 1 (by unfold rstp;rw[if_pos od]) q
 ·rw[if_neg (by rw[decide_eq_false od];decide)]
  exact rest (-1) (by unfold rstp;rw[if_neg od]) q
end Kn
namespace Kn
open PySem PySem.Spec PyProof.Rows L2 Sw Gw
structure Uu where
 (u p a lk rg:Addr) (b:Str) (ms:List Str) (xs:List V) (ras:List Addr) (mss:List (List Str)) (ps:List (Str × Str))
noncomputable def LinkV (H:Hp) (x:V):Prop:=∃t s1 s2,x=.ref t/\H t=some (.tup [.str s1,.str s2])
noncomputable def LinksAt (H:Hp) (xs:List V) (ps:List (Str × Str)):Prop:=xs.length=ps.length/\∀ (i:Nat) x P,xs[i]?=some x->ps[i]?=some P->LinkP H x P
theorem LinksAt.lv {H:Hp} {xs:List V} {ps:List (Str × Str)} (h:LinksAt H xs ps):∀x ∈ xs,LinkV H x:=fun x hx=>by
 obtain⟨i,hi⟩:=List.mem_iff_getElem?.mp hx
 have lt:=(List.getElem?_eq_some_iff.mp hi).1
 obtain⟨P,hP⟩:∃P,ps[i]?=some P:=⟨_,List.getElem?_eq_getElem (by have:=h.1;omega)⟩
 obtain⟨t,e,q⟩:=h.2 i x P hi hP
 exact⟨t,_,_,e,q⟩
theorem LinksAt.map {H H':Hp} {xs:List V} {ps:List (Str × Str)} (h:LinksAt H xs ps) (ht:∀a zs,H a=some (.tup zs)->H' a=some (.tup zs)):LinksAt H' xs ps:=
 ⟨h.1,fun i x P h1 h2=>let ⟨t,e,q⟩:=h.2 i x P h1 h2;⟨t,e,ht _ _ q⟩⟩
theorem LinksAt.app {H:Hp} {xs ys:List V} {ps qs:List (Str × Str)} (h:LinksAt H xs ps) (g:LinksAt H ys qs):LinksAt H (xs++ys) (ps++qs):=by
 refine⟨by rw[List.length_append,List.length_append,h.1,g.1],fun i x P h1 h2=>?_⟩
 by_cases c:i < xs.length
 ·rw[List.getElem?_append_left c]at h1
  rw[List.getElem?_append_left (by rw[<-h.1];exact c)]at h2
  exact h.2 i x P h1 h2
 ·rw[List.getElem?_append_right (by omega)]at h1
  rw[List.getElem?_append_right (by rw[<-h.1];omega),<-h.1]at h2
  exact g.2 _ x P h1 h2
theorem LinksAt.flat {H:Hp}:∀ {R:List Uu},(∀ z ∈ R,LinksAt H z.xs z.ps)->LinksAt H (R.map (·.xs)).flatten (R.map (·.ps)).flatten
 | [],_=>⟨rfl,fun i x P h1 h2=>by simp at h1⟩
 | z::R,h=>(h z List.mem_cons_self).app (LinksAt.flat fun y hy=>h y (List.mem_cons_of_mem _ hy))
noncomputable def KGx (CS CG:Addr) (O:Addr->Prop) (n:Nat) (H:Hp) (p:Addr) (ms:List Str) (mss:List (List Str)) (ys:List V):Prop:=∃ (dx r l:Addr) (qs:List Addr),(O p/\O r/\O l)/\H p=some (.ins CG dx [("ring",.ref r),("links",.ref l)])/\H r=some (.lst (qs.map V.ref))/\H l=some (.lst ys)/\
   (qs.length=mss.length/\∀ (i:Nat) q m,qs[i]?=some q->mss[i]?=some m->KAt CS CG O n H q m)/\ms.Perm mss.flatten/\sortedS ms=true/\ms.Nodup/\ms.length < 64
theorem KGx.grp {CS CG:Addr} {O:Addr->Prop} {n:Nat} {H:Hp} {p:Addr} {ms:List Str} {mss:List (List Str)} {ys:List V} (h:KGx CS CG O n H p ms mss ys):KGrp CS CG O n H p ms:=by
 obtain⟨dx,r,l,qs,o,h1,h2,h3,h4⟩:=h
 exact⟨dx,r,l,qs,mss,ys,o,h1,h2,h3,h4⟩
structure UDic (kvs:List (Key × V)) (z:Uu):Prop where
 knot:valV kvs (.inr "knot")=some (.ref z.p)
 base:valV kvs (.inr "base")=some (.str z.b)
 all:valV kvs (.inr "all")=some (.ref z.a)
 links:valV kvs (.inr "links")=some (.ref z.lk)
 ring:valV kvs (.inr "ring")=some (.ref z.rg)
structure UAt (CS CG:Addr) (O:Addr->Prop) (n:Nat) (H:Hp) (z:Uu):Prop where
 d:∃kvs,H z.u=some (.dK kvs)/\UDic kvs z
 a:H z.a=some (.lst (z.ms.map V.str))
 lk:H z.lk=some (.lst z.xs)
 lv:LinksAt H z.xs z.ps
 rg:H z.rg=some (.lst (z.ras.map V.ref))
 rs:z.ras.length=z.mss.length/\∀ (i:Nat) q m,z.ras[i]?=some q->z.mss[i]?=some m->H q=some (.lst (m.map V.str))
 k:(KOne CS O H z.p z.ms/\z.mss=[]/\z.ms=[z.b])\/(KGx CS CG O n H z.p z.ms z.mss (z.xs.take z.mss.length)/\z.mss ≠ [])
 fw:z.mss.length<=7
theorem LinkV.ext {M:Mo} {H H':Hp} {x:V} (h:LinkV H x) (e:Ext M H H'):LinkV H' x:=by
 obtain⟨t,s1,s2,h1,h2⟩:=h
 exact⟨t,s1,s2,h1,e.same _ _ h2⟩
theorem KGx.ext {M:Mo} {CS CG:Addr} {O:Addr->Prop} {n:Nat} {H H':Hp} {p:Addr} {ms:List Str} {mss:List (List Str)} {ys:List V} (h:KGx CS CG O n H p ms mss ys) (hO:∀a,O a->H a ≠ none) (e:Ext M H H'):KGx CS CG O n H' p ms mss ys:=by
 obtain⟨dx,r,l,qs,o,h1,h2,h3,⟨h4,h5⟩,h6⟩:=h
 exact⟨dx,r,l,qs,o,e.same _ _ h1,e.same _ _ h2,e.same _ _ h3,⟨h4,fun i q m a b=>(h5 i q m a b).ext hO e⟩,h6⟩
theorem UAt.ext {M:Mo} {CS CG:Addr} {O:Addr->Prop} {n:Nat} {H H':Hp} {z:Uu} (h:UAt CS CG O n H z) (hO:∀a,O a->H a ≠ none) (e:Ext M H H'):UAt CS CG O n H' z:=by
 obtain⟨⟨kvs,h1,h2⟩,h3,h4,h5,h6,⟨h7,h8⟩,h9,hf⟩:=h
 refine⟨⟨kvs,e.same _ _ h1,h2⟩,e.same _ _ h3,e.same _ _ h4,h5.map fun a zs q=>e.same _ _ q,e.same _ _ h6,⟨h7,fun i q m a b=>e.same _ _ (h8 i q m a b)⟩,?_,hf⟩
 rcases h9 with ⟨k,h⟩ | ⟨k,h⟩
 ·exact .inl ⟨KAt.ext (CG:=CG) (n:=0) k hO e,h⟩
 ·exact .inr ⟨k.ext hO e,h⟩
theorem d_grp {M:Mo} {H:Hp} {p:Addr} {qs:List Addr} {mss:List (List Str)} (h:H p=some (.lst (qs.map V.ref))) (hl:qs.length=mss.length) (hq:∀ (i:Nat) q m,qs[i]?=some q->mss[i]?=some m->H q=some (.lst (m.map V.str))):
  data M H 16 (.ref p)=some (.list (mss.map fun m=>PyData.list (m.map PyData.str))):=by
 unfold data
 rw[rd_of h nofrz_l]
 dsimp only
 have go:∀ (qs:List Addr) (mss:List (List Str)),qs.length=mss.length->(∀ (i:Nat) q m,qs[i]?=some q->mss[i]?=some m->H q=some (.lst (m.map V.str)))->allM (data M H 15) (qs.map V.ref)=some (mss.map fun m=>PyData.list (m.map PyData.str)):=by
  intro qs
  induction qs with
  | nil=>intro mss hl _;cases mss with | nil=>rfl | cons _ _=>cases hl
  | cons q r ih=>
   intro mss hl hq
   cases mss with
   | nil=>cases hl
   | cons m t=>
    rw[List.map_cons,List.map_cons]
    unfold allM
    rw[data_strs 14 (rd_of (hq 0 q m rfl rfl) nofrz_l),ih t (by simpa using hl) fun i a b h1 h2=>hq (i + 1) a b (by simpa using h1) (by simpa using h2)]
 rw[go qs mss hl hq]
 rfl
theorem d_links {M:Mo} {H:Hp} {p:Addr} {xs:List V} (h:H p=some (.lst xs)) (hx:∀x ∈ xs,LinkV H x):∃ds,allM (data M H 15) xs=some ds/\data M H 16 (.ref p)=some (.list ds):=by
 have go:∀ (xs:List V),(∀ x ∈ xs,LinkV H x)->∃ds,allM (data M H 15) xs=some ds:=by
  intro xs
  induction xs with
  | nil=>intro _;exact⟨[],rfl⟩
  | cons x r ih=>
   intro hx
   obtain⟨ds,e⟩:=ih fun y hy=>hx y (List.mem_cons_of_mem _ hy)
   obtain⟨t,s1,s2,rfl,ht⟩:=hx x List.mem_cons_self
   have e1:data M H 15 (.ref t)=some (.tuple [.str s1,.str s2]):=by
    unfold data
    rw[rd_of ht (by intro _ _ z;cases z)]
    rfl
   exact⟨_::ds,by unfold allM;rw[e1,e]⟩
 obtain⟨ds,e⟩:=go xs hx
 refine⟨ds,e,?_⟩
 unfold data
 rw[rd_of h nofrz_l]
 dsimp only
 rw[e]
 rfl
theorem comp_mems {M:Mo} {CS CG:Addr} {Γ:Gam} {n:Nat} {Ξ:XS} (gc:Γ.cm=true) (mem:KM M CS CG Γ n) {O:Addr->Prop} {H:Hp} {D:Addr} {qs:List Addr} {mss:List (List Str)} {stay k:Hp->Prop} (hO:∀a,O a->H a ≠ none) (hl:qs.length=mss.length) (few:mss.length<=7)
  (kids:∀ (i:Nat) q m,qs[i]?=some q->mss[i]?=some m->KAt CS CG O n H q m) (hD:H D=none) (mD:M D=none) (st:∀H',Ext M H H'->stay H')
  (hk:∀ (H':Hp) (ls:List Addr),Ext M H H'->H' D=some (.lst (ls.map V.ref))->ls.length=mss.length->(∀ (i:Nat) q m,ls[i]?=some q->mss[i]?=some m->H' q=some (.lst (m.map V.str)))->k H'):
  compW (wE Γ (.omth "members" (.var 0) .nil) Ξ) (wTs Γ .nil X0) [] D stay (qs.map V.ref) [] (upd H D (.lst [])) k:=by
 refine comp_inv (fun i acc Hn=>∃ls:List Addr,acc=ls.map V.ref/\ls.length=i/\Ext M H Hn/\Hn D=some (.lst acc)/\∀ (j:Nat) q,ls[j]?=some q->q ≠ D/\∀m,mss[j]?=some m->Hn q=some (.lst (m.map V.str))) (fun i acc Hn z=>?_) ?_ ?_ ⟨[],rfl,rfl,Ext.upd hD mD,upd_same,fun j q z=>by simp at z⟩
 ·obtain⟨ls,_,_,x,h,_⟩:=z
  exact⟨st _ x,h⟩
 ·rintro i v acc Hn K hv ⟨ls,rfl,e,x,h,f⟩ nx
  rw[List.getElem?_map]at hv
  cases hq:qs[i]? with
  | none=>rw[hq]at hv;cases hv
  | some y=>
   rw[hq]at hv
   cases hv
   have lt:=(List.getElem?_eq_some_iff.mp hq).1
   obtain⟨m,hm⟩:∃m,mss[i]?=some m:=⟨_,List.getElem?_eq_getElem (by omega)⟩
   walk_at "s1"
   rw[if_pos rfl]
   refine⟨gc,call_mem mem (x.there hO) ((kids i y m hq hm).ext hO x) fun l H2 nl ml x2 h2=>?_⟩
   have lD:l ≠ D:=fun z=>by rw[z,h]at nl;cases nl
   refine⟨x2.same _ _ h,by rw[List.length_map,e,sizeLine_eq];omega,nx _ _ ⟨ls++[l],by rw[List.map_append];rfl,by rw[List.length_append,e];rfl,(x.trans x2).over hD mD,by rw[upd_same],fun j q hj=>?_⟩⟩
   by_cases c:j < ls.length
   ·rw[List.getElem?_append_left c]at hj
    obtain⟨f1,f2⟩:=f j q hj
    exact⟨f1,fun m' hm'=>by rw[upd_ne f1];exact x2.same _ _ (f2 m' hm')⟩
   ·rw[List.getElem?_append_right (by omega)]at hj
    have j0:j - ls.length=0:=by
     have:=(List.getElem?_eq_some_iff.mp hj).1
     simp at this
     omega
    rw[j0]at hj
    cases hj
    refine⟨lD,fun m' hm'=>?_⟩
    have:j=i:=by omega
    subst this
    rw[hm]at hm'
    cases hm'
    rw[upd_ne lD]
    exact h2
 ·rintro acc Hn ⟨ls,rfl,e,x,h,f⟩
  rw[List.length_map]at e
  exact hk Hn ls x h (by omega) fun i q m a b=>(f i q a).2 m b
theorem cut_to (xs:List V) (n:Nat):cutV xs none (some (n:Int))=xs.take n:=by
 unfold cutV
 rw[HT.sIx_none,HT.sIx_nat,List.drop_zero,Nat.sub_zero]
 by_cases h:n<=xs.length
 ·rw[Nat.min_eq_left h]
 ·rw[Nat.min_eq_right (by omega),List.take_of_length_le (Nat.le_refl _),List.take_of_length_le (by omega)]
theorem cut_from (xs:List V) (n:Nat):cutV xs (some (n:Int)) none=xs.drop n:=by
 unfold cutV
 rw[HT.sIx_none,HT.sIx_nat]
 by_cases h:n<=xs.length
 ·rw[Nat.min_eq_left h]
  exact List.take_of_length_le (by rw[List.length_drop];omega)
 ·rw[Nat.min_eq_right (by omega),Nat.sub_self,List.take_zero,List.drop_eq_nil_of_le (by omega)]
theorem eq_no {M:Mo} {H:Hp} {p q:Addr} {d e:PyData} {Q:VK} (h1:data M H 16 (.ref p)=some d) (h2:data M H 16 (.ref q)=some e) (n:PyData.eqv d e=false) (h:Q (.bl false) H):cmpV M .Eq (.ref p) (.ref q) H Q:=by
 show if scal (.ref p) (.ref q)=true then Q (.bl (decide (V.ref p=V.ref q))) H else(match data M H 16 (.ref p),data M H 16 (.ref q)with | some d,some e=>Q (.bl (PyData.eqv d e)) H | _,_=>False)
 rw[s_rr,if_neg (by decide),h1,h2]
 dsimp only
 rw[n]
 exact h
end Kn
namespace Kn
open PySem PySem.Spec PyProof.Rows L2 Sw Gw
noncomputable def GoodD (kvs:List (Key × V)):Prop:=∀e ∈ kvs,valV kvs e.1=some e.2/\∃t,e.2=.str t
theorem GoodD.put {kvs:List (Key × V)} (h:GoodD kvs) (k:Key) (t:Str):GoodD (putK kvs k (.str t)):=fun e he=>by
 rw[valV_put]
 unfold putK at he
 split at he
 ·obtain⟨e',he',rfl⟩:=List.mem_map.mp he
  by_cases c:e'.1=k
  ·rw[if_pos c,if_pos c]
   exact⟨rfl,t,rfl⟩
  ·rw[if_neg c,if_neg c]
   exact h e' he'
 ·rename_i na
  rcases List.mem_append.mp he with he | he
  ·have c:¬e.1=k:=fun q=>na (List.any_eq_true.mpr ⟨e,he,decide_eq_true q⟩)
   rw[if_neg c]
   exact h e he
  ·rw[List.mem_singleton.mp he,if_pos rfl]
   exact⟨rfl,t,rfl⟩
structure Mt (bs:List Str) (s lead:Nat) (k0 kvs:List (Key × V)) (j:Nat):Prop where
 A:∀i:Nat,i < j->((i:Int) - lead) % s % 2=1->∀x y,bs[i]?=some x->bs[(i + 1) % s]?=some y->valV kvs (.inr x)=some (.str y)/\valV kvs (.inr y)=some (.str x)
 B:∀c,(∀ i:Nat,i < j->((i:Int) - lead) % s % 2=1->bs[i]? ≠ some c/\bs[(i + 1) % s]? ≠ some c)->valV kvs (.inr c)=valV k0 (.inr c)
 len:kvs.length<=k0.length + 2 * j
 gd:GoodD k0->GoodD kvs
theorem Mt.zero {bs:List Str} {s lead:Nat} {k0:List (Key × V)}:Mt bs s lead k0 k0 0:=⟨fun i h=>absurd h (Nat.not_lt_zero i),fun _ _=>rfl,Nat.le_refl _,fun h=>h⟩
theorem Mt.skip {bs:List Str} {s lead j:Nat} {k0 kvs:List (Key × V)} (h:Mt bs s lead k0 kvs j) (n:¬ ((j:Int) - lead) % s % 2=1):Mt bs s lead k0 kvs (j + 1):=
 ⟨fun i hi o=>h.A i (by rcases Nat.lt_succ_iff_lt_or_eq.mp hi with q | q;exact q;subst q;exact absurd o n) o,fun c hc=>h.B c fun i hi o=>hc i (Nat.lt_succ_of_lt hi) o,by have:=h.len;omega,h.gd⟩
theorem far3:∀i j l:Fin 3,i ≠ j->((i.val:Int) - (l.val:Int)) % 3 % 2=1->((j.val:Int) - (l.val:Int)) % 3 % 2=1->i.val ≠ (j.val + 1) % 3/\(i.val + 1) % 3 ≠ j.val/\(i.val + 1) % 3 ≠ (j.val + 1) % 3:=by decide +kernel
theorem far5:∀i j l:Fin 5,i ≠ j->((i.val:Int) - (l.val:Int)) % 5 % 2=1->((j.val:Int) - (l.val:Int)) % 5 % 2=1->i.val ≠ (j.val + 1) % 5/\(i.val + 1) % 5 ≠ j.val/\(i.val + 1) % 5 ≠ (j.val + 1) % 5:=by decide +kernel
theorem far7:∀i j l:Fin 7,i ≠ j->((i.val:Int) - (l.val:Int)) % 7 % 2=1->((j.val:Int) - (l.val:Int)) % 7 % 2=1->i.val ≠ (j.val + 1) % 7/\(i.val + 1) % 7 ≠ j.val/\(i.val + 1) % 7 ≠ (j.val + 1) % 7:=by decide +kernel
theorem far {s i j l:Nat} (hs:s=3\/s=5\/s=7) (hi:i < s) (hj:j < s) (hl:l < s) (ne:i ≠ j) (oi:((i:Int) - l) % s % 2=1) (oj:((j:Int) - l) % s % 2=1):i ≠ (j + 1) % s/\(i + 1) % s ≠ j/\(i + 1) % s ≠ (j + 1) % s:=by
 rcases hs with rfl | rfl | rfl
 ·exact far3 ⟨i,hi⟩ ⟨j,hj⟩ ⟨l,hl⟩ (fun e=>ne (Fin.mk.inj e)) oi oj
 ·exact far5 ⟨i,hi⟩ ⟨j,hj⟩ ⟨l,hl⟩ (fun e=>ne (Fin.mk.inj e)) oi oj
 ·exact far7 ⟨i,hi⟩ ⟨j,hj⟩ ⟨l,hl⟩ (fun e=>ne (Fin.mk.inj e)) oi oj
theorem back3:∀i l:Fin 3,i ≠ l->¬ ((i.val:Int) - (l.val:Int)) % 3 % 2=1->((((i.val + 2) % 3:Nat):Int) - (l.val:Int)) % 3 % 2=1:=by decide +kernel
theorem back5:∀i l:Fin 5,i ≠ l->¬ ((i.val:Int) - (l.val:Int)) % 5 % 2=1->((((i.val + 4) % 5:Nat):Int) - (l.val:Int)) % 5 % 2=1:=by decide +kernel
theorem back7:∀i l:Fin 7,i ≠ l->¬ ((i.val:Int) - (l.val:Int)) % 7 % 2=1->((((i.val + 6) % 7:Nat):Int) - (l.val:Int)) % 7 % 2=1:=by decide +kernel
theorem idx_ne {bs:List Str} (nd:bs.Nodup) {i j:Nat} {x y:Str} (hi:bs[i]?=some x) (hj:bs[j]?=some y) (ne:i ≠ j):x ≠ y:=fun e=>by
 obtain⟨i1,i2⟩:=List.getElem?_eq_some_iff.mp hi
 obtain⟨j1,j2⟩:=List.getElem?_eq_some_iff.mp hj
 rcases Nat.lt_or_gt_of_ne ne with q | q
 ·exact List.pairwise_iff_getElem.mp nd i j i1 j1 q (by rw[i2,j2,e])
 ·exact List.pairwise_iff_getElem.mp nd j i j1 i1 q (by rw[i2,j2,e])
theorem Mt.put {bs:List Str} {s lead j:Nat} {k0 kvs:List (Key × V)} {x y:Str} (h:Mt bs s lead k0 kvs j) (hs:s=3\/s=5\/s=7) (hl:lead < s) (hj:j < s) (o:((j:Int) - lead) % s % 2=1) (nd:bs.Nodup) (hx:bs[j]?=some x) (hy:bs[(j + 1) % s]?=some y):
  Mt bs s lead k0 (putK (putK kvs (.inr x) (.str y)) (.inr y) (.str x)) (j + 1):=by
 have xy:x ≠ y:=idx_ne nd hx hy (by rcases hs with rfl | rfl | rfl<;>omega)
 refine⟨fun i hi oi x' y' hx' hy'=>?_,fun c hc=>?_,?_,fun g=>((h.gd g).put _ _).put _ _⟩
 ·by_cases e:i=j
  ·subst e
   rw[hx]at hx'
   rw[hy]at hy'
   cases hx'
   cases hy'
   rw[valV_put,valV_put,valV_put,if_neg (by intro z;cases z;exact xy rfl),if_pos rfl,if_pos rfl]
   exact⟨rfl,rfl⟩
  ·have hi':i < j:=by omega
   have n1:x' ≠ x:=idx_ne nd hx' hx e
   obtain⟨f1,f2,f3⟩:=far hs (Nat.lt_trans hi' hj) hj hl e oi o
   have n2:x' ≠ y:=idx_ne nd hx' hy f1
   have n3:y' ≠ x:=idx_ne nd hy' hx f2
   have n4:y' ≠ y:=idx_ne nd hy' hy f3
   rw[valV_put,valV_put,valV_put,valV_put,if_neg (by intro z;cases z;exact n2 rfl),if_neg (by intro z;cases z;exact n1 rfl),if_neg (by intro z;cases z;exact n4 rfl),if_neg (by intro z;cases z;exact n3 rfl)]
   exact h.A i hi' oi x' y' hx' hy'
 ·have cj:=hc j (Nat.lt_succ_self _) o
  have n1:c ≠ x:=fun z=>cj.1 (by rw[z];exact hx)
  have n2:c ≠ y:=fun z=>cj.2 (by rw[z];exact hy)
  rw[valV_put,valV_put,if_neg (by intro z;cases z;exact n2 rfl),if_neg (by intro z;cases z;exact n1 rfl)]
  exact h.B c fun i hi oi=>hc i (Nat.lt_succ_of_lt hi) oi
 ·have:=h.len
  have:=putK_le kvs (.inr x) (.str y)
  have:=putK_le (putK kvs (.inr x) (.str y)) (.inr y) (.str x)
  omega
theorem Mt.lead {bs:List Str} {s lead:Nat} {k0 kvs:List (Key × V)} {x:Str} (h:Mt bs s lead k0 kvs s) (hs:s=3\/s=5\/s=7) (hl:lead < s) (nd:bs.Nodup) (hx:bs[lead]?=some x):valV kvs (.inr x)=valV k0 (.inr x):=
 h.B x fun i hi o=>⟨fun z=>idx_ne nd z hx (by intro e;subst e;rcases hs with rfl | rfl | rfl<;>omega) rfl,fun z=>idx_ne nd z hx (by rcases hs with rfl | rfl | rfl<;>omega) rfl⟩
theorem Mt.rest {bs:List Str} {s lead i:Nat} {k0 kvs:List (Key × V)} {x:Str} (h:Mt bs s lead k0 kvs s) (hs:s=3\/s=5\/s=7) (hl:lead < s) (hb:bs.length=s) (hx:bs[i]?=some x) (ne:i ≠ lead):∃t ∈ bs,valV kvs (.inr x)=some (.str t):=by
 have hi:i < s:=by rw[<-hb];exact(List.getElem?_eq_some_iff.mp hx).1
 by_cases o:((i:Int) - lead) % s % 2=1
 ·obtain⟨y,hy⟩:∃y,bs[(i + 1) % s]?=some y:=⟨_,List.getElem?_eq_getElem (by rw[hb];exact Nat.mod_lt _ (by omega))⟩
  exact⟨y,List.mem_of_getElem? hy,(h.A i hi o x y hx hy).1⟩
 ·have hi2:(i + (s - 1)) % s < s:=Nat.mod_lt _ (by omega)
  obtain⟨y,hy⟩:∃y,bs[(i + (s - 1)) % s]?=some y:=⟨_,List.getElem?_eq_getElem (by rw[hb];exact hi2)⟩
  have o2:((((i + (s - 1)) % s:Nat):Int) - lead) % s % 2=1:=by
   rcases hs with rfl | rfl | rfl
   ·exact back3 ⟨i,hi⟩ ⟨lead,hl⟩ (fun e=>ne (Fin.mk.inj e)) o
   ·exact back5 ⟨i,hi⟩ ⟨lead,hl⟩ (fun e=>ne (Fin.mk.inj e)) o
   ·exact back7 ⟨i,hi⟩ ⟨lead,hl⟩ (fun e=>ne (Fin.mk.inj e)) o
  have e2:((i + (s - 1)) % s + 1) % s=i:=by rcases hs with rfl | rfl | rfl<;>omega
  exact⟨y,List.mem_of_getElem? hy,(h.A _ hi2 o2 y x hy (by rw[e2];exact hx)).2⟩
theorem Mt.far {bs:List Str} {s lead j:Nat} {k0 kvs:List (Key × V)} {c:Str} (h:Mt bs s lead k0 kvs j) (n:c ∉ bs):valV kvs (.inr c)=valV k0 (.inr c):=
 h.B c fun i _ _=>⟨fun z=>n (List.mem_of_getElem? z),fun z=>n (List.mem_of_getElem? z)⟩
end Kn
namespace Kn
open PySem PySem.Spec PyProof.Rows L2 Sw Gw
structure ExtB (M:Mo) (d:Addr) (H H':Hp):Prop where
 same:∀a o,a ≠ d->H a=some o->H' a=some o
 off:∀a,M a ≠ none->H a=none->H' a=none
section
variable {M:Mo} {d:Addr} {H H1 H2:Hp}
theorem _root_.Sw.Ext.b (x:Ext M H H1):ExtB M d H H1:=⟨fun a o _ h=>x.same a o h,x.off⟩
theorem ExtB.trans (x:ExtB M d H H1) (y:ExtB M d H1 H2):ExtB M d H H2:=⟨fun a o n h=>y.same a o n (x.same a o n h),fun a m h=>y.off a m (x.off a m h)⟩
theorem ExtB.over {c:Addr} {o:HO} (x:ExtB M d H H1) (hc:H c=none) (mc:M c=none):ExtB M d H (upd H1 c o):=
 ⟨fun a u n e=>by rw[upd_ne (ne_of_none e hc)];exact x.same a u n e,fun a m e=>by rw[upd_ne (fun z=>m (by rw[z];exact mc))];exact x.off a m e⟩
theorem ExtB.put {o:HO} (x:ExtB M d H H1) (h:H d ≠ none):ExtB M d H (upd H1 d o):=
 ⟨fun a u n e=>by rw[upd_ne n];exact x.same a u n e,fun a m e=>by rw[upd_ne (fun z=>by rw[z]at e;exact h e)];exact x.off a m e⟩
end
@[reducible] def bLinks:Sxs:=(.cons (.asg 12 (.idx (.var 8) (.var 11)))
 (.cons (.asg 13 (.idx (.var 8) (.bin .Mod (.bin .Add (.var 11) (.con (.int 1))) (.var 3))))
 (.cons (.iff (.cmp .Eq (.bin .Mod (.bin .Mod (.bin .Sub (.var 11) (.var 9)) (.var 3)) (.con (.int 2))) (.con (.int 1))) (.cons (.asg 14 (.tup (.cons (.idxD (.var 12) (.con (.str "base"))) (.cons (.idxD (.var 13) (.con (.str "base"))) .nil))))
  (.cons (.sto (.var 1) (.idx (.var 14) (.con (.int 0))) (.idx (.var 14) (.con (.int 1))))
  (.cons (.sto (.var 1) (.idx (.var 14) (.con (.int 1))) (.idx (.var 14) (.con (.int 0))))
  .nil))) (.cons (.asg 14 (.tup (.cons (.idx (.idxD (.var 12) (.con (.str "all"))) (.bin .Mod (.idx (.var 4) (.bin .Add (.con (.int 2)) (.var 11))) (.blt .len (.cons (.idxD (.var 12) (.con (.str "all"))) .nil)))) (.cons (.idx (.idxD (.var 13) (.con (.str "all"))) (.bin .Mod (.idx (.var 4) (.bin .Add (.con (.int 10)) (.var 11))) (.blt .len (.cons (.idxD (.var 13) (.con (.str "all"))) .nil)))) .nil))))
  .nil))
 (.cons (.exp (.mth .append (.var 10) (.cons (.var 14) .nil)))
 .nil))))
structure RingAt (H:Hp) (d rg dr:Addr) (R:List Uu) (ds:List Int):Prop where
 rg:H rg=some (.lst (R.map fun z=>V.ref z.u))
 dr:H dr=some (.lst (ds.map V.int))
 dl:ds.length=20
 ud:∀z ∈ R,z.u ≠ d/\∃du,H z.u=some (.dK du)/\UDic du z
 ua:∀z ∈ R,H z.a=some (.lst (z.ms.map V.str))/\z.b ∈ z.ms
noncomputable def LinkF (R:List Uu) (s j:Nat) (P:Str × Str):Prop:=(∃ z,R[j]?=some z/\P.1 ∈ z.ms)/\∃z,R[(j + 1) % s]?=some z/\P.2 ∈ z.ms
theorem RingAt.ext {M:Mo} {H H':Hp} {d rg dr:Addr} {R:List Uu} {ds:List Int} {kvs:List (Key × V)} (h:RingAt H d rg dr R ds) (hd:H d=some (.dK kvs)) (x:ExtB M d H H'):RingAt H' d rg dr R ds:=by
 have ne:∀ {a:Addr} {xs:List V},H a=some (.lst xs)->a ≠ d:=fun e z=>by rw[z,hd]at e;cases e
 exact⟨x.same _ _ (ne h.rg) h.rg,x.same _ _ (ne h.dr) h.dr,h.dl,fun z hz=>let ⟨a,du,b,c⟩:=h.ud z hz;⟨a,du,x.same _ _ a b,c⟩,fun z hz=>⟨x.same _ _ (ne (h.ua z hz).1) (h.ua z hz).1,(h.ua z hz).2⟩⟩
theorem str_mod {M:Mo} {H:Hp} {p:Addr} {ns:List Str} {i:Int} {Q:VK} (h:rd M H p=some (.lst (ns.map V.str))) (ne:ns ≠ []) (q:∀x ∈ ns,Q (.str x) H):binV M .Mod (.int i) (.int (ns.map V.str).length) H fun y H2=>idxV M (.ref p) y H2 Q:=by
 have l0:0 < ns.length:=List.length_pos_iff.mpr ne
 rw[Sw.v_mod,List.length_map]
 refine⟨by omega,ix_str h (Int.emod_nonneg _ (by omega)) (Int.emod_lt_of_pos _ (by omega)) q⟩
theorem link_turn {Γ:Gam} {D':Ends} {H:Hp} {w d rg dr lk:Addr} {c lead:Int} {s j:Nat} {R:List Uu} {ds:List Int} {kvs:List (Key × V)} {xs:List V} {v5 v6 v7 v12 v13 v14 v15 v16 v17:Option V} (gc:Γ.cm=true)
  (A:RingAt H d rg dr R ds) (hd:H d=some (.dK kvs)) (hk:H lk=some (.lst xs)) (hl:xs.length < 1000) (kl:kvs.length < 1000) (hs:s=R.length) (h7:s<=7) (hj:j < s) (l0:0<=lead)
  (nx:∀ (v12 v13 v14:Option V) (H2:Hp) (y:V) (kvs':List (Key × V)),ExtB Γ.mod d H H2->H2 d=some (.dK kvs')->(∃ P,LinkP H2 y P/\LinkF R s j P)->
   ((((j:Int) - lead) % s % 2=1/\∃z z',R[j]?=some z/\R[(j + 1) % s]?=some z'/\kvs'=putK (putK kvs (.inr z.b) (.str z'.b)) (.inr z'.b) (.str z.b))\/(¬ ((j:Int) - lead) % s % 2=1/\kvs'=kvs))->
   D'.nx [some (.ref w),some (.ref d),some (.int c),some (.int s),some (.ref dr),v5,v6,v7,some (.ref rg),some (.int lead),some (.ref lk),some (.int j),v12,v13,v14,v15,v16,v17] (upd H2 lk (.lst (xs++[y])))):
  wSs bLinks Γ X0 D' [some (.ref w),some (.ref d),some (.int c),some (.int s),some (.ref dr),v5,v6,v7,some (.ref rg),some (.int lead),some (.ref lk),some (.int j),v12,v13,v14,v15,v16,v17] H:=by
 obtain⟨z,hz⟩:∃z,R[j]?=some z:=⟨_,List.getElem?_eq_getElem (by omega)⟩
 have jm:(j + 1) % s < s:=Nat.mod_lt _ (by omega)
 obtain⟨z',hz'⟩:∃z',R[(j + 1) % s]?=some z':=⟨_,List.getElem?_eq_getElem (by omega)⟩
 unfold bLinks
 refine seq ?_
 walk_at "s1"
 refine ix_at (rd_of A.rg nofrz_l) (atI_nat' (n:=j) (x:=V.ref z.u) (by rw[List.getElem?_map,hz];rfl) rfl) ?_
 refine seq ?_
 walk_at "s1"
 rw[Sw.v_add,Sw.v_mod]
 refine⟨by omega,ix_at (rd_of A.rg nofrz_l) (atI_nat' (n:=(j + 1) % s) (x:=V.ref z'.u) (by rw[List.getElem?_map,hz'];rfl) (by rw[Int.natCast_emod];rfl)) ?_⟩
 refine seq ?_
 walk_at "s1"
 rw[Sw.v_sub,Sw.v_mod]
 refine⟨by omega,?_⟩
 rw[Sw.v_mod]
 refine⟨by decide,?_⟩
 rw[Sw.v_eqi]
 refine⟨_,rfl,?_⟩
 obtain⟨u1,du,u2,U⟩:=A.ud z (List.mem_of_getElem? hz)
 obtain⟨u1',du',u2',U'⟩:=A.ud z' (List.mem_of_getElem? hz')
 have ndK:∀ {kv:List (Key × V)} (b:Obj) (u:HO),HO.dK kv ≠ .frz b u:=by intro _ _ _ z;cases z
 have lkd:lk ≠ d:=fun e=>by rw[e,hd]at hk;cases hk
 have fin:∀ (v14':Addr) (H2:Hp) (kvs':List (Key × V)),ExtB Γ.mod d H H2->H2 d=some (.dK kvs')->(∃ P,LinkP H2 (.ref v14') P/\LinkF R s j P)->
   ((((j:Int) - lead) % s % 2=1/\∃z z',R[j]?=some z/\R[(j + 1) % s]?=some z'/\kvs'=putK (putK kvs (.inr z.b) (.str z'.b)) (.inr z'.b) (.str z.b))\/(¬ ((j:Int) - lead) % s % 2=1/\kvs'=kvs))->
   wSs (.cons (.exp (.mth .append (.var 10) (.cons (.var 14) .nil))) .nil) Γ X0 D' [some (.ref w),some (.ref d),some (.int c),some (.int s),some (.ref dr),v5,v6,v7,some (.ref rg),some (.int lead),some (.ref lk),some (.int j),some (.ref z.u),some (.ref z'.u),some (.ref v14'),v15,v16,v17] H2:=fun t H2 kvs' x2 h2 lv o=>by
  refine seq ?_
  walk_at "s1"
  have hk2:=x2.same _ _ lkd hk
  refine⟨mty_l hk2,?_⟩
  rw[Sw.m_append,hk2]
  exact⟨by rw[sizeLine_eq];omega,seq0 (nx _ _ _ H2 _ kvs' x2 h2 lv o)⟩
 by_cases o:((j:Int) - lead) % s % 2=1
 ·rw[if_pos (decide_eq_true o)]
  refine seq ?_
  walk_at "s1"
  refine idxD_at (rd_of u2 ndK) U.base ?_
  refine idxD_at (rd_of u2' ndK) U'.base ?_
  refine⟨by rw[sizeLine_eq];decide,fun t nt mt=>?_⟩
  have td:d ≠ t:=ne_of_none hd nt
  have x1:Ext Γ.mod H (upd H t (.tup [.str z.b,.str z'.b])):=Ext.upd nt mt
  have ht:∀ {H':Hp},H' t=some (.tup [.str z.b,.str z'.b])->rd Γ.mod H' t=some (.tup [.str z.b,.str z'.b]):=fun h=>rd_of h (by intro _ _ z;cases z)
  have tix:∀ {H':Hp} {Q:VK} {i:Int} {v:V},H' t=some (.tup [.str z.b,.str z'.b])->atI [V.str z.b,.str z'.b] i=some v->Q v H'->idxV Γ.mod (.ref t) (.int i) H' Q:=fun h e q=>by
   rw[Sw.i_ref,ht h]
   dsimp only
   rw[e]
   exact q
  refine seq ?_
  walk_at "s1"
  refine tix upd_same rfl (tix upd_same rfl ?_)
  unfold stoV
  dsimp only
  rw[upd_ne td,hd]
  refine⟨by rw[sizeLine_eq];omega,?_⟩
  have t2:upd (upd H t (.tup [.str z.b,.str z'.b])) d (.dK (putK kvs (.inr z.b) (.str z'.b))) t=some (.tup [.str z.b,.str z'.b]):=by rw[upd_ne (Ne.symm td),upd_same]
  refine seq ?_
  walk_at "s1"
  refine tix t2 rfl (tix t2 rfl ?_)
  unfold stoV
  dsimp only
  rw[upd_same]
  refine⟨by rw[sizeLine_eq];have:=putK_le kvs (.inr z.b) (.str z'.b);omega,?_⟩
  rw[upd_upd]
  refine seq0 (fin t _ _ (x1.b.put (by rw[hd];intro z;cases z)) upd_same ⟨(z.b,z'.b),⟨t,rfl,by rw[upd_ne (Ne.symm td),upd_same]⟩,⟨z,hz,(A.ua z (List.mem_of_getElem? hz)).2⟩,⟨z',hz',(A.ua z' (List.mem_of_getElem? hz')).2⟩⟩ (.inl ⟨o,z,z',hz,hz',rfl⟩))
 ·rw[if_neg (by rw[decide_eq_false o];decide)]
  obtain⟨a1,a2⟩:=A.ua z (List.mem_of_getElem? hz)
  obtain⟨a1',a2'⟩:=A.ua z' (List.mem_of_getElem? hz')
  have dix:∀ (i:Int) {Q:VK},0<=i->i < 20->(∀ n,Q (.int n) H)->idxV Γ.mod (.ref dr) (.int i) H Q:=fun i Q i0 i1 q=>by
   obtain⟨v,e,hv⟩:=atI_at (xs:=ds.map V.int) i0 (by rw[List.length_map,A.dl];exact_mod_cast i1)
   obtain⟨n,_,rfl⟩:=List.mem_map.mp hv
   exact ix_at (rd_of A.dr nofrz_l) e (q n)
  refine seq ?_
  walk_at "s1"
  refine idxD_at (rd_of u2 ndK) U.all ?_
  rw[Sw.v_add]
  refine dix _ (by omega) (by omega) fun n1=>?_
  refine⟨gc,idxD_at (rd_of u2 ndK) U.all (len_at (rd_of a1 nofrz_l) ?_)⟩
  refine str_mod (rd_of a1 nofrz_l) (List.ne_nil_of_mem a2) fun x hx=>?_
  refine idxD_at (rd_of u2' ndK) U'.all ?_
  rw[Sw.v_add]
  refine dix _ (by omega) (by omega) fun n2=>?_
  refine⟨gc,idxD_at (rd_of u2' ndK) U'.all (len_at (rd_of a1' nofrz_l) ?_)⟩
  refine str_mod (rd_of a1' nofrz_l) (List.ne_nil_of_mem a2') fun y hy=>?_
  refine⟨by rw[sizeLine_eq];decide,fun t nt mt=>?_⟩
  have td:d ≠ t:=ne_of_none hd nt
  exact seq0 (fin t _ _ (Ext.upd nt mt).b (by rw[upd_ne td];exact hd) ⟨(x,y),⟨t,rfl,upd_same⟩,⟨z,hz,hx⟩,⟨z',hz',hy⟩⟩ (.inr ⟨o,rfl⟩))
end Kn
namespace Kn
open PySem PySem.Spec PyProof.Rows L2 Sw Gw
theorem LinksAt.b {M:Mo} {d:Addr} {H H':Hp} {xs:List V} {ps:List (Str × Str)} {kvs:List (Key × V)} (h:LinksAt H xs ps) (hd:H d=some (.dK kvs)) (e:ExtB M d H H'):LinksAt H' xs ps:=
 h.map fun a zs q=>e.same _ _ (fun z=>by rw[z,hd]at q;cases q) q
theorem LinksAt.upd {H:Hp} {xs:List V} {ps:List (Str × Str)} {a:Addr} {us ys:List V} (h:LinksAt H xs ps) (ha:H a=some (.lst us)):LinksAt (upd H a (.lst ys)) xs ps:=
 h.map fun b zs q=>by rw[upd_ne (fun z=>by rw[z,ha]at q;cases q)];exact q
theorem links_loop {Γ:Gam} {D:Ends} {H:Hp} {w d rg dr lk:Addr} {c:Int} {s lead:Nat} {R:List Uu} {ds:List Int} {k0:List (Key × V)} {v5 v6 v7 v11 v12 v13 v14 v15 v16 v17:Option V} (gc:Γ.cm=true)
  (A:RingAt H d rg dr R ds) (hd:H d=some (.dK k0)) (nk:H lk=none) (mk:Γ.mod lk=none) (kl:k0.length < 900) (hR:R.length=s) (hs:s=3\/s=5\/s=7) (l1:lead < s) (nd:(R.map (·.b)).Nodup)
  (fin:∀ (v11 v12 v13 v14:Option V) (H2:Hp) (xs:List V) (ps:List (Str × Str)) (kvs:List (Key × V)),ExtB Γ.mod d H H2->H2 lk=some (.lst xs)->xs.length=s->LinksAt H2 xs ps->(∀ (i:Nat) P,ps[i]?=some P->LinkF R s i P)->H2 d=some (.dK kvs)->Mt (R.map (·.b)) s lead k0 kvs s->
   D.nx [some (.ref w),some (.ref d),some (.int c),some (.int s),some (.ref dr),v5,v6,v7,some (.ref rg),some (.int lead),some (.ref lk),v11,v12,v13,v14,v15,v16,v17] H2):
  forW 11 (wSs bLinks Γ X0) (fun _=>True) ((List.range (s:Int).toNat).map fun i:Nat=>V.int i) D [some (.ref w),some (.ref d),some (.int c),some (.int s),some (.ref dr),v5,v6,v7,some (.ref rg),some (.int lead),some (.ref lk),v11,v12,v13,v14,v15,v16,v17] (upd H lk (.lst [])):=by
 have s7:s<=7:=by omega
 have dk:d ≠ lk:=ne_of_none hd nk
 refine for_inv (fun j σ Hn=>∃ (v11 v12 v13 v14:Option V) (xs:List V) (ps:List (Str × Str)) (kvs:List (Key × V)),σ=[some (.ref w),some (.ref d),some (.int c),some (.int s),some (.ref dr),v5,v6,v7,some (.ref rg),some (.int lead),some (.ref lk),v11,v12,v13,v14,v15,v16,v17]/\
   ExtB Γ.mod d H Hn/\Hn lk=some (.lst xs)/\xs.length=j/\LinksAt Hn xs ps/\(∀ (i:Nat) P,ps[i]?=some P->LinkF R s i P)/\Hn d=some (.dK kvs)/\Mt (R.map (·.b)) s lead k0 kvs j) (fun _ _ _ _=>trivial) ?_ ?_
  ⟨_,_,_,_,[],[],k0,rfl,(Ext.upd nk mk).b,upd_same,rfl,⟨rfl,fun i x P h1 h2=>by simp at h1⟩,(fun i P h1=>by simp at h1),by rw[upd_ne dk];exact hd,Mt.zero⟩
 ·rintro j v σ Hn D' hv ⟨w11,w12,w13,w14,xs,ps,kvs,rfl,x1,h1,e1,f1,f2,d1,M1⟩ nx _ _ _
  rw[List.getElem?_map]at hv
  obtain⟨j',hj,rfl⟩:=Option.map_eq_some_iff.mp hv
  obtain⟨j1,j2⟩:=List.getElem?_eq_some_iff.mp hj
  rw[List.getElem_range]at j2
  subst j2
  rw[List.length_range,Int.toNat_natCast]at j1
  have ml:=M1.len
  refine link_turn gc (A.ext hd x1) d1 h1 (by omega) (by omega) hR.symm s7 j1 (Int.natCast_nonneg _) fun v12 v13 v14 H2 y kvs' x2 d2 ⟨P,ly,lf⟩ o=>?_
  have lkd:lk ≠ d:=Ne.symm dk
  have h2:=x2.same _ _ lkd h1
  refine nx _ _ ⟨_,_,_,_,xs++[y],ps++[P],kvs',rfl,(x1.trans x2).over nk mk,upd_same,by rw[List.length_append,e1];rfl,?_,fun i P' hP=>?_,by rw[upd_ne dk];exact d2,?_⟩
  ·refine((f1.b d1 x2).app (ys:=[y]) (qs:=[P]) ⟨rfl,fun i x P' h1 h2=>?_⟩).upd h2
   have i0:i=0:=by have:=(List.getElem?_eq_some_iff.mp h1).1;simp at this;exact this
   subst i0
   cases h1
   cases h2
   exact ly
  ·by_cases c:i < ps.length
   ·rw[List.getElem?_append_left c]at hP
    exact f2 i P' hP
   ·rw[List.getElem?_append_right (by omega)]at hP
    have i0:i - ps.length=0:=by have:=(List.getElem?_eq_some_iff.mp hP).1;simp at this;omega
    rw[i0]at hP
    cases hP
    have:i=j:=by have:=f1.1;omega
    rw[this]
    exact lf
  ·rcases o with ⟨o,z,z',hz,hz',rfl⟩ | ⟨o,rfl⟩
   ·exact M1.put hs l1 j1 o nd (by rw[List.getElem?_map,hz];rfl) (by rw[List.getElem?_map,hz'];rfl)
   ·exact M1.skip o
 ·rintro σ Hn ⟨w11,w12,w13,w14,xs,ps,kvs,rfl,x1,h1,e1,f1,f2,d1,M1⟩
  rw[List.length_map,List.length_range,Int.toNat_natCast]at e1 M1
  exact fin _ _ _ _ Hn xs ps kvs x1 h1 e1 f1 f2 d1 M1
end Kn
namespace Kn
open PySem PySem.Spec PyProof.Rows L2 Sw Gw
@[reducible] def bAlls:Sxs:=(.cons (.sto (.var 15) (.con (.str "all")) (.blt .sorted (.cons (.bin .Add (.idxD (.var 15) (.con (.str "all"))) (.idxD (.var 12) (.con (.str "all")))) .nil)))
 (.cons (.sto (.var 15) (.con (.str "links")) (.bin .Add (.idxD (.var 15) (.con (.str "links"))) (.idxD (.var 12) (.con (.str "links")))))
 .nil))
structure NewD (kv0 kv:List (Key × V)) (a lk:Addr):Prop where
 all:valV kv (.inr "all")=some (.ref a)
 links:valV kv (.inr "links")=some (.ref lk)
 rest:∀x:Str,x ≠ "all" ->x ≠ "links" ->valV kv (.inr x)=valV kv0 (.inr x)
theorem NewD.putA {kv0 kv:List (Key × V)} {a lk a':Addr} (h:NewD kv0 kv a lk):NewD kv0 (putK kv (.inr "all") (.ref a')) a' lk:=
 ⟨by rw[valV_put,if_pos rfl],by rw[valV_put,if_neg (by decide)];exact h.links,fun x n1 n2=>by rw[valV_put,if_neg (by intro z;cases z;exact n1 rfl)];exact h.rest x n1 n2⟩
theorem NewD.putL {kv0 kv:List (Key × V)} {a lk lk':Addr} (h:NewD kv0 kv a lk):NewD kv0 (putK kv (.inr "links") (.ref lk')) a lk':=
 ⟨by rw[valV_put,if_neg (by decide)];exact h.all,by rw[valV_put,if_pos rfl],fun x n1 n2=>by rw[valV_put,if_neg (by intro z;cases z;exact n2 rfl)];exact h.rest x n1 n2⟩
theorem cat_at {M:Mo} {H:Hp} {a b:Addr} {xs ys:List V} {Q:VK} (ha:H a=some (.lst xs)) (hb:H b=some (.lst ys)) (hl:xs.length + ys.length<=sizeLine) (q:∀p,H p=none->M p=none->Q (.ref p) (upd H p (.lst (xs++ys)))):binV M .Add (.ref a) (.ref b) H Q:=by
 rw[Sw.v_cat,rd_of ha nofrz_l,rd_of hb nofrz_l]
 exact⟨hl,q⟩
theorem take_flat {α β:Type} {l:List α} {f:α->List β} {i:Nat} {z:α} (h:l[i]?=some z):((l.take (i + 1)).map f).flatten=((l.take i).map f).flatten++f z:=by
 rw[List.take_succ,h,List.map_append,List.flatten_append]
 simp
theorem flat_le {α β:Type} {l:List α} {f:α->List β} (i:Nat):((l.take i).map f).flatten.length<=((l.map f).flatten).length:=by
 have e:(l.map f).flatten=((l.take i).map f).flatten++((l.drop i).map f).flatten:=by rw[<-List.flatten_append,<-List.map_append,List.take_append_drop]
 rw[e,List.length_append]
 exact Nat.le_add_right _ _
theorem alls_loop {Γ:Gam} {D:Ends} {H:Hp} {rg u a0 lk0:Addr} {R:List Uu} {xs0:List V} {kv0:List (Key × V)} {v0 v1 v2 v3 v4 v5 v6 v7 v9 v10 v11 v12 v13 v14 v16 v17:Option V} (gc:Γ.cm=true)
  (hu:H u=some (.dK kv0)) (kl:kv0.length<=10) (hR:R.length<=7) (hrg:H rg=some (.lst (R.map fun z=>V.ref z.u))) (N0:NewD kv0 kv0 a0 lk0) (ha:H a0=some (.lst [])) (hl:H lk0=some (.lst xs0)) (lx:xs0.length<=7)
  (zs:∀z ∈ R,(z.u ≠ u/\∃du,H z.u=some (.dK du)/\UDic du z)/\H z.a=some (.lst (z.ms.map V.str))/\H z.lk=some (.lst z.xs)) (few:(R.map (·.ms)).flatten.length < 64) (fx:(R.map (·.xs)).flatten.length<=10000)
  (fin:∀ (v12:Option V) (H2:Hp) (kv:List (Key × V)) (a lk:Addr) (ms:List Str),ExtB Γ.mod u H H2->H2 u=some (.dK kv)->kv.length<=100->NewD kv0 kv a lk->
   H2 a=some (.lst (ms.map V.str))->ms.Perm (R.map (·.ms)).flatten->sortedS ms=true->H2 lk=some (.lst (xs0++(R.map (·.xs)).flatten))->D.nx [v0,v1,v2,v3,v4,v5,v6,v7,some (.ref rg),v9,v10,v11,v12,v13,v14,some (.ref u),v16,v17] H2):
  forW 12 (wSs bAlls Γ X0) (fun H'=>rd Γ.mod H' rg=some (.lst (R.map fun z=>V.ref z.u))) (R.map fun z=>V.ref z.u) D [v0,v1,v2,v3,v4,v5,v6,v7,some (.ref rg),v9,v10,v11,v12,v13,v14,some (.ref u),v16,v17] H:=by
 have nel:∀ {a:Addr} {ys:List V},H a=some (.lst ys)->a ≠ u:=fun e z=>by rw[z,hu]at e;cases e
 refine for_inv (fun i σ Hn=>∃ (v12:Option V) (kv:List (Key × V)) (a lk:Addr) (ms:List Str),σ=[v0,v1,v2,v3,v4,v5,v6,v7,some (.ref rg),v9,v10,v11,v12,v13,v14,some (.ref u),v16,v17]/\
   ExtB Γ.mod u H Hn/\Hn u=some (.dK kv)/\kv.length<=10 + 2 * i/\NewD kv0 kv a lk/\Hn a=some (.lst (ms.map V.str))/\ms.Perm ((R.take i).map (·.ms)).flatten/\sortedS ms=true/\Hn lk=some (.lst (xs0++((R.take i).map (·.xs)).flatten))) (fun i σ Hn z=>?_) ?_ ?_
  ⟨v12,kv0,a0,lk0,[],rfl,(Ext.refl).b,hu,by omega,N0,ha,by simp,rfl,by simpa using hl⟩
 ·obtain⟨_,_,_,_,_,_,x,_⟩:=z
  exact rd_of (x.same _ _ (nel hrg) hrg) nofrz_l
 ·rintro i v σ Hn D' hv ⟨w12,kv,a,lk,ms,rfl,x1,h1,e1,N1,a1,p1,s1,l1⟩ nx _ _ _
  rw[List.getElem?_map]at hv
  obtain⟨z,hz,rfl⟩:=Option.map_eq_some_iff.mp hv
  have hi:=(List.getElem?_eq_some_iff.mp hz).1
  obtain⟨⟨zu,du,hdu,U⟩,za,zl⟩:=zs z (List.mem_of_getElem? hz)
  have ndK:∀ {kv:List (Key × V)} (b:Obj) (u:HO),HO.dK kv ≠ .frz b u:=by intro _ _ _ z;cases z
  have f1:=flat_le (l:=R) (f:=(·.ms)) (i + 1)
  have f2:=flat_le (l:=R) (f:=(·.xs)) (i + 1)
  rw[take_flat hz,List.length_append]at f1 f2
  have pl:=p1.length_eq
  refine seq ?_
  walk_at "s1"
  refine⟨gc,idxD_at (rd_of h1 ndK) N1.all (idxD_at (rd_of (x1.same _ _ zu hdu) ndK) U.all ?_)⟩
  refine cat_at a1 (x1.same _ _ (nel za) za) (by rw[List.length_map,List.length_map,sizeLine_eq];omega) fun p np mp=>?_
  unfold bltV
  dsimp only
  rw[rd_of upd_same nofrz_l]
  dsimp only
  rw[<-List.map_append,strs_all]
  refine⟨by rw[List.length_append];omega,fun ss l ps so nl ml=>?_⟩
  have x2:Ext Γ.mod Hn (upd (upd Hn p (.lst ((ms++z.ms).map V.str))) l (.lst (ss.map V.str))):=(Ext.upd np mp).trans (Ext.upd nl ml)
  have hl2:upd (upd Hn p (.lst ((ms++z.ms).map V.str))) l (.lst (ss.map V.str)) l=some (.lst (ss.map V.str)):=upd_same
  generalize upd (upd Hn p (.lst ((ms++z.ms).map V.str))) l (.lst (ss.map V.str))=H2 at x2 hl2 ⊢
  unfold stoV
  dsimp only
  rw[x2.same _ _ h1]
  refine⟨by rw[sizeLine_eq];omega,?_⟩
  have un:H u ≠ none:=by rw[hu];intro z;cases z
  have hn:Hn u ≠ none:=by rw[h1];intro z;cases z
  have x3:ExtB Γ.mod u Hn (upd H2 u (.dK (putK kv (.inr "all") (.ref l)))):=x2.b.put hn
  have x13:=x1.trans x3
  have N2:=N1.putA (a':=l)
  have h3:upd H2 u (.dK (putK kv (.inr "all") (.ref l))) u=some (.dK (putK kv (.inr "all") (.ref l))):=upd_same
  have lu:l ≠ u:=fun e=>by rw[e,x2.same _ _ h1]at hl2;cases hl2
  have hl3:upd H2 u (.dK (putK kv (.inr "all") (.ref l))) l=some (.lst (ss.map V.str)):=by rw[upd_ne lu];exact hl2
  have pk:=putK_le kv (.inr "all") (.ref l)
  generalize upd H2 u (.dK (putK kv (.inr "all") (.ref l)))=H3 at x3 x13 h3 hl3 ⊢
  generalize putK kv (.inr "all") (.ref l)=kv2 at h3 N2 pk ⊢
  have l3:=x3.same _ _ (fun e=>by rw[e,h1]at l1;cases l1) l1
  refine seq ?_
  walk_at "s1"
  refine idxD_at (rd_of h3 ndK) N2.links (idxD_at (rd_of (x13.same _ _ zu hdu) ndK) U.links ?_)
  refine cat_at l3 (x13.same _ _ (nel zl) zl) (by rw[List.length_append,sizeLine_eq];omega) fun q nq mq=>?_
  have uq:u ≠ q:=ne_of_none h3 nq
  unfold stoV
  dsimp only
  rw[upd_ne uq,h3]
  refine⟨by rw[sizeLine_eq];omega,?_⟩
  have pk2:=putK_le kv2 (.inr "links") (.ref q)
  have lq:l ≠ q:=ne_of_none hl3 nq
  refine seq0 (nx _ _ ⟨_,putK kv2 (.inr "links") (.ref q),l,q,ss,rfl,x13.trans ((Ext.upd nq mq).b.put (by rw[h3];intro z;cases z)),upd_same,by omega,N2.putL,?_,?_,so,?_⟩)
  ·rw[upd_ne lu,upd_ne lq]
   exact hl3
  ·rw[take_flat hz]
   exact ps.trans (p1.append_right _)
  ·rw[upd_ne (Ne.symm uq),upd_same,take_flat hz,List.append_assoc]
 ·rintro σ Hn ⟨w12,kv,a,lk,ms,rfl,x1,h1,e1,N1,a1,p1,s1,l1⟩
  rw[List.length_map]at e1 p1 l1
  rw[List.take_length]at p1 l1
  exact fin w12 Hn kv a lk ms x1 h1 (by omega) N1 a1 p1 s1 l1
end Kn
namespace Kn
open PySem PySem.Spec PyProof.Rows L2 Sw Gw
@[reducible] def bTail:Sxs:=(.cons (.asg 15 (.dic (.cons (.con (.str "base")) (.cons (.idxD (.idx (.var 8) (.var 9)) (.con (.str "base"))) (.cons (.con (.str "all")) (.cons (.lst .nil) (.cons (.con (.str "links")) (.cons (.var 10) (.cons (.con (.str "ring")) (.cons (.comp "_law_one" [] (.ex (.var 8)) (.idxD (.var 0) (.con (.str "all"))) .nil) .nil))))))))))
 (.cons (.fr 12 (.ex (.var 8)) (.cons (.sto (.var 15) (.con (.str "all")) (.blt .sorted (.cons (.bin .Add (.idxD (.var 15) (.con (.str "all"))) (.idxD (.var 12) (.con (.str "all")))) .nil)))
 (.cons (.sto (.var 15) (.con (.str "links")) (.bin .Add (.idxD (.var 15) (.con (.str "links"))) (.idxD (.var 12) (.con (.str "links")))))
 .nil)))
 (.cons (.asg 16 (.comp "_law_one" [] (.ex (.var 8)) (.idxD (.var 0) (.con (.str "knot"))) .nil))
 (.cons (.asg 17 (.blt .list (.cons (.var 10) .nil)))
 (.cons (.sto (.var 15) (.con (.str "knot")) (.onew "Group" (.cons (.var 16) (.cons (.var 17) .nil))))
 (.cons (.exp (.mth .clear (.var 16) .nil))
 (.cons (.exp (.mth .clear (.var 17) .nil))
 (.cons (.ret (.bin .Add (.slc (.var 0) (.cons (.var 3) .nil) .nil) (.lst (.cons (.var 15) .nil))))
 .nil))))))))
structure Units (CS CG:Addr) (O:Addr->Prop) (n:Nat) (H:Hp) (d:Addr) (kvs:List (Key × V)) (Us:List Uu):Prop where
 at_:∀z ∈ Us,UAt CS CG O n H z
 ud:∀z ∈ Us,z.u ≠ d
 hO:∀a,O a->H a ≠ none/\a ≠ d
 hd:H d=some (.dK kvs)
 nd:(Us.map (·.ms)).flatten.Nodup
 few:(Us.map (·.ms)).flatten.length<=20
 bm:∀z ∈ Us,z.b ∈ z.ms
 bn:∀z ∈ Us,valV kvs (.inr z.b)=none
 bi:∀z ∈ Us,∀c ∈ z.ms,c ≠ z.b->∃t ∈ z.ms,valV kvs (.inr c)=some (.str t)
theorem comp_key {M:Mo} {te:TE} {D:Addr} {stay k:Hp->Prop} {H:Hp} {R:List Uu} (f:Uu->V) (hR:R.length<=1000) (st:∀l,stay (upd H D (.lst l))) (ht:∀z ∈ R,∀acc Q,Q (f z) (upd H D (.lst acc))->te [some (.ref z.u)] (upd H D (.lst acc)) Q)
  (hk:k (upd H D (.lst (R.map f)))):compW te (fun _ H Q=>Q true H) [] D stay (R.map fun z=>V.ref z.u) [] (upd H D (.lst [])) k:=by
 refine comp_inv (fun i acc Hn=>acc=(R.take i).map f/\Hn=upd H D (.lst acc)) (fun i acc Hn z=>?_) ?_ ?_ ⟨rfl,rfl⟩
 ·obtain⟨_,rfl⟩:=z
  exact⟨st _,upd_same⟩
 ·rintro i v acc Hn K hv ⟨rfl,rfl⟩ nx
  rw[List.getElem?_map]at hv
  obtain⟨z,hz,rfl⟩:=Option.map_eq_some_iff.mp hv
  rw[if_pos rfl]
  refine ht z (List.mem_of_getElem? hz) _ _ ⟨upd_same,by rw[List.length_map,List.length_take,sizeLine_eq];omega,nx _ _ ⟨?_,by rw[upd_upd]⟩⟩
  rw[List.take_succ,hz,List.map_append]
  rfl
 ·rintro acc Hn ⟨rfl,rfl⟩
  rw[List.length_map,List.take_length]
  exact hk
theorem kne {x y:Str} {v:V} (h:x ≠ y):¬ ((Sum.inr x:Key),v).1=Sum.inr y:=fun z=>h (Sum.inr.inj z)
theorem KGx.up {CS CG:Addr} {O O':Addr->Prop} {n:Nat} {H H':Hp} {p:Addr} {ms:List Str} {mss:List (List Str)} {ys:List V} (h:KGx CS CG O n H p ms mss ys) (k:∀a,O a->O' a/\H' a=H a):KGx CS CG O' (n + 1) H' p ms mss ys:=by
 obtain⟨dx,r,l,qs,⟨o1,o2,o3⟩,h1,h2,h3,⟨h4,h5⟩,h6⟩:=h
 exact⟨dx,r,l,qs,⟨(k _ o1).1,(k _ o2).1,(k _ o3).1⟩,by rw[(k _ o1).2];exact h1,by rw[(k _ o2).2];exact h2,by rw[(k _ o3).2];exact h3,⟨h4,fun i q m a b=>((h5 i q m a b).agree k).up⟩,h6⟩
theorem UAt.knot {CS CG:Addr} {O:Addr->Prop} {n:Nat} {H:Hp} {z:Uu} (h:UAt CS CG O n H z):KAt CS CG O (n + 1) H z.p z.ms:=by
 rcases h.k with ⟨k,_⟩ | ⟨k,_⟩
 ·exact k.at
 ·exact k.grp.at
theorem ext_of {M:Mo} {u:Addr} {H H1 H2:Hp} (x:Ext M H H1) (y:ExtB M u H1 H2) (hu:H u=none):Ext M H H2:=
 ⟨fun a o h=>y.same a o (ne_of_none h hu) (x.same a o h),fun a m h=>y.off a m (x.off a m h)⟩
theorem tail_ok {Γ:Gam} {Ξ:XS} {D:Ends} {CS CG:Addr} {O:Addr->Prop} {n:Nat} {H:Hp} {w d rg dr lk:Addr} {c:Int} {s lead:Nat} {kvs:List (Key × V)} {Us:List Uu} {xs:List V} {ps:List (Str × Str)} {zl:Uu} {v5 v6 v7 v11 v12 v13 v14 v15 v16 v17:Option V} (gc:Γ.cm=true)
  (go:Γ.ocl "Group" =some CG) (gi:Γ.oin "Group" =spGInit Γ.mod CG) (hw:H w=some (.lst (Us.map fun z=>V.ref z.u))) (hrg:H rg=some (.lst ((Us.take s).map fun z=>V.ref z.u))) (hlk:H lk=some (.lst xs)) (lx:xs.length=s) (lv:LinksAt H xs ps) (lf:∀ (i:Nat) P,ps[i]?=some P->LinkF (Us.take s) s i P) (hs:s=3\/s=5\/s=7) (hld:lead < s) (lat:∀z ∈ Us,LAt CS CG O (fun c=>valV kvs (.inr c)) (·∈ z.ps) n H z.p z.ms z.b)
  (mt:∀ (i:Nat) x y,i < s->((i:Int) - lead) % s % 2=1->((Us.take s).map (·.b))[i]?=some x->((Us.take s).map (·.b))[(i + 1) % s]?=some y->valV kvs (.inr x)=some (.str y)/\valV kvs (.inr y)=some (.str x))
  (sl:s<=Us.length) (ul:Us.length<=20) (s7:s<=7) (s1:3<=s) (hzl:(Us.take s)[lead]?=some zl) (at_:∀z ∈ Us,UAt CS CG O n H z) (hO:∀a,O a->H a ≠ none/\a ≠ d) (hd:H d=some (.dK kvs)) (nd:((Us.take s).map (·.ms)).flatten.Nodup) (few:((Us.take s).map (·.ms)).flatten.length<=20) (fx:((Us.take s).map (·.xs)).flatten.length<=9000)
  (fin:∀ (w':Addr) (H':Hp) (z:Uu) (O':Addr->Prop),H' w'=some (.lst ((Us.drop s++[z]).map fun z=>V.ref z.u))->Ext Γ.mod H H'->UAt CS CG O' (n + 1) H' z->LAt CS CG O' (fun c=>valV kvs (.inr c)) (·∈ z.ps) (n + 1) H' z.p z.ms z.b->(∀ a,O a->O' a)->(∀ a,O' a->H' a ≠ none/\a ≠ d)->z.u ≠ d->
   z.ms.Perm ((Us.take s).map (·.ms)).flatten->z.b=zl.b->z.xs=xs++((Us.take s).map (·.xs)).flatten->D.rt (.ref w') H'):
  wSs bTail Γ Ξ D [some (.ref w),some (.ref d),some (.int c),some (.int s),some (.ref dr),v5,v6,v7,some (.ref rg),some (.int lead),some (.ref lk),v11,v12,v13,v14,v15,v16,v17] H:=by
 have hR:(Us.take s).length=s:=by rw[List.length_take];omega
 have mem:∀z ∈ Us.take s,z ∈ Us:=fun z hz=>List.mem_of_mem_take hz
 have ndK:∀ {kv:List (Key × V)} (b:Obj) (u:HO),HO.dK kv ≠ .frz b u:=by intro _ _ _ z;cases z
 generalize hRR:Us.take s=R at hR mem hrg hzl nd few fx fin lf mt
 unfold bTail
 refine seq ?_
 walk_at "s1"
 intro u hu mu
 have x0:Ext Γ.mod H (upd H u (.dK [])):=Ext.upd hu mu
 refine ix_at (rd_of (x0.same _ _ hrg) nofrz_l) (atI_nat' (n:=lead) (x:=V.ref zl.u) (by rw[List.getElem?_map,hzl];rfl) rfl) ?_
 obtain⟨dl,hdl,Ul⟩:=(at_ zl (mem zl (List.mem_of_getElem? hzl))).d
 refine idxD_at (rd_of (x0.same _ _ hdl) ndK) Ul.base ?_
 refine⟨by rw[sizeLine_eq];decide,fun p np mp=>⟨gc,?_⟩⟩
 have x1:=x0.trans (Ext.upd (o:=.lst []) np mp)
 have hp1:upd (upd H u (.dK [])) p (.lst []) p=some (.lst []):=upd_same
 have hu1:upd (upd H u (.dK [])) p (.lst []) u=some (.dK []):=by rw[upd_ne (ne_of_none upd_same np),upd_same]
 generalize upd (upd H u (.dK [])) p (.lst [])=H1 at x1 hp1 hu1 ⊢
 unfold iterV
 dsimp only
 rw[rd_of (x1.same _ _ hrg) nofrz_l]
 dsimp only
 intro D1 nD1 mD1
 refine comp_key (M:=Γ.mod) (fun z=>.ref z.a) (by omega) (fun l=>rd_of (by rw[upd_ne (ne_of_none (x1.same _ _ hrg) nD1)];exact x1.same _ _ hrg) nofrz_l) (fun z hz acc Q q=>?_) ?_
 ·walk_at "s1"
  obtain⟨du,h1,U⟩:=(at_ z (mem z hz)).d
  exact idxD_at (rd_of (by rw[upd_ne (ne_of_none (x1.same _ _ h1) nD1)];exact x1.same _ _ h1) ndK) U.all q
 have uD1:u ≠ D1:=ne_of_none hu1 nD1
 refine⟨by rw[upd_ne uD1];exact hu1,by decide,?_⟩
 have x3:Ext Γ.mod H (upd (upd H1 D1 (.lst (R.map fun z=>V.ref z.a))) u (.dK (mergeK [] [(Sum.inr "base",.str zl.b),(Sum.inr "all",.ref p),(Sum.inr "links",.ref lk),(Sum.inr "ring",.ref D1)]))):=(x1.trans (Ext.upd nD1 mD1)).over hu mu
 have pu:p ≠ u:=fun e=>by rw[e,hu1]at hp1;cases hp1
 have h3p:upd (upd H1 D1 (.lst (R.map fun z=>V.ref z.a))) u (.dK (mergeK [] [(Sum.inr "base",.str zl.b),(Sum.inr "all",.ref p),(Sum.inr "links",.ref lk),(Sum.inr "ring",.ref D1)])) p=some (.lst []):=by rw[upd_ne pu,upd_ne (ne_of_none hp1 nD1)];exact hp1
 have h3D:upd (upd H1 D1 (.lst (R.map fun z=>V.ref z.a))) u (.dK (mergeK [] [(Sum.inr "base",.str zl.b),(Sum.inr "all",.ref p),(Sum.inr "links",.ref lk),(Sum.inr "ring",.ref D1)])) D1=some (.lst (R.map fun z=>V.ref z.a)):=by rw[upd_ne (Ne.symm uD1),upd_same]
 have h3u:upd (upd H1 D1 (.lst (R.map fun z=>V.ref z.a))) u (.dK (mergeK [] [(Sum.inr "base",.str zl.b),(Sum.inr "all",.ref p),(Sum.inr "links",.ref lk),(Sum.inr "ring",.ref D1)])) u=some (.dK (mergeK [] [(Sum.inr "base",.str zl.b),(Sum.inr "all",.ref p),(Sum.inr "links",.ref lk),(Sum.inr "ring",.ref D1)])):=upd_same
 have ek:mergeK [] [(Sum.inr ("base" :Str),V.str zl.b),(Sum.inr "all",.ref p),(Sum.inr "links",.ref lk),(Sum.inr "ring",.ref D1)]=[(Sum.inr ("base" :Str),V.str zl.b),(Sum.inr "all",.ref p),(Sum.inr "links",.ref lk),(Sum.inr "ring",.ref D1)]:=rfl
 rw[ek]at x3 h3p h3D h3u ⊢
 generalize upd (upd H1 D1 (.lst (R.map fun z=>V.ref z.a))) u _=H3 at x3 h3p h3D h3u ⊢
 refine seq ?_
 walk_at "s1"
 refine⟨gc,?_⟩
 unfold iterV
 dsimp only
 rw[rd_of (x3.same _ _ hrg) nofrz_l]
 dsimp only
 refine alls_loop gc h3u (by show 4<=10;decide) (by omega) (x3.same _ _ hrg) ⟨?_,?_,fun _ _ _=>rfl⟩ h3p (x3.same _ _ hlk) (by omega) (fun z hz=>?_) (by omega) (by omega) fun w12 H4 kv aN lkN ms x4 h4 kl N4 a4 p4 so l4=>?_
 ·rw[valV_neg (kne (by decide)),valV_pos rfl]
 ·rw[valV_neg (kne (by decide)),valV_neg (kne (by decide)),valV_pos rfl]
 ·obtain⟨du,h1,U⟩:=(at_ z (mem z hz)).d
  exact⟨⟨ne_of_none h1 hu,du,x3.same _ _ h1,U⟩,x3.same _ _ (at_ z (mem z hz)).a,x3.same _ _ (at_ z (mem z hz)).lk⟩
 have xH4:=ext_of x3 x4 hu
 have D14:=x4.same _ _ (Ne.symm uD1) h3D
 dsimp only
 refine seq ?_
 walk_at "s1"
 refine⟨gc,?_⟩
 unfold iterV
 dsimp only
 rw[rd_of (xH4.same _ _ hrg) nofrz_l]
 dsimp only
 intro D2 nD2 mD2
 refine comp_key (M:=Γ.mod) (fun z=>.ref z.p) (by omega) (fun l=>rd_of (by rw[upd_ne (ne_of_none (xH4.same _ _ hrg) nD2)];exact xH4.same _ _ hrg) nofrz_l) (fun z hz acc Q q=>?_) ?_
 ·walk_at "s1"
  obtain⟨du,h1,U⟩:=(at_ z (mem z hz)).d
  exact idxD_at (rd_of (by rw[upd_ne (ne_of_none (xH4.same _ _ h1) nD2)];exact xH4.same _ _ h1) ndK) U.knot q
 have x5:Ext Γ.mod H4 (upd H4 D2 (.lst (R.map fun z=>V.ref z.p))):=Ext.upd nD2 mD2
 have h5D:upd H4 D2 (.lst (R.map fun z=>V.ref z.p)) D2=some (.lst (R.map fun z=>V.ref z.p)):=upd_same
 generalize upd H4 D2 (.lst (R.map fun z=>V.ref z.p))=H5 at x5 h5D ⊢
 refine seq ?_
 walk_at "s1"
 refine⟨gc,?_⟩
 unfold bltV
 dsimp only
 rw[rd_of ((xH4.trans x5).same _ _ hlk) nofrz_l]
 dsimp only
 intro o no mo
 have x6:Ext Γ.mod H5 (upd H5 o (.lst xs)):=Ext.upd no mo
 have h6o:upd H5 o (.lst xs) o=some (.lst xs):=upd_same
 have oD2:D2 ≠ o:=ne_of_none h5D no
 generalize upd H5 o (.lst xs)=H6 at x6 h6o ⊢
 have no4:H4 o=none:=by
  cases e:H4 o with
  | none=>rfl
  | some v=>rw[x5.same _ _ e]at no;cases no
 have h6D:=x6.same _ _ h5D
 have x46:=x5.trans x6
 refine seq ?_
 walk_at "s1"
 refine⟨⟨gc,by rw[go];rfl⟩,?_⟩
 unfold onewV
 rw[go]
 dsimp only
 intro kp dx nkp ndx dxp mkp mdx
 rw[gi]
 have kD2:D2 ≠ kp:=ne_of_none h6D nkp
 have ko:o ≠ kp:=ne_of_none h6o nkp
 have dD2:D2 ≠ dx:=ne_of_none h6D ndx
 have do_:o ≠ dx:=ne_of_none h6o ndx
 refine⟨kp,dx,D2,o,_,xs,rfl,upd_same,by rw[upd_ne kD2,upd_ne dD2];exact h6D,by rw[upd_ne ko,upd_ne do_];exact h6o,fun r l H8 nr nl mr ml rl h8p h8r h8l h8a=>⟨rfl,?_⟩⟩
 have rkp:r ≠ kp:=fun e=>by rw[e,upd_same]at nr;cases nr
 have rdx:r ≠ dx:=fun e=>by rw[e,upd_ne dxp,upd_same]at nr;cases nr
 have nr6:H6 r=none:=by rw[upd_ne rkp,upd_ne rdx]at nr;exact nr
 have lkp:l ≠ kp:=fun e=>by rw[e,upd_same]at nl;cases nl
 have ldx:l ≠ dx:=fun e=>by rw[e,upd_ne dxp,upd_same]at nl;cases nl
 have nl6:H6 l=none:=by rw[upd_ne lkp,upd_ne ldx]at nl;exact nl
 have x68:Ext Γ.mod H6 H8:=⟨fun a ob e=>by
   rw[h8a a (ne_of_none e nkp) (ne_of_none e nr6) (ne_of_none e nl6),upd_ne (ne_of_none e nkp),upd_ne (ne_of_none e ndx)]
   exact e,fun a m e=>by
   have n1:a ≠ kp:=fun z=>m (by rw[z];exact mkp)
   have n2:a ≠ dx:=fun z=>m (by rw[z];exact mdx)
   have n3:a ≠ r:=fun z=>m (by rw[z];exact mr)
   have n4:a ≠ l:=fun z=>m (by rw[z];exact ml)
   rw[h8a a n1 n3 n4,upd_ne n1,upd_ne n2]
   exact e⟩
 have x48:=x46.trans x68
 have h6u:=x46.same _ _ h4
 have h8u:=x68.same _ _ h6u
 unfold stoV
 dsimp only
 rw[h8u]
 refine⟨by rw[sizeLine_eq];omega,?_⟩
 have uD2:u ≠ D2:=ne_of_none h4 nD2
 have uo:u ≠ o:=ne_of_none h4 no4
 have u4:H4 u ≠ none:=by rw[h4];intro z;cases z
 have h8D:=x68.same _ _ h6D
 have h8o:=x68.same _ _ h6o
 refine seq ?_
 walk_at "s1"
 have h9D:upd H8 u (.dK (putK kv (.inr "knot") (.ref kp))) D2=some (.lst (R.map fun z=>V.ref z.p)):=by rw[upd_ne (Ne.symm uD2)];exact h8D
 have h9o:upd H8 u (.dK (putK kv (.inr "knot") (.ref kp))) o=some (.lst xs):=by rw[upd_ne (Ne.symm uo)];exact h8o
 refine⟨mty_l h9D,?_⟩
 unfold mthV
 dsimp only
 rw[h9D]
 dsimp only
 refine seq ?_
 walk_at "s1"
 have h10o:upd (upd H8 u (.dK (putK kv (.inr "knot") (.ref kp)))) D2 (.lst []) o=some (.lst xs):=by rw[upd_ne (Ne.symm oD2)];exact h9o
 refine⟨mty_l h10o,?_⟩
 unfold mthV
 dsimp only
 rw[h10o]
 dsimp only
 have x411:ExtB Γ.mod u H4 (upd (upd (upd H8 u (.dK (putK kv (.inr "knot") (.ref kp)))) D2 (.lst [])) o (.lst [])):=((x48.b.put u4).over nD2 mD2).over no4 mo
 have keep:∀a,a ≠ u->a ≠ D2->a ≠ o->upd (upd (upd H8 u (.dK (putK kv (.inr "knot") (.ref kp)))) D2 (.lst [])) o (.lst []) a=H8 a:=fun a a1 a2 a3=>by rw[upd_ne a3,upd_ne a2,upd_ne a1]
 have h11u:upd (upd (upd H8 u (.dK (putK kv (.inr "knot") (.ref kp)))) D2 (.lst [])) o (.lst []) u=some (.dK (putK kv (.inr "knot") (.ref kp))):=by rw[upd_ne uo,upd_ne uD2,upd_same]
 generalize upd (upd (upd H8 u (.dK (putK kv (.inr "knot") (.ref kp)))) D2 (.lst [])) o (.lst [])=H11 at x411 keep h11u ⊢
 have xH11:=ext_of xH4 x411 hu
 refine seq ?_
 walk_at "s1"
 rw[Sw.s_ref,rd_of (xH11.same _ _ hw) nofrz_l]
 dsimp only
 intro l9 n9 m9
 refine⟨by rw[sizeLine_eq];decide,fun l10 n10 m10=>?_⟩
 have e9:upd (upd H11 l9 (.lst (cutV (Us.map fun z=>V.ref z.u) (some (s:Int)) none))) l10 (.lst [.ref u]) l9=some (.lst ((Us.map fun z=>V.ref z.u).drop s)):=by rw[upd_ne (ne_of_none upd_same n10),upd_same,cut_from]
 refine cat_at e9 upd_same (by rw[List.length_drop,List.length_map,sizeLine_eq,List.length_singleton];omega) fun l11 n11 m11=>?_
 have x1114:=((Ext.upd (o:=.lst (cutV (Us.map fun z=>V.ref z.u) (some (s:Int)) none)) n9 m9).trans (Ext.upd (o:=.lst [V.ref u]) n10 m10)).trans (Ext.upd (o:=.lst ((Us.map fun z=>V.ref z.u).drop s++[V.ref u])) n11 m11)
 have hfin:upd (upd (upd H11 l9 (.lst (cutV (Us.map fun z=>V.ref z.u) (some (s:Int)) none))) l10 (.lst [.ref u])) l11 (.lst ((Us.map fun z=>V.ref z.u).drop s++[.ref u])) l11=some (.lst ((Us.map fun z=>V.ref z.u).drop s++[.ref u])):=upd_same
 generalize upd (upd (upd H11 l9 (.lst (cutV (Us.map fun z=>V.ref z.u) (some (s:Int)) none))) l10 (.lst [.ref u])) l11 (.lst ((Us.map fun z=>V.ref z.u).drop s++[.ref u]))=HF at x1114 hfin ⊢
 have xF:=xH11.trans x1114
 have x4F:ExtB Γ.mod u H4 HF:=x411.trans x1114.b
 have new:∀ {a:Addr} {ob:HO},H6 a=none->H8 a=some ob->HF a=some ob:=fun{a ob} n8 e=>x1114.same _ _ (by rw[keep a (fun z=>by rw[z,h6u]at n8;cases n8) (fun z=>by rw[z,h6D]at n8;cases n8) (fun z=>by rw[z,h6o]at n8;cases n8)];exact e)
 have nd6:∀ {a:Addr},H6 a=none->a ≠ d:=fun{a} n8 z=>by rw[z,x46.same _ _ (xH4.same _ _ hd)]at n8;cases n8
 have nla:∀ {a:Addr} {ys:List V},H4 a=some (.lst ys)->a ≠ u:=fun e z=>by rw[z,h4]at e;cases e
 have Fkp:=new nkp h8p
 have Fr:=new nr6 h8r
 have Fl:=new nl6 h8l
 refine fin l11 HF ⟨u,kp,aN,lkN,D1,zl.b,ms,xs++(R.map (·.xs)).flatten,R.map (·.a),R.map (·.ms),ps++(R.map (·.ps)).flatten⟩ (fun a=>O a\/a=kp\/a=r\/a=l) ?_ xF ?_ ?_ (fun a h=>.inl h) ?_ (fun e=>by have e:u=d:=e;rw[e,hd]at hu;cases hu) p4 rfl rfl
 ·rw[hfin,List.map_append,List.map_drop]
  rfl
 ·have kK:∀x:Str,x ≠ "knot" ->valV (putK kv (.inr "knot") (.ref kp)) (.inr x)=valV kv (.inr x):=fun x hx=>by rw[valV_put,if_neg (fun z=>hx (Sum.inr.inj z))]
  refine⟨⟨_,x1114.same _ _ h11u,⟨by rw[valV_put,if_pos rfl],?_,?_,?_,?_⟩⟩,x4F.same _ _ (nla a4) a4,x4F.same _ _ (nla l4) l4,?_,?_,⟨by rw[List.length_map,List.length_map],fun i q m h1 h2=>?_⟩,.inr ⟨?_,?_⟩,?_⟩
  ·rw[kK _ (by decide),N4.rest _ (by decide) (by decide),valV_pos rfl]
  ·rw[kK _ (by decide)];exact N4.all
  ·rw[kK _ (by decide)];exact N4.links
  ·rw[kK _ (by decide),N4.rest _ (by decide) (by decide),valV_neg (kne (by decide)),valV_neg (kne (by decide)),valV_neg (kne (by decide)),valV_pos rfl]
  ·exact(lv.map fun a zs q=>xF.same _ _ q).app (LinksAt.flat fun z hz=>((at_ z (mem z hz)).lv).map fun a zs q=>xF.same _ _ q)
  ·show HF D1=_
   rw[x4F.same _ _ (nla D14) D14,List.map_map]
   rfl
  ·rw[List.getElem?_map]at h1 h2
   obtain⟨z,hz,rfl⟩:=Option.map_eq_some_iff.mp h1
   rw[hz]at h2
   cases h2
   exact xF.same _ _ (at_ z (mem z (List.mem_of_getElem? hz))).a
  ·refine⟨dx,r,l,R.map (·.p),⟨.inr (.inl rfl),.inr (.inr (.inl rfl)),.inr (.inr (.inr rfl))⟩,Fkp,by rw[Fr,List.map_map];rfl,?_,⟨by rw[List.length_map,List.length_map],fun i q m h1 h2=>?_⟩,p4,so,p4.nodup_iff.mpr nd,by rw[p4.length_eq];omega⟩
   ·rw[Fl]
    show some (HO.lst xs)=some (.lst ((xs++(R.map (·.xs)).flatten).take (R.map (·.ms)).length))
    rw[List.length_map,hR,<-lx,List.take_left]
   ·rw[List.getElem?_map]at h1 h2
    obtain⟨z,hz,rfl⟩:=Option.map_eq_some_iff.mp h1
    rw[hz]at h2
    cases h2
    exact(at_ z (mem z (List.mem_of_getElem? hz))).knot.agree fun a oa=>⟨.inl oa,by
     cases e:H a with
     | none=>exact absurd e (hO a oa).1
     | some ob=>exact xF.same _ _ e⟩
  ·intro e
   have:=congrArg List.length e
   rw[List.length_map,hR]at this
   simp at this
   omega
  ·show(R.map (·.ms)).length<=7
   rw[List.length_map]
   omega
 ·refine .inr ⟨dx,r,l,R.map (·.p),R.map (·.ms),R.map (·.b),xs,ps,s,lead,⟨⟨.inr (.inl rfl),.inr (.inr (.inl rfl)),.inr (.inr (.inr rfl))⟩,Fkp,by rw[Fr,List.map_map];rfl,Fl,⟨by rw[List.length_map,hR],by rw[List.length_map,hR],by rw[List.length_map,hR],lx,by rw[<-lv.1,lx]⟩,hs,hld,by rw[List.getElem?_map,hzl];rfl,fun i q m c h1 h2 h3=>?_,p4,so,p4.nodup_iff.mpr nd,by rw[p4.length_eq];omega,fun i x P h1 h2=>?_,fun i P h1=>?_,mt⟩⟩
  ·rw[List.getElem?_map]at h1 h2 h3
   obtain⟨z,hz,rfl⟩:=Option.map_eq_some_iff.mp h1
   rw[hz]at h2 h3
   cases h2
   cases h3
   exact(lat z (mem z (List.mem_of_getElem? hz))).map (fun a oa=>⟨.inl oa,by
     cases e:H a with
     | none=>exact absurd e (hO a oa).1
     | some ob=>exact xF.same _ _ e⟩) (fun a zs q=>xF.same _ _ q) (fun P hP=>List.mem_append_right _ (List.mem_flatten.mpr ⟨z.ps,List.mem_map.mpr ⟨z,List.mem_of_getElem? hz,rfl⟩,hP⟩)) fun _ _ _=>rfl
  ·obtain⟨t,e,q⟩:=lv.2 i x P h1 h2
   exact⟨t,e,xF.same _ _ q⟩
  ·obtain⟨⟨z,hz,q1⟩,z',hz',q2⟩:=lf i P h1
   exact⟨List.mem_append_left _ (List.mem_of_getElem? h1),⟨z.ms,by rw[List.getElem?_map,hz];rfl,q1⟩,⟨z'.ms,by rw[List.getElem?_map,hz'];rfl,q2⟩⟩
 ·rintro a (h | rfl | rfl | rfl)
  ·exact⟨xF.there (fun a h=>(hO a h).1) a h,(hO a h).2⟩
  ·exact⟨(by rw[Fkp];intro z;cases z),nd6 nkp⟩
  ·exact⟨(by rw[Fr];intro z;cases z),nd6 nr6⟩
  ·exact⟨(by rw[Fl];intro z;cases z),nd6 nl6⟩
end Kn
namespace Kn
open PySem PySem.Spec PyProof.Rows L2 Sw Gw
theorem UAt.b {M:Mo} {CS CG:Addr} {O:Addr->Prop} {n:Nat} {H H':Hp} {d:Addr} {kvs:List (Key × V)} {z:Uu} (h:UAt CS CG O n H z) (ud:z.u ≠ d) (hO:∀a,O a->H a ≠ none/\a ≠ d) (hd:H d=some (.dK kvs)) (x:ExtB M d H H'):UAt CS CG O n H' z:=by
 obtain⟨⟨kv,h1,h2⟩,h3,h4,h5,h6,⟨h7,h8⟩,h9,hf⟩:=h
 have ne:∀ {a:Addr} {xs:List V},H a=some (.lst xs)->a ≠ d:=fun e z=>by rw[z,hd]at e;cases e
 have ag:∀a,O a->O a/\H' a=H a:=fun a oa=>⟨oa,by
  cases e:H a with
  | none=>exact absurd e (hO a oa).1
  | some ob=>exact x.same _ _ (hO a oa).2 e⟩
 refine⟨⟨kv,x.same _ _ ud h1,h2⟩,x.same _ _ (ne h3) h3,x.same _ _ (ne h4) h4,h5.b hd x,x.same _ _ (ne h6) h6,⟨h7,fun i q m a b=>x.same _ _ (ne (h8 i q m a b)) (h8 i q m a b)⟩,?_,hf⟩
 rcases h9 with ⟨k,h⟩ | ⟨⟨dx,r,l,qs,o,g1,g2,g3,⟨g4,g5⟩,g6⟩,h⟩
 ·exact .inl ⟨KAt.agree (CG:=CG) (n:=0) k ag,h⟩
 ·exact .inr ⟨⟨dx,r,l,qs,o,by rw[(ag _ o.1).2];exact g1,by rw[(ag _ o.2.1).2];exact g2,by rw[(ag _ o.2.2).2];exact g3,⟨g4,fun i q m a b=>(g5 i q m a b).agree ag⟩,g6⟩,h⟩
theorem UAt.up {M:Mo} {CS CG:Addr} {O O':Addr->Prop} {n:Nat} {H H':Hp} {z:Uu} (h:UAt CS CG O n H z) (hO:∀a,O a->H a ≠ none) (oo:∀a,O a->O' a) (e:Ext M H H'):UAt CS CG O' (n + 1) H' z:=by
 have ag:∀a,O a->O' a/\H' a=H a:=fun a oa=>⟨oo a oa,by
  cases q:H a with
  | none=>exact absurd q (hO a oa)
  | some ob=>exact e.same _ _ q⟩
 obtain⟨⟨kvs,h1,h2⟩,h3,h4,h5,h6,⟨h7,h8⟩,h9,hf⟩:=h
 refine⟨⟨kvs,e.same _ _ h1,h2⟩,e.same _ _ h3,e.same _ _ h4,h5.map fun a zs q=>e.same _ _ q,e.same _ _ h6,⟨h7,fun i q m a b=>e.same _ _ (h8 i q m a b)⟩,?_,hf⟩
 rcases h9 with ⟨k,h⟩ | ⟨k,h⟩
 ·exact .inl ⟨KAt.agree (CG:=CG) (n:=0) k ag,h⟩
 ·exact .inr ⟨k.up ag,h⟩
theorem LAt.b {M:Mo} {CS CG:Addr} {O:Addr->Prop} {μ μ':Str->Option V} {L:Str × Str->Prop} {n:Nat} {H H':Hp} {d p:Addr} {ms:List Str} {b:Str} {kvs:List (Key × V)} (h:LAt CS CG O μ L n H p ms b) (hO:∀a,O a->H a ≠ none/\a ≠ d) (hd:H d=some (.dK kvs)) (x:ExtB M d H H') (k:∀c ∈ ms,c ≠ b->μ' c=μ c):LAt CS CG O μ' L n H' p ms b:=
 h.map (fun a oa=>⟨oa,by
  cases e:H a with
  | none=>exact absurd e (hO a oa).1
  | some ob=>exact x.same _ _ (hO a oa).2 e⟩) (fun a zs q=>x.same _ _ (fun z=>by rw[z,hd]at q;cases q) q) (fun _ h=>h) k
theorem LAt.grow {M:Mo} {CS CG:Addr} {O O':Addr->Prop} {μ:Str->Option V} {L:Str × Str->Prop} {n:Nat} {H H':Hp} {p:Addr} {ms:List Str} {b:Str} (h:LAt CS CG O μ L n H p ms b) (hO:∀a,O a->H a ≠ none) (oo:∀a,O a->O' a) (e:Ext M H H'):LAt CS CG O' μ L (n + 1) H' p ms b:=
 (h.map (fun a oa=>⟨oo a oa,by
  cases q:H a with
  | none=>exact absurd q (hO a oa)
  | some ob=>exact e.same _ _ q⟩) (fun a zs q=>e.same _ _ q) (fun _ h=>h) fun _ _ _=>rfl).up
theorem disj {L:List Uu} (nd:(L.map (·.ms)).flatten.Nodup) {i j:Nat} {z1 z2:Uu} (h1:L[i]?=some z1) (h2:L[j]?=some z2) (ne:i ≠ j) {c:Str} (c1:c ∈ z1.ms):c ∉ z2.ms:=fun c2=>by
 obtain⟨_,p⟩:=List.pairwise_flatten.mp nd
 rw[List.pairwise_map]at p
 obtain⟨i1,i2⟩:=List.getElem?_eq_some_iff.mp h1
 obtain⟨j1,j2⟩:=List.getElem?_eq_some_iff.mp h2
 rcases Nat.lt_or_gt_of_ne ne with q | q
 ·exact List.pairwise_iff_getElem.mp p i j i1 j1 q c (by rw[i2];exact c1) c (by rw[j2];exact c2) rfl
 ·exact List.pairwise_iff_getElem.mp p j i j1 i1 q c (by rw[j2];exact c2) c (by rw[i2];exact c1) rfl
structure Side (kvs:List (Key × V)) (Us:List Uu):Prop where
 nd:(Us.map (·.ms)).flatten.Nodup
 bm:∀z ∈ Us,z.b ∈ z.ms
 bn:∀z ∈ Us,valV kvs (.inr z.b)=none
 bi:∀z ∈ Us,∀c ∈ z.ms,c ≠ z.b->∃t ∈ z.ms,valV kvs (.inr c)=some (.str t)
 gd:GoodD kvs
theorem Side.bs {kvs:List (Key × V)} {Us:List Uu} (h:Side kvs Us) (s:Nat):((Us.take s).map (·.b)).Nodup:=by
 refine List.pairwise_iff_getElem.mpr fun i j hi hj ij e=>?_
 rw[List.length_map]at hi hj
 rw[List.getElem_map,List.getElem_map]at e
 have a1:Us[i]?=some (Us.take s)[i]:=by rw[List.getElem_take];exact List.getElem?_eq_getElem _
 have a2:Us[j]?=some (Us.take s)[j]:=by rw[List.getElem_take];exact List.getElem?_eq_getElem _
 exact disj h.nd a1 a2 (Nat.ne_of_lt ij) (h.bm _ (List.mem_of_getElem? a1)) (by rw[e];exact h.bm _ (List.mem_of_getElem? a2))
theorem side_keep {Us:List Uu} {k0 kvs:List (Key × V)} {s lead:Nat} (h:Side k0 Us) (M1:Mt ((Us.take s).map (·.b)) s lead k0 kvs s) {y:Uu} (hy:y ∈ Us):∀c ∈ y.ms,c ≠ y.b->valV kvs (.inr c)=valV k0 (.inr c):=fun c hc ne=>by
 obtain⟨j,hj⟩:=List.mem_iff_getElem?.mp hy
 refine M1.far fun hb=>?_
 obtain⟨y',hy',e⟩:=List.mem_map.mp hb
 obtain⟨i,hi⟩:=List.mem_iff_getElem?.mp (List.mem_of_mem_take hy')
 by_cases q:i=j
 ·subst q
  rw[hj]at hi
  cases hi
  exact ne e.symm
 ·exact disj h.nd hj hi (Ne.symm q) hc (by rw[<-e];exact h.bm _ (List.mem_of_getElem? hi))
theorem side_next {Us:List Uu} {k0 kvs:List (Key × V)} {s lead:Nat} {zl z:Uu} (h:Side k0 Us) (M1:Mt ((Us.take s).map (·.b)) s lead k0 kvs s) (hs:s=3\/s=5\/s=7) (l1:lead < s) (sl:s<=Us.length) (hzl:(Us.take s)[lead]?=some zl)
  (pm:z.ms.Perm ((Us.take s).map (·.ms)).flatten) (zb:z.b=zl.b):Side kvs (Us.drop s++[z])/\((Us.drop s++[z]).map (·.ms)).flatten.Perm (Us.map (·.ms)).flatten:=by
 have pf:((Us.drop s++[z]).map (·.ms)).flatten.Perm (Us.map (·.ms)).flatten:=by
  have e:(Us.map (·.ms)).flatten=((Us.take s).map (·.ms)).flatten++((Us.drop s).map (·.ms)).flatten:=by rw[<-List.flatten_append,<-List.map_append,List.take_append_drop]
  rw[e,List.map_append,List.flatten_append]
  refine List.perm_append_comm.trans (List.Perm.append_right _ ?_)
  simpa using pm
 have bsn:=h.bs s
 have hR:(Us.take s).length=s:=by rw[List.length_take];omega
 have tk:∀ {i:Nat} {y:Uu},(Us.take s)[i]?=some y->Us[i]?=some y/\i < s:=fun{i y} e=>by
  have lt:=(List.getElem?_eq_some_iff.mp e).1
  rw[hR]at lt
  rw[List.getElem?_take_of_lt lt]at e
  exact⟨e,lt⟩
 have bsm:∀ {c:Str},c ∈ (Us.take s).map (·.b)->∃ (i:Nat) (y:Uu),(Us.take s)[i]?=some y/\c=y.b:=fun{c} hc=>by
  obtain⟨y,hy,rfl⟩:=List.mem_map.mp hc
  obtain⟨i,hi⟩:=List.mem_iff_getElem?.mp hy
  exact⟨i,y,hi,rfl⟩
 have far2:∀ {j:Nat} {y:Uu} {c:Str},Us[j]?=some y->c ∈ y.ms->(s<=j\/c ≠ y.b)->c ∉ (Us.take s).map (·.b):=fun{j y c} hy hc o hb=>by
  obtain⟨i,y',hi,rfl⟩:=bsm hb
  obtain⟨hi',lt⟩:=tk hi
  by_cases e:i=j
  ·subst e
   rw[hy]at hi'
   cases hi'
   rcases o with o | o
   ·omega
   ·exact o rfl
  ·exact disj h.nd hi' hy e (h.bm _ (List.mem_of_getElem? hi')) hc
 have rest:∀y ∈ Us.drop s,∃j,s<=j/\Us[j]?=some y:=fun y hy=>by
  obtain⟨j,hj⟩:=List.mem_iff_getElem?.mp hy
  rw[List.getElem?_drop]at hj
  exact⟨s + j,Nat.le_add_right _ _,hj⟩
 have zm:∀ {i:Nat} {y:Uu} {c:Str},(Us.take s)[i]?=some y->c ∈ y.ms->c ∈ z.ms:=fun{i y c} hy hc=>pm.mem_iff.mpr (List.mem_flatten.mpr ⟨y.ms,List.mem_map.mpr ⟨y,List.mem_of_getElem? hy,rfl⟩,hc⟩)
 have blead:((Us.take s).map (·.b))[lead]?=some zl.b:=by rw[List.getElem?_map,hzl];rfl
 refine⟨⟨pf.nodup_iff.mpr h.nd,fun y hy=>?_,fun y hy=>?_,fun y hy c hc ne=>?_,M1.gd h.gd⟩,pf⟩
 ·rcases List.mem_append.mp hy with hy | hy
  ·exact h.bm y (List.mem_of_mem_drop hy)
  ·rw[List.mem_singleton.mp hy,zb]
   exact zm hzl (h.bm _ (List.mem_of_getElem? (tk hzl).1))
 ·rcases List.mem_append.mp hy with hy | hy
  ·obtain⟨j,sj,hj⟩:=rest y hy
   rw[M1.far (far2 hj (h.bm y (List.mem_of_getElem? hj)) (.inl sj))]
   exact h.bn y (List.mem_of_getElem? hj)
  ·rw[List.mem_singleton.mp hy,zb,M1.lead hs l1 bsn blead]
   exact h.bn _ (List.mem_of_getElem? (tk hzl).1)
 ·rcases List.mem_append.mp hy with hy | hy
  ·obtain⟨j,sj,hj⟩:=rest y hy
   obtain⟨t,ht,e⟩:=h.bi y (List.mem_of_getElem? hj) c hc ne
   exact⟨t,ht,by rw[M1.far (far2 hj hc (.inl sj))];exact e⟩
  ·rw[List.mem_singleton.mp hy]at hc ne ⊢
   obtain⟨l,hl,hc⟩:=List.mem_flatten.mp (pm.mem_iff.mp hc)
   obtain⟨y',hy',rfl⟩:=List.mem_map.mp hl
   obtain⟨i,hi⟩:=List.mem_iff_getElem?.mp hy'
   by_cases e:c=y'.b
   ·have il:i ≠ lead:=fun q=>by
     subst q
     rw[hzl]at hi
     cases hi
     exact ne (e.trans zb.symm)
    obtain⟨t,ht,v⟩:=M1.rest hs l1 (by rw[List.length_map];exact hR) (i:=i) (x:=c) (by rw[List.getElem?_map,hi,e];rfl) il
    obtain⟨k,y2,hk,rfl⟩:=bsm ht
    exact⟨y2.b,zm hk (h.bm _ (List.mem_of_getElem? (tk hk).1)),v⟩
   ·obtain⟨t,ht,v⟩:=h.bi y' (List.mem_of_getElem? (tk hi).1) c hc e
    exact⟨t,zm hi ht,by rw[M1.far (far2 (tk hi).1 hc (.inr e))];exact v⟩
end Kn
namespace Kn
open PySem PySem.Spec PyProof.Rows L2 Sw Gw
@[reducible] noncomputable def N__law_merged:List Str:=["_law_units_here","_law_mates","_law_cell","_law_size","_law_draws","_law_digits","_law_k","_law_at","_law_ring","_law_lead","_law_links","_law_j","_law_one","_law_other","_law_link","_law_unit","_law_handed","_law_own"]
noncomputable def b__law_merged:Sxs:=(.cons (.asg 3 (.blt .min (.cons (.idx (.lst (.cons (.con (.int 3)) (.cons (.con (.int 3)) (.cons (.con (.int 5)) (.cons (.con (.int 7)) .nil))))) (.bin .Mod (.var 2) (.con (.int 4)))) (.cons (.bin .Add (.bin .Sub (.blt .len (.cons (.var 0) .nil)) (.con (.int 1))) (.bin .Mod (.blt .len (.cons (.var 0) .nil)) (.con (.int 2)))) .nil))))
 (.cons (.asg 4 (.comp "_law_k" [("_law_cell",2)] (.rng1 (.con (.int 20))) (.call "_law_mix" (.cons (.var 1) (.cons (.bin .Add (.con (.int 20)) (.var 0)) .nil))) .nil))
 (.cons (.asg 5 (.bin .FloorDiv (.var 2) (.con (.int 8))))
 (.cons (.fr 6 (.rng1 (.con (.int 20))) (.cons (.iff (.cmp .Eq (.bin .Mod (.bin .FloorDiv (.var 2) (.con (.int 4))) (.con (.int 2))) (.con (.int 1))) (.cons (.sto (.var 4) (.var 6) (.var 5))
  .nil) .nil)
 (.cons (.asg 5 (.bin .FloorDiv (.var 5) (.con (.int 20))))
 .nil)))
 (.cons (.asg 7 (.bin .Mod (.idx (.var 4) (.con (.int 0))) (.blt .len (.cons (.var 0) .nil))))
 (.cons (.asg 0 (.bin .Add (.slc (.var 0) (.cons (.var 7) .nil) .nil) (.slc (.var 0) .nil (.cons (.var 7) .nil))))
 (.cons (.asg 8 (.slc (.var 0) .nil (.cons (.var 3) .nil)))
 (.cons (.asg 9 (.bin .Mod (.idx (.var 4) (.con (.int 1))) (.var 3)))
 (.cons (.asg 10 (.lst .nil))
 (.cons (.fr 11 (.rng1 (.var 3)) (.cons (.asg 12 (.idx (.var 8) (.var 11)))
 (.cons (.asg 13 (.idx (.var 8) (.bin .Mod (.bin .Add (.var 11) (.con (.int 1))) (.var 3))))
 (.cons (.iff (.cmp .Eq (.bin .Mod (.bin .Mod (.bin .Sub (.var 11) (.var 9)) (.var 3)) (.con (.int 2))) (.con (.int 1))) (.cons (.asg 14 (.tup (.cons (.idxD (.var 12) (.con (.str "base"))) (.cons (.idxD (.var 13) (.con (.str "base"))) .nil))))
  (.cons (.sto (.var 1) (.idx (.var 14) (.con (.int 0))) (.idx (.var 14) (.con (.int 1))))
  (.cons (.sto (.var 1) (.idx (.var 14) (.con (.int 1))) (.idx (.var 14) (.con (.int 0))))
  .nil))) (.cons (.asg 14 (.tup (.cons (.idx (.idxD (.var 12) (.con (.str "all"))) (.bin .Mod (.idx (.var 4) (.bin .Add (.con (.int 2)) (.var 11))) (.blt .len (.cons (.idxD (.var 12) (.con (.str "all"))) .nil)))) (.cons (.idx (.idxD (.var 13) (.con (.str "all"))) (.bin .Mod (.idx (.var 4) (.bin .Add (.con (.int 10)) (.var 11))) (.blt .len (.cons (.idxD (.var 13) (.con (.str "all"))) .nil)))) .nil))))
  .nil))
 (.cons (.exp (.mth .append (.var 10) (.cons (.var 14) .nil)))
 .nil)))))
 (.cons (.asg 15 (.dic (.cons (.con (.str "base")) (.cons (.idxD (.idx (.var 8) (.var 9)) (.con (.str "base"))) (.cons (.con (.str "all")) (.cons (.lst .nil) (.cons (.con (.str "links")) (.cons (.var 10) (.cons (.con (.str "ring")) (.cons (.comp "_law_one" [] (.ex (.var 8)) (.idxD (.var 0) (.con (.str "all"))) .nil) .nil))))))))))
 (.cons (.fr 12 (.ex (.var 8)) (.cons (.sto (.var 15) (.con (.str "all")) (.blt .sorted (.cons (.bin .Add (.idxD (.var 15) (.con (.str "all"))) (.idxD (.var 12) (.con (.str "all")))) .nil)))
 (.cons (.sto (.var 15) (.con (.str "links")) (.bin .Add (.idxD (.var 15) (.con (.str "links"))) (.idxD (.var 12) (.con (.str "links")))))
 .nil)))
 (.cons (.asg 16 (.comp "_law_one" [] (.ex (.var 8)) (.idxD (.var 0) (.con (.str "knot"))) .nil))
 (.cons (.asg 17 (.blt .list (.cons (.var 10) .nil)))
 (.cons (.sto (.var 15) (.con (.str "knot")) (.onew "Group" (.cons (.var 16) (.cons (.var 17) .nil))))
 (.cons (.exp (.mth .clear (.var 16) .nil))
 (.cons (.exp (.mth .clear (.var 17) .nil))
 (.cons (.ret (.bin .Add (.slc (.var 0) (.cons (.var 3) .nil) .nil) (.lst (.cons (.var 15) .nil))))
 .nil))))))))))))))))))
noncomputable def spMerged (M:Mo) (CS CG:Addr) (n:Nat):Sp:=fun vs H Q _=>∃w d c O kvs Us,vs=[.ref w,.ref d,.int c]/\H w=some (.lst (Us.map fun z=>V.ref z.u))/\(∀ z ∈ Us,UAt CS CG O n H z/\z.u ≠ d)/\(∀ a,O a->H a ≠ none/\a ≠ d)/\H d=some (.dK kvs)/\Side kvs Us/\(∀ z ∈ Us,LAt CS CG O (fun c=>valV kvs (.inr c)) (·∈ z.ps) n H z.p z.ms z.b)/\
 (3<=Us.length/\Us.length<=20/\(Us.map (·.ms)).flatten.length<=20/\kvs.length < 900/\(Us.map (·.xs)).flatten.length<=9000)/\
 ∀ (w':Addr) (H':Hp) (O':Addr->Prop) (kvs':List (Key × V)) (Us':List Uu),H' w'=some (.lst (Us'.map fun z=>V.ref z.u))->(∀ z ∈ Us',UAt CS CG O' (n + 1) H' z/\z.u ≠ d)->(∀ a,O' a->H' a ≠ none/\a ≠ d)->H' d=some (.dK kvs')->Side kvs' Us'->(∀ z ∈ Us',LAt CS CG O' (fun c=>valV kvs' (.inr c)) (·∈ z.ps) (n + 1) H' z.p z.ms z.b)->
  Us'.length < Us.length->Us' ≠ []->(Us'.map (·.ms)).flatten.Perm (Us.map (·.ms)).flatten->kvs'.length<=kvs.length + 14->(Us'.map (·.xs)).flatten.length<=(Us.map (·.xs)).flatten.length + 7->ExtB M d H H'->Q (.ref w') H'
theorem Side.turn {kvs:List (Key × V)} {Us Us1:List Uu} (h:Side kvs Us) (p:Us1.Perm Us):Side kvs Us1:=
 ⟨((p.map _).flatten).nodup_iff.mpr h.nd,fun z hz=>h.bm z (p.mem_iff.mp hz),fun z hz=>h.bn z (p.mem_iff.mp hz),fun z hz=>h.bi z (p.mem_iff.mp hz),h.gd⟩
theorem min_size (L:Nat) (h:3<=L) (i:Int) (hi:i=3\/i=5\/i=7):∃s:Nat,(if((L:Int) - 1 + (L:Int) % 2) < i then((L:Int) - 1 + (L:Int) % 2)else i)=(s:Int)/\(s=3\/s=5\/s=7)/\s<=L:=by
 by_cases q:((L:Int) - 1 + (L:Int) % 2) < i
 ·rw[if_pos q]
  exact⟨((L:Int) - 1 + (L:Int) % 2).toNat,by omega,by omega,by omega⟩
 ·rw[if_neg q]
  exact⟨i.toNat,by omega,by omega,by omega⟩
theorem ok_merged {M:Mo} {CS CG:Addr} {Γ:Gam} {n:Nat} (gm:Γ.mod=M) (gc:Γ.cm=true) (gx:Γ.has "_law_mix" =true/\Γ.fn "_law_mix" =spMixF) (go:Γ.ocl "Group" =some CG) (gi:Γ.oin "Group" =spGInit M CG) (vs:List V) (H:Hp) (Q:VK) (E:XK) (h:spMerged M CS CG n vs H Q E):spOf Γ N__law_merged 3 b__law_merged vs H Q E:=by
 obtain⟨w,d,c,O,kvs,Us,rfl,hw,hU,hO,hd,S,hL,⟨L3,L20,few,kl,fx⟩,q⟩:=h
 refine⟨rfl,?_⟩
 obtain rfl:=gm
 obtain⟨gx1,gx2⟩:=gx
 unfold b__law_merged
 refine seq ?_
 walk_at "s1"
 refine⟨gc,by rw[sizeLine_eq];decide,fun p np mp=>?_⟩
 rw[Sw.v_mod]
 refine⟨by decide,?_⟩
 have x1:Ext Γ.mod H (upd H p (.lst [.int 3,.int 3,.int 5,.int 7])):=Ext.upd np mp
 have hp:upd H p (.lst [.int 3,.int 3,.int 5,.int 7]) p=some (.lst [.int 3,.int 3,.int 5,.int 7]):=upd_same
 generalize upd H p (.lst [.int 3,.int 3,.int 5,.int 7])=H1 at x1 hp ⊢
 have i0:=Int.emod_nonneg c (show(4:Int) ≠ 0 by decide)
 have i1:=Int.emod_lt_of_pos c (show(0:Int) < 4 by decide)
 obtain⟨i,ei,hi⟩:∃i:Int,atI [V.int 3,.int 3,.int 5,.int 7] (c % 4)=some (.int i)/\(i=3\/i=5\/i=7):=by
  generalize c % 4=r at i0 i1
  obtain rfl | rfl | rfl | rfl:r=0\/r=1\/r=2\/r=3:=by omega
  ·exact⟨3,rfl,.inl rfl⟩
  ·exact⟨3,rfl,.inl rfl⟩
  ·exact⟨5,rfl,.inr (.inl rfl)⟩
  ·exact⟨7,rfl,.inr (.inr rfl)⟩
 refine ix_at (rd_of hp nofrz_l) ei ?_
 have hw1:=x1.same _ _ hw
 refine⟨gc,len_at (rd_of hw1 nofrz_l) ?_⟩
 rw[Sw.v_sub]
 refine⟨gc,len_at (rd_of hw1 nofrz_l) ?_⟩
 rw[Sw.v_mod]
 refine⟨by decide,?_⟩
 rw[Sw.v_add,List.length_map]
 unfold bltV
 dsimp only
 obtain⟨s,es,hs,sL⟩:=min_size Us.length L3 i hi
 rw[es]
 refine seq ?_
 walk_at "s1"
 refine⟨gc,by decide,by decide,fun D1 nD mD=>?_⟩
 refine comp_at (fun v=>match v with | .int j=>.int (mixF c (20 + j)) | v=>v) _ [] (fun v hv acc Q q=>?_) (fun _=>trivial) (by rw[sizeLine_eq];decide) ?_
 ·obtain⟨j,hj,rfl⟩:=List.mem_map.mp hv
  walk_at "s1"
  refine⟨⟨gc,gx1⟩,?_⟩
  rw[Sw.v_add,gx2]
  exact⟨_,_,rfl,q⟩
 have e20:∃ds:List Int,([]:List V)++List.map (fun v=>match v with | .int j=>V.int (mixF c (20 + j)) | v=>v) (List.map (fun i:Nat=>V.int i) (List.range (Int.toNat 20)))=ds.map V.int/\ds.length=20:=
  ⟨(List.range 20).map fun j:Nat=>mixF c (20 + j),by rw[List.nil_append,List.map_map,List.map_map];rfl,by rw[List.length_map,List.length_range]⟩
 obtain⟨ds,e20,d20⟩:=e20
 rw[e20]
 have x2:Ext Γ.mod H (upd H1 D1 (.lst (ds.map V.int))):=x1.trans (Ext.upd nD mD)
 have hD2:upd H1 D1 (.lst (ds.map V.int)) D1=some (.lst (ds.map V.int)):=upd_same
 generalize upd H1 D1 (.lst (ds.map V.int))=H2 at x2 hD2 ⊢
 have nD0:H D1=none:=by
  cases e:H D1 with
  | none=>rfl
  | some u=>rw[x1.same _ _ e]at nD;cases nD
 refine seq ?_
 walk_at "s1"
 rw[Sw.v_div]
 refine⟨by decide,by decide,?_⟩
 refine seq ?_
 walk_at "s1"
 refine⟨gc,by decide,by decide,?_⟩
 refine for_inv (fun k σ Hn=>∃ (g:Int) (v6:Option V) (ds:List Int),σ=[some (.ref w),some (.ref d),some (.int c),some (.int s),some (.ref D1),some (.int g),v6,none,none,none,none,none,none,none,none,none,none,none]/\Ext Γ.mod H Hn/\Hn D1=some (.lst (ds.map V.int))/\ds.length=20) (fun _ _ _ _=>trivial) ?_ ?_ ⟨_,none,ds,rfl,x2,hD2,d20⟩
 ·rintro k v σ Hn D' hv ⟨g,v6,ds,rfl,x3,h3,d3⟩ nx _ _ _
  rw[List.getElem?_map]at hv
  obtain⟨k',hk,rfl⟩:=Option.map_eq_some_iff.mp hv
  obtain⟨hk1,hk2⟩:=List.getElem?_eq_some_iff.mp hk
  rw[List.getElem_range]at hk2
  subst hk2
  rw[List.length_range,show Int.toNat 20=20 from rfl]at hk1
  have last:∀ (Hn:Hp) (ds:List Int),Ext Γ.mod H Hn->Hn D1=some (.lst (ds.map V.int))->ds.length=20->wSs (.cons (.asg 5 (.bin .FloorDiv (.var 5) (.con (.int 20)))) .nil) Γ X0 D' [some (.ref w),some (.ref d),some (.int c),some (.int s),some (.ref D1),some (.int g),some (.int k),none,none,none,none,none,none,none,none,none,none,none] Hn:=fun Hn ds x3 h3 d3=>by
   refine seq ?_
   walk_at "s1"
   rw[Sw.v_div]
   exact⟨by decide,by decide,seq0 (nx _ _ ⟨_,_,ds,rfl,x3,h3,d3⟩)⟩
  refine seq ?_
  walk_at "s1"
  rw[Sw.v_div]
  refine⟨by decide,by decide,?_⟩
  rw[Sw.v_mod]
  refine⟨by decide,?_⟩
  rw[Sw.v_eqi]
  refine⟨_,rfl,?_⟩
  by_cases o:c / 4 % 2=1
  ·rw[if_pos (decide_eq_true o)]
   refine seq ?_
   walk_at "s1"
   unfold stoV
   dsimp only
   rw[h3]
   dsimp only
   have ex:ixN (ds.map V.int).length (k:Int)=some k:=by
    unfold ixN
    rw[if_pos (Int.natCast_nonneg _),if_pos (by rw[List.length_map,d3];omega),Int.toNat_natCast]
   rw[ex]
   refine seq0 (last _ (ds.set k g) (x3.over nD0 mD) ?_ (by rw[List.length_set];exact d3))
   rw[upd_same,List.map_set]
  ·rw[if_neg (by rw[decide_eq_false o];decide)]
   exact seq0 (last _ ds x3 h3 d3)
 ·rintro σ Hn ⟨g,v6,ds,rfl,x3,h3,d3⟩
  clear e20 d20 hD2
  have dix:∀ {Hn:Hp} (i:Int) {Q:VK},Hn D1=some (.lst (ds.map V.int))->0<=i->i < 20->(∀ n,Q (.int n) Hn)->idxV Γ.mod (.ref D1) (.int i) Hn Q:=fun{Hn} i Q h3 i0 i1 q=>by
   obtain⟨v,e,hv⟩:=atI_at (xs:=ds.map V.int) i0 (by rw[List.length_map,d3];exact_mod_cast i1)
   obtain⟨n,_,rfl⟩:=List.mem_map.mp hv
   exact ix_at (rd_of h3 nofrz_l) e (q n)
  have hw3:=x3.same _ _ hw
  refine seq ?_
  walk_at "s1"
  refine dix 0 h3 (by decide) (by decide) fun d0=>?_
  refine⟨gc,len_at (rd_of hw3 nofrz_l) ?_⟩
  rw[Sw.v_mod,List.length_map]
  refine⟨by omega,?_⟩
  have t0:=Int.emod_nonneg d0 (show((Us.length:Int)) ≠ 0 by omega)
  have t1:=Int.emod_lt_of_pos d0 (show(0:Int) < Us.length by omega)
  obtain⟨t,et⟩:∃t:Nat,d0 % (Us.length:Int)=t:=⟨(d0 % (Us.length:Int)).toNat,by omega⟩
  rw[et]at t1 ⊢
  refine seq ?_
  walk_at "s1"
  rw[Sw.s_ref,rd_of hw3 nofrz_l]
  dsimp only
  intro q1 nq1 mq1
  rw[cut_from]
  have y1:=Ext.upd (M:=Γ.mod) (o:=.lst ((Us.map fun z=>V.ref z.u).drop t)) nq1 mq1
  have hq1:upd Hn q1 (.lst ((Us.map fun z=>V.ref z.u).drop t)) q1=some (.lst ((Us.map fun z=>V.ref z.u).drop t)):=upd_same
  generalize upd Hn q1 (.lst ((Us.map fun z=>V.ref z.u).drop t))=H4 at y1 hq1 ⊢
  rw[Sw.s_ref,rd_of (y1.same _ _ hw3) nofrz_l]
  dsimp only
  intro q2 nq2 mq2
  rw[cut_to]
  have y2:=y1.trans (Ext.upd (o:=.lst ((Us.map fun z=>V.ref z.u).take t)) nq2 mq2)
  have hq2:upd H4 q2 (.lst ((Us.map fun z=>V.ref z.u).take t)) q2=some (.lst ((Us.map fun z=>V.ref z.u).take t)):=upd_same
  have hq1':upd H4 q2 (.lst ((Us.map fun z=>V.ref z.u).take t)) q1=some (.lst ((Us.map fun z=>V.ref z.u).drop t)):=by rw[upd_ne (ne_of_none hq1 nq2)];exact hq1
  generalize upd H4 q2 (.lst ((Us.map fun z=>V.ref z.u).take t))=H5 at y2 hq2 hq1' ⊢
  refine cat_at hq1' hq2 (by rw[List.length_drop,List.length_take,List.length_map,sizeLine_eq];omega) fun w1 nw1 mw1=>?_
  have ew:(Us.map fun z=>V.ref z.u).drop t++(Us.map fun z=>V.ref z.u).take t=(Us.drop t++Us.take t).map fun z=>V.ref z.u:=by rw[List.map_append,List.map_drop,List.map_take]
  rw[ew]
  have pU:(Us.drop t++Us.take t).Perm Us:=List.perm_append_comm.trans (List.Perm.of_eq (List.take_append_drop t Us))
  generalize Us.drop t++Us.take t=Us1 at pU ⊢
  have y3:=y2.trans (Ext.upd (o:=.lst (Us1.map fun z=>V.ref z.u)) nw1 mw1)
  have hw1':upd H5 w1 (.lst (Us1.map fun z=>V.ref z.u)) w1=some (.lst (Us1.map fun z=>V.ref z.u)):=upd_same
  generalize upd H5 w1 (.lst (Us1.map fun z=>V.ref z.u))=H6 at y3 hw1' ⊢
  refine seq ?_
  walk_at "s1"
  rw[Sw.s_ref,rd_of hw1' nofrz_l]
  dsimp only
  intro rg nrg mrg
  rw[cut_to,<-List.map_take]
  have y4:=y3.trans (Ext.upd (o:=.lst ((Us1.take s).map fun z=>V.ref z.u)) nrg mrg)
  have hrg:upd H6 rg (.lst ((Us1.take s).map fun z=>V.ref z.u)) rg=some (.lst ((Us1.take s).map fun z=>V.ref z.u)):=upd_same
  have hw7:upd H6 rg (.lst ((Us1.take s).map fun z=>V.ref z.u)) w1=some (.lst (Us1.map fun z=>V.ref z.u)):=by rw[upd_ne (ne_of_none hw1' nrg)];exact hw1'
  generalize upd H6 rg (.lst ((Us1.take s).map fun z=>V.ref z.u))=H7 at y4 hrg hw7 ⊢
  have x7:=x3.trans y4
  have h7D:=y4.same _ _ h3
  refine seq ?_
  walk_at "s1"
  refine dix 1 h7D (by decide) (by decide) fun d1=>?_
  rw[Sw.v_mod]
  refine⟨by omega,?_⟩
  have u0:=Int.emod_nonneg d1 (show(s:Int) ≠ 0 by omega)
  have u1:=Int.emod_lt_of_pos d1 (show(0:Int) < s by omega)
  obtain⟨lead,el⟩:∃t:Nat,d1 % (s:Int)=t:=⟨(d1 % (s:Int)).toNat,by omega⟩
  rw[el]at u1 ⊢
  refine seq ?_
  walk_at "s1"
  refine⟨by rw[sizeLine_eq];decide,fun lk nlk mlk=>?_⟩
  refine seq ?_
  walk_at "s1"
  refine⟨gc,by omega,by omega,?_⟩
  have l1:=pU.length_eq
  have hR:(Us1.take s).length=s:=by rw[List.length_take];omega
  have S1:=S.turn pU
  have m1:∀z ∈ Us1,UAt CS CG O n H7 z/\z.u ≠ d:=fun z hz=>⟨(hU z (pU.mem_iff.mp hz)).1.ext (fun a h=>(hO a h).1) x7,(hU z (pU.mem_iff.mp hz)).2⟩
  have hd7:=x7.same _ _ hd
  have hO7:∀a,O a->H7 a ≠ none/\a ≠ d:=fun a h=>⟨x7.there (fun a h=>(hO a h).1) a h,(hO a h).2⟩
  have f1:((Us1.take s).map (·.ms)).flatten.length<=20:=Nat.le_trans (flat_le s) (by rw[((pU.map (·.ms)).flatten).length_eq];exact few)
  have f2:((Us1.take s).map (·.xs)).flatten.length<=9000:=Nat.le_trans (flat_le s) (by rw[((pU.map (·.xs)).flatten).length_eq];exact fx)
  have A:RingAt H7 d rg D1 (Us1.take s) ds:=⟨hrg,h7D,d3,fun z hz=>⟨(m1 z (List.mem_of_mem_take hz)).2,(m1 z (List.mem_of_mem_take hz)).1.d⟩,fun z hz=>⟨(m1 z (List.mem_of_mem_take hz)).1.a,S1.bm z (List.mem_of_mem_take hz)⟩⟩
  refine links_loop gc A hd7 nlk mlk kl hR hs (by omega) (S1.bs s) fun v11 v12 v13 v14 H8 xs ps kvs' x8 h8k lx lv lf d8 M8=>?_
  have hw8:=x8.same _ _ (fun e=>by rw[e,hd7]at hw7;cases hw7) hw7
  have hrg8:=x8.same _ _ (fun e=>by rw[e,hd7]at hrg;cases hrg) hrg
  obtain⟨zl,hzl⟩:∃z,(Us1.take s)[lead]?=some z:=⟨_,List.getElem?_eq_getElem (by omega)⟩
  have m8:∀z ∈ Us1,UAt CS CG O n H8 z:=fun z hz=>(m1 z hz).1.b (m1 z hz).2 hO7 hd7 x8
  have hO8:∀a,O a->H8 a ≠ none/\a ≠ d:=fun a h=>⟨fun e=>(by
   cases e7:H7 a with
   | none=>exact(hO7 a h).1 e7
   | some ob=>(rw[x8.same _ _ (hO7 a h).2 e7]at e;cases e)),(hO7 a h).2⟩
  have ndR:((Us1.take s).map (·.ms)).flatten.Nodup:=by
   have e:(Us1.map (·.ms)).flatten=((Us1.take s).map (·.ms)).flatten++((Us1.drop s).map (·.ms)).flatten:=by rw[<-List.flatten_append,<-List.map_append,List.take_append_drop]
   have nn:=S1.nd
   rw[e]at nn
   exact(List.nodup_append.mp nn).1
  have lat:∀z ∈ Us1,LAt CS CG O (fun c=>valV kvs' (.inr c)) (·∈ z.ps) n H8 z.p z.ms z.b:=fun z hz=>((hL z (pU.mem_iff.mp hz)).ext (fun a h=>(hO a h).1) x7).b hO7 hd7 x8 (side_keep S1 M8 hz)
  refine tail_ok gc go gi hw8 hrg8 h8k lx lv lf hs (by omega) lat (fun i x y hi o h1 h2=>M8.A i hi o x y h1 h2) (by omega) (by omega) (by omega) (by omega) hzl m8 hO8 d8 ndR f1 f2 fun w' H' z O' hw' xF Uz Lz oo hO' uz pm zb zx=>?_
  obtain⟨S',pf⟩:=side_next S1 M8 hs (by omega) (by omega) hzl pm zb
  have xF':ExtB Γ.mod d H H':=(x7.b.trans x8).trans xF.b
  refine q w' H' O' kvs' (Us1.drop s++[z]) hw' (fun y hy=>?_) hO' (xF.same _ _ d8) S' (fun y hy=>?_) (by rw[List.length_append,List.length_drop,List.length_singleton];omega) (by simp) (pf.trans (pU.map _).flatten) (by have:=M8.len;omega) ?_ xF'
  ·rcases List.mem_append.mp hy with hy | hy
   ·have hm:=List.mem_of_mem_drop hy
    exact⟨(m8 y hm).up (fun a h=>(hO8 a h).1) oo xF,(m1 y hm).2⟩
   ·rw[List.mem_singleton.mp hy]
    exact⟨Uz,uz⟩
  ·rcases List.mem_append.mp hy with hy | hy
   ·exact(lat y (List.mem_of_mem_drop hy)).grow (fun a h=>(hO8 a h).1) oo xF
   ·rw[List.mem_singleton.mp hy]
    exact Lz
  ·have e:(Us1.map (·.xs)).flatten.length=((Us1.take s).map (·.xs)).flatten.length + ((Us1.drop s).map (·.xs)).flatten.length:=by rw[<-List.length_append,<-List.flatten_append,<-List.map_append,List.take_append_drop]
   rw[((pU.map (·.xs)).flatten).length_eq]at e
   rw[List.map_append,List.flatten_append,List.length_append]
   simp only[List.map_cons,List.map_nil,List.flatten_cons,List.flatten_nil,List.append_nil,zx,List.length_append,lx]
   omega
end Kn
namespace Kn
open PySem PySem.Spec PyProof.Rows L2 Sw Gw
@[reducible] noncomputable def N__law_units:List Str:=["_law_script","_law_names_here","_law_mates","_law_units_here","_law_name","_law_cell"]
noncomputable def b__law_units:Sxs:=(.cons (.asg 3 (.lst .nil))
 (.cons (.fr 4 (.ex (.var 1)) (.cons (.exp (.mth .append (.var 3) (.cons (.dic (.cons (.con (.str "knot")) (.cons (.onew "Single" (.cons (.var 4) .nil)) (.cons (.con (.str "base")) (.cons (.var 4) (.cons (.con (.str "all")) (.cons (.lst (.cons (.var 4) .nil)) (.cons (.con (.str "links")) (.cons (.lst .nil) (.cons (.con (.str "ring")) (.cons (.lst .nil) .nil))))))))))) .nil)))
 .nil))
 (.cons (.fr 5 (.ex (.slc (.var 0) (.cons (.con (.int 2)) .nil) (.cons (.con (.int 12)) .nil))) (.cons (.iff (.cmp .Gt (.blt .len (.cons (.var 3) .nil)) (.con (.int 2))) (.cons (.asg 3 (.call "_law_merged" (.cons (.var 3) (.cons (.var 2) (.cons (.var 5) .nil)))))
  .nil) .nil)
 .nil))
 (.cons (.ret (.var 3))
 .nil))))
structure US (CS CG:Addr) (O:Addr->Prop) (n:Nat) (H:Hp) (d w:Addr) (kvs:List (Key × V)) (Us:List Uu):Prop where
 w:H w=some (.lst (Us.map fun z=>V.ref z.u))
 at_:∀z ∈ Us,UAt CS CG O n H z/\z.u ≠ d
 hO:∀a,O a->H a ≠ none/\a ≠ d
 d:H d=some (.dK kvs)
 s:Side kvs Us
 led:∀z ∈ Us,LAt CS CG O (fun c=>valV kvs (.inr c)) (·∈ z.ps) n H z.p z.ms z.b
 ne:Us ≠ []
 l:Us.length<=20
theorem flat_one:∀ {Us:List Uu},(∀ z ∈ Us,z.ms=[z.b])->(Us.map (·.ms)).flatten=Us.map (·.b)
 | [],_=>rfl
 | z::r,h=>by
  rw[List.map_cons,List.flatten_cons,flat_one fun y hy=>h y (List.mem_cons_of_mem _ hy),h z List.mem_cons_self]
  rfl
theorem flat_none:∀ {Us:List Uu},(∀ z ∈ Us,z.xs=[])->(Us.map (·.xs)).flatten=[]
 | [],_=>rfl
 | z::r,h=>by rw[List.map_cons,List.flatten_cons,flat_none fun y hy=>h y (List.mem_cons_of_mem _ hy),h z List.mem_cons_self];rfl
theorem cut_in {xs:List V} {lo hi:Option Int} {v:V} (h:v ∈ cutV xs lo hi):v ∈ xs:=by
 unfold cutV at h
 exact List.mem_of_mem_drop (List.mem_of_mem_take h)
theorem cut_ten (xs:List V):(cutV xs (some 2) (some 12)).length<=10:=by
 unfold cutV
 rw[List.length_take,List.length_drop,show(some (2:Int))=some ((2:Nat):Int)from rfl,show(some (12:Int))=some ((12:Nat):Int)from rfl,HT.sIx_nat,HT.sIx_nat]
 omega
noncomputable def spMg (M:Mo) (CS CG:Addr):Sp:=fun vs H Q E=>∃n,spMerged M CS CG n vs H Q E
noncomputable def spUnits (M:Mo) (CS CG:Addr):Sp:=fun vs H Q _=>∃sc nm d ns,∃is:List Int,vs=[.ref sc,.ref nm,.ref d]/\rd M H sc=some (.lst (is.map V.int))/\H nm=some (.lst (ns.map V.str))/\H d=some (.dK [])/\ns.Nodup/\ns ≠ []/\ns.length<=20/\
 ∀w' H' O' kvs' Us' n,US CS CG O' n H' d w' kvs' Us'->n<=10->kvs'.length<=140->(Us'.map (·.ms)).flatten.Perm ns->ExtB M d H H'->Q (.ref w') H'
theorem ok_units {M:Mo} {CS CG:Addr} {Γ:Gam} (gm:Γ.mod=M) (gc:Γ.cm=true) (gg:Γ.has "_law_merged" =true/\Γ.fn "_law_merged" =spMg M CS CG) (go:Γ.ocl "Single" =some CS) (gi:Γ.oin "Single" =spSInit CS) (vs:List V) (H:Hp) (Q:VK) (E:XK) (h:spUnits M CS CG vs H Q E):spOf Γ N__law_units 3 b__law_units vs H Q E:=by
 obtain⟨sc,nm,d,ns,is,rfl,hsc,hnm,hd,nd,ne,nl,q⟩:=h
 refine⟨rfl,?_⟩
 obtain rfl:=gm
 obtain⟨gg1,gg2⟩:=gg
 unfold b__law_units
 refine seq ?_
 walk_at "s1"
 refine⟨by rw[sizeLine_eq];decide,fun w nw mw=>?_⟩
 have x0:Ext Γ.mod H (upd H w (.lst [])):=Ext.upd nw mw
 refine seq ?_
 walk_at "s1"
 refine⟨gc,?_⟩
 unfold iterV
 dsimp only
 rw[rd_of (x0.same _ _ hnm) nofrz_l]
 dsimp only
 refine for_inv (fun i σ Hn=>∃ (v4:Option V) (Us:List Uu),σ=[some (.ref sc),some (.ref nm),some (.ref d),some (.ref w),v4,none]/\Ext Γ.mod H Hn/\Hn w=some (.lst (Us.map fun z=>V.ref z.u))/\(∀ z ∈ Us,UAt CS CG (fun a=>∃z ∈ Us,a=z.p) 0 Hn z/\z.u ≠ d)/\(∀ z ∈ Us,z.ms=[z.b]/\z.xs=[]/\z.p ≠ d/\z.mss=[]/\z.ps=[])/\Us.map (·.b)=ns.take i) (fun i σ Hn z=>?_) ?_ ?_ ⟨none,[],rfl,x0,upd_same,(fun z hz=>by cases hz),(fun z hz=>by cases hz),rfl⟩
 ·obtain⟨_,_,_,x,_⟩:=z
  exact rd_of (x.same _ _ hnm) nofrz_l
 ·rintro i v σ Hn D' hv ⟨v4,Us,rfl,x1,h1,A1,B1,e1⟩ nx _ _ _
  rw[List.getElem?_map]at hv
  obtain⟨c,hc,rfl⟩:=Option.map_eq_some_iff.mp hv
  refine seq ?_
  walk_at "s1"
  refine⟨mty_l h1,fun u nu mu=>⟨⟨gc,by rw[go];rfl⟩,?_⟩⟩
  unfold onewV
  rw[go]
  dsimp only
  intro p dx np ndx dxp mp mdx
  rw[gi]
  refine⟨p,c,dx,rfl,upd_same,rfl,?_⟩
  rw[upd_upd]
  have pdx:p ≠ dx:=Ne.symm dxp
  have x2:Ext Γ.mod Hn (upd (upd (upd Hn u (.dK [])) dx (.own p)) p (.ins CS dx [("couple",.str c)])):=((Ext.upd nu mu).trans (Ext.upd ndx mdx)).trans (Ext.upd (by rw[upd_ne pdx];exact np) mp)
  have up:u ≠ p:=ne_of_none upd_same np
  have hu2:upd (upd (upd Hn u (.dK [])) dx (.own p)) p (.ins CS dx [("couple",.str c)]) u=some (.dK []):=by rw[upd_ne up,upd_ne (ne_of_none upd_same ndx),upd_same]
  have hp2:upd (upd (upd Hn u (.dK [])) dx (.own p)) p (.ins CS dx [("couple",.str c)]) p=some (.ins CS dx [("couple",.str c)]):=upd_same
  generalize upd (upd (upd Hn u (.dK [])) dx (.own p)) p (.ins CS dx [("couple",.str c)])=H2 at x2 hu2 hp2 ⊢
  refine⟨by rw[sizeLine_eq];decide,fun a na ma=>?_⟩
  have x3:=x2.trans (Ext.upd (o:=.lst [.str c]) na ma)
  have y3:=Ext.upd (M:=Γ.mod) (o:=.lst [.str c]) na ma
  have ha3:upd H2 a (.lst [.str c]) a=some (.lst [.str c]):=upd_same
  generalize upd H2 a (.lst [.str c])=H3 at x3 y3 ha3 ⊢
  refine⟨by rw[sizeLine_eq];decide,fun lk nlk mlk=>?_⟩
  have y4:=Ext.upd (M:=Γ.mod) (o:=.lst []) nlk mlk
  have hl4:upd H3 lk (.lst []) lk=some (.lst []):=upd_same
  generalize upd H3 lk (.lst [])=H4 at y4 hl4 ⊢
  refine⟨by rw[sizeLine_eq];decide,fun rg nrg mrg=>?_⟩
  have y5:=Ext.upd (M:=Γ.mod) (o:=.lst []) nrg mrg
  have hr5:upd H4 rg (.lst []) rg=some (.lst []):=upd_same
  generalize upd H4 rg (.lst [])=H5 at y5 hr5 ⊢
  have x5:=(x3.trans y4).trans y5
  have hu5:=y5.same _ _ (y4.same _ _ (y3.same _ _ hu2))
  have hp5:=y5.same _ _ (y4.same _ _ (y3.same _ _ hp2))
  have ha5:=y5.same _ _ (y4.same _ _ ha3)
  have hl5:=y5.same _ _ hl4
  refine⟨hu5,by decide,?_⟩
  have ek:mergeK [] [(Sum.inr ("knot" :Str),V.ref p),(Sum.inr "base",.str c),(Sum.inr "all",.ref a),(Sum.inr "links",.ref lk),(Sum.inr "ring",.ref rg)]=[(Sum.inr ("knot" :Str),V.ref p),(Sum.inr "base",.str c),(Sum.inr "all",.ref a),(Sum.inr "links",.ref lk),(Sum.inr "ring",.ref rg)]:=rfl
  rw[ek]
  have x6:Ext Γ.mod Hn (upd H5 u (.dK [(Sum.inr ("knot" :Str),V.ref p),(Sum.inr "base",.str c),(Sum.inr "all",.ref a),(Sum.inr "links",.ref lk),(Sum.inr "ring",.ref rg)])):=x5.over nu mu
  have nul:∀ {b:Addr} {ys:List V},H5 b=some (.lst ys)->b ≠ u:=fun e z=>by rw[z,hu5]at e;cases e
  have hp6:upd H5 u (.dK [(Sum.inr ("knot" :Str),V.ref p),(Sum.inr "base",.str c),(Sum.inr "all",.ref a),(Sum.inr "links",.ref lk),(Sum.inr "ring",.ref rg)]) p=_:=(upd_ne (Ne.symm up)).trans hp5
  have ha6:upd H5 u (.dK [(Sum.inr ("knot" :Str),V.ref p),(Sum.inr "base",.str c),(Sum.inr "all",.ref a),(Sum.inr "links",.ref lk),(Sum.inr "ring",.ref rg)]) a=_:=(upd_ne (nul ha5)).trans ha5
  have hl6:upd H5 u (.dK [(Sum.inr ("knot" :Str),V.ref p),(Sum.inr "base",.str c),(Sum.inr "all",.ref a),(Sum.inr "links",.ref lk),(Sum.inr "ring",.ref rg)]) lk=_:=(upd_ne (nul hl5)).trans hl5
  have hr6:upd H5 u (.dK [(Sum.inr ("knot" :Str),V.ref p),(Sum.inr "base",.str c),(Sum.inr "all",.ref a),(Sum.inr "links",.ref lk),(Sum.inr "ring",.ref rg)]) rg=_:=(upd_ne (nul hr5)).trans hr5
  have hu6:upd H5 u (.dK [(Sum.inr ("knot" :Str),V.ref p),(Sum.inr "base",.str c),(Sum.inr "all",.ref a),(Sum.inr "links",.ref lk),(Sum.inr "ring",.ref rg)]) u=_:=upd_same
  generalize upd H5 u (.dK [(Sum.inr ("knot" :Str),V.ref p),(Sum.inr "base",.str c),(Sum.inr "all",.ref a),(Sum.inr "links",.ref lk),(Sum.inr "ring",.ref rg)])=H6 at x6 hp6 ha6 hl6 hr6 hu6
  have hw6:=x6.same _ _ h1
  have lenU:Us.length=i:=by
   have:=congrArg List.length e1
   rw[List.length_map,List.length_take]at this
   have:=(List.getElem?_eq_some_iff.mp hc).1
   omega
  have li:=(List.getElem?_eq_some_iff.mp hc).1
  rw[Sw.m_append,hw6]
  refine⟨by rw[List.length_map,sizeLine_eq];omega,seq0 (nx _ _ ⟨_,Us++[⟨u,p,a,lk,rg,c,[c],[],[],[],[]⟩],rfl,(x1.trans x6).over nw mw,?_,fun z hz=>?_,fun z hz=>?_,?_⟩)⟩
  ·rw[upd_same,List.map_append]
   rfl
  ·have nwl:∀ {b:Addr},H2 b=none->b ≠ w:=fun{b} e z=>by rw[z,x2.same _ _ h1]at e;cases e
   have hdn:=x1.same _ _ hd
   rcases List.mem_append.mp hz with hz | hz
   ·obtain⟨Uz,ud⟩:=A1 z hz
    obtain⟨z1,z2,z3,z4,z5⟩:=B1 z hz
    have une:Us ≠ []:=fun e=>by rw[e]at hz;cases hz
    have r0:z.ras=[]:=List.length_eq_zero_iff.mp (by rw[Uz.rs.1,z4];rfl)
    have wn:∀ {b:Addr},Hn b=some (.lst [])->b ≠ w:=fun e q=>by
     rw[q,h1]at e
     injection e with e
     injection e with e
     exact une (List.map_eq_nil_iff.mp e)
    obtain⟨du,e1,U⟩:=Uz.d
    have k1:KOne CS (fun a=>∃z ∈ Us,a=z.p) Hn z.p z.ms:=by
     rcases Uz.k with ⟨k,_⟩ | ⟨_,k⟩
     ·exact k
     ·exact absurd z4 k
    obtain⟨_,dz,cz,kz,ez⟩:=k1
    have aw:z.a ≠ w:=fun q=>by
     have e:=Uz.a
     rw[q,h1,z1]at e
     injection e with e
     injection e with e
     cases Us with
     | nil=>cases hz
     | cons y r=>rw[List.map_cons]at e;injection e with e _;cases e
    have hlk:=Uz.lk
    rw[z2]at hlk
    have hrg:=Uz.rg
    rw[r0]at hrg
    refine⟨⟨⟨du,?_,U⟩,?_,?_,(by rw[z2,z5];exact⟨rfl,fun i x P h1 h2=>by simp at h1⟩),?_,⟨Uz.rs.1,fun i q m h _=>by rw[r0]at h;simp at h⟩,.inl ⟨⟨⟨z,List.mem_append_left _ hz,rfl⟩,dz,cz,?_,ez⟩,z4,z1⟩,Uz.fw⟩,ud⟩
    ·rw[upd_ne (fun q=>by rw[q,h1]at e1;cases e1)];exact x6.same _ _ e1
    ·rw[upd_ne aw];exact x6.same _ _ Uz.a
    ·rw[z2,upd_ne (wn hlk)];exact x6.same _ _ hlk
    ·rw[r0,upd_ne (wn hrg)];exact x6.same _ _ hrg
    ·rw[upd_ne (fun q=>by rw[q,h1]at kz;cases kz)];exact x6.same _ _ kz
   ·rw[List.mem_singleton.mp hz]
    have w2:=x2.same _ _ h1
    have w3:=x3.same _ _ h1
    have w4:=y4.same _ _ w3
    refine⟨⟨⟨_,by rw[upd_ne (Ne.symm (ne_of_none h1 nu))];exact hu6,?_⟩,by rw[upd_ne (Ne.symm (ne_of_none w2 na))];exact ha6,by rw[upd_ne (Ne.symm (ne_of_none w3 nlk))];exact hl6,⟨rfl,fun i x P h1 h2=>by simp at h1⟩,(by rw[upd_ne (Ne.symm (ne_of_none w4 nrg))];exact hr6),⟨rfl,fun i q m h _=>by simp at h⟩,.inl ⟨⟨⟨_,List.mem_append_right _ (List.mem_singleton.mpr rfl),rfl⟩,dx,c,?_,rfl⟩,rfl,rfl⟩,Nat.zero_le _⟩,fun e=>by have e:u=d:=e;rw[e,hdn]at nu;cases nu⟩
    ·refine⟨by rw[valV_pos rfl],?_,?_,?_,?_⟩
     ·rw[valV_neg (kne (by decide)),valV_pos rfl]
     ·rw[valV_neg (kne (by decide)),valV_neg (kne (by decide)),valV_pos rfl]
     ·rw[valV_neg (kne (by decide)),valV_neg (kne (by decide)),valV_neg (kne (by decide)),valV_pos rfl]
     ·rw[valV_neg (kne (by decide)),valV_neg (kne (by decide)),valV_neg (kne (by decide)),valV_neg (kne (by decide)),valV_pos rfl]
    ·rw[upd_ne (fun q=>by have q:p=w:=q;rw[q,hw6]at hp6;cases hp6)];exact hp6
  ·rcases List.mem_append.mp hz with hz | hz
   ·exact B1 z hz
   ·rw[List.mem_singleton.mp hz]
    exact⟨rfl,rfl,(fun e=>by have e:p=d:=e;rw[e,upd_ne (ne_of_none (x1.same _ _ hd) nu),x1.same _ _ hd]at np;cases np),rfl,rfl⟩
  ·rw[List.map_append,e1,List.take_succ,hc]
   rfl
 ·rintro σ Hn ⟨v4,Us,rfl,x1,h1,A1,B1,e1⟩
  rw[List.length_map,List.take_length]at e1
  have fo:=flat_one fun z hz=>(B1 z hz).1
  have U0:US CS CG (fun a=>∃z ∈ Us,a=z.p) 0 Hn d w [] Us:=by
   refine⟨h1,A1,?_,x1.same _ _ hd,⟨by rw[fo,e1];exact nd,fun z hz=>by rw[(B1 z hz).1];exact List.mem_singleton.mpr rfl,fun _ _=>rfl,(fun z hz c hc n=>?_),fun e he=>by cases he⟩,fun z hz=>?_,fun e=>?_,?_⟩
   ·rintro a ⟨z,hz,rfl⟩
    refine⟨?_,(B1 z hz).2.2.1⟩
    rcases(A1 z hz).1.k with ⟨⟨_,dz,cz,kz,_⟩,_⟩ | ⟨_,k⟩
    ·rw[kz];intro z;cases z
    ·exact absurd (B1 z hz).2.2.2.1 k
   ·rw[(B1 z hz).1]at hc
    exact absurd (List.mem_singleton.mp hc) n
   ·rcases(A1 z hz).1.k with ⟨k,_,h⟩ | ⟨_,k⟩
    ·exact LOne.at ⟨k,h⟩
    ·exact absurd (B1 z hz).2.2.2.1 k
   ·rw[e]at e1
    exact ne e1.symm
   ·have:=congrArg List.length e1
    rw[List.length_map]at this
    omega
  have xs0:=flat_none fun z hz=>(B1 z hz).2.1
  rw[<-e1,<-fo]at q
  clear A1 B1
  generalize (fun a=>∃z ∈ Us,a=z.p)=O0 at U0
  refine seq ?_
  walk_at "s1"
  refine⟨gc,?_⟩
  rw[Sw.s_ref,x1.rd hsc]
  dsimp only
  intro l nl' ml
  have y1:Ext Γ.mod Hn (upd Hn l (.lst (cutV (is.map V.int) (some 2) (some 12)))):=Ext.upd nl' ml
  have hl:upd Hn l (.lst (cutV (is.map V.int) (some 2) (some 12))) l=some (.lst (cutV (is.map V.int) (some 2) (some 12))):=upd_same
  generalize upd Hn l (.lst (cutV (is.map V.int) (some 2) (some 12)))=Hs at y1 hl ⊢
  have U1:US CS CG O0 0 Hs d w [] Us:=⟨y1.same _ _ U0.w,fun z hz=>⟨(U0.at_ z hz).1.ext (fun a h=>(U0.hO a h).1) y1,(U0.at_ z hz).2⟩,fun a h=>⟨y1.there (fun a h=>(U0.hO a h).1) a h,(U0.hO a h).2⟩,y1.same _ _ U0.d,U0.s,fun z hz=>(U0.led z hz).ext (fun a h=>(U0.hO a h).1) y1,U0.ne,U0.l⟩
  have ld:l ≠ d:=fun e=>by rw[e,U1.d]at hl;cases hl
  unfold iterV
  dsimp only
  rw[rd_of hl nofrz_l]
  dsimp only
  have ten:=cut_ten (is.map V.int)
  refine for_inv (fun i σ Hm=>∃ (v5:Option V) (w:Addr) (O:Addr->Prop) (kvs:List (Key × V)) (Us':List Uu) (n:Nat),σ=[some (.ref sc),some (.ref nm),some (.ref d),some (.ref w),v4,v5]/\US CS CG O n Hm d w kvs Us'/\n<=i/\kvs.length<=14 * i/\(Us'.map (·.xs)).flatten.length<=7 * i/\(Us'.map (·.ms)).flatten.Perm (Us.map (·.ms)).flatten/\ExtB Γ.mod d Hs Hm) (fun i σ Hm z=>?_) ?_ ?_
   ⟨none,w,O0,[],Us,0,rfl,U1,Nat.le_refl _,Nat.zero_le _,by rw[xs0];exact Nat.zero_le _,List.Perm.refl _,⟨fun _ _ _ h=>h,fun _ _ h=>h⟩⟩
  ·obtain⟨_,_,_,_,_,_,_,_,_,_,_,_,x⟩:=z
   exact rd_of (x.same _ _ ld hl) nofrz_l
  ·rintro i v σ Hm D' hv ⟨v5,w,O,kvs,Us',n,rfl,U,ni,ki,xi,pi,xm⟩ nx _ _ _
   have hi:=(List.getElem?_eq_some_iff.mp hv).1
   obtain⟨c,_,rfl⟩:=List.mem_map.mp (cut_in (List.mem_of_getElem? hv))
   refine seq ?_
   walk_at "s1"
   refine⟨gc,len_at (rd_of U.w nofrz_l) ?_⟩
   rw[Sw.v_gt]
   refine⟨_,rfl,?_⟩
   rw[List.length_map]
   have pl:=pi.length_eq
   have fl:(Us.map (·.ms)).flatten.length<=20:=by rw[fo,e1];exact nl
   by_cases o:(2:Int) < Us'.length
   ·rw[if_pos (decide_eq_true o)]
    refine seq ?_
    walk_at "s1"
    refine⟨⟨gc,gg1⟩,?_⟩
    rw[gg2]
    refine⟨n,w,d,c,O,kvs,Us',rfl,U.w,U.at_,U.hO,U.d,U.s,U.led,⟨by omega,U.l,by omega,by omega,by omega⟩,fun w' H' O' kvs' Us2 h1 h2 h3 h4 h5 hld h6 h7 h8 h9 h10 h11=>?_⟩
    refine seq0 ?_
    dsimp only
    exact seq0 (nx _ _ ⟨_,w',O',kvs',Us2,n + 1,rfl,⟨h1,h2,h3,h4,h5,hld,h7,by have:=U.l;omega⟩,by omega,by omega,by omega,h8.trans pi,xm.trans h11⟩)
   ·rw[if_neg (by rw[decide_eq_false o];decide)]
    refine seq0 ?_
    dsimp only
    exact seq0 (nx _ _ ⟨_,w,O,kvs,Us',n,rfl,U,by omega,by omega,by omega,pi,xm⟩)
  ·rintro σ Hm ⟨v5,w,O,kvs,Us',n,rfl,U,ni,ki,xi,pi,xm⟩
   refine seq ?_
   walk_at "s1"
   exact q w Hm O kvs Us' n U (by omega) (by omega) pi (((x1.trans y1).b).trans xm)
end Kn
namespace Gk
open PySem
theorem fold_le:∀ (l acc:List Str),(l.foldl PySem.Sg.putIn acc).length<=acc.length + l.length
 | [],acc=>by simp
 | x::r,acc=>by
  rw[List.foldl_cons]
  have:=fold_le r (PySem.Sg.putIn acc x)
  have:=PySem.Sg.putIn_len acc x
  rw[List.length_cons]
  omega
theorem fold_full:∀ (l acc:List Str),acc.Nodup->((l.foldl PySem.Sg.putIn acc).length=acc.length + l.length ↔ (acc++l).Nodup)
 | [],acc,nd=>by simpa using nd
 | x::r,acc,nd=>by
  rw[List.foldl_cons]
  by_cases h:x ∈ acc
  ·have e:PySem.Sg.putIn acc x=acc:=by unfold PySem.Sg.putIn;rw[if_pos h]
   rw[e]
   have:=fold_le r acc
   constructor
   ·intro z;rw[List.length_cons]at z;omega
   ·intro z
    rw[List.nodup_append]at z
    exact absurd rfl (z.2.2 x h x List.mem_cons_self)
  ·have e:PySem.Sg.putIn acc x=acc++[x]:=by unfold PySem.Sg.putIn;rw[if_neg h]
   rw[e]
   have nd2:(acc++[x]).Nodup:=by
    rw[List.nodup_append]
    exact⟨nd,by simp,fun a ha b hb z=>h (by rw[<-List.mem_singleton.mp hb,<-z];exact ha)⟩
   have ih:=fold_full r (acc++[x]) nd2
   rw[List.append_assoc,List.singleton_append]at ih
   rw[<-ih,List.length_append,List.length_cons]
   simp
   omega
theorem met_len (ts:List Str):(PySem.Sg.metS (fun i=>ts.getD i ⟨#[]⟩) ts.length).length=ts.length ↔ ts.Nodup:=by
 have e:(List.range ts.length).map (fun i=>ts.getD i ⟨#[]⟩)=ts:=by
  apply List.ext_getElem (by simp)
  intro i h1 h2
  simp[List.getElem?_eq_getElem h2]
 unfold PySem.Sg.metS
 rw[e]
 have:=fold_full ts [] .nil
 simpa using this
end Gk
namespace Kn
open PySem PySem.Spec PyProof.Rows L2 Sw Gw
@[reducible] noncomputable def N__law_row_right:List Str:=["_law_row","_law_couple","_law_unit","_law_mates","_law_links","_law_k","_law_joined"]
noncomputable def b__law_row_right:Sxs:=(.cons (.iff (.or (.not (.isin (.var 0) .list)) (.or (.cmp .Eq (.bin .Mod (.blt .len (.cons (.var 0) .nil)) (.con (.int 2))) (.con (.int 0))) (.or (.cmp .NotEq (.idx (.var 0) (.con (.int 0))) (.var 1)) (.cmp .NotEq (.idx (.var 0) (.neg (.con (.int 1)))) (.idxD (.var 2) (.con (.str "base"))))))) (.cons (.ret (.con (.bl false)))
 .nil) .nil)
 (.cons (.iff (.or (.cmp .NotEq (.lset (.var 0)) (.blt .len (.cons (.var 0) .nil))) (.cmp .NotEq (.comp "_law_one" [("_law_unit",2)] (.ex (.var 0)) (.var 0) (.cons (.cmp .NotIn (.var 0) (.idxD (.var 1) (.con (.str "all")))) .nil)) (.lst .nil))) (.cons (.ret (.con (.bl false)))
 .nil) .nil)
 (.cons (.fr 5 (.rng1 (.bin .Sub (.blt .len (.cons (.var 0) .nil)) (.con (.int 1)))) (.cons (.asg 6 (.and (.cmpD .In (.idx (.var 0) (.var 5)) (.var 3)) (.cmp .Eq (.idxD (.var 3) (.idx (.var 0) (.var 5))) (.idx (.var 0) (.bin .Add (.var 5) (.con (.int 1)))))))
 (.cons (.iff (.cmp .NotEq (.var 6) (.cmp .Eq (.bin .Mod (.var 5) (.con (.int 2))) (.con (.int 0)))) (.cons (.ret (.con (.bl false)))
  .nil) .nil)
 (.cons (.iff (.and (.cmp .Eq (.bin .Mod (.var 5) (.con (.int 2))) (.con (.int 1))) (.and (.cmpI .NotIn (.tup (.cons (.idx (.var 0) (.var 5)) (.cons (.idx (.var 0) (.bin .Add (.var 5) (.con (.int 1)))) .nil))) (.var 4)) (.cmpI .NotIn (.tup (.cons (.idx (.var 0) (.bin .Add (.var 5) (.con (.int 1)))) (.cons (.idx (.var 0) (.var 5)) .nil))) (.var 4)))) (.cons (.ret (.con (.bl false)))
  .nil) .nil)
 .nil))))
 (.cons (.ret (.con (.bl true)))
 .nil))))
@[reducible] def bRow:Sxs:=(.cons (.asg 6 (.and (.cmpD .In (.idx (.var 0) (.var 5)) (.var 3)) (.cmp .Eq (.idxD (.var 3) (.idx (.var 0) (.var 5))) (.idx (.var 0) (.bin .Add (.var 5) (.con (.int 1)))))))
 (.cons (.iff (.cmp .NotEq (.var 6) (.cmp .Eq (.bin .Mod (.var 5) (.con (.int 2))) (.con (.int 0)))) (.cons (.ret (.con (.bl false)))
  .nil) .nil)
 (.cons (.iff (.and (.cmp .Eq (.bin .Mod (.var 5) (.con (.int 2))) (.con (.int 1))) (.and (.cmpI .NotIn (.tup (.cons (.idx (.var 0) (.var 5)) (.cons (.idx (.var 0) (.bin .Add (.var 5) (.con (.int 1)))) .nil))) (.var 4)) (.cmpI .NotIn (.tup (.cons (.idx (.var 0) (.bin .Add (.var 5) (.con (.int 1)))) (.cons (.idx (.var 0) (.var 5)) .nil))) (.var 4)))) (.cons (.ret (.con (.bl false)))
  .nil) .nil)
 .nil)))
noncomputable def pd (x:Str × Str):PyData:=.tuple [.str x.1,.str x.2]
theorem eqv_pd (x y:Str × Str):PyData.eqv (pd x) (pd y)=decide (x=y):=by
 unfold pd
 simp only[PyData.eqv,PyData.eqvAll,Bool.and_true]
 obtain⟨a,b⟩:=x
 obtain⟨c,d⟩:=y
 by_cases h1:a=c
 ·by_cases h2:b=d
  ·simp[h1,h2]
  ·simp[h1,h2]
 ·simp[h1]
theorem nofrz_t {xs:List V}:∀b u,(HO.tup xs) ≠ .frz b u:=by intro _ _ z;cases z
theorem data_pr {M:Mo} {H:Hp} {t:Addr} {a b:Str} (h:H t=some (.tup [.str a,.str b])) (n:Nat):data M H (n + 1) (.ref t)=some (pd (a,b)):=by
 unfold Sw.data
 rw[rd_of h nofrz_t]
 show(allM (Sw.data M H n) ([a,b].map V.str)).map PyData.tuple=_
 rw[allM_map (k:=PyData.str) fun x _=>data_str n x]
 rfl
theorem data_lks {M:Mo} {H:Hp} (n:Nat):∀ {xs:List V} {ps:List (Str × Str)},LinksAt H xs ps->allM (data M H (n + 1)) xs=some (ps.map pd)
 | [],[],_=>rfl
 | [],_::_,h=>by have:=h.1;cases this
 | _::_,[],h=>by have:=h.1;cases this
 | x::xs,P::ps,h=>by
  obtain⟨t,rfl,ht⟩:=h.2 0 x P rfl rfl
  unfold allM
  rw[data_pr ht n,data_lks n ⟨by have:=h.1;simpa using this,fun i y Q h1 h2=>h.2 (i + 1) y Q (by simpa using h1) (by simpa using h2)⟩]
  rfl
theorem any_pd (L:List (Str × Str)) (x:Str × Str):(L.map pd).any (fun e=>PyData.eqv e (pd x))=decide (x ∈ L):=by
 induction L with
 | nil=>rfl
 | cons y r ih=>
  rw[List.map_cons,List.any_cons,ih,eqv_pd]
  by_cases e:y=x
  ·subst e;simp
  ·have:x ≠ y:=fun z=>e z.symm
   simp[e,this]
theorem notinL {M:Mo} {H:Hp} {p t:Addr} {xs:List V} {ps:List (Str × Str)} {a b:Str} {Q:VK} (hp:H p=some (.lst xs)) (hl:LinksAt H xs ps) (ht:H t=some (.tup [.str a,.str b])) (q:Q (.bl (!decide ((a,b) ∈ ps))) H):cmpIV M .NotIn (.ref t) (.ref p) H Q:=by
 unfold cmpIV
 dsimp only
 rw[rd_of hp nofrz_l]
 dsimp only
 rw[data_pr ht 7,data_lks 7 hl]
 dsimp only
 rw[any_pd]
 exact q
theorem lset_at {M:Mo} {H:Hp} {p:Addr} {ts:List Str} {Q:VK} (h:H p=some (.lst (ts.map V.str))) (few:ts.length + 1 < scanBound) (nd:ts.Nodup) (q:Q (.int ts.length) H):lsetV M (.ref p) H Q:=by
 show(match rd M H p with
  | some (.lst xs)=>(match allM asS xs with
   | some ts=>ts.length + 1 < scanBound/\Q (.int (PySem.Sg.metS (fun i=>ts.getD i ⟨#[]⟩) ts.length).length) H
   | none=>False)
  | _=>False)
 rw[rd_of h nofrz_l]
 dsimp only
 rw[strs_all]
 refine⟨few,?_⟩
 rw[(Gk.met_len ts).mpr nd]
 exact q
theorem ix_last {M:Mo} {H:Hp} {p:Addr} {xs:List V} {v:V} {Q:VK} (h:H p=some (.lst xs)) (hv:xs[xs.length - 1]?=some v) (q:Q v H):idxV M (.ref p) (.int (-1)) H Q:=by
 have lt:=(List.getElem?_eq_some_iff.mp hv).1
 refine ix_at (rd_of h nofrz_l) ?_ q
 unfold atI ixN
 rw[if_neg (by decide),if_pos (by omega),Option.bind_some,show((-1:Int) + (xs.length:Int)).toNat=xs.length - 1 by omega]
 exact hv
noncomputable def spRowR (M:Mo) (CS CG:Addr) (N:Nat):Sp:=fun vs H Q _=>∃z row c d lr kvs O,vs=[.ref lr,.str c,.ref z.u,.ref d,.ref z.lk]/\H lr=some (.lst (row.map V.str))/\UAt CS CG O N H z/\H d=some (.dK kvs)/\RowOk (fun c=>valV kvs (.inr c)) (·∈ z.ps) z.ms c z.b row/\row.length < 64/\∀H',Ext M H H'->Q (.bl true) H'
theorem row_turn {M:Mo} {Γ:Gam} {D':Ends} {H Hn:Hp} {lr u d lk:Addr} {c b:Str} {ms row:List Str} {kvs:List (Key × V)} {xs:List V} {ps:List (Str × Str)} {k:Nat} {v6:Option V} (gm:Γ.mod=M) (hrow:Hn lr=some (.lst (row.map V.str))) (hd:Hn d=some (.dK kvs)) (hlk:Hn lk=some (.lst xs)) (hl:LinksAt Hn xs ps) (hr:RowOk (fun c=>valV kvs (.inr c)) (·∈ ps) ms c b row) (kl:k + 1 < row.length) (x:Ext M H Hn)
  (nx:∀v6 H',Ext M H H'->D'.nx [some (.ref lr),some (.str c),some (.ref u),some (.ref d),some (.ref lk),some (.int k),v6] H'):wSs bRow Γ X0 D' [some (.ref lr),some (.str c),some (.ref u),some (.ref d),some (.ref lk),some (.int k),v6] Hn:=by
 subst gm
 obtain⟨y,hy⟩:∃y,row[k]?=some y:=⟨_,List.getElem?_eq_getElem (by omega)⟩
 obtain⟨z,hz⟩:∃z,row[k + 1]?=some z:=⟨_,List.getElem?_eq_getElem (by omega)⟩
 obtain⟨a0,a1⟩:=hr.way.at k y z hy hz
 have iy:∀ {H':Hp} {Q:VK},Ext Γ.mod Hn H'->Q (.str y) H'->idxV Γ.mod (.ref lr) (.int k) H' Q:=fun x q=>ix_at (rd_of (x.same _ _ hrow) nofrz_l) (atI_nat' (n:=k) (by rw[List.getElem?_map,hy];rfl) rfl) q
 have iz:∀ {H':Hp} {Q:VK},Ext Γ.mod Hn H'->Q (.str z) H'->idxV Γ.mod (.ref lr) (.int (k + 1)) H' Q:=fun x q=>ix_at (rd_of (x.same _ _ hrow) nofrz_l) (atI_nat' (n:=k + 1) (by rw[List.getElem?_map,hz];rfl) rfl) q
 obtain⟨w,hw,wz⟩:∃w,valV kvs (.inr y)=some (.str w)/\(w=z ↔ k % 2=0):=by
  by_cases e:k % 2=0
  ·exact⟨z,(a0 e).1,fun _=>e,fun _=>rfl⟩
  ·obtain⟨j,rfl⟩:∃j,k=j + 1:=⟨k - 1,by omega⟩
   obtain⟨w,hw⟩:∃w,row[j]?=some w:=⟨_,List.getElem?_eq_getElem (by omega)⟩
   refine⟨w,((hr.way.at j w y hw hy).1 (by omega)).2,fun q=>?_,fun q=>absurd q e⟩
   subst q
   obtain⟨j1,j2⟩:=List.getElem?_eq_some_iff.mp hw
   obtain⟨i1,i2⟩:=List.getElem?_eq_some_iff.mp hz
   exact absurd (by rw[j2,i2]) (List.pairwise_iff_getElem.mp hr.nd j (j + 1 + 1) j1 i1 (by omega))
 have dd:∀ {H':Hp},Ext Γ.mod Hn H'->rd Γ.mod H' d=some (.dK kvs):=fun x=>rd_of (x.same _ _ hd) (by intro _ _ z;cases z)
 unfold bRow
 refine seq ?_
 walk_at "s1"
 refine iy Ext.refl ?_
 unfold cmpDV
 dsimp only
 unfold dOf
 dsimp only
 rw[dd Ext.refl]
 dsimp only[Sw.keyOf]
 rw[hw]
 dsimp only[Option.isSome]
 rw[Sw.t_bl,if_pos rfl]
 refine iy Ext.refl ?_
 refine idxD_at (dd Ext.refl) hw ?_
 rw[Sw.v_add]
 refine iz Ext.refl ?_
 rw[Sw.v_eqs]
 refine seq ?_
 walk_at "s1"
 rw[Sw.v_mod]
 refine⟨by decide,?_⟩
 rw[Sw.v_eqi,Sw.v_neb]
 refine⟨_,rfl,?_⟩
 have e1:decide (w=z)=decide ((k:Int) % 2=0):=decide_eq_decide.mpr (wz.trans (by omega))
 rw[if_neg (by rw[e1];simp)]
 refine seq0 ?_
 dsimp only
 refine seq ?_
 walk_at "s1"
 rw[Sw.v_mod]
 refine⟨by decide,?_⟩
 rw[Sw.v_eqi]
 refine⟨_,rfl,?_⟩
 by_cases e:k % 2=1
 ·rw[if_pos (decide_eq_true (by omega))]
  refine iy Ext.refl ?_
  rw[Sw.v_add]
  refine iz Ext.refl ⟨by rw[sizeLine_eq];decide,fun t nt mt=>?_⟩
  have x1:Ext Γ.mod Hn (upd Hn t (.tup [.str y,.str z])):=Ext.upd nt mt
  have ht:upd Hn t (.tup [.str y,.str z]) t=some (.tup [.str y,.str z]):=upd_same
  generalize upd Hn t (.tup [.str y,.str z])=H1 at x1 ht ⊢
  refine notinL (x1.same _ _ hlk) (hl.map fun a zs q=>x1.same _ _ q) ht ⟨_,rfl,?_⟩
  by_cases m1:(y,z) ∈ ps
  ·rw[if_neg (by simp[m1])]
   rw[if_neg (by decide)]
   refine seq0 ?_
   dsimp only
   exact seq0 (nx _ _ (x.trans x1))
  ·rw[if_pos (by simp[m1])]
   have m2:(z,y) ∈ ps:=(a1 e).resolve_left m1
   rw[Sw.v_add]
   refine iz x1 (iy x1 ⟨by rw[sizeLine_eq];decide,fun t2 nt2 mt2=>?_⟩)
   have x2:=x1.trans (Ext.upd (o:=.tup [.str z,.str y]) nt2 mt2)
   have ht2:upd H1 t2 (.tup [.str z,.str y]) t2=some (.tup [.str z,.str y]):=upd_same
   generalize upd H1 t2 (.tup [.str z,.str y])=H2 at x2 ht2 ⊢
   refine notinL (x2.same _ _ hlk) (hl.map fun a zs q=>x2.same _ _ q) ht2 ⟨_,rfl,?_⟩
   rw[if_neg (by simp[m2])]
   refine seq0 ?_
   dsimp only
   exact seq0 (nx _ _ (x.trans x2))
 ·rw[if_neg (by rw[decide_eq_false (by omega)];decide)]
  rw[if_neg (by decide)]
  refine seq0 ?_
  dsimp only
  exact seq0 (nx _ _ x)
theorem ok_rowR {M:Mo} {CS CG:Addr} {Γ:Gam} {N:Nat} (gm:Γ.mod=M) (gc:Γ.cm=true) (vs:List V) (H:Hp) (Q:VK) (E:XK) (h:spRowR M CS CG N vs H Q E):spOf Γ N__law_row_right 5 b__law_row_right vs H Q E:=by
 obtain⟨z,row,c,d,lr,kvs,O,rfl,hrow,U,hd,hr,few,q⟩:=h
 refine⟨rfl,?_⟩
 subst gm
 obtain⟨du,hu,Du⟩:=U.d
 have ndK:∀ {kv:List (Key × V)} (b:Obj) (u:HO),HO.dK kv ≠ .frz b u:=by intro _ _ _ z;cases z
 have ol:=hr.way.odd
 unfold b__law_row_right
 refine seq ?_
 walk_at "s1"
 refine⟨by unfold known;dsimp only;rw[hrow],?_⟩
 have e0:isTy .list H (.ref lr)=true:=by unfold isTy;dsimp only;rw[hrow];rfl
 rw[e0,if_neg (by decide)]
 refine⟨gc,len_at (rd_of hrow nofrz_l) ?_⟩
 rw[Sw.v_mod]
 refine⟨by decide,?_⟩
 rw[Sw.v_eqi]
 refine⟨_,rfl,?_⟩
 rw[if_neg (by rw[decide_eq_false (by rw[List.length_map];omega)];decide)]
 refine ix_at (rd_of hrow nofrz_l) (atI_nat' (n:=0) (x:=.str c) (by rw[List.getElem?_map,hr.way.head];rfl) rfl) ?_
 rw[Sw.v_nes]
 refine⟨_,rfl,?_⟩
 rw[if_neg (by simp)]
 refine ix_last hrow (v:=.str z.b) (by rw[List.length_map,List.getElem?_map,hr.way.last];rfl) ?_
 refine idxD_at (rd_of hu ndK) Du.base ?_
 rw[Sw.v_nes]
 refine⟨_,rfl,?_⟩
 rw[if_neg (by simp)]
 refine seq0 ?_
 dsimp only
 refine seq ?_
 walk_at "s1"
 refine⟨gc,lset_at hrow (by unfold scanBound;omega) hr.nd ⟨gc,len_at (rd_of hrow nofrz_l) ?_⟩⟩
 rw[Sw.v_nei,List.length_map]
 refine⟨_,rfl,?_⟩
 rw[if_neg (by simp)]
 refine⟨gc,?_⟩
 unfold iterV
 dsimp only
 rw[rd_of hrow nofrz_l]
 dsimp only
 intro B nB mB
 have hrB:∀l,upd H B (.lst l) lr=some (.lst (row.map V.str)):=fun l=>by rw[upd_ne (ne_of_none hrow nB)];exact hrow
 refine comp_keepS (fun x=>!decide (x ∈ z.ms)) row [] (fun l=>rd_of (hrB l) nofrz_l) (fun x hx acc R hR=>?_) (fun x hx acc Q hQ=>?_) (by simp;omega) ?_
 ·walk_at "s1"
  refine idxD_at (rd_of (by rw[upd_ne (ne_of_none hu nB)];exact hu) ndK) Du.all ?_
  refine not_in (by rw[upd_ne (ne_of_none U.a nB)];exact U.a) rfl ⟨_,rfl,?_⟩
  rw[inV_strs]
  exact hR
 ·walk_at "s1"
  exact hQ
 rw[List.filter_eq_nil_iff.mpr fun x hx=>by simp[hr.sub x hx]]
 have x1:Ext Γ.mod H (upd H B (.lst (([]:List V)++([]:List Str).map V.str))):=Ext.upd nB mB
 have hB1:upd H B (.lst (([]:List V)++([]:List Str).map V.str)) B=some (.lst (([]:List Str).map V.str)):=upd_same
 generalize upd H B (.lst (([]:List V)++([]:List Str).map V.str))=H1 at x1 hB1 ⊢
 refine⟨by rw[sizeLine_eq];decide,fun e ne me=>?_⟩
 have x2:=x1.trans (Ext.upd (o:=.lst []) ne me)
 refine ne_data (data_strs (ns:=[]) 15 (rd_of (by rw[upd_ne (ne_of_none hB1 ne)];exact hB1) nofrz_l)) (data_strs (ns:=[]) 15 (rd_of upd_same nofrz_l)) ⟨_,rfl,?_⟩
 generalize upd H1 e (.lst [])=H2 at x2 ⊢
 rw[if_neg (by decide)]
 refine seq0 ?_
 dsimp only
 refine seq ?_
 walk_at "s1"
 refine⟨gc,gc,len_at (rd_of (x2.same _ _ hrow) nofrz_l) ?_⟩
 rw[Sw.v_sub,List.length_map]
 refine⟨by omega,by omega,?_⟩
 obtain⟨n,en⟩:∃n:Nat,row.length=n + 1:=⟨row.length - 1,by omega⟩
 rw[show((row.length:Int) - 1).toNat=n by omega]
 refine for_inv (fun i σ Hn=>∃v5 v6,σ=[some (.ref lr),some (.str c),some (.ref z.u),some (.ref d),some (.ref z.lk),v5,v6]/\Ext Γ.mod H Hn) (fun _ _ _ _=>trivial) ?_ ?_ ⟨none,none,rfl,x2⟩
 ·rintro i v σ Hn D' hv ⟨v5,v6,rfl,x⟩ nx _ _ _
  rw[List.getElem?_map]at hv
  obtain⟨i',hi,rfl⟩:=Option.map_eq_some_iff.mp hv
  obtain⟨i1,i2⟩:=List.getElem?_eq_some_iff.mp hi
  rw[List.getElem_range]at i2
  subst i2
  rw[List.length_range]at i1
  exact row_turn rfl (x.same _ _ hrow) (x.same _ _ hd) (x.same _ _ U.lk) (U.lv.map fun a zs q=>x.same _ _ q) hr (by omega) x fun v6 H' x'=>nx _ _ ⟨_,_,rfl,x'⟩
 ·rintro σ Hn ⟨v5,v6,rfl,x⟩
  refine seq ?_
  walk_at "s1"
  exact q _ x
end Kn
namespace Kn
open PySem PySem.Spec PyProof.Rows L2 Sw Gw
@[reducible] noncomputable def N__law_stays:List Str:=["_law_unit","_law_knot"]
noncomputable def b__law_stays:Sxs:=(.cons (.asg 1 (.idxD (.var 0) (.con (.str "knot"))))
 (.cons (.iff (.or (.cmp .NotEq (.omth "members" (.var 1) .nil) (.idxD (.var 0) (.con (.str "all")))) (.cmp .NotEq (.comp "_law_one" [] (.ex (.omth "inner" (.var 1) .nil)) (.omth "members" (.var 0) .nil) .nil) (.idxD (.var 0) (.con (.str "ring"))))) (.cons (.ret (.con (.bl false)))
 .nil) .nil)
 (.cons (.iff (.cmp .Eq (.idxD (.var 0) (.con (.str "ring"))) (.lst .nil)) (.cons (.ret (.con (.bl true)))
 .nil) .nil)
 (.cons (.ret (.and (.cmp .Eq (.comp "_law_one" [] (.ex (.ofld (.var 1) "ring")) (.omth "members" (.var 0) .nil) .nil) (.idxD (.var 0) (.con (.str "ring")))) (.cmp .Eq (.ofld (.var 1) "links") (.slc (.idxD (.var 0) (.con (.str "links"))) .nil (.cons (.blt .len (.cons (.idxD (.var 0) (.con (.str "ring"))) .nil)) .nil)))))
 .nil))))
structure KSt (M:Mo) (CS CG:Addr) (Γ:Gam) (n:Nat):Prop where
 gm:Γ.mod=M
 gc:Γ.cm=true
 mem:KM M CS CG Γ (n + 1)
 is_:Γ.omh CS "inner" =true/\Γ.omt CS "inner" =spSInner M CS
 ig:Γ.omh CG "inner" =true/\Γ.omt CG "inner" =spGInner M CG
 fr:Γ.ofl CG "ring" =true
 fl:Γ.ofl CG "links" =true
noncomputable def spStays (M:Mo) (CS CG:Addr) (n:Nat):Sp:=fun vs H Q _=>∃z O,vs=[.ref z.u]/\(∀ a,O a->H a ≠ none)/\UAt CS CG O n H z/\∀H',Ext M H H'->Q (.bl true) H'
theorem ok_stays {M:Mo} {CS CG:Addr} {Γ:Gam} {n:Nat} (g:KSt M CS CG Γ n) (vs:List V) (H:Hp) (Q:VK) (E:XK) (h:spStays M CS CG n vs H Q E):spOf Γ N__law_stays 1 b__law_stays vs H Q E:=by
 obtain⟨z,O,rfl,hO,U,q⟩:=h
 refine⟨rfl,?_⟩
 obtain⟨rfl,gc,mem,is_,ig,fr,fl⟩:=g
 obtain⟨du,hu,D⟩:=U.d
 unfold b__law_stays
 refine seq ?_
 walk_at "s1"
 refine idxD_at (rd_of hu (by intro _ _ z;cases z)) D.knot ?_
 have ndk:∀ {H':Hp},Ext Γ.mod H H'->rd Γ.mod H' z.u=some (.dK du):=fun x=>rd_of (x.same _ _ hu) (by intro _ _ z;cases z)
 rcases U.k with ⟨k1,k2,k3⟩ | ⟨k1,k2⟩
 ·have k0:=k1
  obtain⟨op,dx,c,hp,ec⟩:=k1
  refine seq ?_
  walk_at "s1"
  refine⟨gc,call_mem mem hO (k0.at (CG:=CG)) fun l H1 nl ml x1 h1=>?_⟩
  refine idxD_at (ndk x1) D.all ?_
  refine ne_data (data_strs 15 (rd_of h1 nofrz_l)) (data_strs 15 (rd_of (x1.same _ _ U.a) nofrz_l)) ⟨_,rfl,?_⟩
  rw[if_neg (by decide)]
  refine⟨gc,gc,?_⟩
  unfold omthV
  dsimp only
  rw[x1.same _ _ hp]
  refine⟨⟨is_.1,look1 _ _ _ (by decide)⟩,?_⟩
  rw[is_.2]
  refine⟨z.p,z.ms,O,rfl,⟨op,dx,c,x1.same _ _ hp,ec⟩,fun l2 n2 m2=>?_⟩
  dsimp only
  unfold iterV
  dsimp only
  rw[rd_of upd_same nofrz_l]
  dsimp only
  intro D2 hD mD
  have x3:Ext Γ.mod H (upd (upd H1 l2 (.lst [])) D2 (.lst [])):=(x1.trans (Ext.upd n2 m2)).trans (Ext.upd hD mD)
  have l2D:l2 ≠ D2:=ne_of_none upd_same hD
  have rs0:z.ras=[]:=List.length_eq_zero_iff.mp (by rw[U.rs.1,k2];rfl)
  have rg0:∀ {H':Hp},Ext Γ.mod H H'->data Γ.mod H' 16 (.ref z.rg)=some (.list (([]:List Str).map PyData.str)):=fun x=>data_strs (ns:=[]) 15 (rd_of (x.same _ _ (by rw[U.rg,rs0];rfl)) nofrz_l)
  refine⟨rd_of (by rw[upd_ne l2D,upd_same]) nofrz_l,upd_same,?_⟩
  refine idxD_at (ndk x3) D.ring ?_
  refine ne_data (data_strs (ns:=[]) 15 (rd_of upd_same nofrz_l)) (rg0 x3) ⟨_,rfl,?_⟩
  rw[if_neg (by decide)]
  refine seq0 ?_
  dsimp only
  refine seq ?_
  walk_at "s1"
  refine idxD_at (ndk x3) D.ring ?_
  refine⟨by rw[sizeLine_eq];decide,fun e he me=>?_⟩
  have x4:=x3.trans (Ext.upd (o:=.lst []) he me)
  refine eq_data (rg0 x4) (data_strs (ns:=[]) 15 (rd_of upd_same nofrz_l)) ⟨_,rfl,?_⟩
  rw[if_pos rfl]
  refine seq ?_
  walk_at "s1"
  exact q _ x4
 ·obtain⟨dx,r,l,qs,o,hp,hr,hl,⟨ln,kids⟩,pm,so,nd,few⟩:=id k1
  have lb:∀m:Str,(m == "ring")=false->(m == "links")=false->List.lookup m [(("ring" :Str),V.ref r),("links",.ref l)]=none:=fun m h1 h2=>by rw[lk1 _ _ _ _ h1,look1 _ _ _ h2]
  refine seq ?_
  walk_at "s1"
  refine⟨gc,call_mem mem hO k1.grp.at fun l1 H1 nl ml x1 h1=>?_⟩
  refine idxD_at (ndk x1) D.all ?_
  refine ne_data (data_strs 15 (rd_of h1 nofrz_l)) (data_strs 15 (rd_of (x1.same _ _ U.a) nofrz_l)) ⟨_,rfl,?_⟩
  rw[if_neg (by decide)]
  refine⟨gc,gc,?_⟩
  unfold omthV
  dsimp only
  rw[x1.same _ _ hp]
  refine⟨⟨ig.1,lb _ (by decide) (by decide)⟩,?_⟩
  rw[ig.2]
  refine⟨z.p,dx,r,l,_,rfl,x1.same _ _ hp,x1.same _ _ hr,fun l2 n2 m2=>?_⟩
  dsimp only
  unfold iterV
  dsimp only
  rw[rd_of upd_same nofrz_l]
  dsimp only
  intro D2 hD mD
  have x2:Ext Γ.mod H (upd H1 l2 (.lst (qs.map V.ref))):=x1.trans (Ext.upd n2 m2)
  have hl2:upd H1 l2 (.lst (qs.map V.ref)) l2=some (.lst (qs.map V.ref)):=upd_same
  generalize upd H1 l2 (.lst (qs.map V.ref))=H2 at hD x2 hl2 ⊢
  refine comp_mems (Ξ:=fun C d _ H'=>X0 C d [] H') gc mem (x2.there hO) ln U.fw (fun i a b h1 h2=>((kids i a b h1 h2).up).ext hO x2) hD mD (fun H' x=>rd_of (x.same _ _ hl2) nofrz_l) fun H3 ls x3 h3 e3 f3=>?_
  have x4:=x2.trans x3
  have rgd:∀ {H':Hp},Ext Γ.mod H H'->data Γ.mod H' 16 (.ref z.rg)=some (.list (z.mss.map fun m=>PyData.list (m.map PyData.str))):=fun x=>d_grp (x.same _ _ U.rg) U.rs.1 fun i a b h1 h2=>x.same _ _ (U.rs.2 i a b h1 h2)
  refine idxD_at (ndk x4) D.ring ?_
  refine ne_data (d_grp h3 e3 f3) (rgd x4) ⟨_,rfl,?_⟩
  rw[if_neg (by decide)]
  refine seq0 ?_
  dsimp only
  refine seq ?_
  walk_at "s1"
  refine idxD_at (ndk x4) D.ring ?_
  refine⟨by rw[sizeLine_eq];decide,fun e he me=>?_⟩
  have x5:=x4.trans (Ext.upd (o:=.lst []) he me)
  have e0:data Γ.mod (upd H3 e (.lst [])) 16 (.ref e)=some (.list []):=data_strs (ns:=[]) 15 (rd_of upd_same nofrz_l)
  have ne0:PyData.eqv (.list (z.mss.map fun m=>PyData.list (m.map PyData.str))) (.list [])=false:=by
   cases e:z.mss with
   | nil=>exact absurd e k2
   | cons m r=>rfl
  refine eq_no (rgd x5) e0 ne0 ⟨_,rfl,?_⟩
  rw[if_neg (by decide)]
  refine seq0 ?_
  dsimp only
  refine seq ?_
  walk_at "s1"
  refine⟨gc,?_⟩
  unfold ofldV
  dsimp only
  rw[x5.same _ _ hp]
  refine⟨fr,?_⟩
  rw[lk0]
  dsimp only
  unfold iterV
  dsimp only
  rw[rd_of (x5.same _ _ hr) nofrz_l]
  dsimp only
  intro D3 hD3 mD3
  generalize upd H3 e (.lst [])=H5 at hD3 x5 ⊢
  refine comp_mems (Ξ:=fun C d _ H'=>X0 C d [] H') gc mem (x5.there hO) ln U.fw (fun i a b h1 h2=>((kids i a b h1 h2).up).ext hO x5) hD3 mD3 (fun H' x=>rd_of (x.same _ _ (x5.same _ _ hr)) nofrz_l) fun H6 ls6 x6 h6 e6 f6=>?_
  have x7:=x5.trans x6
  refine idxD_at (ndk x7) D.ring ?_
  refine eq_data (d_grp h6 e6 f6) (rgd x7) ?_
  rw[Sw.t_bl,if_pos rfl]
  rw[x7.same _ _ hp]
  refine⟨fl,?_⟩
  rw[lk1 _ _ _ _ (by decide),lk0]
  dsimp only
  refine idxD_at (ndk x7) D.links ?_
  refine⟨gc,idxD_at (ndk x7) D.ring ?_⟩
  refine len_at (rd_of (x7.same _ _ U.rg) nofrz_l) ?_
  dsimp only
  rw[Sw.s_ref,rd_of (x7.same _ _ U.lk) nofrz_l]
  dsimp only
  intro l8 n8 m8
  rw[List.length_map,cut_to,U.rs.1]
  have x8:=x7.trans (Ext.upd (o:=.lst (z.xs.take z.mss.length)) n8 m8)
  have lv8:∀x ∈ z.xs.take z.mss.length,LinkV (upd H6 l8 (.lst (z.xs.take z.mss.length))) x:=fun x hx=>(U.lv.lv x (List.mem_of_mem_take hx)).ext x8
  obtain⟨ds,a1,a2⟩:=d_links (M:=Γ.mod) (x8.same _ _ hl) lv8
  obtain⟨ds',b1,b2⟩:=d_links (M:=Γ.mod) (p:=l8) upd_same lv8
  rw[a1]at b1
  cases b1
  exact eq_data a2 b2 (q _ x8)
end Kn
namespace Kn
open PySem PySem.Spec PyProof.Rows L2 Sw Gw
@[reducible] noncomputable def N_law:List Str:=["_law_script","_law_many","_law_drawn","_law_mates","_law_units_here","_law_k","_law_handed","_law_unit","_law_couple","_law_row","_law_again"]
noncomputable def b_law:Sxs:=(.cons (.asg 1 (.bin .Add (.con (.int 1)) (.bin .Mod (.call "_law_cell_at" (.cons (.var 0) (.cons (.con (.int 0)) .nil))) (.con (.int 20)))))
 (.cons (.asg 2 (.call "_law_names" (.cons (.call "_law_cell_at" (.cons (.var 0) (.cons (.con (.int 1)) .nil))) (.cons (.bin .Add (.var 1) (.con (.int 6))) .nil))))
 (.cons (.asg 3 .dnew)
 (.cons (.asg 4 (.call "_law_units" (.cons (.var 0) (.cons (.slc (.var 2) .nil (.cons (.var 1) .nil)) (.cons (.var 3) .nil)))))
 (.cons (.fr 5 (.rng1 (.blt .min (.cons (.con (.int 5)) (.cons (.blt .len (.cons (.var 4) .nil)) .nil)))) (.cons (.iff (.cmp .Eq (.bin .BitAnd (.bin .RShift (.bin .FloorDiv (.call "_law_cell_at" (.cons (.var 0) (.cons (.con (.int 1)) .nil))) (.con (.int 7))) (.var 5)) (.con (.int 1))) (.con (.int 1))) (.cons (.sto (.var 3) (.idxD (.idx (.var 4) (.var 5)) (.con (.str "base"))) (.idx (.var 2) (.bin .Add (.var 1) (.var 5))))
  (.cons (.sto (.var 3) (.idx (.var 2) (.bin .Add (.var 1) (.var 5))) (.idxD (.idx (.var 4) (.var 5)) (.con (.str "base"))))
  .nil)) .nil)
 .nil))
 (.cons (.asg 6 (.dcop (.var 3)))
 (.cons (.fr 7 (.ex (.var 4)) (.cons (.fr 8 (.ex (.idxD (.var 7) (.con (.str "all")))) (.cons (.asg 9 (.omth "led" (.idxD (.var 7) (.con (.str "knot"))) (.cons (.var 8) (.cons (.var 6) .nil))))
  (.cons (.iff (.not (.call "_law_row_right" (.cons (.var 9) (.cons (.var 8) (.cons (.var 7) (.cons (.var 3) (.cons (.idxD (.var 7) (.con (.str "links"))) .nil))))))) (.cons (.ret (.con (.bl false)))
  .nil) .nil)
  (.cons (.exp (.mth .append (.var 9) (.cons (.con (.str "x")) .nil)))
  (.cons (.asg 10 (.omth "led" (.idxD (.var 7) (.con (.str "knot"))) (.cons (.var 8) (.cons (.var 6) .nil))))
  (.cons (.iff (.or (.not (.call "_law_row_right" (.cons (.var 10) (.cons (.var 8) (.cons (.var 7) (.cons (.var 3) (.cons (.idxD (.var 7) (.con (.str "links"))) .nil))))))) (.not (.call "_law_stays" (.cons (.var 7) .nil)))) (.cons (.ret (.con (.bl false)))
  .nil) .nil)
  .nil))))))
 .nil))
 (.cons (.ret (.cmpD .Eq (.var 6) (.var 3)))
 .nil))))))))
@[reducible] def bOne:Sxs:=(.cons (.asg 9 (.omth "led" (.idxD (.var 7) (.con (.str "knot"))) (.cons (.var 8) (.cons (.var 6) .nil))))
  (.cons (.iff (.not (.call "_law_row_right" (.cons (.var 9) (.cons (.var 8) (.cons (.var 7) (.cons (.var 3) (.cons (.idxD (.var 7) (.con (.str "links"))) .nil))))))) (.cons (.ret (.con (.bl false)))
  .nil) .nil)
  (.cons (.exp (.mth .append (.var 9) (.cons (.con (.str "x")) .nil)))
  (.cons (.asg 10 (.omth "led" (.idxD (.var 7) (.con (.str "knot"))) (.cons (.var 8) (.cons (.var 6) .nil))))
  (.cons (.iff (.or (.not (.call "_law_row_right" (.cons (.var 10) (.cons (.var 8) (.cons (.var 7) (.cons (.var 3) (.cons (.idxD (.var 7) (.con (.str "links"))) .nil))))))) (.not (.call "_law_stays" (.cons (.var 7) .nil)))) (.cons (.ret (.con (.bl false)))
  .nil) .nil)
  .nil)))))
theorem UAt.le {CS CG:Addr} {O:Addr->Prop} {n m:Nat} {H:Hp} {z:Uu} (h:UAt CS CG O n H z) (hO:∀a,O a->H a ≠ none) (l:n<=m):UAt CS CG O m H z:=by
 induction l with
 | refl=>exact h
 | step _ ih=>exact ih.up (M:=fun _=>none) hO (fun _ h=>h) Ext.refl
theorem put_same {kvs:List (Key × V)} {ms:List Str} {b b' x:Str} (nx:x ∉ ms) (hb:b' ∈ ms->b'=b):∀c ∈ ms,c ≠ b->valV (putK (putK kvs (.inr b') (.str x)) (.inr x) (.str b')) (.inr c)=valV kvs (.inr c):=fun c hc ne=>by
 rw[valV_put,if_neg (fun z=>nx (by rw[<-Sum.inr.inj z];exact hc)),valV_put,if_neg (fun z=>ne (by rw[Sum.inr.inj z];exact hb (by rw[<-Sum.inr.inj z];exact hc)))]
theorem Out.put {kvs:List (Key × V)} {ms:List Str} {b b' x:Str} (h:Out (fun c=>valV kvs (.inr c)) ms b) (bm:b ∈ ms) (nx:x ∉ ms):Out (fun c=>valV (putK (putK kvs (.inr b') (.str x)) (.inr x) (.str b')) (.inr c)) ms b:=fun y hy=>by
 have hy:valV (putK (putK kvs (.inr b') (.str x)) (.inr x) (.str b')) (.inr b)=some y:=hy
 rw[valV_put,if_neg (fun z=>nx (by rw[<-Sum.inr.inj z];exact bm)),valV_put]at hy
 by_cases q:(Sum.inr b:Key)=Sum.inr b'
 ·rw[if_pos q]at hy
  cases hy
  exact⟨x,rfl,nx⟩
 ·rw[if_neg q]at hy
  exact h y hy
structure KLw (M:Mo) (CS CG:Addr) (Γ:Gam):Prop where
 kl:KLd M CS CG Γ 10 10
 rr:Γ.has "_law_row_right" =true/\Γ.fn "_law_row_right" =spRowR M CS CG 10
 st:Γ.has "_law_stays" =true/\Γ.fn "_law_stays" =spStays M CS CG 10
 un:Γ.has "_law_units" =true/\Γ.fn "_law_units" =spUnits M CS CG
 nm:Γ.has "_law_names" =true/\Γ.fn "_law_names" =spNamesK M
 ce:Γ.has "_law_cell_at" =true/\Γ.fn "_law_cell_at" =spCellA M
structure LvS (M:Mo) (CS CG:Addr) (O:Addr->Prop) (Us:List Uu) (d w l a:Addr) (ns:List Str) (is:List Int) (H:Hp) (kvs:List (Key × V)):Prop where
 w:H w=some (.lst (Us.map fun z=>V.ref z.u))
 at_:∀z ∈ Us,UAt CS CG O 10 H z/\z.u ≠ d
 hO:∀a,O a->H a ≠ none/\a ≠ d
 d:H d=some (.dK kvs)
 ld:∀z ∈ Us,LAt CS CG O (fun c=>valV kvs (.inr c)) (·∈ z.ps) 10 H z.p z.ms z.b
 ou:∀z ∈ Us,Out (fun c=>valV kvs (.inr c)) z.ms z.b
 gd:GoodD kvs
 l:H l=some (.lst (ns.map V.str))
 a:rd M H a=some (.lst (is.map V.int))
 off:OffM M H
theorem LvS.ext {M:Mo} {CS CG:Addr} {O:Addr->Prop} {Us:List Uu} {d w l a:Addr} {ns:List Str} {is:List Int} {H H':Hp} {kvs:List (Key × V)} (h:LvS M CS CG O Us d w l a ns is H kvs) (x:Ext M H H'):LvS M CS CG O Us d w l a ns is H' kvs:=
 ⟨x.same _ _ h.w,fun z hz=>⟨(h.at_ z hz).1.ext (fun a h'=>(h.hO a h').1) x,(h.at_ z hz).2⟩,fun a h'=>⟨x.there (fun a h'=>(h.hO a h').1) a h',(h.hO a h').2⟩,x.same _ _ h.d,fun z hz=>(h.ld z hz).ext (fun a h'=>(h.hO a h').1) x,h.ou,h.gd,x.same _ _ h.l,x.rd h.a,fun a m=>x.off a m (h.off a m)⟩
theorem LvS.put {M:Mo} {CS CG:Addr} {O:Addr->Prop} {Us:List Uu} {d w l a:Addr} {ns:List Str} {is:List Int} {H:Hp} {kvs kvs':List (Key × V)} (h:LvS M CS CG O Us d w l a ns is H kvs) (sm:∀z ∈ Us,∀c ∈ z.ms,c ≠ z.b->valV kvs' (.inr c)=valV kvs (.inr c)) (ou:∀z ∈ Us,Out (fun c=>valV kvs' (.inr c)) z.ms z.b) (gd:GoodD kvs'):LvS M CS CG O Us d w l a ns is (upd H d (.dK kvs')) kvs':=by
 have dn:H d ≠ none:=by rw[h.d];intro z;cases z
 have x:ExtB M d H (upd H d (.dK kvs')):=ExtB.put ⟨fun _ _ _ e=>e,fun _ _ e=>e⟩ dn
 have ne:∀ {a:Addr} {xs:List V},H a=some (.lst xs)->a ≠ d:=fun e z=>by rw[z,h.d]at e;cases e
 refine⟨x.same _ _ (ne h.w) h.w,fun z hz=>⟨(h.at_ z hz).1.b (h.at_ z hz).2 h.hO h.d x,(h.at_ z hz).2⟩,fun a h'=>⟨by rw[upd_ne (h.hO a h').2];exact(h.hO a h').1,(h.hO a h').2⟩,upd_same,fun z hz=>(h.ld z hz).b h.hO h.d x (sm z hz),ou,gd,x.same _ _ (ne h.l) h.l,?_,fun a m=>x.off a m (h.off a m)⟩
 have e:=h.a
 unfold rd at e ⊢
 by_cases q:a=d
 ·subst q
  rw[h.d]at e
  cases e
 ·rw[upd_ne q]
  exact e
theorem RowOk.few {μ:Str->Option V} {L:Str × Str->Prop} {ms:List Str} {c b:Str} {row:List Str} (h:RowOk μ L ms c b row) (f:ms.length < 64):row.length < 64:=Nat.lt_of_le_of_lt (nodup_le h.nd h.sub) f
theorem one_turn {M:Mo} {CS CG:Addr} {Γ:Gam} {D':Ends} {O:Addr->Prop} {H Hn:Hp} {d hd:Addr} {kvs:List (Key × V)} {z:Uu} {c:Str} {v0 v1 v2 v4 v5 v9 v10:Option V} (g:KLw M CS CG Γ) (U:UAt CS CG O 10 H z) (hO:∀a,O a->H a ≠ none) (L:LAt CS CG O (fun c=>valV kvs (.inr c)) (·∈ z.ps) 10 H z.p z.ms z.b) (o:Out (fun c=>valV kvs (.inr c)) z.ms z.b) (hdm:H d=some (.dK kvs)) (hhd:H hd=some (.dK kvs)) (hc:c ∈ z.ms) (x:Ext M H Hn)
  (nx:∀v9 v10 H',Ext M H H'->D'.nx [v0,v1,v2,some (.ref d),v4,v5,some (.ref hd),some (.ref z.u),some (.str c),v9,v10] H'):wSs bOne Γ X0 D' [v0,v1,v2,some (.ref d),v4,v5,some (.ref hd),some (.ref z.u),some (.str c),v9,v10] Hn:=by
 have gm:=g.kl.gm
 have gc:=g.kl.gc
 subst gm
 have ndK:∀ {kv:List (Key × V)} (b:Obj) (u:HO),HO.dK kv ≠ .frz b u:=by intro _ _ _ z;cases z
 obtain⟨du,hu,Dz⟩:=U.d
 have few:=L.kat.few
 have nof:∀ {H':Hp} {b:Addr},Ext Γ.mod H H'->H' b=none->H b=none:=fun{H' b} x e=>by
  cases q:H b with
  | none=>rfl
  | some u=>rw[x.same _ _ q]at e;cases e
 unfold bOne
 refine seq ?_
 walk_at "s1"
 refine⟨gc,idxD_at (rd_of (x.same _ _ hu) ndK) Dz.knot ?_⟩
 refine call_led g.kl (x.there hO) (L.ext hO x) hc (x.same _ _ hhd) o (fun C z=>z) fun lr H1 row nlr mlr y1 hrow rr=>?_
 have x1:=x.trans y1
 refine seq ?_
 walk_at "s1"
 refine⟨⟨gc,g.rr.1⟩,idxD_at (rd_of (x1.same _ _ hu) ndK) Dz.links ?_⟩
 rw[g.rr.2]
 refine⟨z,row,c,d,lr,kvs,O,rfl,hrow,U.ext hO x1,x1.same _ _ hdm,rr,rr.few few,fun H2 y2=>?_⟩
 dsimp only
 rw[Sw.t_bl]
 rw[if_neg (by decide)]
 refine seq0 ?_
 dsimp only
 have hrow2:=y2.same _ _ hrow
 refine seq ?_
 walk_at "s1"
 refine⟨mty_l hrow2,app_at (x:= "x") hrow2 (by rw[sizeLine_eq];have:=rr.few few;omega) ?_⟩
 have x3:Ext Γ.mod H (upd H2 lr (.lst ((row++[Str.ofString "x"]).map V.str))):=(x1.trans y2).over (nof x nlr) mlr
 generalize upd H2 lr (.lst ((row++[Str.ofString "x"]).map V.str))=H3 at x3 ⊢
 refine seq ?_
 walk_at "s1"
 refine⟨gc,idxD_at (rd_of (x3.same _ _ hu) ndK) Dz.knot ?_⟩
 refine call_led g.kl (x3.there hO) (L.ext hO x3) hc (x3.same _ _ hhd) o (fun C z=>z) fun ls H4 row2 nls mls y4 hrow4 rr4=>?_
 have x4:=x3.trans y4
 refine seq ?_
 walk_at "s1"
 refine⟨⟨gc,g.rr.1⟩,idxD_at (rd_of (x4.same _ _ hu) ndK) Dz.links ?_⟩
 rw[g.rr.2]
 refine⟨z,row2,c,d,ls,kvs,O,rfl,hrow4,U.ext hO x4,x4.same _ _ hdm,rr4,rr4.few few,fun H5 y5=>?_⟩
 have x5:=x4.trans y5
 dsimp only
 rw[Sw.t_bl]
 rw[if_neg (by decide)]
 refine⟨⟨gc,g.st.1⟩,?_⟩
 rw[g.st.2]
 refine⟨z,O,rfl,x5.there hO,U.ext hO x5,fun H6 y6=>?_⟩
 dsimp only
 rw[Sw.t_bl]
 rw[if_neg (by decide)]
 refine seq0 ?_
 dsimp only
 exact seq0 (nx _ _ _ (x5.trans y6))
theorem deq_str {M:Mo} {H:Hp} {n:Nat} (t:Str):deqT M H (n + 1) (.str t) (.str t)=true:=by
 show PyData.eqv (.str t) (.str t)=true
 unfold PyData.eqv
 exact beq_self_eq_true t
noncomputable def spLawK (M:Mo):Sp:=fun vs H Q _=>∃ (a:Addr) (is:List Int),vs=[.ref a]/\is.length<=63/\rd M H a=some (.lst (is.map V.int))/\OffM M H/\∀H',Q (.bl true) H'
theorem ok_lawK {M:Mo} {CS CG:Addr} {Γ:Gam} (g:KLw M CS CG Γ) (vs:List V) (H:Hp) (Q:VK) (E:XK) (h:spLawK M vs H Q E):spOf Γ N_law 1 b_law vs H Q E:=by
 obtain⟨a,is,rfl,il,ha,off,q⟩:=h
 refine⟨rfl,?_⟩
 have gm:=g.kl.gm
 have gc:=g.kl.gc
 subst gm
 unfold b_law
 refine seq ?_
 walk_at "s1"
 refine⟨⟨gc,g.ce.1⟩,?_⟩
 rw[g.ce.2]
 refine⟨a,0,is,rfl,by decide,ha,fun c0=>?_⟩
 dsimp only
 rw[Sw.v_mod]
 refine⟨by decide,?_⟩
 rw[Sw.v_add]
 have m0:=Int.emod_nonneg c0 (show(20:Int) ≠ 0 by decide)
 have m1:=Int.emod_lt_of_pos c0 (show(0:Int) < 20 by decide)
 obtain⟨m,em⟩:∃m:Nat,1 + c0 % 20=m:=⟨(1 + c0 % 20).toNat,by omega⟩
 rw[em]
 refine seq ?_
 walk_at "s1"
 refine⟨⟨gc,g.nm.1⟩,⟨gc,g.ce.1⟩,?_⟩
 rw[g.ce.2]
 refine⟨a,1,is,rfl,by decide,ha,fun c1=>?_⟩
 dsimp only
 rw[Sw.v_add,g.nm.2]
 refine⟨c1,m + 6,rfl,by omega,by omega,fun l H1 ns nl ml x1 h1 len nd=>?_⟩
 refine seq ?_
 walk_at "s1"
 intro d nd' md
 have x2:=x1.trans (Ext.upd (o:=.dK []) nd' md)
 have hd2:upd H1 d (.dK []) d=some (.dK []):=upd_same
 have hl2:upd H1 d (.dK []) l=some (.lst (ns.map V.str)):=by rw[upd_ne (ne_of_none h1 nd')];exact h1
 generalize upd H1 d (.dK [])=H2 at x2 hd2 hl2 ⊢
 refine seq ?_
 walk_at "s1"
 refine⟨⟨gc,g.un.1⟩,?_⟩
 rw[Sw.s_ref,rd_of hl2 nofrz_l]
 dsimp only
 intro s1 ns1 ms1
 rw[cut_to,<-List.map_take]
 have x3:=x2.trans (Ext.upd (o:=.lst ((ns.take m).map V.str)) ns1 ms1)
 have hs3:upd H2 s1 (.lst ((ns.take m).map V.str)) s1=some (.lst ((ns.take m).map V.str)):=upd_same
 have hd3:upd H2 s1 (.lst ((ns.take m).map V.str)) d=some (.dK []):=by rw[upd_ne (ne_of_none hd2 ns1)];exact hd2
 have hl3:upd H2 s1 (.lst ((ns.take m).map V.str)) l=some (.lst (ns.map V.str)):=by rw[upd_ne (ne_of_none hl2 ns1)];exact hl2
 generalize upd H2 s1 (.lst ((ns.take m).map V.str))=H3 at x3 hs3 hd3 hl3 ⊢
 rw[g.un.2]
 have tl:(ns.take m).length=m:=by rw[List.length_take];omega
 refine⟨a,s1,d,ns.take m,is,rfl,x3.rd ha,hs3,hd3,(List.take_sublist m ns).nodup nd,fun e=>by rw[e]at tl;simp at tl;omega,by omega,fun w H4 O kvs Us n U n10 kl pm xb=>?_⟩
 have ld:l ≠ d:=fun e=>by rw[e,hd3]at hl3;cases hl3
 have L0:LvS Γ.mod CS CG O Us d w l a ns is H4 kvs:=by
  refine⟨U.w,fun z hz=>⟨(U.at_ z hz).1.le (fun a h=>(U.hO a h).1) n10,(U.at_ z hz).2⟩,U.hO,U.d,fun z hz=>(U.led z hz).le n10,(fun z hz x hx=>by have hx:valV kvs (.inr z.b)=some x:=hx;rw[U.s.bn z hz]at hx;cases hx),U.s.gd,xb.same _ _ ld hl3,?_,fun b mb=>xb.off b mb (x3.off b mb (off b mb))⟩
  have e:=x3.rd ha
  unfold rd at e ⊢
  cases q3:H3 a with
  | none=>
   rw[q3]at e
   rw[xb.off a (fun z=>by rw[z]at e;cases e) q3]
   exact e
  | some o=>
   by_cases q:a=d
   ·rw[q,hd3]at q3
    cases q3
    rw[q,hd3]at e
    cases e
   ·rw[xb.same _ _ q q3]
    rw[q3]at e
    exact e
 clear xb x3 x2 hd2 hl2 hs3 hd3 hl3
 have out:∀ (k:Nat) (x:Str),ns[m + k]?=some x->∀z ∈ Us,x ∉ z.ms:=fun k x hx z hz hm=>by
  have h1:x ∈ ns.take m:=pm.mem_iff.mp (List.mem_flatten.mpr ⟨z.ms,List.mem_map.mpr ⟨z,hz,rfl⟩,hm⟩)
  obtain⟨i,hi⟩:=List.mem_iff_getElem?.mp h1
  have lt:=(List.getElem?_eq_some_iff.mp hi).1
  rw[List.getElem?_take_of_lt (by omega)]at hi
  exact idx_ne nd hi hx (by omega) rfl
 have sd:=U.s
 have ul:=U.l
 refine seq ?_
 walk_at "s1"
 refine⟨gc,gc,gc,len_at (rd_of L0.w nofrz_l) ?_⟩
 rw[List.length_map]
 unfold bltV
 dsimp only
 obtain⟨N,eN,N5,NL⟩:∃N:Nat,(if(Us.length:Int) < 5 then(Us.length:Int)else 5)=N/\N<=5/\N<=Us.length:=by
  by_cases c5:(Us.length:Int) < 5
  ·rw[if_pos c5];exact⟨Us.length,rfl,by omega,by omega⟩
  ·rw[if_neg c5];exact⟨5,rfl,by omega,by omega⟩
 rw[eN]
 refine⟨by omega,by omega,?_⟩
 refine for_inv (fun k σ Hk=>∃ (v5:Option V) (kvs:List (Key × V)),σ=[some (.ref a),some (.int m),some (.ref l),some (.ref d),some (.ref w),v5,none,none,none,none,none]/\LvS Γ.mod CS CG O Us d w l a ns is Hk kvs/\kvs.length<=140 + 2 * k) (fun _ _ _ _=>trivial) ?_ ?_ ⟨none,kvs,rfl,L0,by omega⟩
 ·rintro k y σ Hk D2 hy ⟨w5,kvs,rfl,Lk,kk⟩ nx2 _ _ _
  rw[List.getElem?_map]at hy
  obtain⟨k',hk,rfl⟩:=Option.map_eq_some_iff.mp hy
  obtain⟨hk1,hk2⟩:=List.getElem?_eq_some_iff.mp hk
  rw[List.getElem_range]at hk2
  subst hk2
  rw[List.length_range,Int.toNat_natCast]at hk1
  obtain⟨z,hz⟩:∃z,Us[k]?=some z:=⟨_,List.getElem?_eq_getElem (by omega)⟩
  obtain⟨x,hx⟩:∃x,ns[m + k]?=some x:=⟨_,List.getElem?_eq_getElem (by omega)⟩
  have zm:=List.mem_of_getElem? hz
  obtain⟨du,hu,Dz⟩:=(Lk.at_ z zm).1.d
  have ud:=(Lk.at_ z zm).2
  have ndK:∀ {kv:List (Key × V)} (b:Obj) (u:HO),HO.dK kv ≠ .frz b u:=by intro _ _ _ z;cases z
  have nel:∀ {b:Addr} {ys:List V},Hk b=some (.lst ys)->b ≠ d:=fun e z=>by rw[z,Lk.d]at e;cases e
  have ix1:atI (ns.map V.str) ((m:Int) + k)=some (.str x):=atI_nat' (n:=m + k) (by rw[List.getElem?_map,hx];rfl) (by omega)
  have ix2:atI (Us.map fun z=>V.ref z.u) (k:Int)=some (.ref z.u):=atI_nat' (n:=k) (by rw[List.getElem?_map,hz];rfl) rfl
  refine seq ?_
  walk_at "s1"
  refine⟨⟨gc,g.ce.1⟩,?_⟩
  rw[g.ce.2]
  refine⟨a,1,is,rfl,by decide,Lk.a,fun c=>?_⟩
  dsimp only
  rw[Sw.v_div]
  refine⟨by decide,by decide,?_⟩
  rw[show ∀ (i j:Int) (H:Hp) (Q:VK),binV Γ.mod .RShift (.int i) (.int j) H Q=(0<=j/\Q (.int (i / 2 ^ j.toNat)) H)from fun _ _ _ _=>rfl]
  refine⟨Int.natCast_nonneg _,?_⟩
  rw[show ∀ (i j:Int) (H:Hp) (Q:VK),binV Γ.mod .BitAnd (.int i) (.int j) H Q=Q (.int (Builtin.bitAnd i j)) H from fun _ _ _ _=>rfl]
  rw[Sw.v_eqi]
  refine⟨_,rfl,?_⟩
  split
  ·refine seq ?_
   walk_at "s1"
   rw[Sw.v_add]
   refine ix_at (rd_of Lk.l nofrz_l) ix1 ?_
   refine ix_at (rd_of Lk.w nofrz_l) ix2 ?_
   refine idxD_at (rd_of hu ndK) Dz.base ?_
   unfold stoV
   dsimp only
   rw[Lk.d]
   refine⟨by rw[sizeLine_eq];omega,?_⟩
   refine seq ?_
   walk_at "s1"
   refine ix_at (rd_of (show upd Hk d _ w=_ from(upd_ne (nel Lk.w)).trans Lk.w) nofrz_l) ix2 ?_
   refine idxD_at (rd_of (show upd Hk d _ z.u=_ from(upd_ne ud).trans hu) ndK) Dz.base ?_
   rw[Sw.v_add]
   refine ix_at (rd_of (show upd Hk d _ l=_ from(upd_ne (nel Lk.l)).trans Lk.l) nofrz_l) ix1 ?_
   unfold stoV
   dsimp only
   rw[upd_same]
   have p1:=putK_le kvs (.inr z.b) (.str x)
   have p2:=putK_le (putK kvs (.inr z.b) (.str x)) (.inr x) (.str z.b)
   refine⟨by rw[sizeLine_eq];omega,?_⟩
   rw[upd_upd]
   refine seq0 ?_
   dsimp only
   refine seq0 (nx2 _ _ ⟨_,_,rfl,Lk.put (fun y hy=>put_same (out k x hx y hy) fun hb=>?_) (fun y hy=>(Lk.ou y hy).put (sd.bm y hy) (out k x hx y hy)) ((Lk.gd.put _ _).put _ _),by omega⟩)
   obtain⟨j,hj⟩:=List.mem_iff_getElem?.mp hy
   by_cases e:j=k
   ·subst e
    rw[hz]at hj
    cases hj
    rfl
   ·exact absurd hb (disj sd.nd hz hj (Ne.symm e) (sd.bm z zm))
  ·refine seq0 ?_
   dsimp only
   exact seq0 (nx2 _ _ ⟨_,_,rfl,Lk,by omega⟩)
 ·rintro σ Hk ⟨w5,kvs,rfl,Lk,kk⟩
  clear kk
  dsimp only
  refine seq ?_
  walk_at "s1"
  refine⟨gc,?_⟩
  unfold dcopV
  dsimp only
  rw[Lk.d]
  dsimp only
  intro hd nhd mhd
  have y1:Ext Γ.mod Hk (upd Hk hd (.dK kvs)):=Ext.upd nhd mhd
  have hhd:upd Hk hd (.dK kvs) hd=some (.dK kvs):=upd_same
  have hdd:hd ≠ d:=Ne.symm (ne_of_none Lk.d nhd)
  have L1:=Lk.ext y1
  generalize upd Hk hd (.dK kvs)=Hs at y1 hhd L1 ⊢
  have hO1:∀a,O a->Hs a ≠ none:=fun a h=>(L1.hO a h).1
  refine seq ?_
  walk_at "s1"
  refine⟨gc,?_⟩
  unfold iterV
  dsimp only
  rw[rd_of L1.w nofrz_l]
  dsimp only
  refine for_inv (fun i σ Hm=>∃v7 v8 v9 v10,σ=[some (.ref a),some (.int m),some (.ref l),some (.ref d),some (.ref w),w5,some (.ref hd),v7,v8,v9,v10]/\Ext Γ.mod Hs Hm) (fun i σ Hm z=>?_) ?_ ?_ ⟨none,none,none,none,rfl,Ext.refl⟩
  ·obtain⟨_,_,_,_,_,x⟩:=z
   exact rd_of (x.same _ _ L1.w) nofrz_l
  ·rintro i y σ Hm D2 hy ⟨v7,v8,v9,v10,rfl,x⟩ nx2 _ _ _
   rw[List.getElem?_map]at hy
   obtain⟨z,hz,rfl⟩:=Option.map_eq_some_iff.mp hy
   have zm:=List.mem_of_getElem? hz
   obtain⟨Uz,_⟩:=L1.at_ z zm
   obtain⟨du,hu,Dz⟩:=Uz.d
   refine seq ?_
   walk_at "s1"
   refine⟨gc,idxD_at (rd_of (x.same _ _ hu) (by intro _ _ z;cases z)) Dz.all ?_⟩
   unfold iterV
   dsimp only
   rw[rd_of (x.same _ _ Uz.a) nofrz_l]
   dsimp only
   refine for_inv (fun i σ Hn=>∃v8 v9 v10,σ=[some (.ref a),some (.int m),some (.ref l),some (.ref d),some (.ref w),w5,some (.ref hd),some (.ref z.u),v8,v9,v10]/\Ext Γ.mod Hs Hn) (fun i σ Hn z=>?_) ?_ ?_ ⟨v8,v9,v10,rfl,x⟩
   ·obtain⟨_,_,_,_,x⟩:=z
    exact rd_of (x.same _ _ Uz.a) nofrz_l
   ·rintro i y σ Hn D3 hy ⟨v8,v9,v10,rfl,x⟩ nx3 _ _ _
    rw[List.getElem?_map]at hy
    obtain⟨c,hc,rfl⟩:=Option.map_eq_some_iff.mp hy
    exact one_turn g Uz hO1 (L1.ld z zm) (L1.ou z zm) L1.d hhd (List.mem_of_getElem? hc) x fun v9 v10 H' x'=>nx3 _ _ ⟨_,_,_,rfl,x'⟩
   ·rintro σ Hn ⟨v8,v9,v10,rfl,x⟩
    dsimp only
    exact seq0 (nx2 _ _ ⟨_,_,_,_,rfl,x⟩)
  ·rintro σ Hm ⟨v7,v8,v9,v10,rfl,x⟩
   refine seq ?_
   walk_at "s1"
   have h1:=x.same _ _ hhd
   have h2:=x.same _ _ L1.d
   refine⟨by rw[dOf_at h1];rfl,by rw[dOf_at h2];rfl,deq_dicts h1 h2 hdd rfl fun e he=>?_,q _⟩
   obtain⟨e1,t,e2⟩:=L1.gd e he
   exact⟨e.2,e1,by rw[e2];exact deq_str t⟩
end Kn
namespace K22
open PySem PySem.Spec PyProof.Rows L2 Sw Kn
open PySem.W (Frag keepIn ktsIn mroIn kitOne nsIn findIn typeIn takerIn hasDictIn codeIn fnOf mg_of mg_none_of)
structure Clss (K:Frag) (CS CG fSi fSm fSn fSl fGi fGm fGn fGb fGp fGs fGf fGl:Addr):Prop where
 cS:Cls K CS
 cG:Cls K CG
 mkS:Mk K CS fSi
 mkG:Mk K CG fGi
 sm:Meth K CS "members" fSm
 sn:Meth K CS "inner" fSn
 sl:Meth K CS "led" fSl
 gm:Meth K CG "members" fGm
 gn:Meth K CG "inner" fGn
 gb:Meth K CG "base" fGb
 gp:Meth K CG "place_of" fGp
 gs:Meth K CG "beside" fGs
 gf:Meth K CG "link_from" fGf
 gl:Meth K CG "led" fGl
 aS:NoAttr K CS "couple"
 aR:NoAttr K CG "ring"
 aL:NoAttr K CG "links"
 nS:nsIn K mainGlobals "Single" =some (some (.ref CS))
 nG:nsIn K mainGlobals "Group" =some (some (.ref CG))
 kSS:kitOne K (.ref CS) (.ref CS)=some true
 kGS:kitOne K (.ref CG) (.ref CS)=some false
noncomputable def Gs (K:Frag) (CS CG:Addr):Gam where
 con:=fun _=>none
 mod:=modK K
 has:=fun _=>false
 fn:=fun _ _ _ _ _=>False
 exc:=fun _=>none
 sub:=fun _ _=>none
 cat:=fun _=>false
 fo:=fun _ _=>false
 ofl:=fun C f=>decide (C=CS/\f= "couple") || decide (C=CG/\(f= "ring" \/f= "links"))
noncomputable def Gm (K:Frag) (CS CG:Addr) (n:Nat):Gam:={Gs K CS CG with
 omh:=fun C m=>decide (C=CS/\m= "members") || decide (C=CG/\m= "members" /\0 < n)
 omt:=fun C _=>if C=CS then spMem (modK K) (KOne CS)else spMem (modK K) fun O=>KGrp CS CG O (n - 1)}
noncomputable def Gb (K:Frag) (CS CG:Addr):Gam:={Gs K CS CG with
 omh:=fun C m=>decide (C=CG/\m= "beside")
 omt:=fun _ _=>spBeside CG}
noncomputable def tS (K:Frag) (CS:Addr) (m:Str):Sp:=if m= "members" then spMem (modK K) (KOne CS)else if m= "inner" then spSInner (modK K) CS else spLed (modK K) fun O _ _=>LOne CS O
noncomputable def tG (K:Frag) (CS CG:Addr) (n:Nat) (m:Str):Sp:=if m= "members" then spMem (modK K) (fun O=>KGrp CS CG O 10)else if m= "inner" then spGInner (modK K) CG else if m= "base" then spGBase (modK K) CS CG 10 else if m= "place_of" then spPlace (modK K) CS CG 11 else if m= "beside" then spBeside CG else if m= "link_from" then spLinkF (modK K) CG else spLed (modK K) fun O μ L=>LGrp CS CG O μ L (n - 1)
noncomputable def Gl (K:Frag) (CS CG:Addr) (n:Nat):Gam:={Gs K CS CG with
 omh:=fun C m=>decide (C=CS/\(m= "members" \/m= "inner" \/m= "led")) || decide (C=CG/\(m= "members" \/m= "inner" \/m= "base" \/m= "place_of" \/m= "beside" \/m= "link_from" \/(m= "led" /\0 < n)))
 omt:=fun C m=>if C=CS then tS K CS m else tG K CS CG n m
 ocl:=fun x=>if x= "Single" then some CS else if x= "Group" then some CG else none
 oin:=fun x=>if x= "Single" then spSInit CS else spGInit (modK K) CG}
section
variable {P:Program} {w:World} {K:Frag} {mg:Str->Option Value} {base h:Heap} {CS CG fSi fSm fSn fSl fGi fGm fGn fGb fGp fGs fGf fGl:Addr}
theorem Clss.ne (c:Clss K CS CG fSi fSm fSn fSl fGi fGm fGn fGb fGp fGs fGf fGl):CG ≠ CS:=fun e=>by
 have:=c.kGS
 rw[e,c.kSS]at this
 cases this
theorem km (ne:CG ≠ CS) (n:Nat):KM (modK K) CS CG (Gm K CS CG n) n:=by
 refine⟨⟨?_,?_⟩,fun m e=>⟨?_,?_⟩⟩
 ·show(decide (CS=CS/\("members" :Str)= "members") || _)=true
  rw[decide_eq_true ⟨rfl,rfl⟩];rfl
 ·show(if CS=CS then _ else _)=_
  rw[if_pos rfl]
 ·show(_ || decide (CG=CG/\("members" :Str)= "members" /\0 < n))=true
  rw[decide_eq_true (p:=CG=CG/\("members" :Str)= "members" /\0 < n) ⟨rfl,rfl,by omega⟩,Bool.or_true]
 ·show(if CG=CS then _ else _)=_
  rw[if_neg ne,e]
  rfl
theorem oflS:(Gs K CS CG).ofl CS "couple" =true:=by
 show(decide (CS=CS/\("couple" :Str)= "couple") || _)=true
 rw[decide_eq_true ⟨rfl,rfl⟩];rfl
theorem oflR:(Gs K CS CG).ofl CG "ring" =true:=by
 show(_ || decide (CG=CG/\(("ring" :Str)= "ring" \/("ring" :Str)= "links")))=true
 rw[decide_eq_true (p:=CG=CG/\(("ring" :Str)= "ring" \/("ring" :Str)= "links")) ⟨rfl,.inl rfl⟩,Bool.or_true]
theorem oflL:(Gs K CS CG).ofl CG "links" =true:=by
 show(_ || decide (CG=CG/\(("links" :Str)= "ring" \/("links" :Str)= "links")))=true
 rw[decide_eq_true (p:=CG=CG/\(("links" :Str)= "ring" \/("links" :Str)= "links")) ⟨rfl,.inr rfl⟩,Bool.or_true]
theorem hS {n:Nat} (m:Str) (h:m= "members" \/m= "inner" \/m= "led"):(Gl K CS CG n).omh CS m=true:=by
 show(decide (CS=CS/\(m= "members" \/m= "inner" \/m= "led")) || _)=true
 rw[decide_eq_true ⟨rfl,h⟩];rfl
theorem hG {n:Nat} (m:Str) (h:m= "members" \/m= "inner" \/m= "base" \/m= "place_of" \/m= "beside" \/m= "link_from" \/(m= "led" /\0 < n)):(Gl K CS CG n).omh CG m=true:=by
 show(_ || decide (CG=CG/\(m= "members" \/m= "inner" \/m= "base" \/m= "place_of" \/m= "beside" \/m= "link_from" \/(m= "led" /\0 < n))))=true
 rw[decide_eq_true (p:=CG=CG/\(m= "members" \/m= "inner" \/m= "base" \/m= "place_of" \/m= "beside" \/m= "link_from" \/(m= "led" /\0 < n))) ⟨rfl,h⟩,Bool.or_true]
theorem oS {n:Nat} (m:Str):(Gl K CS CG n).omt CS m=tS K CS m:=by
 show(if CS=CS then _ else _)=_
 rw[if_pos rfl]
theorem oG (ne:CG ≠ CS) {n:Nat} (m:Str):(Gl K CS CG n).omt CG m=tG K CS CG n m:=by
 show(if CG=CS then _ else _)=_
 rw[if_neg ne]
theorem kld (ne:CG ≠ CS) (n:Nat):KLd (modK K) CS CG (Gl K CS CG n) 10 n:=by
 refine⟨rfl,rfl,⟨⟨hS _ (.inl rfl),by rw[oS];unfold tS;rw[if_pos rfl]⟩,fun m e=>⟨hG _ (.inl rfl),by cases e;rw[oG ne];unfold tG;rw[if_pos rfl]⟩⟩,⟨hG _ (.inr (.inr (.inl rfl))),?_⟩,⟨hG _ (.inr (.inr (.inr (.inl rfl)))),?_⟩,⟨hG _ (.inr (.inr (.inr (.inr (.inl rfl))))),?_⟩,⟨hG _ (.inr (.inr (.inr (.inr (.inr (.inl rfl)))))),?_⟩,⟨hS _ (.inr (.inr rfl)),?_⟩,fun m e=>⟨hG _ (.inr (.inr (.inr (.inr (.inr (.inr ⟨rfl,by omega⟩)))))),?_⟩,oflR (K:=K) (CS:=CS)⟩
 ·rw[oG ne];unfold tG;rw[if_neg (by decide),if_neg (by decide),if_pos rfl]
 ·rw[oG ne];unfold tG;rw[if_neg (by decide),if_neg (by decide),if_neg (by decide),if_pos rfl]
 ·rw[oG ne];unfold tG;rw[if_neg (by decide),if_neg (by decide),if_neg (by decide),if_neg (by decide),if_pos rfl]
 ·rw[oG ne];unfold tG;rw[if_neg (by decide),if_neg (by decide),if_neg (by decide),if_neg (by decide),if_neg (by decide),if_pos rfl]
 ·rw[oS];unfold tS;rw[if_neg (by decide),if_neg (by decide)]
 ·rw[oG ne];unfold tG;rw[if_neg (by decide),if_neg (by decide),if_neg (by decide),if_neg (by decide),if_neg (by decide),if_neg (by decide),e];rfl
theorem kst (ne:CG ≠ CS) (n:Nat):KSt (modK K) CS CG (Gl K CS CG n) 10:=by
 have k:=kld (K:=K) ne n
 refine⟨rfl,rfl,k.mem,⟨hS _ (.inr (.inl rfl)),?_⟩,⟨hG _ (.inr (.inl rfl)),?_⟩,oflR (K:=K) (CS:=CS),oflL (K:=K) (CS:=CS)⟩
 ·rw[oS];unfold tS;rw[if_neg (by decide),if_pos rfl]
 ·rw[oG ne];unfold tG;rw[if_neg (by decide),if_pos rfl]
theorem gs_ok (X:K.In h) (G:h.Ns mainGlobals mg) (T:∀x ∈ bltNames,nsIn K mainGlobals x=some none) (c:Clss K CS CG fSi fSm fSn fSl fGi fGm fGn fGb fGp fGs fGf fGl):GOk P w K mg base (Gs K CS CG) 1:=by
 refine⟨modK_ok K,fun _ _ h=>(nomatch h),fun _ h=>absurd (show false=true from h) Bool.false_ne_true,fun _ _ _ h=>(nomatch h),fun x hx=>mg_none_of X G (T x hx),fun _ _ _ h=>(nomatch h),fun _ h=>absurd (show false=true from h) Bool.false_ne_true,fun _ _ h=>absurd (show false=true from h) Bool.false_ne_true,VcOk.none,fun _ _ h=>(nomatch h),⟨fun C f h=>?_,fun _ _ h=>absurd (show false=true from h) Bool.false_ne_true,fun _ _ h=>(nomatch h),fun C n b h=>(nomatch h)⟩⟩
 replace h:(decide (C=CS/\f= "couple") || decide (C=CG/\(f= "ring" \/f= "links")))=true:=h
 rw[Bool.or_eq_true,decide_eq_true_eq,decide_eq_true_eq]at h
 rcases h with ⟨rfl,rfl⟩ | ⟨rfl,rfl | rfl⟩
 ·exact⟨c.cS,c.aS⟩
 ·exact⟨c.cG,c.aR⟩
 ·exact⟨c.cG,c.aL⟩
end
end K22
namespace K22
open PySem PySem.Spec PyProof.Rows L2 Sw
noncomputable def top (i:Nat):Stmt:=PySem.Challenge.pw_swapward_k22_led_to_the_base.main.body.getD i (.Pass ⟨0,0,0,0⟩)
@[reducible] noncomputable def st_Single___init__:Stmt:=inClass (top 2) 0
@[reducible] noncomputable def P_Single___init__:List Str:=["self","couple"]
theorem m_Single___init__:mSs (defScope st_Single___init__) Kn.N_Single___init__ Kn.b_Single___init__ (defBody st_Single___init__):=⟨by kernel_rfl,by kernel_rfl⟩
theorem sc_Single___init__:FnScope Kn.N_Single___init__ P_Single___init__ (defScope st_Single___init__):=⟨rfl,rfl,rfl,by decide +kernel,rfl,by decide +kernel,by decide +kernel⟩
@[reducible] noncomputable def st_Single_members:Stmt:=inClass (top 2) 1
@[reducible] noncomputable def P_Single_members:List Str:=["self"]
theorem m_Single_members:mSs (defScope st_Single_members) Kn.N_Single_members Kn.b_Single_members (defBody st_Single_members):=⟨by kernel_rfl,by kernel_rfl⟩
theorem sc_Single_members:FnScope Kn.N_Single_members P_Single_members (defScope st_Single_members):=⟨rfl,rfl,rfl,by decide +kernel,rfl,by decide +kernel,by decide +kernel⟩
@[reducible] noncomputable def st_Single_inner:Stmt:=inClass (top 2) 2
@[reducible] noncomputable def P_Single_inner:List Str:=["self"]
theorem m_Single_inner:mSs (defScope st_Single_inner) Kn.N_Single_inner Kn.b_Single_inner (defBody st_Single_inner):=⟨by kernel_rfl,by kernel_rfl⟩
theorem sc_Single_inner:FnScope Kn.N_Single_inner P_Single_inner (defScope st_Single_inner):=⟨rfl,rfl,rfl,by decide +kernel,rfl,by decide +kernel,by decide +kernel⟩
@[reducible] noncomputable def st_Single_led:Stmt:=inClass (top 2) 4
@[reducible] noncomputable def P_Single_led:List Str:=["self","couple","mates"]
theorem m_Single_led:mSs (defScope st_Single_led) Kn.N_Single_led Kn.b_Single_led (defBody st_Single_led):=⟨by kernel_rfl,by kernel_rfl⟩
theorem sc_Single_led:FnScope Kn.N_Single_led P_Single_led (defScope st_Single_led):=⟨rfl,rfl,rfl,by decide +kernel,rfl,by decide +kernel,by decide +kernel⟩
@[reducible] noncomputable def st_Group___init__:Stmt:=inClass (top 3) 0
@[reducible] noncomputable def P_Group___init__:List Str:=["self","ring","links"]
theorem m_Group___init__:mSs (defScope st_Group___init__) Kn.N_Group___init__ Kn.b_Group___init__ (defBody st_Group___init__):=⟨by kernel_rfl,by kernel_rfl⟩
theorem sc_Group___init__:FnScope Kn.N_Group___init__ P_Group___init__ (defScope st_Group___init__):=⟨rfl,rfl,rfl,by decide +kernel,rfl,by decide +kernel,by decide +kernel⟩
@[reducible] noncomputable def st_Group_members:Stmt:=inClass (top 3) 1
@[reducible] noncomputable def P_Group_members:List Str:=["self"]
theorem m_Group_members:mSs (defScope st_Group_members) Kn.N_Group_members Kn.b_Group_members (defBody st_Group_members):=⟨by kernel_rfl,by kernel_rfl⟩
theorem sc_Group_members:FnScope Kn.N_Group_members P_Group_members (defScope st_Group_members):=⟨rfl,rfl,rfl,by decide +kernel,rfl,by decide +kernel,by decide +kernel⟩
@[reducible] noncomputable def st_Group_inner:Stmt:=inClass (top 3) 2
@[reducible] noncomputable def P_Group_inner:List Str:=["self"]
theorem m_Group_inner:mSs (defScope st_Group_inner) Kn.N_Group_inner Kn.b_Group_inner (defBody st_Group_inner):=⟨by kernel_rfl,by kernel_rfl⟩
theorem sc_Group_inner:FnScope Kn.N_Group_inner P_Group_inner (defScope st_Group_inner):=⟨rfl,rfl,rfl,by decide +kernel,rfl,by decide +kernel,by decide +kernel⟩
@[reducible] noncomputable def st_Group_base:Stmt:=inClass (top 3) 3
@[reducible] noncomputable def P_Group_base:List Str:=["self","mates"]
theorem m_Group_base:mSs (defScope st_Group_base) Kn.N_Group_base Kn.b_Group_base (defBody st_Group_base):=⟨by kernel_rfl,by kernel_rfl⟩
theorem sc_Group_base:FnScope Kn.N_Group_base P_Group_base (defScope st_Group_base):=⟨rfl,rfl,rfl,by decide +kernel,rfl,by decide +kernel,by decide +kernel⟩
@[reducible] noncomputable def st_Group_place_of:Stmt:=inClass (top 3) 4
@[reducible] noncomputable def P_Group_place_of:List Str:=["self","couple"]
theorem m_Group_place_of:mSs (defScope st_Group_place_of) Kn.N_Group_place_of Kn.b_Group_place_of (defBody st_Group_place_of):=⟨by kernel_rfl,by kernel_rfl⟩
theorem sc_Group_place_of:FnScope Kn.N_Group_place_of P_Group_place_of (defScope st_Group_place_of):=⟨rfl,rfl,rfl,by decide +kernel,rfl,by decide +kernel,by decide +kernel⟩
@[reducible] noncomputable def st_Group_beside:Stmt:=inClass (top 3) 5
@[reducible] noncomputable def P_Group_beside:List Str:=["self","place","step"]
theorem m_Group_beside:mSs (defScope st_Group_beside) Kn.N_Group_beside Kn.b_Group_beside (defBody st_Group_beside):=⟨by kernel_rfl,by kernel_rfl⟩
theorem sc_Group_beside:FnScope Kn.N_Group_beside P_Group_beside (defScope st_Group_beside):=⟨rfl,rfl,rfl,by decide +kernel,rfl,by decide +kernel,by decide +kernel⟩
@[reducible] noncomputable def st_Group_link_from:Stmt:=inClass (top 3) 6
@[reducible] noncomputable def P_Group_link_from:List Str:=["self","place","step"]
theorem m_Group_link_from:mSs (defScope st_Group_link_from) Kn.N_Group_link_from Kn.b_Group_link_from (defBody st_Group_link_from):=⟨by kernel_rfl,by kernel_rfl⟩
theorem sc_Group_link_from:FnScope Kn.N_Group_link_from P_Group_link_from (defScope st_Group_link_from):=⟨rfl,rfl,rfl,by decide +kernel,rfl,by decide +kernel,by decide +kernel⟩
@[reducible] noncomputable def st_Group_led:Stmt:=inClass (top 3) 7
@[reducible] noncomputable def P_Group_led:List Str:=["self","couple","mates"]
theorem m_Group_led:mSs (defScope st_Group_led) Kn.N_Group_led Kn.b_Group_led (defBody st_Group_led):=⟨by kernel_rfl,by kernel_rfl⟩
theorem sc_Group_led:FnScope Kn.N_Group_led P_Group_led (defScope st_Group_led):=⟨rfl,rfl,rfl,by decide +kernel,rfl,by decide +kernel,by decide +kernel⟩
@[reducible] noncomputable def st__law_cell_at:Stmt:=top 5
@[reducible] noncomputable def P__law_cell_at:List Str:=["_law_script","_law_k"]
theorem m__law_cell_at:mSs (defScope st__law_cell_at) Kn.N__law_cell_at Kn.b__law_cell_at (defBody st__law_cell_at):=⟨by kernel_rfl,by kernel_rfl⟩
theorem sc__law_cell_at:FnScope Kn.N__law_cell_at P__law_cell_at (defScope st__law_cell_at):=⟨rfl,rfl,rfl,by decide +kernel,rfl,by decide +kernel,by decide +kernel⟩
@[reducible] noncomputable def st__law_mix:Stmt:=top 6
@[reducible] noncomputable def P__law_mix:List Str:=["_law_cell","_law_k"]
theorem m__law_mix:mSs (defScope st__law_mix) Kn.N__law_mix Kn.b__law_mix (defBody st__law_mix):=⟨by kernel_rfl,by kernel_rfl⟩
theorem sc__law_mix:FnScope Kn.N__law_mix P__law_mix (defScope st__law_mix):=⟨rfl,rfl,rfl,by decide +kernel,rfl,by decide +kernel,by decide +kernel⟩
@[reducible] noncomputable def st__law_names:Stmt:=top 7
@[reducible] noncomputable def P__law_names:List Str:=["_law_cell","_law_many"]
theorem m__law_names:mSs (defScope st__law_names) Kn.N__law_names Kn.b__law_names (defBody st__law_names):=⟨by kernel_rfl,by kernel_rfl⟩
theorem sc__law_names:FnScope Kn.N__law_names P__law_names (defScope st__law_names):=⟨rfl,rfl,rfl,by decide +kernel,rfl,by decide +kernel,by decide +kernel⟩
@[reducible] noncomputable def st__law_merged:Stmt:=top 8
@[reducible] noncomputable def P__law_merged:List Str:=["_law_units_here","_law_mates","_law_cell"]
theorem m__law_merged:mSs (defScope st__law_merged) Kn.N__law_merged Kn.b__law_merged (defBody st__law_merged):=⟨by kernel_rfl,by kernel_rfl⟩
theorem sc__law_merged:FnScope Kn.N__law_merged P__law_merged (defScope st__law_merged):=⟨rfl,rfl,rfl,by decide +kernel,rfl,by decide +kernel,by decide +kernel⟩
@[reducible] noncomputable def st__law_units:Stmt:=top 9
@[reducible] noncomputable def P__law_units:List Str:=["_law_script","_law_names_here","_law_mates"]
theorem m__law_units:mSs (defScope st__law_units) Kn.N__law_units Kn.b__law_units (defBody st__law_units):=⟨by kernel_rfl,by kernel_rfl⟩
theorem sc__law_units:FnScope Kn.N__law_units P__law_units (defScope st__law_units):=⟨rfl,rfl,rfl,by decide +kernel,rfl,by decide +kernel,by decide +kernel⟩
@[reducible] noncomputable def st__law_row_right:Stmt:=top 10
@[reducible] noncomputable def P__law_row_right:List Str:=["_law_row","_law_couple","_law_unit","_law_mates","_law_links"]
theorem m__law_row_right:mSs (defScope st__law_row_right) Kn.N__law_row_right Kn.b__law_row_right (defBody st__law_row_right):=⟨by kernel_rfl,by kernel_rfl⟩
theorem sc__law_row_right:FnScope Kn.N__law_row_right P__law_row_right (defScope st__law_row_right):=⟨rfl,rfl,rfl,by decide +kernel,rfl,by decide +kernel,by decide +kernel⟩
@[reducible] noncomputable def st__law_stays:Stmt:=top 11
@[reducible] noncomputable def P__law_stays:List Str:=["_law_unit"]
theorem m__law_stays:mSs (defScope st__law_stays) Kn.N__law_stays Kn.b__law_stays (defBody st__law_stays):=⟨by kernel_rfl,by kernel_rfl⟩
theorem sc__law_stays:FnScope Kn.N__law_stays P__law_stays (defScope st__law_stays):=⟨rfl,rfl,rfl,by decide +kernel,rfl,by decide +kernel,by decide +kernel⟩
@[reducible] noncomputable def st_law:Stmt:=top 12
@[reducible] noncomputable def P_law:List Str:=["_law_script"]
theorem m_law:mSs (defScope st_law) Kn.N_law Kn.b_law (defBody st_law):=⟨by kernel_rfl,by kernel_rfl⟩
theorem sc_law:FnScope Kn.N_law P_law (defScope st_law):=⟨rfl,rfl,rfl,by decide +kernel,rfl,by decide +kernel,by decide +kernel⟩
end K22
namespace K22
open PySem PySem.Spec PyProof.Rows L2 Sw Kn
open PySem.W (Frag keepIn ktsIn mroIn kitOne nsIn findIn typeIn takerIn hasDictIn codeIn fnOf mg_of mg_none_of)
section
variable {P:Program} {w:World} {K:Frag} {mg:Str->Option Value} {base h:Heap} {CS CG fSi fSm fSn fSl fGi fGm fGn fGb fGp fGs fGf fGl:Addr}
theorem mstep {Γ:Gam} {k:Nat} {x qual:Str} {st:Stmt} {f:Addr} {N ps:List Str} {body:Sxs} {sp:Sp} {fd:FuncData} (F:Fun K x qual st f fd) (S:FnScope N ps (defScope st)) (g:GOk P w K mg base Γ k) (hm:mSs (defScope st) N body (defBody st)) (hhd:Γ.hd=false)
  (h:∀vs H Q E,sp vs H Q E->spOf Γ N ps.length body vs H Q E):FnOk P w K mg base (CXW P w) (k + 2) f fd ps sp:=(fn_spOf F S g hm hhd).imp h
theorem gm_all (c:Clss K CS CG fSi fSm fSn fSl fGi fGm fGn fGb fGp fGs fGf fGl) {fdm fdg:FuncData} (g0:GOk P w K mg base (Gs K CS CG) 1) (Fm:Fun K "members" "Single.members" st_Single_members fSm fdm) (Fg:Fun K "members" "Group.members" st_Group_members fGm fdg)
  (bm:Binds K fdm P_Single_members []) (bg:Binds K fdg P_Group_members []):
  ∀n,GOk P w K mg base (Gm K CS CG n) (3 + 2 * n)/\FnOk P w K mg base (CXW P w) (5 + 2 * n) fGm fdg P_Group_members (spMem (modK K) fun O=>KGrp CS CG O n):=by
 have om:FnOk P w K mg base (CXW P w) 3 fSm fdm P_Single_members (spMem (modK K) (KOne CS)):=mstep Fm sc_Single_members g0 m_Single_members rfl (Kn.ok_smem rfl oflS)
 have go:∀n,(∀ m,n=m + 1->FnOk P w K mg base (CXW P w) (3 + 2 * n) fGm fdg P_Group_members (spMem (modK K) fun O=>KGrp CS CG O m))->GOk P w K mg base (Gm K CS CG n) (3 + 2 * n):=fun n hn=>by
  have g:=g0.mono (k:=3 + 2 * n) (by omega)
  refine⟨g.mod,g.con,g.fn,g.exc,g.no,g.sub,g.cat,g.fo,g.vc,g.gd,⟨g.own.ofl,fun C m h=>?_,g.own.ocl,g.own.osb⟩⟩
  replace h:(decide (C=CS/\m= "members") || decide (C=CG/\m= "members" /\0 < n))=true:=h
  rw[Bool.or_eq_true,decide_eq_true_eq,decide_eq_true_eq]at h
  show ∃fa fd ps,Cls K C/\Meth K C m fa/\FnOk P w K mg base (CXW P w) (3 + 2 * n) fa fd ps (if C=CS then _ else _)/\_
  rcases h with ⟨rfl,rfl⟩ | ⟨rfl,rfl,n0⟩
  ·exact⟨_,_,_,c.cS,c.sm,by rw[if_pos rfl];exact om.mono (by omega),bm⟩
  ·obtain⟨m,rfl⟩:∃m,n=m + 1:=⟨n - 1,by omega⟩
   exact⟨_,_,_,c.cG,c.gm,by rw[if_neg c.ne];exact hn m rfl,bg⟩
 intro n
 induction n with
 | zero=>
  have g:=go 0 fun m e=>by cases e
  exact⟨g,mstep Fg sc_Group_members g m_Group_members rfl (Kn.ok_gmem rfl rfl (km c.ne 0) (oflR (K:=K)))⟩
 | succ n ih=>
  have g:=go (n + 1) fun m e=>by cases e;exact ih.2.mono (by omega)
  exact⟨g,(mstep Fg sc_Group_members g m_Group_members rfl (Kn.ok_gmem rfl rfl (km c.ne (n + 1)) (oflR (K:=K)))).mono (by omega)⟩
structure Mths (K:Frag) (fSi fSm fSn fSl fGi fGm fGn fGb fGp fGs fGf fGl:Addr):Prop where
 si:∃fd,Fun K "__init__" "Single.__init__" st_Single___init__ fSi fd
 sm:∃fd,Fun K "members" "Single.members" st_Single_members fSm fd
 sn:∃fd,Fun K "inner" "Single.inner" st_Single_inner fSn fd
 sl:∃fd,Fun K "led" "Single.led" st_Single_led fSl fd
 gi:∃fd,Fun K "__init__" "Group.__init__" st_Group___init__ fGi fd
 gm:∃fd,Fun K "members" "Group.members" st_Group_members fGm fd
 gn:∃fd,Fun K "inner" "Group.inner" st_Group_inner fGn fd
 gb:∃fd,Fun K "base" "Group.base" st_Group_base fGb fd
 gp:∃fd,Fun K "place_of" "Group.place_of" st_Group_place_of fGp fd
 gs:∃fd,Fun K "beside" "Group.beside" st_Group_beside fGs fd
 gf:∃fd,Fun K "link_from" "Group.link_from" st_Group_link_from fGf fd
 gl:∃fd,Fun K "led" "Group.led" st_Group_led fGl fd
theorem gb_ok (c:Clss K CS CG fSi fSm fSn fSl fGi fGm fGn fGb fGp fGs fGf fGl) (g0:GOk P w K mg base (Gs K CS CG) 1) {fd:FuncData} (o:FnOk P w K mg base (CXW P w) 3 fGs fd P_Group_beside (spBeside CG)) (b:Binds K fd P_Group_beside []):GOk P w K mg base (Gb K CS CG) 3:=by
 have g:=g0.mono (k:=3) (by decide)
 refine⟨g.mod,g.con,g.fn,g.exc,g.no,g.sub,g.cat,g.fo,g.vc,g.gd,⟨g.own.ofl,fun C m h=>?_,g.own.ocl,g.own.osb⟩⟩
 replace h:decide (C=CG/\m= "beside")=true:=h
 obtain⟨rfl,rfl⟩:=of_decide_eq_true h
 exact⟨_,_,_,c.cG,c.gs,o,b⟩
theorem gl_all (X:K.In h) (G:h.Ns mainGlobals mg) (T:∀x ∈ bltNames,nsIn K mainGlobals x=some none) (c:Clss K CS CG fSi fSm fSn fSl fGi fGm fGn fGb fGp fGs fGf fGl) (m:Mths K fSi fSm fSn fSl fGi fGm fGn fGb fGp fGs fGf fGl):∀n,n<=10->GOk P w K mg base (Gl K CS CG n) (27 + 2 * n):=by
 have g0:GOk P w K mg base (Gs K CS CG) 1:=gs_ok X G T c
 obtain⟨⟨e1,F1⟩,⟨e2,F2⟩,⟨e3,F3⟩,⟨e4,F4⟩,⟨e5,F5⟩,⟨e6,F6⟩,⟨e7,F7⟩,⟨e8,F8⟩,⟨e9,F9⟩,⟨e10,F10⟩,⟨e11,F11⟩,⟨e12,F12⟩⟩:=m
 have b1:Binds K e1 P_Single___init__ []:=binds_2 F1 fun _ _=>fun _ _ _ _ _ _=>rfl
 have b2:Binds K e2 P_Single_members []:=binds_1 F2 fun _=>fun _ _ _ _ _ _=>rfl
 have b3:Binds K e3 P_Single_inner []:=binds_1 F3 fun _=>fun _ _ _ _ _ _=>rfl
 have b4:Binds K e4 P_Single_led []:=binds_3 F4 fun _ _ _=>fun _ _ _ _ _ _=>rfl
 have b5:Binds K e5 P_Group___init__ []:=binds_3 F5 fun _ _ _=>fun _ _ _ _ _ _=>rfl
 have b6:Binds K e6 P_Group_members []:=binds_1 F6 fun _=>fun _ _ _ _ _ _=>rfl
 have b7:Binds K e7 P_Group_inner []:=binds_1 F7 fun _=>fun _ _ _ _ _ _=>rfl
 have b8:Binds K e8 P_Group_base []:=binds_2 F8 fun _ _=>fun _ _ _ _ _ _=>rfl
 have b9:Binds K e9 P_Group_place_of []:=binds_2 F9 fun _ _=>fun _ _ _ _ _ _=>rfl
 have b10:Binds K e10 P_Group_beside []:=binds_3 F10 fun _ _ _=>fun _ _ _ _ _ _=>rfl
 have b11:Binds K e11 P_Group_link_from []:=binds_3 F11 fun _ _ _=>fun _ _ _ _ _ _=>rfl
 have b12:Binds K e12 P_Group_led []:=binds_3 F12 fun _ _ _=>fun _ _ _ _ _ _=>rfl
 have o1:FnOk P w K mg base (CXW P w) 3 fSi e1 P_Single___init__ (spSInit CS):=mstep F1 sc_Single___init__ g0 m_Single___init__ rfl (Kn.ok_sinit oflS)
 have o2:FnOk P w K mg base (CXW P w) 3 fSm e2 P_Single_members (spMem (modK K) (KOne CS)):=mstep F2 sc_Single_members g0 m_Single_members rfl (Kn.ok_smem rfl oflS)
 have o3:FnOk P w K mg base (CXW P w) 3 fSn e3 P_Single_inner (spSInner (modK K) CS):=mstep F3 sc_Single_inner g0 m_Single_inner rfl (Kn.ok_sinner rfl)
 have o4:FnOk P w K mg base (CXW P w) 3 fSl e4 P_Single_led (spLed (modK K) fun O _ _=>LOne CS O):=mstep F4 sc_Single_led g0 m_Single_led rfl (Kn.ok_sled rfl oflS)
 have o5:FnOk P w K mg base (CXW P w) 3 fGi e5 P_Group___init__ (spGInit (modK K) CG):=mstep F5 sc_Group___init__ g0 m_Group___init__ rfl (Kn.ok_ginit rfl rfl (oflR (K:=K)) (oflL (K:=K)))
 have o7:FnOk P w K mg base (CXW P w) 3 fGn e7 P_Group_inner (spGInner (modK K) CG):=mstep F7 sc_Group_inner g0 m_Group_inner rfl (Kn.ok_ginner rfl rfl (oflR (K:=K)))
 have o10:FnOk P w K mg base (CXW P w) 3 fGs e10 P_Group_beside (spBeside CG):=mstep F10 sc_Group_beside g0 m_Group_beside rfl (Kn.ok_beside rfl (oflR (K:=K)))
 have gb:=gb_ok c g0 o10 b10
 have o11:FnOk P w K mg base (CXW P w) 5 fGf e11 P_Group_link_from (spLinkF (modK K) CG):=mstep F11 sc_Group_link_from gb m_Group_link_from rfl (Kn.ok_linkf rfl rfl ⟨decide_eq_true ⟨rfl,rfl⟩,rfl⟩ (oflL (K:=K) (CS:=CS)))
 have all:=gm_all c g0 F2 F6 b2 b6
 have o6:=(all 10).2
 have o8:FnOk P w K mg base (CXW P w) 27 fGb e8 P_Group_base (spGBase (modK K) CS CG 10):=mstep F8 sc_Group_base (all 11).1 m_Group_base rfl (Kn.ok_gbase rfl rfl (km c.ne 11))
 have o9:FnOk P w K mg base (CXW P w) 27 fGp e9 P_Group_place_of (spPlace (modK K) CS CG 11):=mstep F9 sc_Group_place_of (all 11).1 m_Group_place_of rfl (Kn.ok_place rfl rfl (km c.ne 11) (oflR (K:=K) (CS:=CS)))
 have go:∀n,(∀ m,n=m + 1->FnOk P w K mg base (CXW P w) (27 + 2 * n) fGl e12 P_Group_led (spLed (modK K) fun O μ L=>LGrp CS CG O μ L m))->GOk P w K mg base (Gl K CS CG n) (27 + 2 * n):=fun n hn=>by
  have g:=g0.mono (k:=27 + 2 * n) (by omega)
  refine⟨g.mod,g.con,g.fn,g.exc,g.no,g.sub,g.cat,g.fo,g.vc,g.gd,⟨g.own.ofl,fun C m h=>?_,fun x C h=>?_,g.own.osb⟩⟩
  ·replace h:(decide (C=CS/\(m= "members" \/m= "inner" \/m= "led")) || decide (C=CG/\(m= "members" \/m= "inner" \/m= "base" \/m= "place_of" \/m= "beside" \/m= "link_from" \/(m= "led" /\0 < n))))=true:=h
   rw[Bool.or_eq_true,decide_eq_true_eq,decide_eq_true_eq]at h
   rcases h with ⟨rfl,h⟩ | ⟨rfl,h⟩
   ·rw[oS]
    unfold tS
    rcases h with rfl | rfl | rfl
    ·exact⟨_,_,_,c.cS,c.sm,by rw[if_pos rfl];exact o2.mono (by omega),b2⟩
    ·exact⟨_,_,_,c.cS,c.sn,by rw[if_neg (by decide),if_pos rfl];exact o3.mono (by omega),b3⟩
    ·exact⟨_,_,_,c.cS,c.sl,by rw[if_neg (by decide),if_neg (by decide)];exact o4.mono (by omega),b4⟩
   ·rw[oG c.ne]
    unfold tG
    rcases h with rfl | rfl | rfl | rfl | rfl | rfl | ⟨rfl,n0⟩
    ·exact⟨_,_,_,c.cG,c.gm,by rw[if_pos rfl];exact o6.mono (by omega),b6⟩
    ·exact⟨_,_,_,c.cG,c.gn,by rw[if_neg (by decide),if_pos rfl];exact o7.mono (by omega),b7⟩
    ·exact⟨_,_,_,c.cG,c.gb,by rw[if_neg (by decide),if_neg (by decide),if_pos rfl];exact o8.mono (by omega),b8⟩
    ·exact⟨_,_,_,c.cG,c.gp,by rw[if_neg (by decide),if_neg (by decide),if_neg (by decide),if_pos rfl];exact o9.mono (by omega),b9⟩
    ·exact⟨_,_,_,c.cG,c.gs,by rw[if_neg (by decide),if_neg (by decide),if_neg (by decide),if_neg (by decide),if_pos rfl];exact o10.mono (by omega),b10⟩
    ·exact⟨_,_,_,c.cG,c.gf,by rw[if_neg (by decide),if_neg (by decide),if_neg (by decide),if_neg (by decide),if_neg (by decide),if_pos rfl];exact o11.mono (by omega),b11⟩
    ·obtain⟨m,rfl⟩:∃m,n=m + 1:=⟨n - 1,by omega⟩
     exact⟨_,_,_,c.cG,c.gl,by rw[if_neg (by decide),if_neg (by decide),if_neg (by decide),if_neg (by decide),if_neg (by decide),if_neg (by decide)];exact hn m rfl,b12⟩
  ·replace h:(if x= "Single" then some CS else if x= "Group" then some CG else none)=some C:=h
   show ∃fa fd ps,mg x=some (.ref C)/\Mk K C fa/\FnOk P w K mg base (CXW P w) (27 + 2 * n) fa fd ps (if x= "Single" then _ else _)/\_
   split at h
   ·rename_i e
    cases h
    subst e
    exact⟨_,_,_,mg_of X G c.nS,c.mkS,by rw[if_pos rfl];exact o1.mono (by omega),b1⟩
   ·split at h
    ·rename_i e
     cases h
     subst e
     exact⟨_,_,_,mg_of X G c.nG,c.mkG,by rw[if_neg (by decide)];exact o5.mono (by omega),b5⟩
    ·cases h
 intro n
 induction n with
 | zero=>exact fun _=>go 0 fun m e=>by cases e
 | succ n ih=>
  intro hn
  have g:=ih (by omega)
  have o:=mstep F12 sc_Group_led g m_Group_led rfl (Kn.ok_gled (kld (K:=K) c.ne n) (by omega))
  exact go (n + 1) fun m e=>by cases e;exact o.mono (by omega)
end
end K22
namespace K22
open PySem PySem.Spec PyProof.Rows L2 Sw Kn
open PySem.W (Frag keepIn ktsIn mroIn kitOne nsIn findIn typeIn takerIn hasDictIn codeIn fnOf mg_of mg_none_of)
structure DefK (K:Frag) (x:Str) (st:Stmt) (f:Addr):Prop where
 at_:nsIn K mainGlobals x=some (some (.ref f))
 fn:∃fd,Fun K x x st f fd
theorem defK {K:Frag} {x:Str} {st:Stmt} {f:Addr} {oc:Value} {od an:Option Addr} {osl:Array (Option Value)} {kV doc pm cdv ct:Value} (a:nsIn K mainGlobals x=some (some (.ref f)))
  (l:K.lookup f=some ⟨oc,od,.func (fnOf x x (defArgs st) (defBody st) (defScope st) .none kV doc pm an cdv ct),osl⟩) (c:codeIn K cdv x=true) (k:keepIn K (.ref f)=true):DefK K x st f:=⟨a,_,fun_mk l c k⟩
theorem len_five {α:Type}:∀ {us:List α},us.length=5->∃a b c d e,us=[a,b,c,d,e]
 | [a,b,c,d,e],_=>⟨a,b,c,d,e,rfl⟩
theorem binds_5 {K:Frag} {x qual:Str} {st:Stmt} {f:Addr} {fd:FuncData} {p q r t y:Str} (F:Fun K x qual st f fd) (h:∀a b c d e,bindsAs x qual st [p,q,r,t,y] [a,b,c,d,e]):Binds K fd [p,q,r,t,y] []:=F.binds fun kV doc pm an cdv ct us hl=>by
 obtain⟨a,b,c,d,e,rfl⟩:=len_five hl
 exact h a b c d e kV doc pm an cdv ct
section
variable {P:Program} {w:World} {K:Frag} {mg:Str->Option Value} {base h:Heap} {CS CG fSi fSm fSn fSl fGi fGm fGn fGb fGp fGs fGf fGl:Addr}
theorem step {Γ:Gam} {k:Nat} {x:Str} {st:Stmt} {f:Addr} {N ps:List Str} {body:Sxs} {sp:Sp} (D:DefK K x st f) (S:FnScope N ps (defScope st)) (g:GOk P w K mg base Γ k) (hm:mSs (defScope st) N body (defBody st)) (hhd:Γ.hd=false)
  (h:∀vs H Q E,sp vs H Q E->spOf Γ N ps.length body vs H Q E):∃fd,Fun K x x st f fd/\FnOk P w K mg base (CXW P w) (k + 2) f fd ps sp:=by
 obtain⟨fd,F⟩:=D.fn
 exact⟨fd,F,(fn_spOf F S g hm hhd).imp h⟩
local macro_rules | `(tactic| walk_at "look")=>`(tactic| exact⟨by kernel_rfl,by kernel_rfl⟩)
noncomputable def Gf (K:Frag) (CS CG:Addr):Gam:=Gl K CS CG 10
theorem oclS {l:List (Str × Sp)}:((Gf K CS CG).wit l).ocl "Single" =some CS:=by
 show(if("Single" :Str)= "Single" then some CS else if("Single" :Str)= "Group" then some CG else none)=_
 rw[if_pos rfl]
theorem oclG {l:List (Str × Sp)}:((Gf K CS CG).wit l).ocl "Group" =some CG:=by
 show(if("Group" :Str)= "Single" then some CS else if("Group" :Str)= "Group" then some CG else none)=_
 rw[if_neg (by decide),if_pos rfl]
theorem oinS {l:List (Str × Sp)}:((Gf K CS CG).wit l).oin "Single" =spSInit CS:=by
 show(if("Single" :Str)= "Single" then spSInit CS else spGInit (modK K) CG)=_
 rw[if_pos rfl]
theorem oinG {l:List (Str × Sp)}:((Gf K CS CG).wit l).oin "Group" =spGInit (modK K) CG:=by
 show(if("Group" :Str)= "Single" then spSInit CS else spGInit (modK K) CG)=_
 rw[if_neg (by decide)]
theorem KLd.wit {l:List (Str × Sp)} {N n:Nat} (k:KLd (modK K) CS CG (Gf K CS CG) N n):KLd (modK K) CS CG ((Gf K CS CG).wit l) N n:=⟨k.gm,k.gc,⟨k.mem.one,k.mem.grp⟩,k.bg,k.pl,k.be,k.lf,k.l1,k.lg,k.fr⟩
theorem KSt.wit {l:List (Str × Sp)} {n:Nat} (k:KSt (modK K) CS CG (Gf K CS CG) n):KSt (modK K) CS CG ((Gf K CS CG).wit l) n:=⟨k.gm,k.gc,⟨k.mem.one,k.mem.grp⟩,k.is_,k.ig,k.fr,k.fl⟩
noncomputable def spLaw (K:Frag):Sp:=fun vs H Q _=>∃ (a:Addr) (ns:List Int),vs=[.ref a]/\ns.length<=63/\SqL K H a (ns.map V.int)/\∀H',Q (.bl true) H'
noncomputable def Lk0 (K:Frag) (CS CG:Addr):List (Str × Sp):=[]
noncomputable def Lk1 (K:Frag) (CS CG:Addr):List (Str × Sp):=("_law_cell_at",Kn.spCellA (modK K))::Lk0 K CS CG
noncomputable def Lk2 (K:Frag) (CS CG:Addr):List (Str × Sp):=("_law_mix",Kn.spMixF)::Lk1 K CS CG
noncomputable def Lk3 (K:Frag) (CS CG:Addr):List (Str × Sp):=("_law_names",Kn.spNamesK (modK K))::Lk2 K CS CG
noncomputable def Lk4 (K:Frag) (CS CG:Addr):List (Str × Sp):=("_law_merged",Kn.spMg (modK K) CS CG)::Lk3 K CS CG
noncomputable def Lk5 (K:Frag) (CS CG:Addr):List (Str × Sp):=("_law_units",Kn.spUnits (modK K) CS CG)::Lk4 K CS CG
noncomputable def Lk6 (K:Frag) (CS CG:Addr):List (Str × Sp):=("_law_row_right",Kn.spRowR (modK K) CS CG 10)::Lk5 K CS CG
noncomputable def Lk7 (K:Frag) (CS CG:Addr):List (Str × Sp):=("_law_stays",Kn.spStays (modK K) CS CG 10)::Lk6 K CS CG
theorem law_ok {f1 f2 f3 f4 f5 f6 f7 f8:Addr} (X:K.In h) (G:h.Ns mainGlobals mg) (T:∀x ∈ bltNames,nsIn K mainGlobals x=some none) (c:Clss K CS CG fSi fSm fSn fSl fGi fGm fGn fGb fGp fGs fGf fGl) (m:Mths K fSi fSm fSn fSl fGi fGm fGn fGb fGp fGs fGf fGl)
  (d1:DefK K "_law_cell_at" st__law_cell_at f1) (d2:DefK K "_law_mix" st__law_mix f2) (d3:DefK K "_law_names" st__law_names f3) (d4:DefK K "_law_merged" st__law_merged f4) (d5:DefK K "_law_units" st__law_units f5) (d6:DefK K "_law_row_right" st__law_row_right f6) (d7:DefK K "_law_stays" st__law_stays f7) (d8:DefK K "law" st_law f8):
  ∃fd,Fun K "law" "law" st_law f8 fd/\FnOk P w K mg base (CXW P w) 63 f8 fd ["_law_script"] (spLaw K):=by
 have g0:GOk P w K mg base ((Gf K CS CG).wit (Lk0 K CS CG)) 47:=(gl_all X G T c m 10 (Nat.le_refl _)).wit0
 obtain⟨e1,F1,o1⟩:=step (sp:=Kn.spCellA (modK K)) d1 sc__law_cell_at g0 m__law_cell_at rfl (Kn.ok_cellA rfl rfl)
 have b1:Binds K e1 P__law_cell_at []:=binds_2 F1 fun _ _=>fun _ _ _ _ _ _=>rfl
 have g1:GOk P w K mg base ((Gf K CS CG).wit (Lk1 K CS CG)) 49:=GOk.wit1 (g0.mono (k:=49) (by decide)) (mg_of X G d1.at_) F1.kp o1 b1 (by decide)
 obtain⟨e2,F2,o2⟩:=step (sp:=Kn.spMixF) d2 sc__law_mix g1 m__law_mix rfl (Kn.ok_mixF)
 have b2:Binds K e2 P__law_mix []:=binds_2 F2 fun _ _=>fun _ _ _ _ _ _=>rfl
 have g2:GOk P w K mg base ((Gf K CS CG).wit (Lk2 K CS CG)) 51:=GOk.wit1 (g1.mono (k:=51) (by decide)) (mg_of X G d2.at_) F2.kp o2 b2 (by decide)
 obtain⟨e3,F3,o3⟩:=step (sp:=Kn.spNamesK (modK K)) d3 sc__law_names g2 m__law_names rfl (Kn.ok_namesK rfl rfl (by walk_at "look"))
 have b3:Binds K e3 P__law_names []:=binds_2 F3 fun _ _=>fun _ _ _ _ _ _=>rfl
 have g3:GOk P w K mg base ((Gf K CS CG).wit (Lk3 K CS CG)) 53:=GOk.wit1 (g2.mono (k:=53) (by decide)) (mg_of X G d3.at_) F3.kp o3 b3 (by decide)
 obtain⟨e4,F4,o4⟩:=step (sp:=Kn.spMg (modK K) CS CG) d4 sc__law_merged g3 m__law_merged rfl (fun vs H Q E z=>let ⟨n,z⟩:=z;Kn.ok_merged rfl rfl (by walk_at "look") oclG oinG vs H Q E z)
 have b4:Binds K e4 P__law_merged []:=binds_3 F4 fun _ _ _=>fun _ _ _ _ _ _=>rfl
 have g4:GOk P w K mg base ((Gf K CS CG).wit (Lk4 K CS CG)) 55:=GOk.wit1 (g3.mono (k:=55) (by decide)) (mg_of X G d4.at_) F4.kp o4 b4 (by decide)
 obtain⟨e5,F5,o5⟩:=step (sp:=Kn.spUnits (modK K) CS CG) d5 sc__law_units g4 m__law_units rfl (Kn.ok_units rfl rfl (by walk_at "look") oclS oinS)
 have b5:Binds K e5 P__law_units []:=binds_3 F5 fun _ _ _=>fun _ _ _ _ _ _=>rfl
 have g5:GOk P w K mg base ((Gf K CS CG).wit (Lk5 K CS CG)) 57:=GOk.wit1 (g4.mono (k:=57) (by decide)) (mg_of X G d5.at_) F5.kp o5 b5 (by decide)
 obtain⟨e6,F6,o6⟩:=step (sp:=Kn.spRowR (modK K) CS CG 10) d6 sc__law_row_right g5 m__law_row_right rfl (Kn.ok_rowR rfl rfl)
 have b6:Binds K e6 P__law_row_right []:=binds_5 F6 fun _ _ _ _ _=>fun _ _ _ _ _ _=>rfl
 have g6:GOk P w K mg base ((Gf K CS CG).wit (Lk6 K CS CG)) 59:=GOk.wit1 (g5.mono (k:=59) (by decide)) (mg_of X G d6.at_) F6.kp o6 b6 (by decide)
 obtain⟨e7,F7,o7⟩:=step (sp:=Kn.spStays (modK K) CS CG 10) d7 sc__law_stays g6 m__law_stays rfl (Kn.ok_stays (KSt.wit (kst (K:=K) c.ne 10)))
 have b7:Binds K e7 P__law_stays []:=binds_1 F7 fun _=>fun _ _ _ _ _ _=>rfl
 have g7:GOk P w K mg base ((Gf K CS CG).wit (Lk7 K CS CG)) 61:=GOk.wit1 (g6.mono (k:=61) (by decide)) (mg_of X G d7.at_) F7.kp o7 b7 (by decide)
 obtain⟨e8,F8,o8⟩:=step (sp:=Kn.spLawK (modK K)) d8 sc_law g7 m_law rfl (Kn.ok_lawK ⟨KLd.wit (kld (K:=K) c.ne 10),by walk_at "look",by walk_at "look",by walk_at "look",by walk_at "look",by walk_at "look"⟩)
 refine⟨e8,F8,FnOk.off o8 (fun vs H Q E h=>?_) fun vs H Q E off h=>?_⟩
 ·obtain⟨a,ns,rfl,_⟩:=h;rfl
 ·obtain⟨a,ns,rfl,hl,hs,q⟩:=h
  exact⟨a,ns,rfl,hl,script_rd off hs,fun a ha=>(let ⟨o,e⟩:=(modK_ok K).look ha;off a o e),q⟩
end
end K22
namespace K22
open PySem PySem.Spec PyProof.Rows L2 Sw Kn
open PySem.W (Frag keepIn ktsIn mroIn kitOne nsIn findIn typeIn takerIn hasDictIn codeIn fnOf mg_of mg_none_of)
set_option maxHeartbeats 4000000 in
theorem all_mk {l:PySem.W.OpenLaw} {w:World} {K:Frag} {h:Heap} {mg:Str->Option Value} {fa:Addr} (X:K.In h) (G:h.Ns mainGlobals mg) (hfa:mg "law" =some (.ref fa))
  {CS CG:Addr}
  {f1 f2 f3 f4 f5 f6 f7 f8 fSi fSm fSn fSl fGi fGm fGn fGb fGp fGs fGf fGl:Addr}
  {od1 an1 od2 an2 od3 an3 od4 an4 od5 an5 od6 an6 od7 an7 od8 an8 odSi anSi odSm anSm odSn anSn odSl anSl odGi anGi odGm anGm odGn anGn odGb anGb odGp anGp odGs anGs odGf anGf odGl anGl:Option Addr}
  {sl1 sl2 sl3 sl4 sl5 sl6 sl7 sl8 slSi slSm slSn slSl slGi slGm slGn slGb slGp slGs slGf slGl:Array (Option Value)}
  {oc1 kV1 dc1 pm1 cd1 ct1 oc2 kV2 dc2 pm2 cd2 ct2 oc3 kV3 dc3 pm3 cd3 ct3 oc4 kV4 dc4 pm4 cd4 ct4 oc5 kV5 dc5 pm5 cd5 ct5 oc6 kV6 dc6 pm6 cd6 ct6 oc7 kV7 dc7 pm7 cd7 ct7 oc8 kV8 dc8 pm8 cd8 ct8 ocSi kVSi dcSi pmSi cdSi ctSi ocSm kVSm dcSm pmSm cdSm ctSm ocSn kVSn dcSn pmSn cdSn ctSn ocSl kVSl dcSl pmSl cdSl ctSl ocGi kVGi dcGi pmGi cdGi ctGi ocGm kVGm dcGm pmGm cdGm ctGm ocGn kVGn dcGn pmGn cdGn ctGn ocGb kVGb dcGb pmGb cdGb ctGb ocGp kVGp dcGp pmGp cdGp ctGp ocGs kVGs dcGs pmGs cdGs ctGs ocGf kVGf dcGf pmGf cdGf ctGf ocGl kVGl dcGl pmGl cdGl ctGl:Value}
  (a1:nsIn K mainGlobals "_law_cell_at" =some (some (.ref f1)))
  (l1:K.lookup f1=some ⟨oc1,od1,.func (fnOf "_law_cell_at" "_law_cell_at" (defArgs st__law_cell_at) (defBody st__law_cell_at) (defScope st__law_cell_at) .none kV1 dc1 pm1 an1 cd1 ct1),sl1⟩)
  (c1:codeIn K cd1 "_law_cell_at" =true)
  (k1:keepIn K (.ref f1)=true)
  (a2:nsIn K mainGlobals "_law_mix" =some (some (.ref f2)))
  (l2:K.lookup f2=some ⟨oc2,od2,.func (fnOf "_law_mix" "_law_mix" (defArgs st__law_mix) (defBody st__law_mix) (defScope st__law_mix) .none kV2 dc2 pm2 an2 cd2 ct2),sl2⟩)
  (c2:codeIn K cd2 "_law_mix" =true)
  (k2:keepIn K (.ref f2)=true)
  (a3:nsIn K mainGlobals "_law_names" =some (some (.ref f3)))
  (l3:K.lookup f3=some ⟨oc3,od3,.func (fnOf "_law_names" "_law_names" (defArgs st__law_names) (defBody st__law_names) (defScope st__law_names) .none kV3 dc3 pm3 an3 cd3 ct3),sl3⟩)
  (c3:codeIn K cd3 "_law_names" =true)
  (k3:keepIn K (.ref f3)=true)
  (a4:nsIn K mainGlobals "_law_merged" =some (some (.ref f4)))
  (l4:K.lookup f4=some ⟨oc4,od4,.func (fnOf "_law_merged" "_law_merged" (defArgs st__law_merged) (defBody st__law_merged) (defScope st__law_merged) .none kV4 dc4 pm4 an4 cd4 ct4),sl4⟩)
  (c4:codeIn K cd4 "_law_merged" =true)
  (k4:keepIn K (.ref f4)=true)
  (a5:nsIn K mainGlobals "_law_units" =some (some (.ref f5)))
  (l5:K.lookup f5=some ⟨oc5,od5,.func (fnOf "_law_units" "_law_units" (defArgs st__law_units) (defBody st__law_units) (defScope st__law_units) .none kV5 dc5 pm5 an5 cd5 ct5),sl5⟩)
  (c5:codeIn K cd5 "_law_units" =true)
  (k5:keepIn K (.ref f5)=true)
  (a6:nsIn K mainGlobals "_law_row_right" =some (some (.ref f6)))
  (l6:K.lookup f6=some ⟨oc6,od6,.func (fnOf "_law_row_right" "_law_row_right" (defArgs st__law_row_right) (defBody st__law_row_right) (defScope st__law_row_right) .none kV6 dc6 pm6 an6 cd6 ct6),sl6⟩)
  (c6:codeIn K cd6 "_law_row_right" =true)
  (k6:keepIn K (.ref f6)=true)
  (a7:nsIn K mainGlobals "_law_stays" =some (some (.ref f7)))
  (l7:K.lookup f7=some ⟨oc7,od7,.func (fnOf "_law_stays" "_law_stays" (defArgs st__law_stays) (defBody st__law_stays) (defScope st__law_stays) .none kV7 dc7 pm7 an7 cd7 ct7),sl7⟩)
  (c7:codeIn K cd7 "_law_stays" =true)
  (k7:keepIn K (.ref f7)=true)
  (a8:nsIn K mainGlobals "law" =some (some (.ref f8)))
  (l8:K.lookup f8=some ⟨oc8,od8,.func (fnOf "law" "law" (defArgs st_law) (defBody st_law) (defScope st_law) .none kV8 dc8 pm8 an8 cd8 ct8),sl8⟩)
  (c8:codeIn K cd8 "law" =true)
  (k8:keepIn K (.ref f8)=true)
  (nS:nsIn K mainGlobals "Single" =some (some (.ref CS)))
  (nG:nsIn K mainGlobals "Group" =some (some (.ref CG)))
  (mSi:findIn K (.ref CS) "__init__" =some (some (.ref fSi)))
  (lSi:K.lookup fSi=some ⟨ocSi,odSi,.func (fnOf "__init__" "Single.__init__" (defArgs st_Single___init__) (defBody st_Single___init__) (defScope st_Single___init__) .none kVSi dcSi pmSi anSi cdSi ctSi),slSi⟩)
  (cSi:codeIn K cdSi "Single.__init__" =true)
  (kSi:keepIn K (.ref fSi)=true)
  (iSi:PySem.W.isFn K (.ref fSi)=true)
  (mSm:findIn K (.ref CS) "members" =some (some (.ref fSm)))
  (lSm:K.lookup fSm=some ⟨ocSm,odSm,.func (fnOf "members" "Single.members" (defArgs st_Single_members) (defBody st_Single_members) (defScope st_Single_members) .none kVSm dcSm pmSm anSm cdSm ctSm),slSm⟩)
  (cSm:codeIn K cdSm "Single.members" =true)
  (kSm:keepIn K (.ref fSm)=true)
  (iSm:PySem.W.isFn K (.ref fSm)=true)
  (mSn:findIn K (.ref CS) "inner" =some (some (.ref fSn)))
  (lSn:K.lookup fSn=some ⟨ocSn,odSn,.func (fnOf "inner" "Single.inner" (defArgs st_Single_inner) (defBody st_Single_inner) (defScope st_Single_inner) .none kVSn dcSn pmSn anSn cdSn ctSn),slSn⟩)
  (cSn:codeIn K cdSn "Single.inner" =true)
  (kSn:keepIn K (.ref fSn)=true)
  (iSn:PySem.W.isFn K (.ref fSn)=true)
  (mSl:findIn K (.ref CS) "led" =some (some (.ref fSl)))
  (lSl:K.lookup fSl=some ⟨ocSl,odSl,.func (fnOf "led" "Single.led" (defArgs st_Single_led) (defBody st_Single_led) (defScope st_Single_led) .none kVSl dcSl pmSl anSl cdSl ctSl),slSl⟩)
  (cSl:codeIn K cdSl "Single.led" =true)
  (kSl:keepIn K (.ref fSl)=true)
  (iSl:PySem.W.isFn K (.ref fSl)=true)
  (mGi:findIn K (.ref CG) "__init__" =some (some (.ref fGi)))
  (lGi:K.lookup fGi=some ⟨ocGi,odGi,.func (fnOf "__init__" "Group.__init__" (defArgs st_Group___init__) (defBody st_Group___init__) (defScope st_Group___init__) .none kVGi dcGi pmGi anGi cdGi ctGi),slGi⟩)
  (cGi:codeIn K cdGi "Group.__init__" =true)
  (kGi:keepIn K (.ref fGi)=true)
  (iGi:PySem.W.isFn K (.ref fGi)=true)
  (mGm:findIn K (.ref CG) "members" =some (some (.ref fGm)))
  (lGm:K.lookup fGm=some ⟨ocGm,odGm,.func (fnOf "members" "Group.members" (defArgs st_Group_members) (defBody st_Group_members) (defScope st_Group_members) .none kVGm dcGm pmGm anGm cdGm ctGm),slGm⟩)
  (cGm:codeIn K cdGm "Group.members" =true)
  (kGm:keepIn K (.ref fGm)=true)
  (iGm:PySem.W.isFn K (.ref fGm)=true)
  (mGn:findIn K (.ref CG) "inner" =some (some (.ref fGn)))
  (lGn:K.lookup fGn=some ⟨ocGn,odGn,.func (fnOf "inner" "Group.inner" (defArgs st_Group_inner) (defBody st_Group_inner) (defScope st_Group_inner) .none kVGn dcGn pmGn anGn cdGn ctGn),slGn⟩)
  (cGn:codeIn K cdGn "Group.inner" =true)
  (kGn:keepIn K (.ref fGn)=true)
  (iGn:PySem.W.isFn K (.ref fGn)=true)
  (mGb:findIn K (.ref CG) "base" =some (some (.ref fGb)))
  (lGb:K.lookup fGb=some ⟨ocGb,odGb,.func (fnOf "base" "Group.base" (defArgs st_Group_base) (defBody st_Group_base) (defScope st_Group_base) .none kVGb dcGb pmGb anGb cdGb ctGb),slGb⟩)
  (cGb:codeIn K cdGb "Group.base" =true)
  (kGb:keepIn K (.ref fGb)=true)
  (iGb:PySem.W.isFn K (.ref fGb)=true)
  (mGp:findIn K (.ref CG) "place_of" =some (some (.ref fGp)))
  (lGp:K.lookup fGp=some ⟨ocGp,odGp,.func (fnOf "place_of" "Group.place_of" (defArgs st_Group_place_of) (defBody st_Group_place_of) (defScope st_Group_place_of) .none kVGp dcGp pmGp anGp cdGp ctGp),slGp⟩)
  (cGp:codeIn K cdGp "Group.place_of" =true)
  (kGp:keepIn K (.ref fGp)=true)
  (iGp:PySem.W.isFn K (.ref fGp)=true)
  (mGs:findIn K (.ref CG) "beside" =some (some (.ref fGs)))
  (lGs:K.lookup fGs=some ⟨ocGs,odGs,.func (fnOf "beside" "Group.beside" (defArgs st_Group_beside) (defBody st_Group_beside) (defScope st_Group_beside) .none kVGs dcGs pmGs anGs cdGs ctGs),slGs⟩)
  (cGs:codeIn K cdGs "Group.beside" =true)
  (kGs:keepIn K (.ref fGs)=true)
  (iGs:PySem.W.isFn K (.ref fGs)=true)
  (mGf:findIn K (.ref CG) "link_from" =some (some (.ref fGf)))
  (lGf:K.lookup fGf=some ⟨ocGf,odGf,.func (fnOf "link_from" "Group.link_from" (defArgs st_Group_link_from) (defBody st_Group_link_from) (defScope st_Group_link_from) .none kVGf dcGf pmGf anGf cdGf ctGf),slGf⟩)
  (cGf:codeIn K cdGf "Group.link_from" =true)
  (kGf:keepIn K (.ref fGf)=true)
  (iGf:PySem.W.isFn K (.ref fGf)=true)
  (mGl:findIn K (.ref CG) "led" =some (some (.ref fGl)))
  (lGl:K.lookup fGl=some ⟨ocGl,odGl,.func (fnOf "led" "Group.led" (defArgs st_Group_led) (defBody st_Group_led) (defScope st_Group_led) .none kVGl dcGl pmGl anGl cdGl ctGl),slGl⟩)
  (cGl:codeIn K cdGl "Group.led" =true)
  (kGl:keepIn K (.ref fGl)=true)
  (iGl:PySem.W.isFn K (.ref fGl)=true)
  (p1s:PySem.W.plainGet K CS Str.empty=true)
  (p2s:hasDictIn K CS=true)
  (p3s:PySem.W.plainOver K CS=true)
  (p4s:findIn K (.ref CS) "__setattr__" =some (some (.builtin "object.__setattr__")))
  (p5s:PySem.W.makesIn K CS=true)
  (p6s:keepIn K (.ref CS)=true)
  (p1g:PySem.W.plainGet K CG Str.empty=true)
  (p2g:hasDictIn K CG=true)
  (p3g:PySem.W.plainOver K CG=true)
  (p4g:findIn K (.ref CG) "__setattr__" =some (some (.builtin "object.__setattr__")))
  (p5g:PySem.W.makesIn K CG=true)
  (p6g:keepIn K (.ref CG)=true)
  (u1:findIn K (.ref CS) "couple" =some none)
  (u2:findIn K (.ref CG) "ring" =some none)
  (u3:findIn K (.ref CG) "links" =some none)
  (t2:kitOne K (.ref CS) (.ref CS)=some true)
  (t4:kitOne K (.ref CG) (.ref CS)=some false)
  (z0:nsIn K mainGlobals "len" =some none)
  (z1:nsIn K mainGlobals "all" =some none)
  (z2:nsIn K mainGlobals "any" =some none)
  (z3:nsIn K mainGlobals "str" =some none)
  (z4:nsIn K mainGlobals "int" =some none)
  (z5:nsIn K mainGlobals "abs" =some none)
  (z6:nsIn K mainGlobals "sorted" =some none)
  (z7:nsIn K mainGlobals "list" =some none)
  (z8:nsIn K mainGlobals "tuple" =some none)
  (z9:nsIn K mainGlobals "max" =some none)
  (z10:nsIn K mainGlobals "min" =some none)
  (z11:nsIn K mainGlobals "sum" =some none)
  (z12:nsIn K mainGlobals "isinstance" =some none)
  (z13:nsIn K mainGlobals "range" =some none)
  (z14:nsIn K mainGlobals "bool" =some none)
  (z15:nsIn K mainGlobals "dict" =some none)
  (z16:nsIn K mainGlobals "set" =some none)
  (z17:nsIn K mainGlobals "ValueError" =some none)
  (z18:nsIn K mainGlobals "reversed" =some none)
  (z19:nsIn K mainGlobals "enumerate" =some none):
  ∃fd:FuncData,(∀ (s:Shared) (v:Value),BindsTo s fd ⟨[v],[]⟩ [("_law_script",v)])/\∀base:Heap,K.In base->base.Ns mainGlobals mg->FnOk l.prog w K mg base (CXW l.prog w) 63 fa fd ["_law_script"] (spLaw K):=by
 have e:=hfa.symm.trans (mg_of X G a8)
 cases e
 have T:∀x ∈ bltNames,nsIn K mainGlobals x=some none:=fun x hx=>by
  unfold bltNames at hx
  simp only[List.mem_cons,List.not_mem_nil,or_false]at hx
  rcases hx with rfl | rfl | rfl | rfl | rfl | rfl | rfl | rfl | rfl | rfl | rfl | rfl | rfl | rfl | rfl | rfl | rfl | rfl | rfl | rfl
  ·exact z0
  ·exact z1
  ·exact z2
  ·exact z3
  ·exact z4
  ·exact z5
  ·exact z6
  ·exact z7
  ·exact z8
  ·exact z9
  ·exact z10
  ·exact z11
  ·exact z12
  ·exact z13
  ·exact z14
  ·exact z15
  ·exact z16
  ·exact z17
  ·exact z18
  ·exact z19
 have F8:=fun_mk (st:=st_law) l8 c8 k8
 have cc:Clss K CS CG fSi fSm fSn fSl fGi fGm fGn fGb fGp fGs fGf fGl:=⟨⟨p1s,p2s,p3s,p4s⟩,⟨p1g,p2g,p3g,p4g⟩,⟨p5s,mSi,iSi,p6s⟩,⟨p5g,mGi,iGi,p6g⟩,⟨mSm,iSm,kSm⟩,⟨mSn,iSn,kSn⟩,⟨mSl,iSl,kSl⟩,⟨mGm,iGm,kGm⟩,⟨mGn,iGn,kGn⟩,⟨mGb,iGb,kGb⟩,⟨mGp,iGp,kGp⟩,⟨mGs,iGs,kGs⟩,⟨mGf,iGf,kGf⟩,⟨mGl,iGl,kGl⟩,u1,u2,u3,nS,nG,t2,t4⟩
 have mm:Mths K fSi fSm fSn fSl fGi fGm fGn fGb fGp fGs fGf fGl:=⟨⟨_,fun_mk lSi cSi kSi⟩,⟨_,fun_mk lSm cSm kSm⟩,⟨_,fun_mk lSn cSn kSn⟩,⟨_,fun_mk lSl cSl kSl⟩,⟨_,fun_mk lGi cGi kGi⟩,⟨_,fun_mk lGm cGm kGm⟩,⟨_,fun_mk lGn cGn kGn⟩,⟨_,fun_mk lGb cGb kGb⟩,⟨_,fun_mk lGp cGp kGp⟩,⟨_,fun_mk lGs cGs kGs⟩,⟨_,fun_mk lGf cGf kGf⟩,⟨_,fun_mk lGl cGl kGl⟩⟩
 refine⟨fnOf "law" "law" (defArgs st_law) (defBody st_law) (defScope st_law) .none kV8 dc8 pm8 an8 cd8 ct8,fun s v=>.of_eq rfl,fun base kb nb=>?_⟩
 obtain⟨fd,F,o⟩:=law_ok (P:=l.prog) (w:=w) (base:=base) X G T cc mm (defK a1 l1 c1 k1) (defK a2 l2 c2 k2) (defK a3 l3 c3 k3) (defK a4 l4 c4 k4) (defK a5 l5 c5 k5) (defK a6 l6 c6 k6) (defK a7 l7 c7 k7) (defK a8 l8 c8 k8)
 obtain⟨_,_,_,_,_,_,_,_,_,e1,e2,_⟩:=F.ex
 obtain⟨_,_,_,_,_,_,_,_,_,e3,e4,_⟩:=F8.ex
 rw[e2]at e4
 injection e4 with e4
 injection e4 with _ _ e4 _
 injection e4 with e4
 rw[<-e4]
 exact o
theorem walk {l:PySem.W.OpenLaw} {q:Program} {loose:List Str} {XP:(Str->Option Value)->Heap->Prop} {YP:World->Heap->Prop} {d:DefRec} {K:Params->PySem.W.Frag} (hn:l.most=some 63) (hdf:d.params.defaults=[])
  (hY:∀ (w:World) (h:Heap),YP w h->(K w.params).In h)
  (F:∀ (w:World) (mg:Str->Option Value) (fa:Addr) (h:Heap),(K w.params).In h->h.Ns mainGlobals mg->mg d.name=some (.ref fa)->
   ∃fd:FuncData,(∀ (s:Shared) (u:Value),BindsTo s fd ⟨[u],[]⟩ [("_law_script",u)])/\∀base:Heap,(K w.params).In base->base.Ns mainGlobals mg->FnOk l.prog w (K w.params) mg base (CXW l.prog w) 63 fa fd ["_law_script"] (spLaw (K w.params))):
  PySem.W.WalkO q loose XP YP l.row.toRowW d [] (fun f vs=>PySem.call f vs):=
 L2.walk_of (n:=63) (k:=63) (x:= "_law_script") (CX:=fun w=>CXW l.prog w) (sp:=fun w=>spLaw (K w.params)) hn (by decide) hdf ⟨rfl,by decide,by decide⟩ hY F (fun _ _ a ns hl _ hS=>⟨a,ns,rfl,hl,hS,fun _=>rfl⟩)
  fun w H s e s' z=>by obtain⟨_,_,_,_,_,_,_,_,_,_,_,_,z⟩:=z;exact z
end K22
open PySem PySem.W PyProof.Rows
set_option maxRecDepth 100000 in
set_option maxHeartbeats 0 in
theorem PySem.Challenge.cw_swapward_k22_led_to_the_base_holds : PySem.Challenge.rw_swapward_k22_led_to_the_base.Holds := by
 w_on;o_law;k_head;(case hw=>w_witness2)
 k_fill
 refine K22.walk (l:=PySem.Challenge.rw_swapward_k22_led_to_the_base) rfl rfl (fun w h Y=>PySem.W.kIn_of Y) ?F
 case F=>
  intro w mg fa h KX G hmg
  refine' K22.all_mk KX G hmg ?a1 ?l1 ?c1 ?k1 ?a2 ?l2 ?c2 ?k2 ?a3 ?l3 ?c3 ?k3 ?a4 ?l4 ?c4 ?k4 ?a5 ?l5 ?c5 ?k5 ?a6 ?l6 ?c6 ?k6 ?a7 ?l7 ?c7 ?k7 ?a8 ?l8 ?c8 ?k8 ?nS ?nG ?mSi ?lSi ?cSi ?kSi ?iSi ?mSm ?lSm ?cSm ?kSm ?iSm ?mSn ?lSn ?cSn ?kSn ?iSn ?mSl ?lSl ?cSl ?kSl ?iSl ?mGi ?lGi ?cGi ?kGi ?iGi ?mGm ?lGm ?cGm ?kGm ?iGm ?mGn ?lGn ?cGn ?kGn ?iGn ?mGb ?lGb ?cGb ?kGb ?iGb ?mGp ?lGp ?cGp ?kGp ?iGp ?mGs ?lGs ?cGs ?kGs ?iGs ?mGf ?lGf ?cGf ?kGf ?iGf ?mGl ?lGl ?cGl ?kGl ?iGl ?p1s ?p2s ?p3s ?p4s ?p5s ?p6s ?p1g ?p2g ?p3g ?p4g ?p5g ?p6g ?u1 ?u2 ?u3 ?t2 ?t4 ?z0 ?z1 ?z2 ?z3 ?z4 ?z5 ?z6 ?z7 ?z8 ?z9 ?z10 ?z11 ?z12 ?z13 ?z14 ?z15 ?z16 ?z17 ?z18 ?z19
  (case a1=>k_is)
  (case l1=>k_is)
  (case c1=>k_is)
  (case k1=>k_is)
  (case a2=>k_is)
  (case l2=>k_is)
  (case c2=>k_is)
  (case k2=>k_is)
  (case a3=>k_is)
  (case l3=>k_is)
  (case c3=>k_is)
  (case k3=>k_is)
  (case a4=>k_is)
  (case l4=>k_is)
  (case c4=>k_is)
  (case k4=>k_is)
  (case a5=>k_is)
  (case l5=>k_is)
  (case c5=>k_is)
  (case k5=>k_is)
  (case a6=>k_is)
  (case l6=>k_is)
  (case c6=>k_is)
  (case k6=>k_is)
  (case a7=>k_is)
  (case l7=>k_is)
  (case c7=>k_is)
  (case k7=>k_is)
  (case a8=>k_is)
  (case l8=>k_is)
  (case c8=>k_is)
  (case k8=>k_is)
  (case nS=>k_is)
  (case nG=>k_is)
  (case mSi=>k_is)
  (case lSi=>k_is)
  (case cSi=>k_is)
  (case kSi=>k_is)
  (case iSi=>k_is)
  (case mSm=>k_is)
  (case lSm=>k_is)
  (case cSm=>k_is)
  (case kSm=>k_is)
  (case iSm=>k_is)
  (case mSn=>k_is)
  (case lSn=>k_is)
  (case cSn=>k_is)
  (case kSn=>k_is)
  (case iSn=>k_is)
  (case mSl=>k_is)
  (case lSl=>k_is)
  (case cSl=>k_is)
  (case kSl=>k_is)
  (case iSl=>k_is)
  (case mGi=>k_is)
  (case lGi=>k_is)
  (case cGi=>k_is)
  (case kGi=>k_is)
  (case iGi=>k_is)
  (case mGm=>k_is)
  (case lGm=>k_is)
  (case cGm=>k_is)
  (case kGm=>k_is)
  (case iGm=>k_is)
  (case mGn=>k_is)
  (case lGn=>k_is)
  (case cGn=>k_is)
  (case kGn=>k_is)
  (case iGn=>k_is)
  (case mGb=>k_is)
  (case lGb=>k_is)
  (case cGb=>k_is)
  (case kGb=>k_is)
  (case iGb=>k_is)
  (case mGp=>k_is)
  (case lGp=>k_is)
  (case cGp=>k_is)
  (case kGp=>k_is)
  (case iGp=>k_is)
  (case mGs=>k_is)
  (case lGs=>k_is)
  (case cGs=>k_is)
  (case kGs=>k_is)
  (case iGs=>k_is)
  (case mGf=>k_is)
  (case lGf=>k_is)
  (case cGf=>k_is)
  (case kGf=>k_is)
  (case iGf=>k_is)
  (case mGl=>k_is)
  (case lGl=>k_is)
  (case cGl=>k_is)
  (case kGl=>k_is)
  (case iGl=>k_is)
  (case p1s=>k_is)
  (case p2s=>k_is)
  (case p3s=>k_is)
  (case p4s=>k_is)
  (case p5s=>k_is)
  (case p6s=>k_is)
  (case p1g=>k_is)
  (case p2g=>k_is)
  (case p3g=>k_is)
  (case p4g=>k_is)
  (case p5g=>k_is)
  (case p6g=>k_is)
  (case u1=>k_is)
  (case u2=>k_is)
  (case u3=>k_is)
  (case t2=>kernel_rfl)
  (case t4=>kernel_rfl)
  (case z0=>k_is)
  (case z1=>k_is)
  (case z2=>k_is)
  (case z3=>k_is)
  (case z4=>k_is)
  (case z5=>k_is)
  (case z6=>k_is)
  (case z7=>k_is)
  (case z8=>k_is)
  (case z9=>k_is)
  (case z10=>k_is)
  (case z11=>k_is)
  (case z12=>k_is)
  (case z13=>k_is)
  (case z14=>k_is)
  (case z15=>k_is)
  (case z16=>k_is)
  (case z17=>k_is)
  (case z18=>k_is)
  (case z19=>k_is)
