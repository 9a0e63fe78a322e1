import PyProof.Rows.All
import Wide.All
import OpenK.AllK
import Wide.FinOn
import Lean
import PyProof.EqAt
import PyProof.EqKinds
import PyProof.TupleCall
import PyProof.Rows.SetFrom
import PyProof.Rows.SortStr
import PyProof.Rows.SortWalk
import PyProof.CollectIter
import PyProof.Rows.DictTallyStr
import PyProof.DictWalks
import PyProof.WalkInts
import PyProof.P3Eq
import PyProof.NeKinds
import PyProof.DictItems
import PyProof.DictCopy
import PyProof.LayNew
import KE.KDictLaws
import KE.KEqDict
import PyProof.Rows.StrItems
import PyProof.StrLawsOcc
import PyProof.StrCalls2
import PyProof.ExcClass3
import PyProof.ExcBaseAll.ValueError
import KE.KNest
import PyProof.Rows.SortRuns
import KE.KSortTup
import PyProof.Rows.SortShellK
import KE.KRevIter
import PyProof.Rows.SumAny
import PyProof.ZipIter
import PyProof.ListNew
import PyProof.SetRoads
import PyProof.AutoListH
import KE.KxWritten
import KE.KStrOpen
import PyProof.FString
import PyProof.StrLawsIn
import KE.IntTextLaws
import PySem.Challenge.RW_swapward_k14_a_part_turned
set_option Elab.async false
set_option linter.all false
set_option maxRecDepth 100000
namespace L2
open PySem PySem.Spec PyProof.Rows
@[reducible] noncomputable def Key:=Sum Int Str
noncomputable def keyIs:Key->Value->Bool
 | .inl k,v=>Value.isInt k v
 | .inr x,v=>Value.isStrOf x v
noncomputable def keyH (w:World):Key->Int
 | .inl k=>hashInt k
 | .inr x=>hashStr w x
theorem keyIs_shape:∀ {k:Key} {v:Value},keyIs k v=true->(∃ i t,k=Sum.inl i/\v=Value.int i t)\/(∃ x t,k=Sum.inr x/\v=Value.str x t)
 | .inl i,v,h=>by
  obtain⟨t,e⟩:=Value.isInt_shape (k:=i) (v:=v) h
  exact .inl ⟨i,t,rfl,e⟩
 | .inr x,v,h=>by
  obtain⟨t,e⟩:=Value.isStrOf_shape (x:=x) (v:=v) h
  exact .inr ⟨x,t,rfl,e⟩
theorem keyIs_int (i:Int) (t:Tok):keyIs (.inl i) (.int i t)=true:=by simp[keyIs,Value.isInt]
theorem keyIs_str (x:Str) (t:Tok):keyIs (.inr x) (.str x t)=true:=by simp[keyIs,Value.isStrOf]
theorem key_ll (a b:Int):decide ((Sum.inl a:Key)=Sum.inl b)=(a == b):=by
 by_cases e:a=b
 ·subst e;simp
 ·have h:¬ (Sum.inl a:Key)=Sum.inl b:=fun q=>e (Sum.inl.inj q)
  rw[decide_eq_false h]
  exact(beq_eq_false_iff_ne.mpr e).symm
theorem key_rr (a b:Str):decide ((Sum.inr a:Key)=Sum.inr b)=decide (a=b):=by
 by_cases e:a=b
 ·subst e;simp
 ·have h:¬ (Sum.inr a:Key)=Sum.inr b:=fun q=>e (Sum.inr.inj q)
  rw[decide_eq_false h,decide_eq_false e]
theorem key_lr (a:Int) (b:Str):decide ((Sum.inl a:Key)=Sum.inr b)=false:=decide_eq_false (fun q=>nomatch q)
theorem key_rl (a:Str) (b:Int):decide ((Sum.inr a:Key)=Sum.inl b)=false:=decide_eq_false (fun q=>nomatch q)
noncomputable def mixKind (prog:Program) (w:World):PySem.KeyKind prog w Key where
 is:=keyIs
 hash:=keyH w
 inj:=fun v a b ha hb=>by
  rcases keyIs_shape ha with ⟨i,t,rfl,rfl⟩ | ⟨x,t,rfl,rfl⟩
  ·rcases keyIs_shape hb with ⟨j,u,rfl,e⟩ | ⟨y,u,rfl,e⟩
   ·injection e with e1 _;rw[e1]
   ·exact nomatch e
  ·rcases keyIs_shape hb with ⟨j,u,rfl,e⟩ | ⟨y,u,rfl,e⟩
   ·exact nomatch e
   ·injection e with e1 _;rw[e1]
 byValue:=fun k v h=>by
  rcases keyIs_shape h with ⟨i,t,rfl,rfl⟩ | ⟨x,t,rfl,rfl⟩<;>rfl
 pyHash:=fun hv h=>by
  rcases keyIs_shape hv with ⟨i,t,rfl,rfl⟩ | ⟨x,t,rfl,rfl⟩
  ·exact wpAny_pyHash_int h
  ·exact wpAny_pyHash_str h
 eqBool:=fun hu hv h=>by
  rcases keyIs_shape hu with ⟨i,t,rfl,rfl⟩ | ⟨x,t,rfl,rfl⟩
  ·rcases keyIs_shape hv with ⟨j,u,rfl,rfl⟩ | ⟨y,u,rfl,rfl⟩
   ·rw[key_ll]at h;exact wpAny_eqBool_int h
   ·rw[key_lr]at h;exact SeqAt.EqAt.int_str i t y u _ _ _ _ h
  ·rcases keyIs_shape hv with ⟨j,u,rfl,rfl⟩ | ⟨y,u,rfl,rfl⟩
   ·rw[key_rl]at h;exact SeqAt.EqAt.str_int x t j u _ _ _ _ h
   ·rw[key_rr]at h;exact wpAny_eqBool_str h
 «strs»:=fun k x t v h=>by
  rcases keyIs_shape h with ⟨i,u,rfl,e⟩ | ⟨y,u,rfl,e⟩
  ·exact nomatch e
  ·injection e with e1 _
   subst e1
   cases v<;>rfl
theorem mixKind_int (prog:Program) (w:World) (i:Int) (t:Tok):(mixKind prog w).is (.inl i) (.int i t)=true:=keyIs_int i t
theorem mixKind_str (prog:Program) (w:World) (x:Str) (t:Tok):(mixKind prog w).is (.inr x) (.str x t)=true:=keyIs_str x t
end L2
namespace L2
open PySem PySem.Spec PyProof.Rows
inductive V where
 | non | bl (b:Bool) | int (i:Int) | str (x:Str) | byt (b:Array UInt8) | flt (b:UInt64) | ref (a:Addr) | ty (n:String)
 deriving DecidableEq
noncomputable def RelV:V->Value->Prop
 | .non,u=>u=Value.none
 | .bl b,u=>u=Value.bool b
 | .int i,u=>∃t,u=Value.int i t
 | .str x,u=>∃t,u=Value.str x t
 | .byt b,u=>∃t,u=Value.bytes b t
 | .flt b,u=>∃t,u=Value.float b t
 | .ref a,u=>u=Value.ref a
 | .ty n,u=>u=Value.type n
@[reducible] noncomputable def Vals:List V->List Value->Prop:=Paired RelV
theorem Vals.length {xs:List V} {us:List Value} (r:Vals xs us):xs.length=us.length:=Paired.length r
theorem Vals.get:∀ {xs:List V} {us:List Value} {i:Nat} {x:V},Vals xs us->xs[i]?=some x->∃u,us[i]?=some u/\RelV x u
 | _,_,_,_,.nil,e=>by simp at e
 | _,_,0,_,.cons r _,e=>by simp at e;subst e;exact⟨_,rfl,r⟩
 | _,_,i + 1,x,.cons _ t,e=>by
  obtain⟨u,h1,h2⟩:=Vals.get (i:=i) (x:=x) t (by simpa using e)
  exact⟨u,by simpa using h1,h2⟩
theorem Vals.set {x:V} {u:Value} (r:RelV x u):∀ {xs:List V} {us:List Value} (i:Nat),Vals xs us->Vals (xs.set i x) (us.set i u)
 | _,_,_,.nil=>.nil
 | _,_,0,.cons _ t=>.cons r t
 | _,_,i + 1,.cons q t=>.cons q (Vals.set r i t)
theorem Vals.append:∀ {xs ys:List V} {us ws:List Value},Vals xs us->Vals ys ws->Vals (xs++ys) (us++ws)
 | _,_,_,_,.nil,s=>s
 | _,_,_,_,.cons r t,s=>.cons r (Vals.append t s)
theorem Vals.take:∀ {xs:List V} {us:List Value} (n:Nat),Vals xs us->Vals (xs.take n) (us.take n)
 | _,_,0,_=>.nil
 | _,_,_ + 1,.nil=>.nil
 | _,_,n + 1,.cons r t=>.cons r (Vals.take n t)
theorem Vals.drop:∀ {xs:List V} {us:List Value} (n:Nat),Vals xs us->Vals (xs.drop n) (us.drop n)
 | _,_,0,r=>r
 | _,_,_ + 1,.nil=>.nil
 | _,_,n + 1,.cons _ t=>Vals.drop n t
theorem Vals.none_of:∀ {xs:List V} {us:List Value} {i:Nat},Vals xs us->xs[i]?=none->us[i]?=none:=fun{xs us i} r e=>by
 have h1:=r.length
 have h2:xs.length<=i:=List.getElem?_eq_none_iff.mp e
 exact List.getElem?_eq_none_iff.mpr (by omega)
noncomputable def RelO:Option V->Option Value->Prop
 | some v,some u=>RelV v u
 | none,none=>True
 | _,_=>False
noncomputable def KV {κ:Type}:List (κ × V)->List (κ × Value)->Prop:=Paired fun(p:κ × V) (q:κ × Value)=>p.1=q.1/\RelV p.2 q.2
noncomputable def kV:Key->V
 | .inl i=>.int i
 | .inr x=>.str x
inductive HO where
 /-- a list -/
 | lst (xs:List V)
 /-- a tuple (never changes) -/
 | tup (xs:List V)
 /-- a dict whose keys are ints and texts; one whose keys are tuples of ints and texts (the empty one is both) -/
 | dK (kvs:List (Key × V)) | dT (kvs:List (List Key × V))
 /-- a set of ints: its members, its size -/
 | set (S:Int->Bool) (n:Nat)
 /-- an instance of the class at C, its dict at dx, its attributes -/
 | ins (C dx:Addr) (fs:List (Str × V))
 /-- the dict of the instance at x -/
 | own (x:Addr)
 /-- the dict of an exception -/
 | xd (fs:List (Str × V))
 /-- a bound method, f of x -/
 | met (f x:Addr)
 /-- a range object lo, lo + 1, .. below hi -/
 | rng (lo hi:Int)
 /-- a thing that is known to the object (the script; a dict while a loop walks it): read, never written while it is so -/
 | frz (o:Obj) (u:HO)
 /-- a code object's table -/
 | tbl (ps:Array Value)
 /-- any other thing, by what is true of its one object (a def of one's own: SetO a S n := HO.ext fun h => ..) -/
 | ext (φ:Heap->Prop)
 | exo (C:Addr) (d:Option Addr)
 | clo (fd:FuncData)
 | cel (v:V)
 | cod (q:Str)
@[reducible] noncomputable def Hp:=Addr->Option HO
noncomputable def upd (H:Hp) (a:Addr) (o:HO):Hp:=fun b=>if b=a then some o else H b
theorem upd_same {H:Hp} {a:Addr} {o:HO}:upd H a o a=some o:=by unfold upd;rw[if_pos rfl]
theorem upd_ne {H:Hp} {a b:Addr} {o:HO} (h:b ≠ a):upd H a o b=H b:=by unfold upd;rw[if_neg h]
theorem upd_upd {H:Hp} {a:Addr} {o u:HO}:upd (upd H a o) a u=upd H a u:=by
 funext b;unfold upd;split<;>rfl
theorem ne_of {H:Hp} {a b:Addr} {o u:HO} (h:H a=some o) (h':H b=some u) (d:o ≠ u):a ≠ b:=by
 intro e;subst e;rw[h]at h';exact d (Option.some.inj h')
theorem ne_of_none {H:Hp} {a b:Addr} {o:HO} (h:H a=some o) (h':H b=none):a ≠ b:=by
 intro e;subst e;rw[h]at h';cases h'
section
variable (P:Program) (w:World)
noncomputable def ObjOk (H:Hp) (h:Heap) (a:Addr):HO->Prop
 | .lst xs=>xs.length<=sizeLine/\∃ (its:List Value) (n:Nat),Vals xs its/\h.get? a=some {cls:=.type "list",data:=.seq its.toArray n}
 | .tup xs=>xs.length<=sizeLine/\∃its:List Value,Vals xs its/\IsTup h a its.toArray
 | .dK kvs=>kvs.length<=sizeLine/\(a == sysModules)=false/\∃vs,KV kvs vs/\h.DictOf (mixKind P w) a vs
 | .dT kvs=>kvs.length<=sizeLine/\(a == sysModules)=false/\∃xs:List (List Key × Addr × Value),
   Paired (fun(p:List Key × V) (q:List Key × Addr × Value)=>p.1=q.1/\H q.2.1=some (.tup (p.1.map kV))/\RelV p.2 q.2.2) kvs xs/\
   ∃o es ep,h.get? a=some o/\o.ExactDict/\o.data=.dict es ep/\es.toList=xs.map (entryOfKey (tupleKind (mixKind P w)))/\(xs.map (·.1)).Nodup
 | .set S n=>h.SetOf (intKind P w) a S n
 | .ins C dx fs=>H dx=some (.own a)/\fs.length<=1000/\dx ≠ a/\h.get? a=some (PySem.W.instObj C dx)/\
   ∃mA,h.Ns1 dx mA/\(∀ f,RelO (fs.lookup f) (mA f))/\PySem.Within mA (fs.map (·.1))
 | .own _=>∃o,h.get? a=some o
 | .xd fs=>∃mA,h.Ns1 a mA/\∀f,RelO (fs.lookup f) (mA f)
 | .rng lo hi=>∃t u v,h.get? a=some {cls:=.type "range",data:=.fields #[.int lo t,.int hi u,.int 1 v]}
 | .frz o u=>h.get? a=some o/\ObjOk H h a u
 | .tbl ps=>h.get? a=some {cls:=.none,data:=.fields ps}
 | .met f x=>h.get? a=some (PySem.W.methodObj (.ref f) (.ref x))
 | .ext φ=>φ h/\(∃ o,h.get? a=some o)/\∀h1 h2:Heap,φ h1->(∀ o,h1.get? a=some o->h2.get? a=some o)->φ h2
 | .exo C d=>∃oe vs,h.get? a=some oe/\oe.cls=.ref C/\oe.dict=d/\oe.data=.fields vs
 | .clo fd=>h.get? a=some {cls:=.type "function",data:=.func fd}
 | .cel v=>∃u,RelV v u/\h.IsCell a (some u)
 | .cod q=>h.CodeRec (.ref a) q
noncomputable def HOk (H:Hp) (h:Heap):Prop:=∀a o,H a=some o->ObjOk P w H h a o
end
section
variable {P:Program} {w:World} {H H':Hp} {h h':Heap} {a:Addr} {o:HO}
theorem ObjOk.lt (x:ObjOk P w H h a o):a < h.objs.size:=by
 cases o with
 | lst xs=>obtain⟨_,_,_,_,e⟩:=x;exact Heap.lt_size e
 | tup xs=>obtain⟨_,_,_,p⟩:=x;exact p.lt
 | dK kvs=>obtain⟨_,_,_,_,o,_,_,e,_⟩:=x;exact Heap.lt_size e
 | dT kvs=>obtain⟨_,_,_,_,o,_,_,e,_⟩:=x;exact Heap.lt_size e
 | set S n=>obtain⟨o,_,_,_,e,_⟩:=x;exact Heap.lt_size e
 | ins C dx fs=>obtain⟨_,_,_,e,_⟩:=x;exact Heap.lt_size e
 | own y=>obtain⟨_,e⟩:=x;exact Heap.lt_size e
 | xd fs=>obtain⟨_,⟨_,_,_,e,_⟩,_⟩:=x;exact Heap.lt_size e
 | rng lo hi=>obtain⟨_,_,_,e⟩:=x;exact Heap.lt_size e
 | frz ob u=>obtain⟨e,_⟩:=x;exact Heap.lt_size e
 | tbl ps=>exact Heap.lt_size (show h.get? a=some _ from x)
 | met f y=>exact Heap.lt_size (show h.get? a=some _ from x)
 | ext φ=>obtain⟨_,⟨_,e⟩,_⟩:=x;exact Heap.lt_size e
 | exo C d=>obtain⟨oe,vs,e,_⟩:=x;exact Heap.lt_size e
 | clo fd=>exact Heap.lt_size (show h.get? a=some _ from x)
 | cel v=>obtain⟨u,_,e⟩:=x;exact e.lt
 | cod q=>obtain⟨c,oc,vs,t,hc,e,_⟩:=x;cases hc;exact Heap.lt_size e
theorem Paired.mapP {α β:Type} {F G:α->β->Prop}:∀ {l₁:List α} {l₂:List β},Paired F l₁ l₂->(∀ a b,F a b->G a b)->Paired G l₁ l₂
 | _,_,.nil,_=>.nil
 | _,_,.cons r t,f=>.cons (f _ _ r) (Paired.mapP t f)
theorem ObjOk.stay (x:ObjOk P w H h a o) (k:∀b u,(b=a\/H b=some (.own a))->h.get? b=some u->h'.get? b=some u)
  (ho:∀b,H b=some (.own a)->H' b=some (.own a)) (ht:∀b xs,H b=some (.tup xs)->H' b=some (.tup xs)):ObjOk P w H' h' a o:=by
 induction o with
 | lst xs=>obtain⟨z,its,n,r,e⟩:=x;exact⟨z,its,n,r,k _ _ (.inl rfl) e⟩
 | tup xs=>obtain⟨z,its,r,ob,e,c⟩:=x;exact⟨z,its,r,ob,k _ _ (.inl rfl) e,c⟩
 | dK kvs=>obtain⟨z,y,vs,r,ob,es,ep,e,c⟩:=x;exact⟨z,y,vs,r,ob,es,ep,k _ _ (.inl rfl) e,c⟩
 | dT kvs=>
  obtain⟨z,y,xs,r,ob,es,ep,e,c⟩:=x
  exact⟨z,y,xs,Paired.mapP r fun p q z=>⟨z.1,ht _ _ z.2.1,z.2.2⟩,ob,es,ep,k _ _ (.inl rfl) e,c⟩
 | set S n=>obtain⟨ob,es,ep,t,e,c⟩:=x;exact⟨ob,es,ep,t,k _ _ (.inl rfl) e,c⟩
 | ins C dx fs=>
  obtain⟨d,z,ne,e,mA,⟨od,es,ep,e2,c⟩,r⟩:=x
  exact⟨ho _ d,z,ne,k _ _ (.inl rfl) e,mA,⟨od,es,ep,k _ _ (.inr d) e2,c⟩,r⟩
 | own y=>obtain⟨ob,e⟩:=x;exact⟨ob,k _ _ (.inl rfl) e⟩
 | xd fs=>obtain⟨mA,⟨od,es,ep,e,c⟩,r⟩:=x;exact⟨mA,⟨od,es,ep,k _ _ (.inl rfl) e,c⟩,r⟩
 | rng lo hi=>obtain⟨t,u,v,e⟩:=x;exact⟨t,u,v,k _ _ (.inl rfl) e⟩
 | frz ob u ih=>obtain⟨e,q⟩:=x;exact⟨k _ _ (.inl rfl) e,ih q⟩
 | tbl ps=>
  have e:h.get? a=some {cls:=.none,data:=.fields ps}:=x
  show h'.get? a=some {cls:=.none,data:=.fields ps}
  exact k a _ (.inl rfl) e
 | met f y=>
  have e:h.get? a=some (PySem.W.methodObj (.ref f) (.ref y)):=x
  show h'.get? a=some (PySem.W.methodObj (.ref f) (.ref y))
  exact k a _ (.inl rfl) e
 | ext φ=>obtain⟨p,⟨o,e⟩,st⟩:=x;exact⟨st _ _ p fun o q=>k _ _ (.inl rfl) q,⟨o,k _ _ (.inl rfl) e⟩,st⟩
 | exo C d=>obtain⟨oe,vs,e,r⟩:=x;exact⟨oe,vs,k _ _ (.inl rfl) e,r⟩
 | clo fd=>
  have e:h.get? a=some {cls:=.type "function",data:=.func fd}:=x
  show h'.get? a=some {cls:=.type "function",data:=.func fd}
  exact k a _ (.inl rfl) e
 | cel v=>obtain⟨u,r,ob,e,d⟩:=x;exact⟨u,r,ob,k _ _ (.inl rfl) e,d⟩
 | cod q=>obtain⟨c,oc,vs,t,hc,e,r⟩:=x;cases hc;exact⟨a,oc,vs,t,rfl,k _ _ (.inl rfl) e,r⟩
theorem HOk.lt (x:HOk P w H h) (e:H a=some o):a < h.objs.size:=(x a o e).lt
theorem HOk.fresh (x:HOk P w H h) (e:h.objs.size<=a):H a=none:=by
 cases q:H a with
 | none=>rfl
 | some u=>exact absurd (Nat.lt_of_lt_of_le (x.lt q) e) (Nat.lt_irrefl _)
theorem HOk.kept (x:HOk P w H h) (k:∀b u,h.get? b=some u->h'.get? b=some u):HOk P w H h':=fun a o e=>
 (x a o e).stay (fun b u _ q=>k b u q) (fun _ q=>q) fun _ _ q=>q
theorem HOk.laid (x:HOk P w H h) (k:∀b u,h.get? b=some u->h'.get? b=some u) (hp:h.objs.size<=a) (new:ObjOk P w (upd H a o) h' a o):HOk P w (upd H a o) h':=fun b u e=>by
 have hn:=x.fresh hp
 by_cases hb:b=a
 ·subst hb;rw[upd_same]at e;cases e;exact new
 ·rw[upd_ne hb]at e
  exact(x b u e).stay (fun c v _ q=>k c v q) (fun c q=>by rw[upd_ne (ne_of_none q hn)];exact q) fun c xs q=>by rw[upd_ne (ne_of_none q hn)];exact q
end
noncomputable def Rd (H:Hp) (a:Addr) (u:HO):Prop:=H a=some u\/∃o,H a=some (.frz o u)
theorem Rd.ok {P:Program} {w:World} {H:Hp} {h:Heap} {a:Addr} {u:HO} (r:Rd H a u) (x:HOk P w H h):ObjOk P w H h a u:=by
 rcases r with r | ⟨o,r⟩
 ·exact x a u r
 ·obtain⟨_,q⟩:=x a _ r
  exact q
noncomputable def Mut:Option HO->Prop
 | some (.lst _)=>True
 | some (.dK _)=>True
 | some (.dT _)=>True
 | some (.set _ _)=>True
 | some (.ins _ _ _)=>True
 | some (.ext _)=>True
 | _=>False
section
variable {P:Program} {w:World} {H:Hp} {h h':Heap} {x e:Addr} {o':HO}
theorem HOk.write (ok:HOk P w H h) (mu:Mut (H x)) (he:e=x\/H e=some (.own x)) (k:∀b u,b ≠ e->h.get? b=some u->h'.get? b=some u) (heo:∃u,h'.get? e=some u)
  (new:ObjOk P w (upd H x o') h' x o'):HOk P w (upd H x o') h':=fun b u q=>by
 have nown:∀c y,H c=some (.own y)->c ≠ x:=fun c y r z=>by subst z;rw[r]at mu;exact mu
 have ntup:∀c xs,H c=some (.tup xs)->c ≠ x:=fun c xs r z=>by subst z;rw[r]at mu;exact mu
 by_cases hb:b=x
 ·subst hb;rw[upd_same]at q;cases q;exact new
 ·rw[upd_ne hb]at q
  by_cases hbe:b=e
  ·have q':H b=some (.own x):=by
    rcases he with z | z
    ·exact absurd (hbe.trans z) hb
    ·rw[hbe];exact z
   rw[q]at q';cases q'
   obtain⟨v,hv⟩:=heo
   exact⟨v,by rw[hbe];exact hv⟩
  ·refine(ok b u q).stay (fun c v hc r=>k c v ?_ r) (fun c r=>by rw[upd_ne (nown c b r)];exact r) fun c xs r=>by rw[upd_ne (ntup c xs r)];exact r
   rcases hc with rfl | hc
   ·exact hbe
   ·rintro rfl
    rcases he with z | z
    ·exact nown c b hc z
    ·rw[hc]at z;cases z;exact hb rfl
end
structure Un (fs ex:List Addr) (H H':Hp) (h h':Heap):Prop where
 keep:∀b o,h.get? b=some o->H b=none->b ∉ fs->b ∉ ex->h'.get? b=some o
 slot:∀b o,h.get? b=some o->H b=none->b ∈ fs->b ∉ ex->∃sl,h'.get? b=some {o with slots:=sl}
 free:∀b o,h.get? b=some o->H b=none->b ∉ ex->H' b=none
 there:∀b o,h.get? b=some o->b ∉ ex->∃o',h'.get? b=some o'
 tups:∀b xs,H b=some (.tup xs)->H' b=some (.tup xs)
 frzs:∀b o u,H b=some (.frz o u)->H' b=some (.frz o u)
 tbls:∀b ps,H b=some (.tbl ps)->∃more,H' b=some (.tbl (ps++more))
section
variable {fs fs' ex ex':List Addr} {H H1 H2:Hp} {h h1 h2 h':Heap} {a x e:Addr} {o:HO}
theorem Un.any (u:Un fs ex H H1 h h1) {b:Addr} {ob:Obj} (q:h.get? b=some ob) (n:H b=none) (hx:b ∉ ex):∃sl,h1.get? b=some {ob with slots:=sl}:=by
 by_cases hb:b ∈ fs
 ·exact u.slot b ob q n hb hx
 ·exact⟨ob.slots,u.keep b ob q n hb hx⟩
theorem Un.trans (a:Un fs ex H H1 h h1) (b:Un fs ex H1 H2 h1 h2):Un fs ex H H2 h h2 where
 keep:=fun c ob q n hc hx=>b.keep c ob (a.keep c ob q n hc hx) (a.free c ob q n hx) hc hx
 slot:=fun c ob q n hc hx=>by
  obtain⟨sl,e1⟩:=a.slot c ob q n hc hx
  obtain⟨sl',e2⟩:=b.slot c _ e1 (a.free c ob q n hx) hc hx
  exact⟨sl',e2⟩
 free:=fun c ob q n hx=>by
  obtain⟨o',e1⟩:=a.there c ob q hx
  exact b.free c o' e1 (a.free c ob q n hx) hx
 there:=fun c ob q hx=>by
  obtain⟨o',e1⟩:=a.there c ob q hx
  exact b.there c o' e1 hx
 tups:=fun c xs q=>b.tups c xs (a.tups c xs q)
 frzs:=fun c ob xs q=>b.frzs c ob xs (a.frzs c ob xs q)
 tbls:=fun c ps q=>by
  obtain⟨m1,e1⟩:=a.tbls c ps q
  obtain⟨m2,e2⟩:=b.tbls c _ e1
  exact⟨m1++m2,by rw[e2,Array.append_assoc]⟩
theorem Un.kept (k:∀b u,h.get? b=some u->h'.get? b=some u):Un fs ex H H h h':=
 ⟨fun b ob q _ _ _=>k b ob q,fun b ob q _ _ _=>⟨ob.slots,k b ob q⟩,fun _ _ _ n _=>n,fun b ob q _=>⟨ob,k b ob q⟩,fun _ _ q=>q,fun _ _ _ q=>q,fun _ ps q=>⟨#[],by rw[q];simp⟩⟩
theorem Un.refl:Un fs ex H H h h:=Un.kept fun _ _ q=>q
theorem Un.laid (k:∀b u,h.get? b=some u->h'.get? b=some u) (hp:h.objs.size<=a) (hn:H a=none):Un fs ex H (upd H a o) h h' where
 keep:=fun b u q _ _ _=>k b u q
 slot:=fun b u q _ _ _=>⟨u.slots,k b u q⟩
 free:=fun b u q n _=>by rw[upd_ne (Nat.ne_of_lt (Nat.lt_of_lt_of_le (Heap.lt_size q) hp))];exact n
 there:=fun b u q _=>⟨u,k b u q⟩
 tups:=fun b xs q=>by rw[upd_ne (ne_of_none q hn)];exact q
 frzs:=fun b u xs q=>by rw[upd_ne (ne_of_none q hn)];exact q
 tbls:=fun b ps q=>⟨#[],by rw[upd_ne (ne_of_none q hn),q];simp⟩
theorem Un.write (mu:Mut (H x)) (he:e=x\/H e=some (.own x)) (k:∀b u,b ≠ e->h.get? b=some u->h'.get? b=some u) (heo:∃u,h'.get? e=some u):Un fs ex H (upd H x o) h h':=by
 have hx:∀b,H b=none->b ≠ x:=fun b n z=>by subst z;rw[n]at mu;exact mu
 have hb:∀b,H b=none->b ≠ e:=fun b n z=>by
  subst z
  rcases he with r | r
  ·exact hx b n r
  ·rw[n]at r;cases r
 have hm:∀b u,H b=some u->¬Mut (some u)->b ≠ x:=fun b u q nm z=>by subst z;rw[q]at mu;exact nm mu
 refine⟨fun b u q n _ _=>k b u (hb b n) q,fun b u q n _ _=>⟨u.slots,k b u (hb b n) q⟩,fun b u q n _=>by rw[upd_ne (hx b n)];exact n,fun b u q _=>?_,
  fun b xs q=>by rw[upd_ne (hm b _ q fun z=>z)];exact q,fun b u xs q=>by rw[upd_ne (hm b _ q fun z=>z)];exact q,fun b ps q=>⟨#[],by rw[upd_ne (hm b _ q fun z=>z),q];simp⟩⟩
 by_cases hbe:b=e
 ·subst hbe;exact heo
 ·exact⟨u,k b u hbe q⟩
end
noncomputable def trk (h:Heap) (H:Hp):List Addr:=(List.range h.objs.size).filter fun a=>(H a).isSome
noncomputable def hidT (h:Heap) (H:Hp):Heap:=PySem.W.hideAll h (trk h H)
theorem hidT_size (h:Heap) (H:Hp):(hidT h H).objs.size=h.objs.size:=PySem.W.hideAll_size _ _
theorem hidT_get {h:Heap} {H:Hp} {b:Addr} {o:Obj} (e:h.get? b=some o) (n:H b=none):(hidT h H).get? b=some o:=
 PySem.W.hideAll_get _ e fun hm=>by
  have q:(H b).isSome=true:=(List.mem_filter.mp hm).2
  rw[n]at q;simp at q
theorem of_hidT {h:Heap} {H:Hp} {b:Addr} {o:Obj} (e:(hidT h H).get? b=some o):h.get? b=some o/\H b=none:=by
 have e':h.get? b=some o:=PySem.W.of_hideAll (trk h H) e
 refine⟨e',?_⟩
 cases q:H b with
 | none=>rfl
 | some x=>
  have hm:b ∈ trk h H:=List.mem_filter.mpr ⟨List.mem_range.mpr (Heap.lt_size e'),by simp[q]⟩
  have z:(hidT h H).get? b=none:=PySem.W.hideAll_none (trk h H) hm
  rw[z]at e;cases e
end L2
namespace L2
open PySem PySem.Spec PyProof.Rows
structure Mod (K:PySem.W.Frag) (mg:Str->Option Value) (base:Heap):Prop where
 kin:K.In base
 glob:base.Ns mainGlobals mg
 blt:∃mb,base.Ns builtinsNs mb/\∀x:Str,x ≠ "__name__" ->mb x=bootBuiltins x
 nolimit:base.NoLimit
structure Cx where
 prog:Program
 w:World
 K:PySem.W.Frag
 mg:Str->Option Value
 base:Heap
 A:Around
 N:List Str
 s₀:Shared
 H₀:Hp
 env:Env
 outer:List Env
 stack:List Env
 ex:List Addr
 fn:Str->Bool
 calm:Bool
 pn:List (Addr × Obj)
 xe:Value->Shared->Prop
noncomputable def frs (l:List Env):List Addr:=l.filterMap (·.frame)
@[reducible] noncomputable def Cx.fs (X:Cx):List Addr:=frs X.outer
noncomputable def Vis (sc:Scope) (x:Str):Prop:=sc.names.lookup x=some .local\/sc.names.lookup x=some .cell\/sc.names.lookup x=some .free
noncomputable def Loc (sc:Scope) (x:Str):Prop:=sc.names.lookup x=some .local\/sc.names.lookup x=some .cell
noncomputable def Look (env:Env) (h:Heap) (m:Str->Option Value) (x:Str) (u:Value):Prop:=
 (env.kindOf x=some .local/\m x=some u)\/((env.kindOf x=some .cell\/env.kindOf x=some .free)/\∃c,env.cells.lookup x=some c/\h.IsCell c (some u))
structure Cx.Ok (X:Cx):Prop where
 mod:Mod X.K X.mg X.base
 kind:X.env.scope.kind=.function
 glob:X.env.globals=mainGlobals
 blt:X.env.builtins=builtinsNs
 above:X.s₀.heap.objs.size<=X.env.locals
 inj:∀x y c,X.env.cells.lookup x=some c->X.env.cells.lookup y=some c->x=y
 has:∀x,(X.env.kindOf x=some .cell\/X.env.kindOf x=some .free)->∃c,X.env.cells.lookup x=some c
 cab:∀x c,X.fn x=true->X.env.cells.lookup x=some c->X.s₀.heap.objs.size<=c
 hd:X.calm=true->X.A.handled=none
 frames:X.A.frames=some X.stack
 stk:X.stack=X.outer\/(X.stack=X.env::X.outer/\X.env.frame=some X.env.locals)
 exf:∀b ∈ X.ex,b ≠ X.env.locals/\∀x c,X.env.cells.lookup x=some c->c ≠ b
 bs:∀b o,X.base.get? b=some o->X.s₀.heap.get? b=some o/\X.H₀ b=none
 bsz:X.base.objs.size<=X.s₀.heap.objs.size
 noex:∀b o,X.base.get? b=some o->b ∉ X.ex
 exfs:∀b ∈ X.ex,b ∉ X.fs
 funs:X.s₀.heap.FunFrames X.base X.outer
 frf:∀b ∈ X.fs,X.H₀ b=none
structure Inv (X:Cx) (pins:List (Addr × Obj)) (σ:List (Option V)) (H:Hp) (s:Shared):Prop where
 ok:X.Ok
 os:s.os=X.s₀.os
 bare:AllBare s.gens
 base:Un X.fs X.ex X.H₀ H X.s₀.heap s.heap
 loc:∃m,s.heap.Ns X.env.locals m/\∀ (i:Nat) (x:Str) (v:V),X.N[i]?=some x->σ[i]?=some (some v)->Vis X.env.scope x->∃u,RelV v u/\Look X.env s.heap m x u
 cell:∀x c,X.env.cells.lookup x=some c->∃v,s.heap.IsCell c v
 free:H X.env.locals=none
 freeC:∀x c,X.env.cells.lookup x=some c->H c=none
 pin:∀p ∈ X.pn++pins,s.heap.get? p.1=some p.2/\H p.1=none/\p.1 ≠ X.env.locals/\p.1 ∉ X.fs/\∀v,p.2.data ≠ .cell v
 hok:HOk X.prog X.w H s.heap
 len:σ.length=X.N.length
section
variable {X:Cx} {pins:List (Addr × Obj)} {σ:List (Option V)} {H H':Hp} {s:Shared} {h':Heap}
theorem Cx.Ok.nofr (ok:X.Ok) {b:Addr} {o:Obj} (e:X.base.get? b=some o):b ∉ X.fs:=fun hb=>by
 have:=(ok.funs.mem hb).1
 rw[e]at this;cases this
theorem Inv.bs (I:Inv X pins σ H s):∀b o,X.base.get? b=some o->s.heap.get? b=some o/\H b=none:=fun b o e=>
 ⟨I.base.keep b o (I.ok.bs b o e).1 (I.ok.bs b o e).2 (I.ok.nofr e) (I.ok.noex b o e),I.base.free b o (I.ok.bs b o e).1 (I.ok.bs b o e).2 (I.ok.noex b o e)⟩
theorem Inv.bk (I:Inv X pins σ H s):∀b o,X.base.get? b=some o->s.heap.get? b=some o:=fun b o e=>(I.bs b o e).1
theorem Inv.mod (I:Inv X pins σ H s):Mod X.K X.mg X.base:=I.ok.mod
theorem Inv.kIn (I:Inv X pins σ H s):X.K.In s.heap:=I.ok.mod.kin.keeps I.bk
theorem Inv.lt (I:Inv X pins σ H s):X.env.locals < s.heap.objs.size:=let ⟨_,hn,_⟩:=I.loc;hn.lt
theorem Inv.sz (I:Inv X pins σ H s):X.s₀.heap.objs.size<=s.heap.objs.size:=Nat.le_trans I.ok.above (Nat.le_of_lt I.lt)
theorem Inv.nofs (I:Inv X pins σ H s) {a:Addr} (h:s.heap.objs.size<=a):a ∉ X.fs:=fun hb=>by
 obtain⟨_,o,ho,_⟩:=I.ok.funs.mem hb
 exact absurd (Nat.lt_of_lt_of_le (Heap.lt_size ho) (Nat.le_trans I.sz h)) (Nat.lt_irrefl _)
theorem Inv.cne (I:Inv X pins σ H s):∀x c,X.env.cells.lookup x=some c->c ≠ X.env.locals:=fun x c e z=>by
 obtain⟨v,o,ho,hd⟩:=I.cell x c e
 obtain⟨m,⟨o',es,ep,ho',hd',_⟩,_⟩:=I.loc
 rw[z,ho']at ho;cases ho;rw[hd']at hd;cases hd
theorem Inv.funs (I:Inv X pins σ H s):s.heap.FunFrames X.base X.outer:=by
 have all:∀ (l:List Env),(∀ b ∈ frs l,b ∈ X.fs)->X.s₀.heap.FunFrames X.base l->s.heap.FunFrames X.base l:=by
  intro l
  induction l with
  | nil=>intro _ _;trivial
  | cons env r ih=>
   intro hs hl
   obtain⟨hk,⟨L,o,hf,hn,ho,hd⟩,hr⟩:=hl
   have hL:L ∈ X.fs:=hs L (by unfold frs;rw[List.filterMap_cons,hf];exact List.mem_cons_self)
   obtain⟨sl,e⟩:=I.base.slot L o ho (I.ok.frf L hL) hL fun z=>I.ok.exfs L z hL
   exact⟨hk,⟨L,_,hf,hn,e,hd⟩,ih (fun b hb=>hs b (by unfold frs;rw[List.filterMap_cons,hf];exact List.mem_cons_of_mem _ hb)) hr⟩
 exact all X.outer (fun _ hb=>hb) I.ok.funs
theorem Inv.stack (I:Inv X pins σ H s):s.heap.FunFrames X.base X.stack:=by
 rcases I.ok.stk with e | ⟨e,hf⟩
 ·rw[e];exact I.funs
 ·rw[e]
  obtain⟨m,hn,_⟩:=I.loc
  refine .cons (by rw[I.ok.kind];decide) hf hn ?_ I.funs
  exact Heap.get?_none_of_le (Nat.le_trans I.ok.bsz I.ok.above)
theorem Inv.stkSub (I:Inv X pins σ H s):∀b ∈ frs X.stack,b ∈ X.env.locals::X.fs:=fun b hb=>by
 rcases I.ok.stk with e | ⟨e,hf⟩
 ·rw[e]at hb;exact List.mem_cons_of_mem _ hb
 ·rw[e]at hb
  unfold frs at hb
  rw[List.filterMap_cons,hf]at hb
  exact hb
theorem Inv.stkFree (I:Inv X pins σ H s):∀b ∈ frs X.stack,H b=none:=fun b hb=>by
 rcases List.mem_cons.mp (I.stkSub b hb)with e | hb
 ·rw[e];exact I.free
 ·obtain⟨_,o,ho,_⟩:=I.ok.funs.mem hb
  exact I.base.free b o ho (I.ok.frf b hb) fun z=>I.ok.exfs b z hb
theorem Inv.step {g':Array GenState} {t':Nat} {d':Drawn} {ch:List Addr} (I:Inv X pins σ H s)
  (hch:∀b ∈ ch,(b ∈ X.ex\/X.s₀.heap.objs.size<=b)/\b ≠ X.env.locals/\(∀ x c,X.env.cells.lookup x=some c->c ≠ b)/\∀p ∈ X.pn++pins,p.1 ≠ b)
  (keep:∀b o,b ≠ X.env.locals->b ∉ X.fs->b ∉ ch->s.heap.get? b=some o->H b=none->h'.get? b=some o)
  (slot:∀b o,b ≠ X.env.locals->b ∈ X.fs->b ∉ ch->s.heap.get? b=some o->H b=none->∃sl,h'.get? b=some {o with slots:=sl}) (free:∀b o,b ∉ ch->s.heap.get? b=some o->H b=none->H' b=none)
  (there:∀b o,b ∉ ch->s.heap.get? b=some o->∃o',h'.get? b=some o')
  (tups:∀b xs,H b=some (.tup xs)->H' b=some (.tup xs)) (frzs:∀b o u,H b=some (.frz o u)->H' b=some (.frz o u)) (tbls:∀b ps,H b=some (.tbl ps)->∃more,H' b=some (.tbl (ps++more)))
  (ns:∀m,s.heap.Ns X.env.locals m->h'.Ns X.env.locals m) (hok:HOk X.prog X.w H' h') (hg:AllBare g'):
  Inv X pins σ H' {s with heap:=h',gens:=g',drawn:=d',toks:=t'}:=by
 have neL:∀b o,X.s₀.heap.get? b=some o->b ≠ X.env.locals:=fun b o e=>Nat.ne_of_lt (Nat.lt_of_lt_of_le (Heap.lt_size e) I.ok.above)
 have neC:∀b o,X.s₀.heap.get? b=some o->b ∉ X.ex->b ∉ ch:=fun b o e hx hb=>by
  rcases(hch b hb).1 with z | z
  ·exact hx z
  ·exact absurd (Nat.lt_of_lt_of_le (Heap.lt_size e) z) (Nat.lt_irrefl _)
 have cellK:∀x c,X.env.cells.lookup x=some c->∀v,s.heap.IsCell c v->h'.IsCell c v:=fun x c e v ⟨o,ho,hd⟩=>by
  have nch:c ∉ ch:=fun z=>(hch c z).2.2.1 x c e rfl
  by_cases hc:c ∈ X.fs
  ·obtain⟨sl,q⟩:=slot c o (I.cne x c e) hc nch ho (I.freeC x c e)
   exact⟨_,q,hd⟩
  ·exact⟨o,keep c o (I.cne x c e) hc nch ho (I.freeC x c e),hd⟩
 refine⟨I.ok,I.os,hg,⟨fun b o e n hb hx=>?_,fun b o e n hb hx=>?_,fun b o e n hx=>?_,fun b o e hx=>?_,fun b xs e=>tups b xs (I.base.tups b xs e),fun b o xs e=>frzs b o xs (I.base.frzs b o xs e),fun b ps e=>?_⟩,?_,fun x c e=>?_,?_,fun x c e=>?_,fun p hp=>?_,hok,I.len⟩
 ·exact keep b o (neL b o e) hb (neC b o e hx) (I.base.keep b o e n hb hx) (I.base.free b o e n hx)
 ·obtain⟨sl,e1⟩:=I.base.slot b o e n hb hx
  obtain⟨sl',e2⟩:=slot b _ (neL b o e) hb (neC b o e hx) e1 (I.base.free b o e n hx)
  exact⟨sl',e2⟩
 ·obtain⟨o',e1⟩:=I.base.there b o e hx
  exact free b o' (neC b o e hx) e1 (I.base.free b o e n hx)
 ·obtain⟨o',e1⟩:=I.base.there b o e hx
  exact there b o' (neC b o e hx) e1
 ·obtain⟨m1,e1⟩:=I.base.tbls b ps e
  obtain⟨m2,e2⟩:=tbls b _ e1
  exact⟨m1++m2,by rw[e2,Array.append_assoc]⟩
 ·obtain⟨m,hn,hl⟩:=I.loc
  refine⟨m,ns m hn,fun i x v e1 e2 e3=>?_⟩
  obtain⟨u,r,l⟩:=hl i x v e1 e2 e3
  refine⟨u,r,?_⟩
  rcases l with l | ⟨k,c,e,z⟩
  ·exact .inl l
  ·exact .inr ⟨k,c,e,cellK x c e _ z⟩
 ·obtain⟨v,z⟩:=I.cell x c e
  exact⟨v,cellK x c e v z⟩
 ·obtain⟨m,⟨o,_,_,ho,_⟩,_⟩:=I.loc
  exact free _ o (fun z=>(hch _ z).2.1 rfl) ho I.free
 ·obtain⟨v,o,ho,hd⟩:=I.cell x c e
  exact free c o (fun z=>(hch c z).2.2.1 x c e rfl) ho (I.freeC x c e)
 ·obtain⟨e,n,ne,nf,d⟩:=I.pin p hp
  have nch:p.1 ∉ ch:=fun z=>(hch p.1 z).2.2.2 p hp rfl
  exact⟨keep p.1 p.2 ne nf nch e n,free p.1 p.2 nch e n,ne,nf,d⟩
theorem Inv.un {t':Nat} (I:Inv X pins σ H s) (u:Un X.fs [] H H' s.heap h') (hok:HOk X.prog X.w H' h'):Inv X pins σ H' {s with heap:=h',toks:=t'}:=by
 obtain⟨m,⟨o,es,ep,ho,r⟩,_⟩:=id I.loc
 obtain⟨sl,hL⟩:=u.any ho I.free (by simp)
 exact I.step (g':=s.gens) (d':=s.drawn) (ch:=[]) (fun _ z=>nomatch z) (fun b o _ hb _ e n=>u.keep b o e n hb (by simp)) (fun b o _ hb _ e n=>u.slot b o e n hb (by simp)) (fun b o _ e n=>u.free b o e n (by simp)) (fun b o _ e=>u.there b o e (by simp)) u.tups u.frzs u.tbls (fun m' hm=>by
  obtain⟨o',es',ep',ho',r'⟩:=hm
  rw[ho]at ho';cases ho'
  exact⟨_,es',ep',hL,r'⟩) hok I.bare
theorem Inv.call {g':Array GenState} {t':Nat} {d':Drawn} {ch:List Addr} (I:Inv X pins σ H s) (u:Un (frs X.stack) ch H H' s.heap h') (hok:HOk X.prog X.w H' h') (hg:AllBare g')
  (hch:∀b ∈ ch,(b ∈ X.ex\/X.s₀.heap.objs.size<=b)/\b ≠ X.env.locals/\(∀ x c,X.env.cells.lookup x=some c->c ≠ b)/\∀p ∈ X.pn++pins,p.1 ≠ b):
  Inv X pins σ H' {s with heap:=h',gens:=g',drawn:=d',toks:=t'}:=by
 obtain⟨m,⟨o,es,ep,ho,r⟩,_⟩:=id I.loc
 obtain⟨sl,hL⟩:=u.any ho I.free fun z=>(hch _ z).2.1 rfl
 exact I.step (ch:=ch) hch (fun b o hL hb hc e n=>u.keep b o e n (fun z=>(List.mem_cons.mp (I.stkSub b z)).elim hL hb) hc) (fun b o _ _ hc e n=>u.any e n hc) (fun b o hc e n=>u.free b o e n hc) (fun b o hc e=>u.there b o e hc) u.tups u.frzs u.tbls (fun m' hm=>by
  obtain⟨o',es',ep',ho',r'⟩:=hm
  rw[ho]at ho';cases ho'
  exact⟨_,es',ep',hL,r'⟩) hok hg
theorem Inv.turned {t':Nat} {it:Addr} (I:Inv X pins σ H s) (k:∀b o,b ≠ it->s.heap.get? b=some o->h'.get? b=some o) (hn:H it=none) (hL:it ≠ X.env.locals)
  (h1:it ∈ X.ex\/X.s₀.heap.objs.size<=it) (h2:∀x c,X.env.cells.lookup x=some c->c ≠ it) (h3:∀p ∈ X.pn++pins,p.1 ≠ it):Inv X pins σ H {s with heap:=h',toks:=t'}:=by
 have nit:∀b u,H b=some u->b ≠ it:=fun b u e z=>by rw[z,hn]at e;cases e
 refine I.step (g':=s.gens) (d':=s.drawn) (ch:=[it]) (fun b hb=>?_) (fun b o _ _ hc e _=>k b o (fun z=>hc (by simp[z])) e) (fun b o _ _ hc e _=>⟨o.slots,k b o (fun z=>hc (by simp[z])) e⟩) (fun _ _ _ _ n=>n)
  (fun b o hc e=>⟨o,k b o (fun z=>hc (by simp[z])) e⟩) (fun _ _ e=>e) (fun _ _ _ e=>e) (fun b ps e=>⟨#[],by rw[e];simp⟩) (fun m hm=>?_) (fun b u e=>?_) I.bare
 ·have e:b=it:=by simpa using hb
  subst e
  exact⟨h1,hL,h2,h3⟩
 ·obtain⟨o,es,ep,ho,r⟩:=hm
  exact⟨o,es,ep,k _ o (Ne.symm hL) ho,r⟩
 ·refine(I.hok b u e).stay (fun c v hc q=>k c v ?_ q) (fun _ q=>q) fun _ _ q=>q
  rcases hc with z | z
  ·rw[z];exact nit b u e
  ·exact nit c _ z
theorem Inv.tok (I:Inv X pins σ H s) (t:Nat):Inv X pins σ H {s with toks:=t}:=I.un (h':=s.heap) (t':=t) Un.refl I.hok
theorem Inv.kept {t':Nat} (I:Inv X pins σ H s) (k:∀b u,s.heap.get? b=some u->h'.get? b=some u):Inv X pins σ H {s with heap:=h',toks:=t'}:=I.un (Un.kept k) (I.hok.kept k)
theorem Inv.laid {a:Addr} {o:HO} {t':Nat} (I:Inv X pins σ H s) (k:∀b u,s.heap.get? b=some u->h'.get? b=some u) (hp:s.heap.objs.size<=a) (new:ObjOk X.prog X.w (upd H a o) h' a o):
  Inv X pins σ (upd H a o) {s with heap:=h',toks:=t'}:=I.un (Un.laid k hp (I.hok.fresh hp)) (I.hok.laid k hp new)
theorem Inv.write {x e:Addr} {o:HO} {t':Nat} (I:Inv X pins σ H s) (mu:Mut (H x)) (he:e=x\/H e=some (.own x)) (k:∀b u,b ≠ e->s.heap.get? b=some u->h'.get? b=some u) (heo:∃u,h'.get? e=some u)
  (new:ObjOk X.prog X.w (upd H x o) h' x o):Inv X pins σ (upd H x o) {s with heap:=h',toks:=t'}:=I.un (Un.write mu he k heo) (I.hok.write mu he k heo new)
theorem Inv.pins_of {pins':List (Addr × Obj)} (I:Inv X pins σ H s) (h:∀p ∈ pins',s.heap.get? p.1=some p.2/\H p.1=none/\p.1 ≠ X.env.locals/\p.1 ∉ X.fs/\∀v,p.2.data ≠ .cell v):Inv X pins' σ H s:=
 ⟨I.ok,I.os,I.bare,I.base,I.loc,I.cell,I.free,I.freeC,fun p hp=>(List.mem_append.mp hp).elim (fun z=>I.pin p (List.mem_append_left _ z)) (h p),I.hok,I.len⟩
theorem nodup_ix {N:List Str} (hN:N.Nodup) {i j:Nat} {x:Str} (a:N[i]?=some x) (b:N[j]?=some x):i=j:=by
 obtain⟨h1,e1⟩:=List.getElem?_eq_some_iff.mp a
 obtain⟨h2,e2⟩:=List.getElem?_eq_some_iff.mp b
 exact(List.getElem_inj hN).mp (e1.trans e2.symm)
theorem store_ok2 {M:Model} {A:Around} {E:Value->Shared->Prop} {i:Nat} {x:Str} {v:V} {u:Value} {Q:Unit->Shared->Prop} (I:Inv X pins σ H s) (hN:X.N.Nodup) (hi:X.N[i]?=some x) (hx:Loc X.env.scope x) (r:RelV v u)
  (h:∀s',Inv X pins (σ.set i (some v)) H s'->(∃ a,Heap.SameBut a s.heap s'.heap/\(a=X.env.locals\/X.env.cells.lookup x=some a))->Q () s') (hf:X.fn x=true\/X.env.scope.names.lookup x=some .local:=by first | exact .inl rfl | exact .inr rfl | assumption):wpAny M A (storeName X.env x u) Q E s:=by
 obtain⟨m,hn,hl⟩:=id I.loc
 have hcls:(X.env.scope.kind == .class || (X.env.scope.kind == .module && X.env.locals != X.env.globals))=false:=by rw[I.ok.kind];rfl
 have hiσ:i < σ.length:=by rw[I.len];exact(List.getElem?_eq_some_iff.mp hi).1
 have cne:=I.cne
 have tracked:∀ {a:Addr} {h':Heap},(∃ o,s.heap.get? a=some o/\H a=none)->Heap.SameBut a s.heap h'->HOk X.prog X.w H h':=fun{a h'} ha hs b ob e=>by
  obtain⟨_,_,hfree⟩:=ha
  refine(I.hok b ob e).stay (fun c w' hc q=>(hs.2 c ?_).trans q) (fun _ q=>q) fun _ _ q=>q
  rintro rfl
  rcases hc with rfl | hc
  ·rw[hfree]at e;cases e
  ·rw[hfree]at hc;cases hc
 rcases hx with hk | hk
 ·refine wpAny_storeName_local hk hn (fun h' hn' hs=>?_) hcls
  obtain⟨oL,_,_,hoL,_⟩:=id hn
  refine h _ ⟨I.ok,I.os,I.bare,⟨fun b o e n hb hx=>?_,fun b o e n hb hx=>?_,I.base.free,fun b o e hx=>?_,I.base.tups,I.base.frzs,I.base.tbls⟩,⟨_,hn',fun j y v' e1 e2 e3=>?_⟩,fun y c e=>?_,I.free,I.freeC,fun p hp=>?_,tracked ⟨oL,hoL,I.free⟩ hs,by simpa using I.len⟩ ⟨_,hs,.inl rfl⟩
  ·exact(hs.2 b (Nat.ne_of_lt (Nat.lt_of_lt_of_le (Heap.lt_size e) I.ok.above))).trans (I.base.keep b o e n hb hx)
  ·obtain⟨sl,e1⟩:=I.base.slot b o e n hb hx
   exact⟨sl,(hs.2 b (Nat.ne_of_lt (Nat.lt_of_lt_of_le (Heap.lt_size e) I.ok.above))).trans e1⟩
  ·obtain⟨o',e1⟩:=I.base.there b o e hx
   exact⟨o',(hs.2 b (Nat.ne_of_lt (Nat.lt_of_lt_of_le (Heap.lt_size e) I.ok.above))).trans e1⟩
  ·by_cases hj:j=i
   ·subst hj
    rw[hi]at e1;cases e1
    rw[List.getElem?_set_self hiσ]at e2
    cases e2
    exact⟨u,r,.inl ⟨hk,by simp⟩⟩
   ·rw[List.getElem?_set_ne (Ne.symm hj)]at e2
    obtain⟨u',r',q⟩:=hl j y v' e1 e2 e3
    refine⟨u',r',?_⟩
    rcases q with ⟨k,e⟩ | ⟨k,c,e,z⟩
    ·refine .inl ⟨k,?_⟩
     have:y ≠ x:=fun e=>hj (nodup_ix hN e1 (e ▸ hi))
     simp[this,e]
    ·exact .inr ⟨k,c,e,z.sameBut hs (cne y c e)⟩
  ·obtain⟨w',z⟩:=I.cell y c e
   exact⟨w',z.sameBut hs (cne y c e)⟩
  ·obtain⟨e,n,ne,nf,d⟩:=I.pin p hp
   exact⟨(hs.2 p.1 ne).trans e,n,ne,nf,d⟩
 ·have hfn:X.fn x=true:=by
   rcases hf with z | z
   ·exact z
   ·rw[z]at hk;cases hk
  obtain⟨c,hc⟩:=I.ok.has x (.inl hk)
  obtain⟨w',z⟩:=I.cell x c hc
  refine wpAny_storeName_cell I.ok.kind hk hc z (fun h' hc' hs=>?_)
  obtain⟨oc,hoc,hocd⟩:=id z
  refine h {s with heap:=h'} ⟨I.ok,I.os,I.bare,⟨fun b o e n hb hx=>?_,fun b o e n hb hx=>?_,I.base.free,fun b o e hx=>?_,I.base.tups,I.base.frzs,I.base.tbls⟩,⟨m,hn.sameBut hs (Ne.symm (cne x c hc)),fun j y v' e1 e2 e3=>?_⟩,fun y c' e=>?_,I.free,I.freeC,fun p hp=>?_,tracked ⟨oc,hoc,I.freeC x c hc⟩ hs,by simpa using I.len⟩ ⟨c,hs,.inr hc⟩
  ·exact(hs.2 b (Nat.ne_of_lt (Nat.lt_of_lt_of_le (Heap.lt_size e) (I.ok.cab x c hfn hc)))).trans (I.base.keep b o e n hb hx)
  ·obtain⟨sl,e1⟩:=I.base.slot b o e n hb hx
   exact⟨sl,(hs.2 b (Nat.ne_of_lt (Nat.lt_of_lt_of_le (Heap.lt_size e) (I.ok.cab x c hfn hc)))).trans e1⟩
  ·obtain⟨o',e1⟩:=I.base.there b o e hx
   exact⟨o',(hs.2 b (Nat.ne_of_lt (Nat.lt_of_lt_of_le (Heap.lt_size e) (I.ok.cab x c hfn hc)))).trans e1⟩
  ·by_cases hj:j=i
   ·subst hj
    rw[hi]at e1;cases e1
    rw[List.getElem?_set_self hiσ]at e2
    cases e2
    exact⟨u,r,.inr ⟨.inl hk,c,hc,hc'⟩⟩
   ·rw[List.getElem?_set_ne (Ne.symm hj)]at e2
    obtain⟨u',r',q⟩:=hl j y v' e1 e2 e3
    refine⟨u',r',?_⟩
    rcases q with q | ⟨k,c',e,z'⟩
    ·exact .inl q
    ·refine .inr ⟨k,c',e,z'.sameBut hs ?_⟩
     rintro rfl
     exact hj (nodup_ix hN e1 (I.ok.inj _ _ _ e hc ▸ hi))
  ·by_cases hcc:c'=c
   ·subst hcc;exact⟨_,hc'⟩
   ·obtain⟨w2,z2⟩:=I.cell y c' e
    exact⟨w2,z2.sameBut hs hcc⟩
  ·obtain⟨e,n,ne,nf,d⟩:=I.pin p hp
   refine⟨(hs.2 p.1 ?_).trans e,n,ne,nf,d⟩
   intro q
   rw[q,hoc]at e
   have q':oc=p.2:=Option.some.inj e
   exact d w' (by rw[<-q'];exact hocd)
theorem store_ok {M:Model} {A:Around} {E:Value->Shared->Prop} {i:Nat} {x:Str} {v:V} {u:Value} {Q:Unit->Shared->Prop} (I:Inv X pins σ H s) (hN:X.N.Nodup) (hi:X.N[i]?=some x) (hx:Loc X.env.scope x) (r:RelV v u)
  (h:∀s',Inv X pins (σ.set i (some v)) H s'->Q () s') (hf:X.fn x=true\/X.env.scope.names.lookup x=some .local:=by first | exact .inl rfl | exact .inr rfl | assumption):wpAny M A (storeName X.env x u) Q E s:=
 store_ok2 I hN hi hx r (fun s' I' _=>h s' I') hf
theorem Inv.call' {s':Shared} {ch:List Addr} (I:Inv X pins σ H s) (ho:s'.os=s.os) (u:Un (frs X.stack) ch H H' s.heap s'.heap) (hok:HOk X.prog X.w H' s'.heap) (hg:AllBare s'.gens)
  (hch:∀b ∈ ch,(b ∈ X.ex\/X.s₀.heap.objs.size<=b)/\b ≠ X.env.locals/\(∀ x c,X.env.cells.lookup x=some c->c ≠ b)/\∀p ∈ X.pn++pins,p.1 ≠ b):Inv X pins σ H' s':=by
 obtain⟨h',g',d',t',o'⟩:=s'
 have e:o'=s.os:=ho
 subst e
 exact I.call (g':=g') (t':=t') (d':=d') u hok hg hch
end
@[reducible] noncomputable def XK:=Value->Option Addr->Hp->Prop
@[reducible] noncomputable def St:=List (Option V)
@[reducible] noncomputable def VK:=V->Hp->Prop
@[reducible] noncomputable def TE:=St->Hp->VK->Prop
@[reducible] noncomputable def TT:=St->Hp->(Bool->Hp->Prop)->Prop
@[reducible] noncomputable def TA:=St->Hp->(List V->Hp->Prop)->Prop
structure Ends where
 nx:St->Hp->Prop
 rt:VK
 bk:St->Hp->Prop:=fun _ _=>False
 ct:St->Hp->Prop:=fun _ _=>False
@[reducible] noncomputable def TS:=Ends->St->Hp->Prop
noncomputable def EP (X:Cx) (pins:List (Addr × Obj)) (σ:St) (Q:VK) (u:Value) (s':Shared):Prop:=∃v H',Inv X pins σ H' s'/\RelV v u/\Q v H'
noncomputable def TP (X:Cx) (pins:List (Addr × Obj)) (σ:St) (Q:Bool->Hp->Prop) (b:Bool) (s':Shared):Prop:=∃H',Inv X pins σ H' s'/\Q b H'
noncomputable def AP (X:Cx) (pins:List (Addr × Obj)) (σ:St) (Q:List V->Hp->Prop) (us:List Value) (s':Shared):Prop:=∃vs H',Inv X pins σ H' s'/\Vals vs us/\Q vs H'
noncomputable def SP (X:Cx) (pins:List (Addr × Obj)) (D:Ends) (f:Flow) (s':Shared):Prop:=
 match f with
 | .next=>∃σ' H',Inv X pins σ' H' s'/\D.nx σ' H'
 | .brk=>∃σ' H',Inv X pins σ' H' s'/\D.bk σ' H'
 | .cont=>∃σ' H',Inv X pins σ' H' s'/\D.ct σ' H'
 | .ret u=>∃v σ' H',Inv X pins σ' H' s'/\RelV v u/\D.rt v H'
noncomputable def PE (X:Cx) (e:Expr) (t:TE):Prop:=
 ∀ (pins:List (Addr × Obj)) (s:Shared) (σ:St) (H:Hp) (Q:VK),Inv X pins σ H s->t σ H Q->wpAny (model X.prog X.w) X.A (eval e X.env) (EP X pins σ Q) X.xe s
noncomputable def PT (X:Cx) (e:Expr) (t:TT):Prop:=
 ∀ (pins:List (Addr × Obj)) (s:Shared) (σ:St) (H:Hp) (Q:Bool->Hp->Prop),Inv X pins σ H s->t σ H Q->wpAny (model X.prog X.w) X.A (isTrue e X.env (eval e X.env)) (TP X pins σ Q) X.xe s
noncomputable def PW (X:Cx) (e:Expr) (t:TT):Prop:=
 ∀ (whole:Sem Value) (pins:List (Addr × Obj)) (s:Shared) (σ:St) (H:Hp) (Q:Bool->Hp->Prop),Inv X pins σ H s->t σ H Q->wpAny (model X.prog X.w) X.A (isTrue e X.env whole) (TP X pins σ Q) X.xe s
theorem PW.pt {X:Cx} {e:Expr} {t:TT} (h:PW X e t):PT X e t:=h _
noncomputable def PA (X:Cx) (es:List Expr) (t:TA):Prop:=
 ∀ (pos:Pos) (pins:List (Addr × Obj)) (s:Shared) (σ:St) (H:Hp) (Q:List V->Hp->Prop),Inv X pins σ H s->t σ H Q->wpAny (model X.prog X.w) X.A (spliced (backTo pos (starEach es X.env))) (AP X pins σ Q) X.xe s
noncomputable def PS (X:Cx) (st:Stmt) (t:TS):Prop:=
 ∀ (pins:List (Addr × Obj)) (s:Shared) (σ:St) (H:Hp) (D:Ends),Inv X pins σ H s->t D σ H->wpAny (model X.prog X.w) X.A (exec st X.env) (SP X pins D) X.xe s
noncomputable def PSs (X:Cx) (st:List Stmt) (t:TS):Prop:=
 ∀ (pins:List (Addr × Obj)) (s:Shared) (σ:St) (H:Hp) (D:Ends),Inv X pins σ H s->t D σ H->wpAny (model X.prog X.w) X.A (execs st X.env) (SP X pins D) X.xe s
theorem thn {α:Type} {t:Sem α} {Q Q':α->Shared->Prop} {M:Model} {A:Around} {E:Value->Shared->Prop} {s:Shared} (h:wpAny M A t Q E s) (hQ:∀a s,Q a s->Q' a s):wpAny M A t Q' E s:=wpAny_mono h hQ fun _ _ x=>x
end L2
namespace L2
open PySem PySem.Spec PyProof.Rows
section
variable {X:Cx}
noncomputable def tVar (i:Nat):TE:=fun σ H Q=>∃v,σ[i]?=some (some v)/\Q v H
noncomputable def tC (v:V):TE:=fun _ H Q=>Q v H
theorem pe_var {i:Nat} {x:Str} {pos:Pos} (hN:X.N[i]?=some x) (hv:Vis X.env.scope x) (hd:(x == ("__debug__" :Str))=false:=by decide) (hcd:(x == ("__classdict__" :Str))=false:=by decide):PE X (.Name x pos) (tVar i):=by
 intro pins s σ H Q I h
 obtain⟨v,e,h⟩:=h
 obtain⟨m,hn,hl⟩:=I.loc
 obtain⟨u,r,l⟩:=hl i x v hN e hv
 have fin:EP X pins σ Q u s:=⟨v,H,I,r,h⟩
 rcases l with ⟨hk,hm⟩ | ⟨hk,c,hc,hcell⟩
 ·exact wpAny_Name (wpAny_loadName_local I.ok.kind hk hn hm fin) hd
 ·rcases hk with hk | hk
  ·exact wpAny_Name (wpAny_loadName_cell I.ok.kind hk hc hcell fin) hd
  ·exact wpAny_Name (wpAny_loadName_free I.ok.kind hk hc hcell fin hcd) hd
theorem pe_int {i j pos}:PE X (.Constant (.int i) j pos) (tC (.int i)):=fun _ _ _ H _ I h=>wpAny_Constant_int ⟨.int i,H,I.tok _,⟨_,rfl⟩,h⟩
theorem pe_bl {b j pos}:PE X (.Constant (.bool b) j pos) (tC (.bl b)):=fun _ _ _ H _ I h=>Constant_bool ⟨.bl b,H,I,rfl,h⟩
theorem pe_non {j pos}:PE X (.Constant .none j pos) (tC .non):=fun _ _ _ H _ I h=>Constant_none ⟨.non,H,I,rfl,h⟩
theorem pe_str {x j pos}:PE X (.Constant (.str x) j pos) (tC (.str x)):=fun _ _ _ H _ I h=>Calls.Constant_str ⟨.str x,H,I.tok _,⟨_,rfl⟩,h⟩
noncomputable def Gl (X:Cx) (x:Str):Prop:=X.env.kindOf x=some .globalImplicit
theorem ld_glob {E:Value->Shared->Prop} {pins:List (Addr × Obj)} {s:Shared} {σ:St} {H:Hp} {x:Str} {u:Value} {pos:Pos} {Q:Value->Shared->Prop} (I:Inv X pins σ H s) (hg:Gl X x) (hm:X.mg x=some u) (h:Q u s)
  (hd:(x == ("__debug__" :Str))=false:=by decide):wpAny (model X.prog X.w) X.A (eval (.Name x pos) X.env) Q E s:=
 Calls.Name_function_global I.ok.kind hg (Calls.loadGlobal_global (by rw[I.ok.glob];exact I.mod.glob.keeps I.bk) hm h) hd
theorem ld_blt {E:Value->Shared->Prop} {pins:List (Addr × Obj)} {s:Shared} {σ:St} {H:Hp} {x:Str} {u:Value} {pos:Pos} {Q:Value->Shared->Prop} (I:Inv X pins σ H s) (hg:Gl X x) (hm:X.mg x=none) (hv:bootBuiltins x=some u) (h:Q u s)
  (hn:x ≠ "__name__" :=by decide) (hd:(x == ("__debug__" :Str))=false:=by decide):wpAny (model X.prog X.w) X.A (eval (.Name x pos) X.env) Q E s:=by
 obtain⟨mb,h1,h2⟩:=I.mod.blt
 exact Calls.Name_function_global I.ok.kind hg (Calls.loadGlobal_builtin (by rw[I.ok.glob];exact I.mod.glob.keeps I.bk) hm (by rw[I.ok.blt];exact h1.keeps I.bk) ((h2 x hn).trans hv) h) hd
variable {a b:Expr} {ta tb:TE} {pos:Pos}
variable {tA tB':TT} {rest:List Expr}
noncomputable def tAnd (t u:TT):TT:=fun σ H Q=>t σ H fun c H1=>if c=true then u σ H1 Q else Q false H1
noncomputable def tOr (t u:TT):TT:=fun σ H Q=>t σ H fun c H1=>if c=true then Q true H1 else u σ H1 Q
noncomputable def tNot (t:TT):TT:=fun σ H Q=>t σ H fun c H1=>Q (!c) H1
theorem pw_and1 (ha:PT X a tA):PW X (.BoolOp .And [a] pos) tA:=by
 intro wh pins s σ H Q I h
 refine isTrue_and (thn (ha pins s σ H Q I h) fun c s1 e=>?_)
 cases c with
 | true=>exact isTrue_and_nil e
 | false=>exact e
theorem pw_or1 (ha:PT X a tA):PW X (.BoolOp .Or [a] pos) tA:=by
 intro wh pins s σ H Q I h
 refine isTrue_or (thn (ha pins s σ H Q I h) fun c s1 e=>?_)
 cases c with
 | false=>exact isTrue_or_nil e
 | true=>exact e
theorem pw_and (ha:PT X a tA) (hb:PW X (.BoolOp .And (b::rest) pos) tB'):PW X (.BoolOp .And (a::b::rest) pos) (tAnd tA tB'):=by
 intro wh pins s σ H Q I h
 refine isTrue_and (thn (ha pins s σ H _ I h) fun c s1 ⟨H1,I1,q1⟩=>?_)
 cases c with
 | true=>exact hb wh pins s1 σ H1 Q I1 q1
 | false=>exact⟨H1,I1,q1⟩
theorem pw_or (ha:PT X a tA) (hb:PW X (.BoolOp .Or (b::rest) pos) tB'):PW X (.BoolOp .Or (a::b::rest) pos) (tOr tA tB'):=by
 intro wh pins s σ H Q I h
 refine isTrue_or (thn (ha pins s σ H _ I h) fun c s1 ⟨H1,I1,q1⟩=>?_)
 cases c with
 | true=>exact⟨H1,I1,q1⟩
 | false=>exact hb wh pins s1 σ H1 Q I1 q1
theorem pt_not (ha:PT X a tA):PT X (.UnaryOp .Not a pos) (tNot tA):=by
 intro pins s σ H Q I h
 exact isTrue_not (ha pins s σ H (fun c H1=>Q (!c) H1) I h)
theorem pe_one {op} {t:TE} (h:PE X a t):PE X (.BoolOp op [a] pos) t:=fun pins s σ H Q I hw=>BoolOp_one (h pins s σ H Q I hw)
end
end L2
namespace L2
open PySem PySem.Spec PyProof.Rows
noncomputable def SqL (K:PySem.W.Frag) (H:Hp) (a:Addr) (xs:List V):Prop:=
 Rd H a (.lst xs)\/
  ∃ (o:Obj) (its:Array Value) (n:Nat),K.lookup a=some o/\o.cls=.type "list" /\o.dict=none/\o.data=.seq its n/\its.size<=sizeLine/\Vals xs its.toList
noncomputable def SqT (K:PySem.W.Frag) (H:Hp) (a:Addr) (xs:List V):Prop:=
 Rd H a (.tup xs)\/
  ∃ (o:Obj) (its:Array Value) (n:Nat),K.lookup a=some o/\o.cls=.type "tuple" /\o.data=.seq its n/\its.size<=sizeLine/\Vals xs its.toList
noncomputable def absV:Value->Option V
 | .none=>some .non
 | .bool b=>some (.bl b)
 | .int i _=>some (.int i)
 | .str x _=>some (.str x)
 | .bytes b _=>some (.byt b)
 | .float b _=>some (.flt b)
 | .ref a=>some (.ref a)
 | .type n=>some (.ty n)
 | _=>none
theorem RelV.abs {x:V} {u:Value} (r:RelV x u):absV u=some x:=by
 cases x with
 | non=>cases r;rfl
 | bl _=>cases r;rfl
 | int _=>obtain⟨t,rfl⟩:=r;rfl
 | str _=>obtain⟨t,rfl⟩:=r;rfl
 | byt _=>obtain⟨t,rfl⟩:=r;rfl
 | flt _=>obtain⟨t,rfl⟩:=r;rfl
 | ref _=>cases r;rfl
 | ty _=>cases r;rfl
theorem RelV.inj {x y:V} {u:Value} (r:RelV x u) (q:RelV y u):x=y:=Option.some.inj (r.abs.symm.trans q.abs)
theorem Vals.inj:∀ {xs ys:List V} {us:List Value},Vals xs us->Vals ys us->xs=ys
 | _,_,_,.nil,.nil=>rfl
 | _,_,_,.cons r t,.cons r' t'=>by rw[r.inj r',Vals.inj t t']
section
variable {X:Cx} {pins:List (Addr × Obj)} {σ:St} {H:Hp} {s:Shared} {a:Addr} {xs ys:List V}
theorem SqT.of {K:PySem.W.Frag} (h:H a=some (.tup xs)):SqT K H a xs:=.inl (.inl h)
theorem Inv.list (I:Inv X pins σ H s) (h:SqL X.K H a xs):∃its:List Value,Vals xs its/\PlainL s.heap a its.toArray/\xs.length<=sizeLine:=by
 rcases h with h | ⟨o,its,n,hk,hc,hd,hs,hz,r⟩
 ·obtain⟨z,its,n,r,e⟩:=h.ok I.hok
  exact⟨its,r,⟨_,n,e,rfl,rfl,rfl⟩,z⟩
 ·refine⟨its.toList,r,⟨o,n,I.kIn a o hk,hc,hd,by simpa using hs⟩,?_⟩
  have e:=r.length
  simp only[Array.length_toList]at e
  omega
theorem Inv.tuple (I:Inv X pins σ H s) (h:SqT X.K H a xs):∃its:List Value,Vals xs its/\IsTup s.heap a its.toArray/\xs.length<=sizeLine:=by
 rcases h with h | ⟨o,its,n,hk,hc,hs,hz,r⟩
 ·obtain⟨z,its,r,p⟩:=h.ok I.hok
  exact⟨its,r,p,z⟩
 ·refine⟨its.toList,r,⟨o,I.kIn a o hk,hc,n,by simpa using hs⟩,?_⟩
  have e:=r.length
  simp only[Array.length_toList]at e
  omega
theorem Inv.list_inj (I:Inv X pins σ H s) (h:SqL X.K H a xs) (h':SqL X.K H a ys):xs=ys:=by
 obtain⟨its,r,⟨o,n,e,_,_,d⟩,_⟩:=I.list h
 obtain⟨its',r',⟨o',n',e',_,_,d'⟩,_⟩:=I.list h'
 rw[e]at e';cases e'
 rw[d]at d'
 injection d' with d1 _
 have:its=its':=by simpa using congrArg Array.toList d1
 subst this
 exact r.inj r'
theorem Inv.tuple_inj (I:Inv X pins σ H s) (h:SqT X.K H a xs) (h':SqT X.K H a ys):xs=ys:=by
 obtain⟨its,r,⟨o,e,_,n,d⟩,_⟩:=I.tuple h
 obtain⟨its',r',⟨o',e',_,n',d'⟩,_⟩:=I.tuple h'
 rw[e]at e';cases e'
 rw[d]at d'
 injection d' with d1 _
 have:its=its':=by simpa using congrArg Array.toList d1
 subst this
 exact r.inj r'
end
@[reducible] noncomputable def Cx.wish (X:Cx) (E:Value->Shared->Prop):Cx:={X with xe:=E}
@[reducible] noncomputable def Cx.nox (X:Cx):Cx:=X.wish fun _ _=>False
theorem Cx.Ok.wish {X:Cx} (ok:X.Ok) (E:Value->Shared->Prop):(X.wish E).Ok:=
 ⟨ok.mod,ok.kind,ok.glob,ok.blt,ok.above,ok.inj,ok.has,ok.cab,ok.hd,ok.frames,ok.stk,ok.exf,ok.bs,ok.bsz,ok.noex,ok.exfs,ok.funs,ok.frf⟩
theorem Cx.Ok.unwish {X:Cx} {E:Value->Shared->Prop} (ok:(X.wish E).Ok):X.Ok:=
 ⟨ok.mod,ok.kind,ok.glob,ok.blt,ok.above,ok.inj,ok.has,ok.cab,ok.hd,ok.frames,ok.stk,ok.exf,ok.bs,ok.bsz,ok.noex,ok.exfs,ok.funs,ok.frf⟩
section
variable {X:Cx} {pins:List (Addr × Obj)} {σ:St} {H:Hp} {s:Shared} {E:Value->Shared->Prop}
theorem Inv.wish (I:Inv X pins σ H s) (E:Value->Shared->Prop):Inv (X.wish E) pins σ H s:=⟨I.ok.wish E,I.os,I.bare,I.base,I.loc,I.cell,I.free,I.freeC,I.pin,I.hok,I.len⟩
theorem Inv.unwish (I:Inv (X.wish E) pins σ H s):Inv X pins σ H s:=⟨I.ok.unwish,I.os,I.bare,I.base,I.loc,I.cell,I.free,I.freeC,I.pin,I.hok,I.len⟩
theorem SP.unwish {D:Ends} {f:Flow} {s':Shared} (h:SP (X.wish E) pins D f s'):SP X pins D f s':=by
 cases f with
 | next=>obtain⟨σ',H',I,q⟩:=h;exact⟨σ',H',I.unwish,q⟩
 | brk=>obtain⟨σ',H',I,q⟩:=h;exact⟨σ',H',I.unwish,q⟩
 | cont=>obtain⟨σ',H',I,q⟩:=h;exact⟨σ',H',I.unwish,q⟩
 | ret u=>obtain⟨v,σ',H',I,r,q⟩:=h;exact⟨v,σ',H',I.unwish,r,q⟩
end
section
variable {X:Cx} {st:Stmt} {rest:List Stmt} {t u:TS} {e:Expr} {te:TE} {pos:Pos}
noncomputable def tNext:TS:=fun D σ H=>D.nx σ H
noncomputable def tSeq (t u:TS):TS:=fun D σ H=>t {D with nx:=u D} σ H
theorem pss_nil:PSs X [] tNext:=fun _ _ σ H _ I h=>wpAny_execs_nil ⟨σ,H,I,h⟩
theorem pss_cons (h1:PS X st t) (h2:PSs X rest u):PSs X (st::rest) (tSeq t u):=by
 intro pins s σ H D I h
 refine wpAny_execs_cons (thn (h1 pins s σ H {D with nx:=u D} I h) fun f s1 q=>?_)
 cases f with
 | next=>
  obtain⟨σ',H',I',q⟩:=q
  exact h2 pins s1 σ' H' D I' q
 | ret v=>exact q
 | brk=>exact q
 | cont=>exact q
theorem Inv.quiet {pins:List (Addr × Obj)} {σ:St} {H:Hp} {s:Shared} (I:Inv X pins σ H s):interactive X.env=false:=by simp[interactive,I.ok.kind]
noncomputable def tDrop (te:TE):TS:=fun D σ H=>te σ H fun _ H1=>D.nx σ H1
theorem ps_expr (he:PE X e te) (hs:swapsWith e none pos.line X.env=pure false:=by rfl):PS X (.Expr e pos) (tDrop te):=by
 intro pins s σ H D I h
 exact wpAny_Expr_any (thn (he pins s σ H _ I h) fun v s1 ⟨x,H1,I1,r1,q1⟩=>⟨σ,H1,I1,q1⟩) I.quiet hs
noncomputable def tRet (te:TE):TS:=fun D σ H=>te σ H D.rt
theorem ps_ret (he:PE X e te):PS X (.Return (some e) pos) (tRet te):=by
 intro pins s σ H D I h
 exact wpAny_Return_some (thn (he pins s σ H _ I h) fun v s1 ⟨x,H1,I1,r1,q1⟩=>⟨x,σ,H1,I1,r1,q1⟩)
noncomputable def tIfS (c:TT) (t u:TS):TS:=fun D σ H=>c σ H fun b H1=>if b=true then t D σ H1 else u D σ H1
theorem ps_if {c:Expr} {a b:List Stmt} {tc:TT} (hc:PT X c tc) (ha:PSs X a t) (hb:PSs X b u):PS X (.If c a b pos) (tIfS tc t u):=by
 intro pins s σ H D I h
 refine wpAny_If (thn (hc pins s σ H _ I h) fun d s1 ⟨H1,I1,q1⟩=>?_)
 cases d with
 | true=>exact ha pins s1 σ H1 D I1 q1
 | false=>exact hb pins s1 σ H1 D I1 q1
end
@[reducible] noncomputable def TG:=V->St->Hp->(St->Hp->Prop)->Prop
@[reducible] noncomputable def TGs:=List V->St->Hp->(St->Hp->Prop)->Prop
noncomputable def PG (X:Cx) (target:Expr) (t:TG):Prop:=
 ∀ (pins:List (Addr × Obj)) (s:Shared) (σ:St) (H:Hp) (v:V) (u:Value) (Q:St->Hp->Prop),Inv X pins σ H s->RelV v u->t v σ H Q->
  wpAny (model X.prog X.w) X.A (assign target X.env u) (fun _ s'=>∃σ' H',Inv X pins σ' H' s'/\Q σ' H') X.xe s
noncomputable def PGs (X:Cx) (ts:List Expr) (t:TGs):Prop:=
 ∀ (pins:List (Addr × Obj)) (s:Shared) (σ:St) (H:Hp) (vs:List V) (us:List Value) (Q:St->Hp->Prop),Inv X pins σ H s->Vals vs us->t vs σ H Q->
  wpAny (model X.prog X.w) X.A (assignInOrder ((assignEach ts X.env).map (·.2)) us) (fun _ s'=>∃σ' H',Inv X pins σ' H' s'/\Q σ' H') X.xe s
@[reducible] noncomputable def TSet:=V->V->V->Hp->(Hp->Prop)->Prop
noncomputable def PSet (X:Cx) (t:TSet):Prop:=
 ∀ (pins:List (Addr × Obj)) (s:Shared) (σ:St) (H:Hp) (o i v:V) (ov iv u:Value) (Q:Hp->Prop),Inv X pins σ H s->RelV o ov->RelV i iv->RelV v u->t o i v H Q->
  wpAny (model X.prog X.w) X.A (setItem ov iv u) (fun _ s'=>∃H',Inv X pins σ H' s'/\Q H') X.xe s
section
variable {X:Cx} {pos:Pos}
noncomputable def gName (i:Nat):TG:=fun v σ H Q=>Q (σ.set i (some v)) H
theorem pg_name {i:Nat} {x:Str} (hN:X.N.Nodup) (hi:X.N[i]?=some x) (hx:Loc X.env.scope x) (hf:X.fn x=true\/X.env.scope.names.lookup x=some .local:=by first | exact .inl rfl | exact .inr rfl | assumption):PG X (.Name x pos) (gName i):=by
 intro pins s σ H v u Q I r h
 exact wpAny_assign_Name (store_ok I hN hi hx r (fun s' I'=>⟨_,H,I',h⟩) hf)
noncomputable def gNil:TGs:=fun vs σ H Q=>vs=[]/\Q σ H
noncomputable def gCons (t:TG) (u:TGs):TGs:=fun vs σ H Q=>∃v r,vs=v::r/\t v σ H fun σ' H'=>u r σ' H' Q
theorem pgs_nil:PGs X [] gNil:=by
 intro pins s σ H vs us Q I r h
 obtain⟨e,h⟩:=h
 subst e
 cases r
 exact assignInOrder_nil ⟨σ,H,I,h⟩
theorem pgs_cons {e:Expr} {es:List Expr} {t:TG} {u:TGs} (h1:PG X e t) (h2:PGs X es u)
  (hs:(assignEach (e::es) X.env).map (·.2)=assign e X.env::(assignEach es X.env).map (·.2):=by rfl):PGs X (e::es) (gCons t u):=by
 intro pins s σ H vs us Q I r h
 obtain⟨v,vr,e1,h⟩:=h
 subst e1
 cases r with
 | cons r rr=>
  rw[hs]
  refine assignInOrder_cons (thn (h1 pins s σ H _ _ _ I r h) fun _ s1 ⟨σ1,H1,I1,q1⟩=>?_)
  exact h2 pins s1 σ1 H1 _ _ Q I1 rr q1
noncomputable def gTup (K:PySem.W.Frag) (n:Nat) (t:TGs):TG:=fun v σ H Q=>∃a xs,v=.ref a/\SqT K H a xs/\xs.length=n/\t xs σ H Q
theorem pg_tup {es:List Expr} {k:Nat} {t:TGs} {n:Nat} (hc:X.calm=true) (h:PGs X es t)
  (hn:(assignEach es X.env).length=n:=by rfl) (hst:(assignEach es X.env).findIdx? (·.1)=none:=by rfl):PG X (.Tuple es k pos) (gTup X.K n t):=by
 intro pins s σ H v u Q I r hw
 obtain⟨a,xs,e1,hq,hl,hw⟩:=hw
 subst e1
 cases r
 obtain⟨its,rv,ht,hz⟩:=I.tuple hq
 refine assign_Tuple_tuple (I.ok.hd hc) ht (by simp[hn,<-hl,rv.length]) hst fun h' hx=>?_
 have I1:Inv X pins σ H {s with heap:=h'}:=I.kept (t':=s.toks) fun b o e=>hx b o (Nat.ne_of_lt (Heap.lt_size e)) e
 exact h pins _ σ H xs _ Q I1 (by simpa using rv) hw
noncomputable def tAsg (te:TE) (g:TG):TS:=fun D σ H=>te σ H fun x H1=>g x σ H1 D.nx
theorem ps_set {i:Nat} {x:Str} {e:Expr} {te:TE} {pos':Pos} (hN:X.N.Nodup) (hi:X.N[i]?=some x) (hx:Loc X.env.scope x) (he:PE X e te) (hs:swapsWith e (some (.Name x pos')) pos.line X.env=pure false:=by rfl) (hf:X.fn x=true\/X.env.scope.names.lookup x=some .local:=by first | exact .inl rfl | exact .inr rfl | assumption):
  PS X (.Assign [.Name x pos'] e pos) (tAsg te (gName i)):=by
 intro pins s σ H D I h
 refine wpAny_Assign_Name (thn (he pins s σ H _ I h) fun v s1 ⟨y,H1,I1,r1,q1⟩=>?_) hs
 exact store_ok I1 hN hi hx r1 (fun s2 I2=>⟨_,H1,I2,q1⟩) hf
end
section
variable {X:Cx} {pos:Pos}
end
structure It where
 go:Nat->Hp->Prop
 yld:Nat->Hp->V->Hp->Prop
 stop:Nat->Hp->Prop
noncomputable def FpOk (X:Cx) (pins:List (Addr × Obj)) (H:Hp) (b:Addr):Prop:=
 H b=none/\b ≠ X.env.locals/\b ∉ X.fs/\(b ∈ X.ex\/X.s₀.heap.objs.size<=b)/\(∀ x c,X.env.cells.lookup x=some c->c ≠ b)/\∀p ∈ X.pn++pins,p.1 ≠ b
theorem Inv.fpOk {X:Cx} {pins:List (Addr × Obj)} {σ:St} {H H':Hp} {s:Shared} {b:Addr} (I:Inv X pins σ H s) (hb:s.heap.objs.size<=b) (hn:H' b=none):FpOk X pins H' b:=by
 refine⟨hn,Nat.ne_of_gt (Nat.lt_of_lt_of_le I.lt hb),I.nofs hb,.inr (Nat.le_trans I.sz hb),fun x c e z=>?_,fun p hp z=>?_⟩
 ·obtain⟨v,q⟩:=I.cell x c e
  exact absurd (Nat.lt_of_lt_of_le q.lt (by rw[z];exact hb)) (Nat.lt_irrefl _)
 ·exact absurd (Nat.lt_of_lt_of_le (Heap.lt_size (I.pin p hp).1) (by rw[z];exact hb)) (Nat.lt_irrefl _)
structure Turn (P:Program) (w:World) (K:PySem.W.Frag) (tg:Expr) (J:It) (fp:List Addr) (it:Addr) (tn:Nat->Heap->Prop):Prop where
 mem:it ∈ fp
 obj:∀i h,tn i h->∀b ∈ fp,∃o,h.get? b=some o/\∀v,o.data ≠ .cell v
 keep:∀i h h',tn i h->(∀ b ∈ fp,∀o,h.get? b=some o->h'.get? b=some o)->tn i h'
 item:∀ (X:Cx),X.prog=P->X.w=w->X.K=K->X.calm=true->∀ (i:Nat) (pins:List (Addr × Obj)) (s:Shared) (σ:St) (H:Hp) (E:Value->Shared->Prop),Inv X pins σ H s->(∀ b ∈ fp,FpOk X pins H b)->tn i s.heap->J.go i H->
  wpAny (model P w) X.A (pyNext (.ref it)) (fun r s1=>∃u,r=some u/\
   wpAny (model P w) X.A (letOwnedTupleGo tg (.ref it) u) (fun _ s2=>∃x H',Inv X pins σ H' s2/\RelV x u/\J.yld i H x H'/\tn (i + 1) s2.heap/\∀b ∈ fp,H' b=none) E s1) E s
 done:∀ (X:Cx),X.prog=P->X.w=w->X.K=K->X.calm=true->∀ (i:Nat) (pins:List (Addr × Obj)) (s:Shared) (σ:St) (H:Hp) (E:Value->Shared->Prop),Inv X pins σ H s->(∀ b ∈ fp,FpOk X pins H b)->tn i s.heap->J.stop i H->
  wpAny (model P w) X.A (pyNext (.ref it)) (fun r s1=>r=none/\Inv X pins σ H s1) E s
 self:∀ (A:Around) (i:Nat) (s:Shared) (Q:Value->Shared->Prop) (E:Value->Shared->Prop),tn i s.heap->Q (.ref it) s->wpAny (model P w) A (pyIter (.ref it)) Q E s
@[reducible] noncomputable def TI:=St->Hp->(It->Hp->Prop)->Prop
noncomputable def PIE (X:Cx) (pins:List (Addr × Obj)) (σ:St) (tg:Expr) (R:It->Hp->Prop) (itv:Value) (s2:Shared):Prop:=
 ∃ (it:Addr) (fp:List Addr) (tn:Nat->Heap->Prop) (J:It) (H':Hp),itv=.ref it/\Inv X pins σ H' s2/\Turn X.prog X.w X.K tg J fp it tn/\tn 0 s2.heap/\(∀ b ∈ fp,FpOk X pins H' b)/\R J H'
noncomputable def PI (X:Cx) (tg iter:Expr) (wi:TI):Prop:=
 ∀ (pins:List (Addr × Obj)) (s:Shared) (σ:St) (H:Hp) (R:It->Hp->Prop),Inv X pins σ H s->wi σ H R->
  wpAny (model X.prog X.w) X.A (eval iter X.env) (fun v s1=>wpAny (model X.prog X.w) X.A (pyIter v) (PIE X pins σ tg R) X.xe s1) X.xe s
theorem go_of {M:Model} {A:Around} {E:Value->Shared->Prop} {s:Shared} {tg:Expr} {it:Addr} {u:Value} {o:Obj} {n:String} {vs:Array Value} {Q:Unit->Shared->Prop} (ho:s.heap.get? it=some o) (hc:o.cls=.type n) (hd:o.data=.fields vs)
  (hn:["enumerate","zip","dict_itemiterator","dict_reverseitemiterator","odict_iterator","itertools.zip_longest","itertools.pairwise"].contains n=false) (hQ:Q () s):wpAny M A (letOwnedTupleGo tg (.ref it) u) Q E s:=by
 unfold letOwnedTupleGo
 cases tg<;>first
  | exact wpAny_pure hQ
  | (cases u<;>first
    | exact wpAny_pure hQ
    | (refine wpAny_bind (wpAny_load ho ?_)
       rw[hc,hd]
       show wpAny M A (if(["enumerate","zip","dict_itemiterator","dict_reverseitemiterator","odict_iterator","itertools.zip_longest","itertools.pairwise"].contains n && vs[0]? == some (rawInt _))=true then _ else _) Q E s
       rw[if_neg (by intro h;rw[hn,Bool.false_and]at h;cases h)]
       exact wpAny_pure hQ))
noncomputable def Itl (K:PySem.W.Frag) (a:Addr):It:=
 ⟨fun i H=>∃xs x,SqL K H a xs/\xs[i]?=some x,fun i H x H'=>H'=H/\∀xs,SqL K H a xs->xs[i]?=some x,fun i H=>∃xs,SqL K H a xs/\xs.length<=i⟩
noncomputable def Itt (K:PySem.W.Frag) (a:Addr):It:=
 ⟨fun i H=>∃xs x,SqT K H a xs/\xs[i]?=some x,fun i H x H'=>H'=H/\∀xs,SqT K H a xs->xs[i]?=some x,fun i H=>∃xs,SqT K H a xs/\xs.length<=i⟩
noncomputable def Itr (lo:Int) (n:Nat):It:=⟨fun i _=>i < n,fun i H x H'=>H'=H/\x=.int (lo + i),fun i _=>n<=i⟩
theorem turn_list {P:Program} {w:World} {K:PySem.W.Frag} {tg:Expr} (a it:Addr):Turn P w K tg (Itl K a) [it] it (fun i h=>h.IsListIter it a i) where
 mem:=by simp
 obj:=fun i h st b hb=>by
  have e:b=it:=by simpa using hb
  subst e
  obtain⟨o,e,c,d⟩:=st
  exact⟨o,e,fun v z=>by rw[d]at z;cases z⟩
 keep:=fun i h h' st k=>st.at fun o e=>k it (by simp) o e
 item:=by
  intro X hP hw hK hc i pins s σ H E I hf st hg
  subst hP hw hK
  obtain⟨xs,x,hq,hx⟩:=hg
  obtain⟨its,rv,p,hz⟩:=I.list hq
  obtain⟨u,hu,ru⟩:=rv.get hx
  obtain⟨f0,f1,f2,f3,f4,f5⟩:=hf it (by simp)
  refine wpAny_pyNext_list_item st p.isList (x:=u) (by simpa using hu) fun h' st' sb=>?_
  have I1:Inv X pins σ H {s with heap:=h'}:=I.turned (t':=s.toks) (fun b o hb e=>(sb.2 b hb).trans e) f0 f1 f3 f4 f5
  obtain⟨o,e,c,d⟩:=id st'
  exact⟨u,rfl,go_of (s:={s with heap:=h'}) e c d (by decide) ⟨x,H,I1,ru,⟨rfl,fun ys hy=>by rw[I.list_inj hy hq];exact hx⟩,st',fun b hb=>(hf b hb).1⟩⟩
 done:=by
  intro X hP hw hK hc i pins s σ H E I hf st hg
  subst hP hw hK
  obtain⟨xs,hq,hx⟩:=hg
  obtain⟨its,rv,p,hz⟩:=I.list hq
  obtain⟨f0,f1,f2,f3,f4,f5⟩:=hf it (by simp)
  have hl:=rv.length
  exact wpAny_pyNext_list_end (I.ok.hd hc) st p.isList (by simp;omega) fun h' eb=>⟨rfl,I.turned (t':=s.toks) (fun b o hb e=>eb b o hb e) f0 f1 f3 f4 f5⟩
 self:=fun _ _ _ _ _ st h=>wpAny_pyIter_listiter st h
theorem turn_tuple {P:Program} {w:World} {K:PySem.W.Frag} {tg:Expr} (a it:Addr):Turn P w K tg (Itt K a) [it] it (fun i h=>h.IsTupleIter it a i) where
 mem:=by simp
 obj:=fun i h st b hb=>by
  have e:b=it:=by simpa using hb
  subst e
  obtain⟨o,e,c,d⟩:=st
  exact⟨o,e,fun v z=>by rw[d]at z;cases z⟩
 keep:=fun i h h' st k=>st.at fun o e=>k it (by simp) o e
 item:=by
  intro X hP hw hK hc i pins s σ H E I hf st hg
  subst hP hw hK
  obtain⟨xs,x,hq,hx⟩:=hg
  obtain⟨its,rv,p,hz⟩:=I.tuple hq
  obtain⟨u,hu,ru⟩:=rv.get hx
  obtain⟨f0,f1,f2,f3,f4,f5⟩:=hf it (by simp)
  refine wpAny_pyNext_tuple_item st (show s.heap.IsTuple a its.toArray from p) (x:=u) (by simpa using hu) fun h' st' sb=>?_
  have I1:Inv X pins σ H {s with heap:=h'}:=I.turned (t':=s.toks) (fun b o hb e=>(sb.2 b hb).trans e) f0 f1 f3 f4 f5
  obtain⟨o,e,c,d⟩:=id st'
  exact⟨u,rfl,go_of (s:={s with heap:=h'}) e c d (by decide) ⟨x,H,I1,ru,⟨rfl,fun ys hy=>by rw[I.tuple_inj hy hq];exact hx⟩,st',fun b hb=>(hf b hb).1⟩⟩
 done:=by
  intro X hP hw hK hc i pins s σ H E I hf st hg
  subst hP hw hK
  obtain⟨xs,hq,hx⟩:=hg
  obtain⟨its,rv,p,hz⟩:=I.tuple hq
  obtain⟨f0,f1,f2,f3,f4,f5⟩:=hf it (by simp)
  have hl:=rv.length
  exact wpAny_pyNext_tuple_end (I.ok.hd hc) st (show s.heap.IsTuple a its.toArray from p) (by simp;omega) fun h' eb=>⟨rfl,I.turned (t':=s.toks) (fun b o hb e=>eb b o hb e) f0 f1 f3 f4 f5⟩
 self:=fun _ _ _ _ _ st h=>wpAny_pyIter_tupleiter st h
theorem turn_range {P:Program} {w:World} {K:PySem.W.Frag} {tg:Expr} (it:Addr) (lo:Int) (n:Nat):Turn P w K tg (Itr lo n) [it] it (fun i h=>IsRangeIter h it (lo + (i:Nat) * 1) ((n:Int) - (i:Nat)) 1) where
 mem:=by simp
 obj:=fun i h st b hb=>by
  have e:b=it:=by simpa using hb
  subst e
  exact⟨_,st,fun v z=>by
   have z':Data.fields _=Data.cell v:=z
   cases z'⟩
 keep:=fun i h h' st k=>k it (by simp) _ st
 item:=by
  intro X hP hw hK hc i pins s σ H E I hf st hg
  subst hP hw hK
  obtain⟨f0,f1,f2,f3,f4,f5⟩:=hf it (by simp)
  have W:=Walks.range (prog:=X.prog) (w:=X.w) (I.ok.hd hc) it lo 1 n
  refine W.item i s _ _ hg st fun v h' tk hv st' kk=>?_
  obtain⟨t,rfl⟩:=hv
  have I1:Inv X pins σ H {s with heap:=h',toks:=tk}:=I.turned (fun b o hb e=>kk b o (by simpa using hb) e) f0 f1 f3 f4 f5
  refine⟨_,rfl,go_of (s:={s with heap:=h',toks:=tk}) (n:= "range_iterator") st' rfl rfl (by decide) ⟨.int (lo + i),H,I1,⟨t,?_⟩,⟨rfl,rfl⟩,st',fun b hb=>(hf b hb).1⟩⟩
  rw[Int.mul_one]
 done:=by
  intro X hP hw hK hc i pins s σ H E I hf st hg
  subst hP hw hK
  obtain⟨f0,f1,f2,f3,f4,f5⟩:=hf it (by simp)
  exact wpAny_pyNext_range_end (I.ok.hd hc) st (by have:n<=i:=hg;omega) fun h' eb=>⟨rfl,I.turned (t':=s.toks) (fun b o hb e=>eb b o hb e) f0 f1 f3 f4 f5⟩
 self:=fun _ _ _ _ _ st h=>wpAny_pyIter_rangeiter st h
end L2
namespace L2
open PySem PySem.Spec PyProof.Rows
section
variable {X:Cx} {tg:Expr}
theorem range_it {pins:List (Addr × Obj)} {σ:St} {H:Hp} {s:Shared} {R:It->Hp->Prop} {E:Value->Shared->Prop} {lo hi:Int} {t u v:Tok} {tk:Nat} (I:Inv X pins σ H s) (h1: -(2 ^ 62)<=lo) (h2:lo < 2 ^ 62) (h3: -(2 ^ 62)<=hi) (h4:hi < 2 ^ 62)
  (q:R (Itr lo (hi - lo).toNat) H):wpAny (model X.prog X.w) X.A (pyIter (.ref s.heap.objs.size)) (PIE X pins σ tg R) E {s with heap:=s.heap.push {cls:=.type "range",data:=.fields #[.int lo t,.int hi u,.int 1 v]},toks:=tk}:=by
 refine wpAny_pyIter_range (IsRange.new ..) (small_one h1 h2 h3 h4) ?_
 have I1:Inv X pins σ H {s with heap:=s.heap.push {cls:=.type "range",data:=.fields #[.int lo t,.int hi u,.int 1 v]},toks:=tk}:=I.kept fun b o e=>Heap.get?_push_of_some _ e
 refine⟨(s.heap.push {cls:=.type "range",data:=.fields #[.int lo t,.int hi u,.int 1 v]}).objs.size,[(s.heap.push {cls:=.type "range",data:=.fields #[.int lo t,.int hi u,.int 1 v]}).objs.size],_,_,H,rfl,
  I1.kept (t':=tk) fun b o e=>Heap.get?_push_of_some _ e,turn_range _ lo (hi - lo).toNat,?_,fun b hb=>?_,q⟩
 ·have e1:lo + ((0:Nat):Int) * 1=lo:=by simp
  have e2:(((hi - lo).toNat:Nat):Int) - ((0:Nat):Int)=Builtin.Range.rangeSize lo hi 1:=by rw[rangeSize_one];split<;>omega
  show IsRangeIter _ _ (lo + ((0:Nat):Int) * 1) ((((hi - lo).toNat:Nat):Int) - ((0:Nat):Int)) 1
  rw[e1,e2]
  exact Heap.get?_push_size _ rfl
 ·have e:b=(s.heap.push {cls:=.type "range",data:=.fields #[.int lo t,.int hi u,.int 1 v]}).objs.size:=by simpa using hb
  subst e
  exact I1.fpOk (Nat.le_refl _) (I1.hok.fresh (Nat.le_refl _))
noncomputable def tFor (wi:TI) (g:TG) (tb:TS):TS:=fun D σ H=>wi σ H fun J H1=>∃W:Nat->Nat->St->Hp->Prop,(∃ m,W 0 m σ H1)/\∀i m σ H,W i m σ H->
 (J.stop i H/\D.nx σ H)\/(J.go i H/\∃N:St->Hp->Prop,(∀ σ' H',N σ' H'->∃m',m' < m/\W (i + 1) m' σ' H')/\∀x H',J.yld i H x H'->g x σ H' fun σ2 H2=>tb {D with nx:=N,ct:=N,bk:=D.nx} σ2 H2)
noncomputable def pinsAt (fp:List Addr) (h:Heap):List (Addr × Obj):=fp.filterMap fun b=>(h.get? b).map fun o=>(b,o)
theorem mem_pinsAt {fp:List Addr} {h:Heap} {b:Addr} {o:Obj} (hb:b ∈ fp) (e:h.get? b=some o):(b,o) ∈ pinsAt fp h:=List.mem_filterMap.mpr ⟨b,hb,by rw[e];rfl⟩
theorem of_pinsAt {fp:List Addr} {h:Heap} {p:Addr × Obj} (hp:p ∈ pinsAt fp h):p.1 ∈ fp/\h.get? p.1=some p.2:=by
 obtain⟨b,hb,e⟩:=List.mem_filterMap.mp hp
 cases q:h.get? b with
 | none=>rw[q]at e;cases e
 | some o=>
  rw[q]at e
  have e':(b,o)=p:=Option.some.inj e
  subst e'
  exact⟨hb,q⟩
theorem Inv.pinned {pins:List (Addr × Obj)} {σ:St} {H:Hp} {s:Shared} {fp:List Addr} (I:Inv X pins σ H s) (hf:∀b ∈ fp,FpOk X pins H b) (ho:∀b ∈ fp,∃o,s.heap.get? b=some o/\∀v,o.data ≠ .cell v):Inv X (pins++pinsAt fp s.heap) σ H s:=
 I.pins_of fun p hp=>(List.mem_append.mp hp).elim (fun z=>I.pin p (List.mem_append_right _ z)) fun z=>by
  obtain⟨hb,e⟩:=of_pinsAt z
  obtain⟨f0,f1,f2,_⟩:=hf p.1 hb
  obtain⟨o,e',d⟩:=ho p.1 hb
  rw[e]at e';cases e'
  exact⟨e,f0,f1,f2,d⟩
theorem Inv.unpinned {pins pl:List (Addr × Obj)} {σ:St} {H:Hp} {s:Shared} (I:Inv X (pins++pl) σ H s):Inv X pins σ H s:=I.pins_of fun p hp=>I.pin p (List.mem_append_right _ (List.mem_append_left _ hp))
theorem ps_for {iter:Expr} {body:List Stmt} {wi:TI} {g:TG} {tb:TS} {pos:Pos} (hp:PassesOwn (model X.prog X.w) X.A X.env X.xe) (hc:X.calm=true) (hi:PI X tg iter wi) (hg:PG X tg g) (hb:PSs X body tb)
  (hs:∀x,foldedSetIterable iter X.env x=pure x:=by intro _;rfl):PS X (.For tg iter body [] pos) (tFor wi g tb):=by
 intro pins s σ H D I h
 refine wpAny_For (thn (hi pins s σ H _ I h) fun v s1 h1=>thn h1 fun itv s2 h2=>?_) hs
 obtain⟨it,fp,tn,J,H2,e,I2,T,st2,f2,W,⟨m0,w0⟩,turn⟩:=h2
 subst e
 -- what stays true of the iterator's objects through the loop
 have stat:∀ {H':Hp},(∀ b ∈ fp,H' b=none)->∀b ∈ fp,FpOk X pins H' b:=fun hn b hb=>⟨hn b hb,(f2 b hb).2⟩
 refine codeAny_forLoop_any (fun n s'=>∃i σ' H',Inv X pins σ' H' s'/\tn i s'.heap/\(∀ b ∈ fp,H' b=none)/\W i n σ' H') ?_ m0 ⟨0,σ,H2,I2,st2,fun b hb=>(f2 b hb).1,w0⟩
 rintro n s3 ⟨i,σ3,H3,I3,st3,fr3,w3⟩
 rcases turn i n σ3 H3 w3 with ⟨stop,qn⟩ | ⟨go,N,hN,step⟩
 ·refine wpAny_passesOwn hp (thn (T.done X rfl rfl rfl hc i pins s3 σ3 H3 X.xe I3 (stat fr3) st3 stop) fun r s4 ⟨hr,I4⟩=>?_)
  subst hr
  exact wpAny_execs_nil ⟨σ3,H3,I4,qn⟩
 ·refine wpAny_passesOwn hp (thn (T.item X rfl rfl rfl hc i pins s3 σ3 H3 X.xe I3 (stat fr3) st3 go) fun r s4 ⟨u,hr,h4⟩=>?_)
  subst hr
  refine wpAny_passesOwn hp (thn h4 fun _ s5 ⟨x,H5,I5,r5,y5,st5,fr5⟩=>?_)
  have I5':=I5.pinned (stat fr5) (T.obj _ _ st5)
  refine wpAny_passesOwn hp (thn (hg _ s5 σ3 H5 x u _ I5' r5 (step x H5 y5)) fun _ s6 ⟨σ6,H6,I6,q6⟩=>?_)
  refine wpAny_passesOwn hp (thn (hb _ s6 σ6 H6 _ I6 q6) fun f s7 q7=>?_)
  have again:∀ {σ7:St} {H7:Hp},Inv X (pins++pinsAt fp s5.heap) σ7 H7 s7->N σ7 H7->∃m,m < n/\∃i σ' H',Inv X pins σ' H' s7/\tn i s7.heap/\(∀ b ∈ fp,H' b=none)/\W i m σ' H':=fun{σ7 H7} I7 n7=>by
   obtain⟨m',hm,w7⟩:=hN σ7 H7 n7
   refine⟨m',hm,i + 1,σ7,H7,I7.unpinned,T.keep _ _ _ st5 fun b hb o e=>(I7.pin (b,o) (List.mem_append_right _ (List.mem_append_right _ (mem_pinsAt hb e)))).1,fun b hb=>?_,w7⟩
   obtain⟨o,e,d⟩:=T.obj _ _ st5 b hb
   exact(I7.pin (b,o) (List.mem_append_right _ (List.mem_append_right _ (mem_pinsAt hb e)))).2.1
  cases f with
  | next=>obtain⟨σ7,H7,I7,n7⟩:=q7;exact again I7 n7
  | cont=>obtain⟨σ7,H7,I7,n7⟩:=q7;exact again I7 n7
  | brk=>obtain⟨σ7,H7,I7,q7⟩:=q7;exact⟨σ7,H7,I7.unpinned,q7⟩
  | ret v=>obtain⟨x7,σ7,H7,I7,r7,q7⟩:=q7;exact⟨x7,σ7,H7,I7.unpinned,r7,q7⟩
end
end L2
namespace L2
open PySem PySem.Spec PyProof.Rows
@[reducible] noncomputable def R2:=V->V->Hp->VK->Prop
noncomputable def OpR (X:Cx) (f:Value->Value->Sem Value) (r:R2):Prop:=
 ∀ (pins:List (Addr × Obj)) (s:Shared) (σ:St) (H:Hp) (x y:V) (v u:Value) (Q:VK),Inv X pins σ H s->RelV x v->RelV y u->r x y H Q->
  wpAny (model X.prog X.w) X.A (f v u) (EP X pins σ Q) X.xe s
noncomputable def UnR (X:Cx) (f:Value->Sem Value) (r:V->Hp->VK->Prop):Prop:=
 ∀ (pins:List (Addr × Obj)) (s:Shared) (σ:St) (H:Hp) (x:V) (v:Value) (Q:VK),Inv X pins σ H s->RelV x v->r x H Q->
  wpAny (model X.prog X.w) X.A (f v) (EP X pins σ Q) X.xe s
noncomputable def CallR (X:Cx) (f:Value) (r:List V->Hp->VK->Prop):Prop:=
 ∀ (pins:List (Addr × Obj)) (s:Shared) (σ:St) (H:Hp) (xs:List V) (us:List Value) (Q:VK),Inv X pins σ H s->Vals xs us->r xs H Q->
  wpAny (model X.prog X.w) X.A (call f us) (EP X pins σ Q) X.xe s
noncomputable def TruR (X:Cx) (r:V->Hp->(Bool->Hp->Prop)->Prop):Prop:=
 ∀ (pins:List (Addr × Obj)) (s:Shared) (σ:St) (H:Hp) (x:V) (v:Value) (Q:Bool->Hp->Prop),Inv X pins σ H s->RelV x v->r x H Q->
  wpAny (model X.prog X.w) X.A (truthy v) (TP X pins σ Q) X.xe s
noncomputable def tOp (r:R2) (ta tb:TE):TE:=fun σ H Q=>ta σ H fun x H1=>tb σ H1 fun y H2=>r x y H2 Q
noncomputable def tUn (r:V->Hp->VK->Prop) (ta:TE):TE:=fun σ H Q=>ta σ H fun x H1=>r x H1 Q
noncomputable def rI (C:Int->Int->Prop) (g:Int->Int->V):R2:=fun x y H Q=>∃i j,x=.int i/\y=.int j/\C i j/\Q (g i j) H
noncomputable def rI0 (g:Int->Int->V):R2:=fun x y H Q=>∃i j,x=.int i/\y=.int j/\Q (g i j) H
noncomputable def rU (g:Int->V):V->Hp->VK->Prop:=fun x H Q=>∃i,x=.int i/\Q (g i) H
section
variable {X:Cx} {a b c:Expr} {ta tb tc:TE} {pos:Pos}
theorem binT (ha:PE X a ta) (hb:PE X b tb) {pins:List (Addr × Obj)} {s:Shared} {σ:St} {H:Hp} {R:V->V->Hp->Prop} (I:Inv X pins σ H s)
  (h:ta σ H fun x H1=>tb σ H1 fun y H2=>R x y H2) {Q:Value->Shared->Prop} {f:Value->Value->Sem Value}
  (hf:∀v u s2 x y H2,Inv X pins σ H2 s2->RelV x v->RelV y u->R x y H2->wpAny (model X.prog X.w) X.A (f v u) Q X.xe s2):
  wpAny (model X.prog X.w) X.A (eval a X.env) (fun v s₁=>wpAny (model X.prog X.w) X.A (eval b X.env) (fun u s₂=>wpAny (model X.prog X.w) X.A (f v u) Q X.xe s₂) X.xe s₁) X.xe s:=by
 refine thn (ha pins s σ H _ I h) fun v s1 ⟨x,H1,I1,r1,q1⟩=>?_
 refine thn (hb pins s1 σ H1 _ I1 q1) fun u s2 ⟨y,H2,I2,r2,q2⟩=>?_
 exact hf v u s2 x y H2 I2 r1 r2 q2
theorem pe_op {op:Operator} {r:R2} (ho:OpR X (binaryOp op) r) (ha:PE X a ta) (hb:PE X b tb):PE X (.BinOp a op b pos) (tOp r ta tb):=by
 intro pins s σ H Q I h
 exact wpAny_BinOp (binT ha hb I h fun v u s2 x y H2 I2 rx ry q=>ho pins s2 σ H2 x y v u Q I2 rx ry q)
theorem pe_un {op:UnaryOp} {r:V->Hp->VK->Prop} (ho:UnR X (unaryOp op) r) (ha:PE X a ta):PE X (.UnaryOp op a pos) (tUn r ta):=by
 intro pins s σ H Q I h
 exact UnaryOp_ (thn (ha pins s σ H _ I h) fun v s1 ⟨x,H1,I1,r1,q1⟩=>ho pins s1 σ H1 x v Q I1 r1 q1)
theorem opI {f:Value->Value->Sem Value} {C:Int->Int->Prop} {g:Int->Int->Int}
  (rule:∀ (i j:Int) (t u:Tok) (s:Shared) (Q:Value->Shared->Prop) (E:Value->Shared->Prop),C i j->Q (.int (g i j) s.toks) {s with toks:=s.toks + 1}->wpAny (model X.prog X.w) X.A (f (.int i t) (.int j u)) Q E s):
  OpR X f (rI C fun i j=>.int (g i j)):=by
 intro pins s σ H x y v u Q I rx ry h
 obtain⟨i,j,rfl,rfl,hc,q⟩:=h
 obtain⟨t,rfl⟩:=rx
 obtain⟨t',rfl⟩:=ry
 exact rule i j t t' s _ _ hc ⟨.int (g i j),H,I.tok _,⟨_,rfl⟩,q⟩
theorem opI0 {f:Value->Value->Sem Value} {g:Int->Int->Int}
  (rule:∀ (i j:Int) (t u:Tok) (s:Shared) (Q:Value->Shared->Prop) (E:Value->Shared->Prop),Q (.int (g i j) s.toks) {s with toks:=s.toks + 1}->wpAny (model X.prog X.w) X.A (f (.int i t) (.int j u)) Q E s):
  OpR X f (rI0 fun i j=>.int (g i j)):=by
 intro pins s σ H x y v u Q I rx ry h
 obtain⟨i,j,rfl,rfl,q⟩:=h
 obtain⟨t,rfl⟩:=rx
 obtain⟨t',rfl⟩:=ry
 exact rule i j t t' s _ _ ⟨.int (g i j),H,I.tok _,⟨_,rfl⟩,q⟩
theorem opB0 {f:Value->Value->Sem Value} {g:Int->Int->Bool}
  (rule:∀ (i j:Int) (t u:Tok) (s:Shared) (Q:Value->Shared->Prop) (E:Value->Shared->Prop),Q (.bool (g i j)) s->wpAny (model X.prog X.w) X.A (f (.int i t) (.int j u)) Q E s):
  OpR X f (rI0 fun i j=>.bl (g i j)):=by
 intro pins s σ H x y v u Q I rx ry h
 obtain⟨i,j,rfl,rfl,q⟩:=h
 obtain⟨t,rfl⟩:=rx
 obtain⟨t',rfl⟩:=ry
 exact rule i j t t' s _ _ ⟨.bl (g i j),H,I,rfl,q⟩
noncomputable def CDiv (i j:Int):Prop:=0 < j/\j < 1073741824
noncomputable def CPow (i j:Int):Prop:=0<=j/\j<=1000000/\i.natAbs < 2 ^ 64
noncomputable def CMul (i j:Int):Prop:=(-(2 ^ 64) < i/\i < 2 ^ 64)\/(-(2 ^ 64) < j/\j < 2 ^ 64)
theorem CMul.ok {i j:Int} (h:CMul i j):IntMulOk i j:=by
 rcases h with ⟨h1,h2⟩ | ⟨h1,h2⟩
 ·exact .of_left (intBits_le_64 h1 h2)
 ·exact .of_right (intBits_le_64 h1 h2)
theorem op_add:OpR X (binaryOp .Add) (rI0 fun i j=>.int (i + j)):=opI0 fun _ _ _ _ _ _ _ q=>add_int q
theorem op_sub:OpR X (binaryOp .Sub) (rI0 fun i j=>.int (i - j)):=opI0 fun _ _ _ _ _ _ _ q=>sub_int q
theorem op_mul:OpR X (binaryOp .Mult) (rI CMul fun i j=>.int (i * j)):=opI fun _ _ _ _ _ _ _ hc q=>mul_int q hc.ok
theorem op_fdiv:OpR X (binaryOp .FloorDiv) (rI CDiv fun i j=>.int (i / j)):=opI fun i j _ _ _ _ _ hc q=>by
 have h1:(0:Int) < j:=hc.1
 have h2:j < 1073741824:=hc.2
 exact floordiv_int (by omega) (by rw[Int.fdiv_eq_ediv_of_nonneg i (by omega)];exact q) (.inl (PyProof.noPylong_small (by omega)))
theorem op_mod:OpR X (binaryOp .Mod) (rI (fun _ j=>0 < j) fun i j=>.int (i % j)):=opI fun i j _ _ _ _ _ hc q=>by
 have h1:(0:Int) < j:=hc
 exact mod_int' (by omega) (by rw[Int.fmod_eq_emod_of_nonneg i (by omega)];exact q)
theorem op_pow:OpR X (binaryOp .Pow) (rI CPow fun i j=>.int (i ^ j.toNat)):=opI fun _ _ _ _ _ _ _ hc q=>pow_int_small hc.1 hc.2.1 hc.2.2 q
theorem unI {f:Value->Sem Value} {g:Int->Int}
  (rule:∀ (i:Int) (t:Tok) (s:Shared) (Q:Value->Shared->Prop) (E:Value->Shared->Prop),Q (.int (g i) s.toks) {s with toks:=s.toks + 1}->wpAny (model X.prog X.w) X.A (f (.int i t)) Q E s):
  UnR X f (rU fun i=>.int (g i)):=by
 intro pins s σ H x v Q I rx h
 obtain⟨i,rfl,q⟩:=h
 obtain⟨t,rfl⟩:=rx
 exact rule i t s _ _ ⟨.int (g i),H,I.tok _,⟨_,rfl⟩,q⟩
theorem un_neg:UnR X (unaryOp .USub) (rU fun i=>.int (-i)):=unI fun _ _ _ _ _ q=>neg_int q
end
noncomputable def scal:V->V->Bool
 | .non,.non=>true | .non,.int _=>true | .int _,.non=>true | .non,.bl _=>true | .bl _,.non=>true | .non,.str _=>true | .str _,.non=>true
 | .int _,.int _=>true | .bl _,.bl _=>true | .str _,.str _=>true | .byt _,.byt _=>true
 | .int _,.str _=>true | .str _,.int _=>true | .bl _,.str _=>true | .str _,.bl _=>true
 | _,_=>false
noncomputable def rEq:R2:=fun x y H Q=>scal x y=true/\Q (.bl (decide (x=y))) H
noncomputable def rNe:R2:=fun x y H Q=>scal x y=true/\Q (.bl (!decide (x=y))) H
theorem dec_int {i j:Int}:decide (V.int i=V.int j)=(i == j):=by
 rw[Bool.eq_iff_iff]
 simp
theorem dec_bl {i j:Bool}:decide (V.bl i=V.bl j)=(i == j):=by
 rw[Bool.eq_iff_iff]
 simp
theorem dec_str {i j:Str}:decide (V.str i=V.str j)=(i == j):=by
 rw[Bool.eq_iff_iff]
 simp
theorem dec_byt {i j:Array UInt8}:decide (V.byt i=V.byt j)=(i.toList == j.toList):=by
 rw[Bool.eq_iff_iff]
 cases i
 cases j
 simp
section
variable {X:Cx} {a b c:Expr} {ta tb tc:TE} {pos:Pos}
theorem fin_bl {pins:List (Addr × Obj)} {σ:St} {H:Hp} {s:Shared} {Q:VK} {k k':Bool} (I:Inv X pins σ H s) (q:Q (.bl k) H) (e:k=k'):EP X pins σ Q (.bool k') s:=by
 subst e
 exact⟨.bl k,H,I,rfl,q⟩
theorem op_eq:OpR X (compareOp .Eq) rEq:=by
 intro pins s σ H x y v u Q I rx ry h
 obtain⟨hs,q⟩:=h
 cases x with
 | non=>
  cases rx
  cases y with
  | non=>cases ry;exact PySem.EqNone.eq_none_none (fin_bl I q (by simp))
  | bl j=>cases ry;exact PySem.EqNone.eq_none_bool (fin_bl I q (by simp))
  | int j=>obtain⟨t',rfl⟩:=ry;exact PySem.EqNone.eq_none_int (fin_bl I q (by simp))
  | str j=>obtain⟨t',rfl⟩:=ry;exact PySem.EqNone.eq_none_str (fin_bl I q (by simp))
  | _=>exact absurd (show false=true from hs) Bool.false_ne_true
 | bl i=>
  cases rx
  cases y with
  | non=>cases ry;exact PySem.EqNone.eq_bool_none (fin_bl I q (by simp))
  | bl j=>cases ry;exact eq_bool (fin_bl I q dec_bl)
  | str j=>obtain⟨t',rfl⟩:=ry;exact PySem.EqMixed.eq_bool_str (fin_bl I q (by simp))
  | _=>exact absurd (show false=true from hs) Bool.false_ne_true
 | int i=>
  obtain⟨t,rfl⟩:=rx
  cases y with
  | non=>cases ry;exact PySem.EqNone.eq_int_none (fin_bl I q (by simp))
  | int j=>obtain⟨t',rfl⟩:=ry;exact eq_int (fin_bl I q dec_int)
  | str j=>obtain⟨t',rfl⟩:=ry;exact PySem.EqMixed.eq_int_str (fin_bl I q (by simp))
  | _=>exact absurd (show false=true from hs) Bool.false_ne_true
 | str i=>
  obtain⟨t,rfl⟩:=rx
  cases y with
  | non=>cases ry;exact PySem.EqNone.eq_str_none (fin_bl I q (by simp))
  | bl j=>cases ry;exact PySem.EqMixed.eq_str_bool (fin_bl I q (by simp))
  | int j=>obtain⟨t',rfl⟩:=ry;exact PySem.EqMixed.eq_str_int (fin_bl I q (by simp))
  | str j=>obtain⟨t',rfl⟩:=ry;exact eq_str (fin_bl I q dec_str)
  | _=>exact absurd (show false=true from hs) Bool.false_ne_true
 | byt i=>
  obtain⟨t,rfl⟩:=rx
  cases y with
  | byt j=>obtain⟨t',rfl⟩:=ry;exact PySem.W.eq_bytes (fin_bl I q dec_byt)
  | _=>exact absurd (show false=true from hs) Bool.false_ne_true
 | _=>cases y<;>exact absurd (show false=true from hs) Bool.false_ne_true
theorem op_ne:OpR X (compareOp .NotEq) rNe:=by
 intro pins s σ H x y v u Q I rx ry h
 obtain⟨hs,q⟩:=h
 cases x with
 | non=>
  cases rx
  cases y with
  | non=>cases ry;exact PySem.EqNone.ne_none_none (fin_bl I q (by simp))
  | bl j=>cases ry;exact PySem.EqNone.ne_none_bool (fin_bl I q (by simp))
  | int j=>obtain⟨t',rfl⟩:=ry;exact PySem.EqNone.ne_none_int (fin_bl I q (by simp))
  | str j=>obtain⟨t',rfl⟩:=ry;exact PySem.EqNone.ne_none_str (fin_bl I q (by simp))
  | _=>exact absurd (show false=true from hs) Bool.false_ne_true
 | bl i=>
  cases rx
  cases y with
  | non=>cases ry;exact PySem.EqNone.ne_bool_none (fin_bl I q (by simp))
  | bl j=>cases ry;exact ne_bool (fin_bl I q (congrArg not dec_bl))
  | str j=>obtain⟨t',rfl⟩:=ry;exact PySem.EqMixed.ne_bool_str (fin_bl I q (by simp))
  | _=>exact absurd (show false=true from hs) Bool.false_ne_true
 | int i=>
  obtain⟨t,rfl⟩:=rx
  cases y with
  | non=>cases ry;exact PySem.EqNone.ne_int_none (fin_bl I q (by simp))
  | int j=>obtain⟨t',rfl⟩:=ry;exact ne_int (fin_bl I q (congrArg not dec_int))
  | str j=>obtain⟨t',rfl⟩:=ry;exact PySem.EqMixed.ne_int_str (fin_bl I q (by simp))
  | _=>exact absurd (show false=true from hs) Bool.false_ne_true
 | str i=>
  obtain⟨t,rfl⟩:=rx
  cases y with
  | non=>cases ry;exact PySem.EqNone.ne_str_none (fin_bl I q (by simp))
  | bl j=>cases ry;exact PySem.EqMixed.ne_str_bool (fin_bl I q (by simp))
  | int j=>obtain⟨t',rfl⟩:=ry;exact PySem.EqMixed.ne_str_int (fin_bl I q (by simp))
  | str j=>obtain⟨t',rfl⟩:=ry;exact ne_str (fin_bl I q (congrArg not dec_str))
  | _=>exact absurd (show false=true from hs) Bool.false_ne_true
 | byt i=>
  obtain⟨t,rfl⟩:=rx
  cases y with
  | byt j=>obtain⟨t',rfl⟩:=ry;exact PySem.W.ne_bytes (fin_bl I q (congrArg not dec_byt))
  | _=>exact absurd (show false=true from hs) Bool.false_ne_true
 | _=>cases y<;>exact absurd (show false=true from hs) Bool.false_ne_true
theorem op_lt:OpR X (compareOp .Lt) (rI0 fun i j=>.bl (decide (i < j))):=opB0 fun _ _ _ _ _ _ _ q=>lt_int q
theorem op_gt:OpR X (compareOp .Gt) (rI0 fun i j=>.bl (decide (j < i))):=opB0 fun _ _ _ _ _ _ _ q=>gt_int q
theorem op_ge:OpR X (compareOp .GtE) (rI0 fun i j=>.bl (decide (j<=i))):=opB0 fun _ _ _ _ _ _ _ q=>ge_int q
theorem op_lt_str:OpR X (compareOp .Lt) (fun x y H Q=>∃i j,x=.str i/\y=.str j/\Q (.bl (decide (i.cps.toList < j.cps.toList))) H):=by
 intro pins s σ H x y v u Q I rx ry h
 obtain⟨i,j,rfl,rfl,q⟩:=h
 obtain⟨t,rfl⟩:=rx
 obtain⟨t',rfl⟩:=ry
 exact lt_str (fin_bl I q rfl)
theorem op_in_str:OpR X (compareOp .In) (fun x y H Q=>∃i j,x=.str i/\y=.str j/\Q (.bl (!(Builtin.Str.occurrences j i 0 j.length 1).isEmpty)) H):=by
 intro pins s σ H x y v u Q I rx ry h
 obtain⟨i,j,rfl,rfl,q⟩:=h
 obtain⟨t,rfl⟩:=rx
 obtain⟨t',rfl⟩:=ry
 exact in_str (fin_bl I q rfl)
theorem op_notin_str:OpR X (compareOp .NotIn) (fun x y H Q=>∃i j,x=.str i/\y=.str j/\Q (.bl (!(!(Builtin.Str.occurrences j i 0 j.length 1).isEmpty))) H):=by
 intro pins s σ H x y v u Q I rx ry h
 obtain⟨i,j,rfl,rfl,q⟩:=h
 obtain⟨t,rfl⟩:=rx
 obtain⟨t',rfl⟩:=ry
 exact notIn_str (fin_bl I q rfl)
theorem pe_cmpR {op:CmpOp} {r:R2} (ho:OpR X (compareOp op) r) (ha:PE X a ta) (hb:PE X b tb) (hm:behindInMarks op b=false):PE X (.Compare a [op] [b] pos) (tOp r ta tb):=by
 intro pins s σ H Q I h
 exact wpAny_Compare1 (binT ha hb I h fun v u s2 x y H2 I2 rx ry q=>ho pins s2 σ H2 x y v u Q I2 rx ry q) hm
noncomputable def tTest (t:TE):TT:=fun σ H Q=>t σ H fun x H'=>∃k,x=.bl k/\Q k H'
theorem pt_cmpR {op:CmpOp} {r:R2} (ho:OpR X (compareOp op) r) (ha:PE X a ta) (hb:PE X b tb) (hm:behindInMarks op b=false):PT X (.Compare a [op] [b] pos) (tTest (tOp r ta tb)):=by
 intro pins s σ H Q I h
 refine wpAny_isTrue_Compare1 (thn (ha pins s σ H _ I h) fun v s1 ⟨x,H1,I1,r1,q1⟩=>thn (hb pins s1 σ H1 _ I1 q1) fun u s2 ⟨y,H2,I2,r2,q2⟩=>
  thn (ho pins s2 σ H2 x y v u _ I2 r1 r2 q2) fun c s3 ⟨z,H3,I3,r3,k,e,q3⟩=>?_) hm
 subst e
 cases r3
 exact wpAny_truthy_bool ⟨H3,I3,q3⟩
noncomputable def TruV (K:PySem.W.Frag) (x:V) (H:Hp) (k:Bool):Prop:=
 match x with
 | .non=>k=false
 | .bl b=>k=b
 | .int i=>k=(i != 0)
 | .str y=>y.length<=sizeLine/\k=((y.length:Int) != 0)
 | .byt y=>y.size<=sizeLine/\k=((y.size:Int) != 0)
 | .ref p=>(∃ xs,SqL K H p xs/\k=!xs.isEmpty)\/(∃ xs,SqT K H p xs/\k=!xs.isEmpty)\/∃kvs,H p=some (.dK kvs)/\k=!kvs.isEmpty
 | _=>False
theorem isEmpty_kv {κ:Type} {kvs:List (κ × V)} {vs:List (κ × Value)} (r:KV kvs vs):(!vs.isEmpty)=!kvs.isEmpty:=by
 cases r<;>rfl
theorem isEmpty_of {xs:List V} {its:List Value} (r:Vals xs its):(!its.toArray.isEmpty)=!xs.isEmpty:=by
 cases r<;>simp
theorem line63:(sizeLine:Nat) < 2 ^ 63:=by rw[sizeLine_eq];decide
theorem tru_ok:TruR X (fun x H Q=>∃k,TruV X.K x H k/\Q k H):=by
 intro pins s σ H x v Q I rx h
 obtain⟨k,e,q⟩:=h
 have hl:=line63
 have hs:sizeLine=16777216:=sizeLine_eq
 cases x with
 | non=>
  cases rx
  have e':k=false:=e
  subst e'
  exact truthy_none ⟨H,I,q⟩
 | bl b=>
  cases rx
  have e':k=b:=e
  subst e'
  exact wpAny_truthy_bool ⟨H,I,q⟩
 | int i=>
  obtain⟨t,rfl⟩:=rx
  have e':k=(i != 0):=e
  subst e'
  exact PySem.P.truthy_int ⟨H,I,q⟩
 | str y=>
  obtain⟨t,rfl⟩:=rx
  obtain⟨hy,e'⟩:y.length<=sizeLine/\k=((y.length:Int) != 0):=e
  subst e'
  exact PySem.P.truthy_str (by omega) ⟨H,I.tok _,q⟩
 | byt y=>
  obtain⟨t,rfl⟩:=rx
  obtain⟨hy,e'⟩:y.size<=sizeLine/\k=((y.size:Int) != 0):=e
  subst e'
  exact PySem.W.truthy_bytes (by omega) ⟨H,I.tok _,q⟩
 | ref p=>
  cases rx
  have e':(∃ xs,SqL X.K H p xs/\k=!xs.isEmpty)\/(∃ xs,SqT X.K H p xs/\k=!xs.isEmpty)\/∃kvs,H p=some (.dK kvs)/\k=!kvs.isEmpty:=e
  rcases e' with ⟨xs,hx,e'⟩ | ⟨xs,hx,e'⟩ | ⟨kvs,hx,e'⟩
  ·subst e'
   obtain⟨its,r,pl,hz⟩:=I.list hx
   have hlen:=r.length
   exact wpAny_truthy_list pl.isList (by simp only[List.size_toArray];omega) ⟨H,I.tok _,by rw[isEmpty_of r];exact q⟩
  ·subst e'
   obtain⟨its,r,pl,hz⟩:=I.tuple hx
   have hlen:=r.length
   exact truthy_tuple pl (by simp only[List.size_toArray];omega) ⟨H,I.tok _,by rw[isEmpty_of r];exact q⟩
  ·subst e'
   obtain⟨hz,hS,vs,r,m⟩:kvs.length<=sizeLine/\(p == sysModules)=false/\∃vs,KV kvs vs/\s.heap.DictOf (mixKind X.prog X.w) p vs:=I.hok p _ hx
   have hlen:kvs.length=vs.length:=Paired.length r
   exact wpAny_truthy_dict hS m (by omega) ⟨H,I.tok _,by rw[isEmpty_kv r];exact q⟩
 | _=>exact(show False from e).elim
theorem op_add_str:OpR X (binaryOp .Add) (fun x y H Q=>∃i j,x=.str i/\y=.str j/\i.length + j.length<=sizeLine/\Q (.str (i++j)) H):=by
 intro pins s σ H x y v u Q I rx ry h
 obtain⟨i,j,rfl,rfl,hz,q⟩:=h
 obtain⟨t,rfl⟩:=rx
 obtain⟨t',rfl⟩:=ry
 exact add_str (fun t' tk=>⟨.str (i++j),H,I.tok _,⟨_,rfl⟩,q⟩) hz
theorem vals1 {x:V} {us:List Value} (r:Vals [x] us):∃u,us=[u]/\RelV x u:=by
 cases r with
 | cons r1 r2=>cases r2;exact⟨_,rfl,r1⟩
theorem vals2 {x y:V} {us:List Value} (r:Vals [x,y] us):∃u w',us=[u,w']/\RelV x u/\RelV y w':=by
 cases r with
 | cons r1 r2=>
  cases r2 with
  | cons r3 r4=>cases r4;exact⟨_,_,rfl,r1,r3⟩
end
end L2
namespace L2
open PySem PySem.Spec PyProof.Rows
structure ObjM (h:Heap) (x dx C:Addr) (mA:Str->Option Value):Prop where
 obj:h.get? x=some (PySem.W.instObj C dx)
 ns:h.Ns1 dx mA
 ne:dx ≠ x
theorem lookIn_ns {h:Heap} {dx:Addr} {mA:Str->Option Value} (n:h.Ns1 dx mA):∃od,h.get? dx=some od/\∀name,PySem.W.lookIn name od=some (mA name):=by
 obtain⟨o,es,ep,ho,hd,hk,_,hm⟩:=n
 refine⟨o,ho,fun name=>?_⟩
 have e:=hm name
 unfold nsFind findBy at e
 rw[<-Array.find?_toList]at e
 unfold PySem.W.lookIn
 rw[hd]
 dsimp only
 split
 ·rename_i y q
  rw[q]at e
  exact congrArg some e
 ·rename_i q
  rw[q]at e
  have a:es.toList.any (·.refKey)=false:=by
   rw[List.any_eq_false]
   intro y hy
   obtain⟨z,t,hkey⟩:=hk y (Array.mem_toList_iff.mp hy)
   simp[DictEntry.refKey,hkey]
  have a':¬es.toList.any (·.refKey)=true:=by rw[a];exact Bool.false_ne_true
  rw[if_neg a']
  exact congrArg some e
theorem ObjM.look {h:Heap} {x dx C:Addr} {mA:Str->Option Value} (I:ObjM h x dx C mA):∃od,PySem.W.InstAt h x (PySem.W.instObj C dx) C (some od)/\∀name,PySem.W.lookIn name od=some (mA name):=
 let ⟨od,ho,hl⟩:=lookIn_ns I.ns
 ⟨od,⟨I.obj,rfl,rfl,ho⟩,hl⟩
section
variable {prog:Program} {w:World} {A:Around} {E:Value->Shared->Prop} {s:Shared} {K:PySem.W.Frag} {x dx C f:Addr} {mA:Str->Option Value} {name:Str} {v:Value}
end
theorem RelO.some_of {v:V} {o:Option Value} (r:RelO (some v) o):∃u,o=some u/\RelV v u:=by
 cases o with
 | none=>exact(show False from r).elim
 | some u=>exact⟨u,rfl,r⟩
theorem RelO.none_of {o:Option Value} (r:RelO none o):o=none:=by
 cases o with
 | none=>rfl
 | some u=>exact(show False from r).elim
section
variable {P:Program} {w:World} {H H':Hp} {h h':Heap} {a C dx:Addr} {fs fs':List (Str × V)}
theorem ins_get (hok:HOk P w H h) (e:H a=some (.ins C dx fs)):∃mA,ObjM h a dx C mA/\(∀ f,RelO (fs.lookup f) (mA f))/\PySem.Within mA (fs.map (·.1))/\fs.length<=1000/\H dx=some (.own a):=by
 obtain⟨d,z,ne,ob,mA,n,r,q⟩:=(show ObjOk P w H h a (.ins C dx fs)from hok a _ e)
 exact⟨mA,⟨ob,n,ne⟩,r,q,z,d⟩
end
structure Cls (K:PySem.W.Frag) (C:Addr):Prop where
 pg:PySem.W.plainGet K C Str.empty=true
 hd:PySem.W.hasDictIn K C=true
 po:PySem.W.plainOver K C=true
 sa:PySem.W.findIn K (.ref C) "__setattr__" =some (some (.builtin "object.__setattr__"))
theorem Cls.get {K:PySem.W.Frag} {C:Addr} (c:Cls K C) (f:Str):PySem.W.plainGet K C f=true:=c.pg
noncomputable def NoAttr (K:PySem.W.Frag) (C:Addr) (f:Str):Prop:=PySem.W.findIn K (.ref C) f=some none
section
variable {X:Cx} {pins:List (Addr × Obj)} {σ:St} {H:Hp} {s:Shared} {a C dx:Addr} {fs:List (Str × V)} {f:Str} {v:V} {A:Around} {E:Value->Shared->Prop}
end
section
variable {X:Cx} {o e value:Expr} {f:Str} {pos pos' tpos:Pos} {ta tv:TE}
end
section
variable {X:Cx} {pins:List (Addr × Obj)} {σ:St} {H:Hp} {s:Shared} {A:Around} {E:Value->Shared->Prop} {Q:Value->Shared->Prop} {c:Value} {b:Bool}
inductive TyOf (K:PySem.W.Frag) (H:Hp):V->Value->Prop where
 | non:TyOf K H .non (.type "NoneType")
 | bl (x:Bool):TyOf K H (.bl x) (.type "bool")
 | int (i:Int):TyOf K H (.int i) (.type "int")
 | str (x:Str):TyOf K H (.str x) (.type "str")
 | flt (x:UInt64):TyOf K H (.flt x) (.type "float")
 | lst {a:Addr} {xs:List V} (e:H a=some (.lst xs)):TyOf K H (.ref a) (.type "list")
 | frz {a:Addr} {o:Obj} {xs:List V} (e:H a=some (.frz o (.lst xs))):TyOf K H (.ref a) (.type "list")
 | tup {a:Addr} {xs:List V} (e:H a=some (.tup xs)):TyOf K H (.ref a) (.type "tuple")
 | dK {a:Addr} {kvs:List (Key × V)} (e:H a=some (.dK kvs)):TyOf K H (.ref a) (.type "dict")
 | dT {a:Addr} {kvs:List (List Key × V)} (e:H a=some (.dT kvs)):TyOf K H (.ref a) (.type "dict")
 | ins {a C dx:Addr} {fs:List (Str × V)} (e:H a=some (.ins C dx fs)) (cl:Cls K C) (ha:PySem.W.findIn K (.ref C) "__class__" =some (some (.builtin "object.__class__")))
   (hn:PySem.W.specialIn K (.builtin "object.__class__") "__get__" =some (some (.builtin "getset_descriptor.__get__"))) (htk:PySem.W.takesIn K (.builtin "object.__class__")=some true)
   (hm:PySem.W.mroIn K C (.type "object")=some true):TyOf K H (.ref a) (.ref C)
theorem isinst_ok {x:V} {u t:Value} (I:Inv X pins σ H s) (rx:RelV x u) (ty:TyOf X.K H x t) (e:PySem.W.kitOne X.K t c=some b) (h:∀tk,Q (.bool b) {s with toks:=tk}):
  wpAny (model X.prog X.w) A (call (.builtin "isinstance") [u,c]) Q E s:=by
 cases ty with
 | non=>cases (show u=Value.none from rx);exact PySem.W.kia_one PySem.W.kitx_none I.kIn True.intro e (fun z=>nomatch z) h
 | bl y=>cases (show u=Value.bool y from rx);exact PySem.W.kia_one PySem.W.kitx_bool I.kIn True.intro e (fun z=>nomatch z) h
 | int i=>obtain⟨t,q⟩:=(show ∃t,u=Value.int i t from rx);cases q;exact PySem.W.kia_one PySem.W.kitx_int I.kIn True.intro e (fun z=>nomatch z) h
 | str y=>obtain⟨t,q⟩:=(show ∃t,u=Value.str y t from rx);cases q;exact PySem.W.kia_one PySem.W.kitx_str I.kIn True.intro e (fun z=>nomatch z) h
 | flt y=>obtain⟨t,q⟩:=(show ∃t,u=Value.float y t from rx);cases q;exact PySem.W.kia_one PySem.W.kitx_float I.kIn True.intro e (fun z=>nomatch z) h
 | @lst a xs ea=>
  cases (show u=Value.ref a from rx)
  obtain⟨_,_,n,_,h1⟩:=(show ObjOk X.prog X.w H s.heap a (.lst xs)from I.hok a _ ea)
  exact PySem.W.kia_one PySem.W.kitx_list I.kIn ⟨_,h1,rfl⟩ e (fun z=>nomatch z) h
 | @frz a ob xs ea=>
  cases (show u=Value.ref a from rx)
  obtain⟨_,_,_,n,_,h1⟩:=(show ObjOk X.prog X.w H s.heap a (.frz ob (.lst xs))from I.hok a _ ea)
  exact PySem.W.kia_one PySem.W.kitx_list I.kIn ⟨_,h1,rfl⟩ e (fun z=>nomatch z) h
 | @tup a xs ea=>
  cases (show u=Value.ref a from rx)
  obtain⟨_,_,_,p⟩:=(show ObjOk X.prog X.w H s.heap a (.tup xs)from I.hok a _ ea)
  obtain⟨o,h1,h2,_⟩:=p
  exact PySem.W.kia_one PySem.W.kitx_tuple I.kIn ⟨o,h1,h2⟩ e (fun z=>nomatch z) h
 | @dK a kvs ea=>
  cases (show u=Value.ref a from rx)
  obtain⟨_,_,vs,_,p⟩:=(show ObjOk X.prog X.w H s.heap a (.dK kvs)from I.hok a _ ea)
  obtain⟨o,es,ep,h1,h2,_⟩:=p
  exact PySem.W.kia_one PySem.W.kitx_dict I.kIn ⟨o,h1,h2.1⟩ e (fun z=>nomatch z) h
 | @dT a kvs ea=>
  cases (show u=Value.ref a from rx)
  obtain⟨_,_,xs,_,o,es,ep,h1,h2,_⟩:=(show ObjOk X.prog X.w H s.heap a (.dT kvs)from I.hok a _ ea)
  exact PySem.W.kia_one PySem.W.kitx_dict I.kIn ⟨o,h1,h2.1⟩ e (fun z=>nomatch z) h
 | @ins a C dx fs ea cl ha hn htk hm=>
  cases (show u=Value.ref a from rx)
  obtain⟨mA,O,_⟩:=ins_get I.hok ea
  obtain⟨od,J,_⟩:=O.look
  exact PySem.W.kia_one (PySem.W.kitx_own (cl.get _) cl.hd ha hn htk hm) I.kIn J e (fun z=>nomatch z) h
end
end L2
namespace L2
open PySem PySem.Spec PyProof.Rows
structure Room (k:Nat) (A:Around):Prop where
 hd:A.handled=none
 dp:A.depth + 3 * k + 5 < recursionLimit
 un:A.units + 16 * k + 200 < cLine
theorem Room.mono {j k:Nat} {A:Around} (r:Room k A) (h:j<=k):Room j A:=⟨r.hd,by have:=r.dp;omega,by have:=r.un;omega⟩
theorem Room.deeper {k:Nat} {A:Around} (r:Room (k + 1) A) (env:Env):Room k (A.deeper env):=
 ⟨r.hd,by have:=r.dp;show A.depth + 1 + 3 * k + 5 < _;omega,by have:=r.un;show A.units + 3 + 16 * k + 200 < _;omega⟩
theorem Room.depth {k:Nat} {A:Around} (r:Room k A):A.depth < recursionLimit:=by have:=r.dp;omega
theorem Room.units {k:Nat} {A:Around} (r:Room k A):A.units + 64 < cLine:=by have:=r.un;omega
noncomputable def tNil:TA:=fun _ H Q=>Q [] H
noncomputable def tCons (ta:TE) (tr:TA):TA:=fun σ H Q=>ta σ H fun x H1=>tr σ H1 fun xs H2=>Q (x::xs) H2
section
variable {X:Cx} {e:Expr} {es:List Expr} {te:TE} {t:TA} {pos:Pos}
theorem pa_nil:PA X [] tNil:=fun _ _ _ _ H Q I h=>Calls.spliced_nil ⟨[],H,I,.nil,h⟩
theorem pa_cons (ha:PE X e te) (hr:PA X es t) (hs:starEach (e::es) X.env=(false,eval e X.env)::starEach es X.env:=by rfl):PA X (e::es) (tCons te t):=by
 intro pos pins s σ H Q I h
 rw[hs]
 show wpAny _ _ (spliced ((false,eval e X.env)::backTo pos (starEach es X.env))) _ _ s
 refine Calls.spliced_cons (thn (ha pins s σ H _ I h) fun u s1 ⟨x,H1,I1,r1,q1⟩=>?_)
 exact thn (hr pos pins s1 σ H1 _ I1 q1) fun us s2 ⟨xs,H2,I2,r2,q2⟩=>⟨x::xs,H2,I2,.cons r1 r2,q2⟩
end
@[reducible] noncomputable def Sp:=List V->Hp->VK->XK->Prop
@[reducible] noncomputable def CXT:=List Env->Hp->Shared->XK->Value->Shared->Prop
structure Env0 (P:Program) (w:World) (K:PySem.W.Frag) (mg:Str->Option Value) (base:Heap) (A:Around) (outer:List Env) (s:Shared) (H:Hp):Prop where
 frames:A.frames=some outer
 mod:Mod K mg base
 bs:∀b o,base.get? b=some o->s.heap.get? b=some o/\H b=none
 bsz:base.objs.size<=s.heap.objs.size
 funs:s.heap.FunFrames base outer
 frf:∀b ∈ frs outer,H b=none
 hok:HOk P w H s.heap
 bare:AllBare s.gens
noncomputable def CE (outer:List Env) (P:Program) (w:World) (H:Hp) (s:Shared) (Q:VK) (u:Value) (s':Shared):Prop:=
 ∃v H',s'.os=s.os/\AllBare s'.gens/\Un (frs outer) [] H H' s.heap s'.heap/\HOk P w H' s'.heap/\RelV v u/\Q v H'
noncomputable def CR (CX:CXT) (outer:List Env) (P:Program) (w:World) (H:Hp) (s:Shared) (Q:VK) (E:XK) (r:Result) (s':Shared):Prop:=
 match r with
 | .ok (.ret u)=>CE outer P w H s Q u s'
 | .ok _=>False
 | .error e=>CX outer H s E e s'
structure FnOk (P:Program) (w:World) (K:PySem.W.Frag) (mg:Str->Option Value) (base:Heap) (CX:CXT) (k:Nat) (f:Addr) (fd:FuncData) (ps:List Str) (sp:Sp):Prop where
 len:∀vs H Q E,sp vs H Q E->vs.length=ps.length
 run:∀ (A:Around) (outer:List Env) (s:Shared) (H:Hp) (args:Args) (us:List Value) (vs:List V) (Q:VK) (E:XK),Room k A->Env0 P w K mg base A outer s H->BindsTo s fd args (ps.zip us)->Vals vs us->sp vs H Q E->
  codeAny (model P w) A (.call (.ref f) args) (CR CX outer P w H s Q E) s
theorem FnOk.mono {P:Program} {w:World} {K:PySem.W.Frag} {mg:Str->Option Value} {base:Heap} {CX:CXT} {j k:Nat} {f:Addr} {fd:FuncData} {ps:List Str} {sp:Sp} (F:FnOk P w K mg base CX j f fd ps sp) (h:j<=k):
  FnOk P w K mg base CX k f fd ps sp:=⟨F.len,fun A outer s H args us vs Q E hr=>F.run A outer s H args us vs Q E (hr.mono h)⟩
theorem FnOk.imp {P:Program} {w:World} {K:PySem.W.Frag} {mg:Str->Option Value} {base:Heap} {CX:CXT} {k:Nat} {f:Addr} {fd:FuncData} {ps:List Str} {sp sp':Sp} (F:FnOk P w K mg base CX k f fd ps sp)
  (h:∀vs H Q E,sp' vs H Q E->sp vs H Q E):FnOk P w K mg base CX k f fd ps sp':=
 ⟨fun vs H Q E q=>F.len vs H Q E (h _ _ _ _ q),fun A outer s H args us vs Q E hr he hb hv hs=>F.run A outer s H args us vs Q E hr he hb hv (h _ _ _ _ hs)⟩
section
variable {X:Cx} {pins:List (Addr × Obj)} {σ:St} {H:Hp} {s s':Shared}
theorem Inv.env0 (I:Inv X pins σ H s):Env0 X.prog X.w X.K X.mg X.base X.A X.stack s H:=
 ⟨I.ok.frames,I.ok.mod,I.bs,Nat.le_trans I.ok.bsz I.sz,I.stack,I.stkFree,I.hok,I.bare⟩
theorem Inv.after {Q:VK} {u:Value} (I:Inv X pins σ H s) (h:CE X.stack X.prog X.w H s Q u s'):EP X pins σ Q u s':=by
 obtain⟨v,H',os,bare,un,hok,r,q⟩:=h
 obtain⟨hh,g,d,t,os'⟩:=s'
 obtain rfl:os'=s.os:=os
 exact⟨v,H',I.call (h':=hh) (g':=g) (d':=d) (t':=t) (ch:=[]) un hok bare (fun b z=>absurd z (by simp)),r,q⟩
end
noncomputable def Binds (K:PySem.W.Frag) (fd:FuncData) (ps:List Str) (ds:List Value):Prop:=
 ∀ (s:Shared) (us:List Value),K.In s.heap->(us++ds).length=ps.length->BindsTo s fd ⟨us,[]⟩ (ps.zip (us++ds))
theorem Binds.all {K:PySem.W.Frag} {fd:FuncData} {ps:List Str} (h:∀us:List Value,us.length=ps.length->bindArgs fd ⟨us,[]⟩=pure (ps.zip us)):Binds K fd ps []:=fun s us _ hl=>by
 rw[List.append_nil]at hl ⊢
 exact .of_eq (h us hl)
section
variable {X:Cx} {CX:CXT} {k:Nat} {f C:Addr} {fd:FuncData} {ps:List Str} {sp:Sp} {dvs:List V} {ds:List Value} {E:XK} {x m:Str} {p pos apos:Pos} {e o:Expr} {es:List Expr} {ta:TE} {t:TA}
end
section
variable {X:Cx} {CX:CXT} {k:Nat} {f C:Addr} {fd:FuncData} {ps ks:List Str} {sp:Sp} {E:XK} {x m:Str} {p pos apos kpos:Pos} {e o:Expr} {es:List Expr} {kws:List Keyword} {te ta:TE} {t tk:TA} {nm:Option Str}
variable {g:List Value->List Value->List Value} {gV:List V->List V->List V}
end
structure FnScope (N P:List Str) (sc:Scope):Prop where
 kind:sc.kind=.function
 co:sc.isCoroutine=false
 gen:sc.isGenerator=false
 nd:N.Nodup
 pre:N.take P.length=P
 par:∀x ∈ P,sc.names.lookup x=some .local\/sc.names.lookup x=some .cell
 nofree:∀y ∈ sc.names,y.2 ≠ .free
theorem bindL_out {kindOf:Str->Option NameKind} {x:Str}:∀ {binds:List (Str × Value)} {m:Str->Option Value},(∀ v,(x,v) ∉ binds)->bindL kindOf binds m x=m x
 | [],_,_=>rfl
 | (n,v)::r,m,h=>by
  unfold bindL
  rw[bindL_out fun w hw=>h w (List.mem_cons_of_mem _ hw)]
  split
  ·have:x ≠ n:=by rintro rfl;exact h v List.mem_cons_self
   simp[this]
  ·rfl
theorem bindC_out {kindOf:Str->Option NameKind} {x:Str}:∀ {binds:List (Str × Value)} {m:Str->Option Value},(∀ v,(x,v) ∉ binds)->bindC kindOf binds m x=m x
 | [],_,_=>rfl
 | (n,v)::r,m,h=>by
  unfold bindC
  rw[bindC_out fun w hw=>h w (List.mem_cons_of_mem _ hw)]
  split
  ·rfl
  ·have:x ≠ n:=by rintro rfl;exact h v List.mem_cons_self
   simp[this]
theorem bindL_get {kindOf:Str->Option NameKind} {x:Str} {v:Value}:∀ {P:List Str} {vs:List Value} {i:Nat} {m:Str->Option Value},P.Nodup->P[i]?=some x->vs[i]?=some v->kindOf x=some .local->
  bindL kindOf (P.zip vs) m x=some v
 | [],_,_,_,_,h,_,_=>by simp at h
 | _::_,[],_,_,_,_,h,_=>by simp at h
 | p::P,w::vs,0,m,nd,h1,h2,hk=>by
  simp at h1 h2;subst h1;subst h2
  show bindL kindOf ((p,w)::P.zip vs) m p=_
  unfold bindL
  rw[bindL_out fun v hv=>(List.nodup_cons.mp nd).1 (List.of_mem_zip hv).1,if_pos hk]
  simp
 | p::P,w::vs,i + 1,m,nd,h1,h2,hk=>by
  show bindL kindOf ((p,w)::P.zip vs) m x=_
  unfold bindL
  exact bindL_get (i:=i) (List.nodup_cons.mp nd).2 (by simpa using h1) (by simpa using h2) hk
theorem bindC_get {kindOf:Str->Option NameKind} {x:Str} {v:Value}:∀ {P:List Str} {vs:List Value} {i:Nat} {m:Str->Option Value},P.Nodup->P[i]?=some x->vs[i]?=some v->kindOf x ≠ some .local->
  bindC kindOf (P.zip vs) m x=some v
 | [],_,_,_,_,h,_,_=>by simp at h
 | _::_,[],_,_,_,_,h,_=>by simp at h
 | p::P,w::vs,0,m,nd,h1,h2,hk=>by
  simp at h1 h2;subst h1;subst h2
  show bindC kindOf ((p,w)::P.zip vs) m p=_
  unfold bindC
  rw[bindC_out fun v hv=>(List.nodup_cons.mp nd).1 (List.of_mem_zip hv).1,if_neg hk]
  simp
 | p::P,w::vs,i + 1,m,nd,h1,h2,hk=>by
  show bindC kindOf ((p,w)::P.zip vs) m x=_
  unfold bindC
  exact bindC_get (i:=i) (List.nodup_cons.mp nd).2 (by simpa using h1) (by simpa using h2) hk
noncomputable def start (N:List Str) (vs:List V):St:=vs.map some++List.replicate (N.length - vs.length) none
noncomputable def cxOf (CX:CXT) (P:Program) (w:World) (K:PySem.W.Frag) (mg:Str->Option Value) (base:Heap) (N:List Str) (qual:Str) (scope:Scope) (f:Addr) (cd:Value) (A:Around) (outer:List Env) (s:Shared) (H:Hp) (E:XK):Cx where
 prog:=P
 w:=w
 K:=K
 mg:=mg
 base:=base
 A:=A.deeper (envOfC qual scope s.heap.objs.size f cd)
 N:=N
 s₀:=s
 H₀:=H
 env:=envOfC qual scope s.heap.objs.size f cd
 outer:=outer
 stack:=envOfC qual scope s.heap.objs.size f cd::outer
 ex:=[]
 calm:=true
 fn:=fun _=>true
 pn:=[]
 xe:=fun e s'=>wpAny (model P w) (A.deeper (envOfC qual scope s.heap.objs.size f cd)) (leaving (envOfC qual scope s.heap.objs.size f cd) e) (fun _ s''=>CX outer H s E e s'') (fun e' s''=>CX outer H s E e' s'') s'
theorem cell_has {sc:Scope} {n:Nat} {x:Str} (h:sc.names.lookup x=some .cell):∃c,(cellsFrom n sc.names []).lookup x=some c:=by
 have q:=PySem.W.cellsFrom_some sc.names n [] (.inl h)
 exact Option.isSome_iff_exists.mp q
theorem inv_start {CX:CXT} {P:Program} {w:World} {K:PySem.W.Frag} {mg:Str->Option Value} {base:Heap} {N ps:List Str} {qual:Str} {scope:Scope} {f:Addr} {cd:Value} {A:Around} {outer:List Env} {s s1:Shared} {H:Hp} {E:XK} {us:List Value} {vs:List V}
  (S:FnScope N ps scope) (hd:A.handled=none) (e0:Env0 P w K mg base A outer s H) (hl:vs.length=ps.length) (r:Vals vs us)
  (x:InCallC s s.heap.objs.size (bindL (envOfC qual scope s.heap.objs.size f cd).kindOf (ps.zip us) fun _=>none) (cellsFrom (s.heap.objs.size + 1) scope.names []) (bindC (envOfC qual scope s.heap.objs.size f cd).kindOf (ps.zip us) fun _=>none) s1):
  Inv (cxOf CX P w K mg base N qual scope f cd A outer s H E) [] (start N vs) H s1:=by
 have hpl:ps.length<=N.length:=by have:=congrArg List.length S.pre;rw[List.length_take]at this;omega
 obtain⟨h1,tk,rfl,hk⟩:=x.done
 have noA:∀b:Addr,b ∉ (cxOf CX P w K mg base N qual scope f cd A outer s H E).ex:=fun b z=>absurd (show b ∈ ([]:List Addr)from z) (by simp)
 refine⟨⟨e0.mod,S.kind,rfl,rfl,Nat.le_refl _,fun y z c h1 h2=>?_,fun y hy=>?_,fun y c _ h=>?_,fun _=>hd,Around.frames_deeper e0.frames,.inr ⟨rfl,rfl⟩,fun b z=>absurd z (noA b),e0.bs,e0.bsz,fun b _ _=>noA b,fun b z=>absurd z (noA b),e0.funs,e0.frf⟩,
  rfl,e0.bare,Un.kept hk,⟨_,x.toInCall.ns,fun i y v h1 h2 h3=>?_⟩,fun y c h=>⟨_,x.cell y c h⟩,e0.hok.fresh (Nat.le_refl _),fun y c h=>?_,fun p hp=>absurd (show p ∈ ([]:List (Addr × Obj))from hp) (by simp),e0.hok.kept hk,?_⟩
 ·exact name_of_addr x.apart (PySem.mem_of_lookup h1) (PySem.mem_of_lookup h2)
 ·have hy:scope.names.lookup y=some .cell\/scope.names.lookup y=some .free:=hy
  rcases hy with hy | hy
  ·exact cell_has hy
  ·exact absurd rfl (S.nofree _ (PySem.mem_of_lookup hy))
 ·exact Nat.le_of_lt (x.above y c (PySem.mem_of_lookup h))
 ·have hi:i < vs.length:=by
   unfold start at h2
   by_cases hi:i < vs.length
   ·exact hi
   ·rw[List.getElem?_append_right (by simpa using hi)]at h2
    rw[List.getElem?_replicate]at h2
    split at h2<;>cases h2
  have ha:vs[i]?=some v:=by
   unfold start at h2
   rw[List.getElem?_append_left (by simpa using hi),List.getElem?_map]at h2
   cases e:vs[i]? with
   | none=>rw[e]at h2;cases h2
   | some a=>rw[e]at h2;cases h2;rfl
  obtain⟨u,hu,rv⟩:=r.get ha
  have hp:ps[i]?=some y:=by
   rw[<-S.pre,List.getElem?_take_of_lt (by omega)];exact h1
  have ndP:ps.Nodup:=by rw[<-S.pre];exact S.nd.sublist (List.take_sublist _ _)
  refine⟨u,rv,?_⟩
  rcases S.par y (List.mem_of_getElem? hp)with k | k
  ·exact .inl ⟨k,bindL_get ndP hp hu k⟩
  ·obtain⟨c,e⟩:=cell_has (n:=s.heap.objs.size + 1) k
   refine .inr ⟨.inl k,c,e,?_⟩
   have q:=x.cell y c e
   rw[bindC_get ndP hp hu (by show scope.names.lookup y ≠ _;rw[k];decide)]at q
   exact q
 ·exact e0.hok.fresh (Nat.le_of_lt (x.above y c (PySem.mem_of_lookup h)))
 ·unfold start
  show _=N.length
  rw[List.length_append,List.length_map,List.length_replicate]
  omega
theorem fn_of {CX:CXT} {P:Program} {w:World} {K:PySem.W.Frag} {mg:Str->Option Value} {base:Heap} {k:Nat} {f:Addr} {name qual:Str} {params:Arguments} {body:List Stmt} {scope:Scope} {dV kV doc pm cdv ct oc:Value} {an od:Option Addr}
  {osl:Array (Option Value)} {N ps:List Str} {sp:Sp} (lk:K.lookup f=some ⟨oc,od,.func (PySem.W.fnOf name qual params body scope dV kV doc pm an cdv ct),osl⟩) (hcd:PySem.W.codeIn K cdv qual=true) (S:FnScope N ps scope)
  (len:∀vs H Q E,sp vs H Q E->vs.length=ps.length)
  (hbody:∀ (A:Around) (outer:List Env) (s:Shared) (H:Hp) (vs:List V) (Q:VK) (E:XK),Room k (A.deeper (envOfC qual scope s.heap.objs.size f cdv))->sp vs H Q E->
   ∃t,PSs (cxOf CX P w K mg base N qual scope f cdv A outer s H E) body t/\t {nx:=fun _ H'=>Q .non H',rt:=Q} (start N vs) H):
  FnOk P w K mg base CX (k + 1) f (PySem.W.fnOf name qual params body scope dV kV doc pm an cdv ct) ps sp:=by
 refine⟨len,fun A outer s H args us vs Q E hr e0 hb r hsp=>?_⟩
 have hl:=len _ _ _ _ hsp
 have KX:K.In s.heap:=e0.mod.kin.keeps fun b o e=>(e0.bs b o e).1
 have lim:s.heap.NoLimit:=e0.mod.nolimit.keeps fun b o e=>(e0.bs b o e).1
 have hkind:∀y ∈ ps.zip us,scope.names.lookup y.1=some .local\/(scope.names.lookup y.1=some .cell/\((cellsFrom (s.heap.objs.size + 1) scope.names []).lookup y.1).isSome=true):=fun⟨n,v⟩ hy=>by
  rcases S.par n (List.of_mem_zip hy).1 with q | q
  ·exact .inl q
  ·exact .inr ⟨q,PySem.W.cellsFrom_some _ _ _ (.inl q)⟩
 refine codeAny_call_function hr.depth (KX _ _ lk) rfl S.co S.gen rfl (PySem.W.codeRec_of KX hcd) (hb _ _ _ _ ?_)
 refine wpAny_newFunctionEnv_cells S.kind hkind fun env he s1 x=>?_
 subst he
 refine⟨lim.keeps x.toInCall.keep,codeAny_func ?_⟩
 obtain⟨t,ht,hq⟩:=hbody A outer s H vs Q E (hr.deeper _) hsp
 have I:Inv (cxOf CX P w K mg base N qual scope f cdv A outer s H E) [] (start N vs) H s1:=inv_start S hr.hd e0 hl r x
 refine wpAny_mono (ht [] s1 (start N vs) H _ I hq) (fun fl s' hs=>?_) fun e s' hs=>hs
 have fin:∀ {σ':St} {H':Hp} {v:V} {u:Value},Inv (cxOf CX P w K mg base N qual scope f cdv A outer s H E) [] σ' H' s'->RelV v u->Q v H'->CE outer P w H s Q u s':=
  fun{σ' H' v u} J rv q=>⟨v,H',J.os,J.bare,J.base,J.hok,rv,q⟩
 cases fl with
 | ret u=>
  obtain⟨v,σ',H',J,rv,q⟩:=hs
  exact fin J rv q
 | next=>
  obtain⟨σ',H',J,q⟩:=hs
  exact fin (v:=V.non) (u:=Value.none) J rfl q
 | brk=>
  obtain⟨_,_,_,q⟩:=hs
  exact False.elim q
 | cont=>
  obtain⟨_,_,_,q⟩:=hs
  exact False.elim q
end L2
namespace L2
open PySem PySem.Spec PyProof.Rows
section
variable {X:Cx} {x:Str} {p pos:Pos} {e:Expr} {es:List Expr} {t:TA} {id T:String} {r:List V->Hp->VK->Prop}
noncomputable def tCB (r:List V->Hp->VK->Prop) (t:TA):TE:=fun σ H Q=>t σ H fun vs H1=>r vs H1 Q
theorem pe_callB (hc:CallR X (.builtin id) r) (hg:Gl X x) (hm:X.mg x=none) (hv:bootBuiltins x=some (.builtin id)) (ha:PA X (e::es) t) (hn:x ≠ "__name__" :=by decide) (hdb:(x == ("__debug__" :Str))=false:=by decide)
  (he:starEach (e::es) X.env=(false,eval e X.env)::starEach es X.env:=by rfl) (hpl:(backTo pos (starEach es X.env)).any (·.1)=false:=by rfl):PE X (.Call (.Name x p) (e::es) [] pos) (tCB r t):=by
 intro pins s σ H Q I h
 refine wpAny_Call_Name_kw (ld_blt I hg hm hv ?_ hn hdb)
 exact PyProof.Rows.callWith_builtin1 (thn (ha pos pins s σ H _ I h) fun us s1 ⟨vs,H1,I1,r1,q1⟩=>hc pins s1 σ H1 vs us Q I1 r1 q1) he hpl
theorem pe_callTy (hc:CallR X (.type T) r) (hg:Gl X x) (hm:X.mg x=none) (hv:bootBuiltins x=some (.type T)) (ha:PA X (e::es) t) (hn:x ≠ "__name__" :=by decide) (hdb:(x == ("__debug__" :Str))=false:=by decide)
  (he:starEach (e::es) X.env=(false,eval e X.env)::starEach es X.env:=by rfl) (hpl:(backTo pos (starEach es X.env)).any (·.1)=false:=by rfl):PE X (.Call (.Name x p) (e::es) [] pos) (tCB r t):=by
 intro pins s σ H Q I h
 refine wpAny_Call_Name_kw (ld_blt I hg hm hv ?_ hn hdb)
 exact PyProof.Rows.callWith_type1 (thn (ha pos pins s σ H _ I h) fun us s1 ⟨vs,H1,I1,r1,q1⟩=>hc pins s1 σ H1 vs us Q I1 r1 q1) he hpl
end
end L2
namespace L2
open PySem PySem.Spec PyProof.Rows
section
variable {κ:Type} [DecidableEq κ]
noncomputable def valV (kvs:List (κ × V)) (k:κ):Option V:=(kvs.find? fun kv=>decide (kv.1=k)).map (·.2)
noncomputable def putK (kvs:List (κ × V)) (k:κ) (v:V):List (κ × V):=
 if(kvs.any fun kv=>decide (kv.1=k))=true then kvs.map (fun kv=>if kv.1=k then(kv.1,v)else kv)else kvs++[(k,v)]
noncomputable def dropK (kvs:List (κ × V)) (k:κ):List (κ × V):=kvs.filter fun kv=>decide (kv.1 ≠ k)
theorem valV_pos {p:κ × V} {r:List (κ × V)} {k:κ} (e:p.1=k):valV (p::r) k=some p.2:=by simp[valV,List.find?_cons,e]
theorem valV_neg {p:κ × V} {r:List (κ × V)} {k:κ} (e:¬p.1=k):valV (p::r) k=valV r k:=by simp[valV,List.find?_cons,e]
theorem valV_any (k:κ):∀kvs:List (κ × V),(kvs.any fun kv=>decide (kv.1=k))=(valV kvs k).isSome
 | []=>rfl
 | p::r=>by
  rw[List.any_cons]
  by_cases e:p.1=k
  ·simp only[valV_pos e,decide_eq_true e,Bool.true_or,Option.isSome_some]
  ·rw[valV_neg e,decide_eq_false e,Bool.false_or];exact valV_any k r
theorem length_putK (kvs:List (κ × V)) (k:κ) (v:V):(putK kvs k v).length<=kvs.length + 1:=by
 unfold putK
 split
 ·rw[List.length_map];omega
 ·rw[List.length_append,List.length_cons,List.length_nil];omega
theorem RelO.isSome_eq {o:Option V} {u:Option Value} (r:RelO o u):o.isSome=u.isSome:=by
 cases o with
 | none=>cases u with
  | none=>rfl
  | some _=>exact(show False from r).elim
 | some _=>cases u with
  | none=>exact(show False from r).elim
  | some _=>rfl
theorem RelO.getD {o:Option V} {u:Option Value} {d:V} {d':Value} (r:RelO o u) (rd:RelV d d'):RelV (o.getD d) (u.getD d'):=by
 cases o with
 | none=>cases u with
  | none=>exact rd
  | some _=>exact(show False from r).elim
 | some _=>cases u with
  | none=>exact(show False from r).elim
  | some _=>exact r
theorem KV.val {kvs:List (κ × V)} {vs:List (κ × Value)} (r:KV kvs vs) (k:κ):RelO (valV kvs k) (valueAt vs k):=by
 unfold KV at r
 induction r with
 | nil=>exact True.intro
 | @cons p q ps qs h t ih=>
  obtain⟨h1,h2⟩:=h
  by_cases e:p.1=k
  ·have e':q.1=k:=h1.symm.trans e
   have b:valueAt (q::qs) k=some q.2:=by simp[valueAt,List.find?_cons,e']
   rw[valV_pos e,b];exact h2
  ·have e':¬q.1=k:=fun z=>e (h1.trans z)
   have b:valueAt (q::qs) k=valueAt qs k:=by simp[valueAt,List.find?_cons,e']
   rw[valV_neg e,b];exact ih
theorem KV.any {kvs:List (κ × V)} {vs:List (κ × Value)} (r:KV kvs vs) (k:κ):(kvs.any fun kv=>decide (kv.1=k))=vs.any fun kv=>decide (kv.1=k):=by
 unfold KV at r
 induction r with
 | nil=>rfl
 | cons h t ih=>rw[List.any_cons,List.any_cons,ih,h.1]
theorem KV.repl {kvs:List (κ × V)} {vs:List (κ × Value)} (r:KV kvs vs) (k:κ) {y:V} {u:Value} (ry:RelV y u):
  KV (kvs.map fun kv=>if kv.1=k then(kv.1,y)else kv) (vs.map fun kv=>if kv.1=k then(kv.1,u)else kv):=by
 unfold KV at r ⊢
 induction r with
 | nil=>exact .nil
 | @cons p q ps qs h t ih=>
  rw[List.map_cons,List.map_cons]
  refine .cons ?_ ih
  obtain⟨h1,h2⟩:=h
  by_cases e:p.1=k
  ·rw[if_pos e,if_pos (h1.symm.trans e)];exact⟨h1,ry⟩
  ·rw[if_neg e,if_neg (fun z=>e (h1.trans z))];exact⟨h1,h2⟩
theorem KV.put {kvs:List (κ × V)} {vs:List (κ × Value)} (r:KV kvs vs) (k:κ) {y:V} {u:Value} (ry:RelV y u):KV (putK kvs k y) (stored vs k u):=by
 unfold putK stored
 rw[r.any k]
 by_cases e:(vs.any fun kv=>decide (kv.1=k))=true
 ·rw[if_pos e,if_pos e];exact r.repl k ry
 ·rw[if_neg e,if_neg e];exact Paired.snoc r ⟨rfl,ry⟩
theorem KV.drop {kvs:List (κ × V)} {vs:List (κ × Value)} (r:KV kvs vs) (k:κ):KV (dropK kvs k) (without vs k):=by
 unfold KV at r ⊢
 unfold dropK without
 induction r with
 | nil=>exact .nil
 | @cons p q ps qs h t ih=>
  obtain⟨h1,h2⟩:=h
  rw[List.filter_cons,List.filter_cons]
  by_cases e:p.1=k
  ·have a:¬decide (p.1 ≠ k)=true:=by simp[e]
   have b:¬decide (q.1 ≠ k)=true:=by simp[h1.symm.trans e]
   rw[if_neg a,if_neg b];exact ih
  ·have e':¬q.1=k:=fun z=>e (h1.trans z)
   have a:decide (p.1 ≠ k)=true:=by simp[e]
   have b:decide (q.1 ≠ k)=true:=by simp[e']
   rw[if_pos a,if_pos b];exact .cons ⟨h1,h2⟩ ih
theorem KV.keys {kvs:List (κ × V)} {vs:List (κ × Value)} (r:KV kvs vs):kvs.map (·.1)=vs.map (·.1):=by
 unfold KV at r
 induction r with
 | nil=>rfl
 | cons h t ih=>rw[List.map_cons,List.map_cons,ih,h.1]
theorem KV.length {kvs:List (κ × V)} {vs:List (κ × Value)} (r:KV kvs vs):kvs.length=vs.length:=Paired.length r
theorem dropK_le (kvs:List (κ × V)) (k:κ):(dropK kvs k).length<=kvs.length:=List.length_filter_le _ _
end
theorem kV_is {P:Program} {w:World} {k:Key} {u:Value} (r:RelV (kV k) u):(mixKind P w).is k u=true:=by
 cases k with
 | inl i=>obtain⟨t,e⟩:=(show ∃t,u=Value.int i t from r);subst e;exact mixKind_int P w i t
 | inr x=>obtain⟨t,e⟩:=(show ∃t,u=Value.str x t from r);subst e;exact mixKind_str P w x t
theorem items_are {P:Program} {w:World}:∀ {ks:List Key} {us:List Value},Vals (ks.map kV) us->ItemsAre (mixKind P w) ks us
 | [],_,r=>by rw[List.map_nil]at r;cases r;exact .nil
 | k::ks,_,r=>by
  rw[List.map_cons]at r
  cases r with
  | cons h t=>exact .cons (kV_is h) (items_are t)
@[reducible] noncomputable def KT (H:Hp):List (List Key × V)->List (List Key × Addr × Value)->Prop:=Paired fun p q=>p.1=q.1/\H q.2.1=some (.tup (p.1.map kV))/\RelV p.2 q.2.2
theorem KT.val {H:Hp} {kvs:List (List Key × V)} {xs:List (List Key × Addr × Value)} (r:KT H kvs xs) (k:List Key):RelO (valV kvs k) ((atKey xs k).map (·.2)):=by
 induction r with
 | nil=>exact True.intro
 | @cons p q ps qs h t ih=>
  obtain⟨h1,_,h2⟩:=h
  by_cases e:p.1=k
  ·have e':q.1=k:=h1.symm.trans e
   have b:atKey (q::qs) k=some q.2:=by simp[atKey,List.find?_cons,e']
   rw[valV_pos e,b];exact h2
  ·have e':¬q.1=k:=fun z=>e (h1.trans z)
   have b:atKey (q::qs) k=atKey qs k:=by simp[atKey,List.find?_cons,e']
   rw[valV_neg e,b];exact ih
theorem KT.repl {H:Hp} {kvs:List (List Key × V)} {xs:List (List Key × Addr × Value)} (r:KT H kvs xs) (k:List Key) {y:V} {u:Value} (ry:RelV y u):
  KT H (kvs.map fun kv=>if kv.1=k then(kv.1,y)else kv) (xs.map (putAt k u)):=by
 induction r with
 | nil=>exact .nil
 | @cons p q ps qs h t ih=>
  rw[List.map_cons,List.map_cons]
  refine .cons ?_ ih
  obtain⟨h1,h2,h3⟩:=h
  unfold putAt
  by_cases e:p.1=k
  ·rw[if_pos e,if_pos (h1.symm.trans e)];exact⟨h1,h2,ry⟩
  ·rw[if_neg e,if_neg (fun z=>e (h1.trans z))];exact⟨h1,h2,h3⟩
theorem KT.put {H:Hp} {kvs:List (List Key × V)} {xs:List (List Key × Addr × Value)} (r:KT H kvs xs) (k:List Key) {b:Addr} {y:V} {u:Value} (hb:H b=some (.tup (k.map kV))) (ry:RelV y u):
  KT H (putK kvs k y) (storedH xs k b u):=by
 have e:(kvs.any fun kv=>decide (kv.1=k))=(atKey xs k).isSome:=by
  rw[valV_any,(r.val k).isSome_eq,Option.isSome_map]
 unfold putK storedH
 rw[e]
 by_cases q:(atKey xs k).isSome=true
 ·rw[if_pos q,if_pos q];exact r.repl k ry
 ·rw[if_neg q,if_neg q];exact Paired.snoc r ⟨rfl,hb,ry⟩
theorem KT.keeps {H H':Hp} {kvs:List (List Key × V)} {xs:List (List Key × Addr × Value)} (r:KT H kvs xs) (ht:∀b ys,H b=some (.tup ys)->H' b=some (.tup ys)):KT H' kvs xs:=
 Paired.mapP r fun _ _ z=>⟨z.1,ht _ _ z.2.1,z.2.2⟩
section
variable {P:Program} {w:World} {H:Hp} {h:Heap} {a:Addr}
theorem rd_of {u:HO} (ok:HOk P w H h) (e:Rd H a u):ObjOk P w H h a u:=e.ok ok
theorem dk_rd {kvs:List (Key × V)} (ok:HOk P w H h) (e:Rd H a (.dK kvs)):kvs.length<=sizeLine/\(a == sysModules)=false/\∃vs,KV kvs vs/\h.DictOf (mixKind P w) a vs:=
 show ObjOk P w H h a (.dK kvs)from rd_of ok e
theorem dk_of {kvs:List (Key × V)} (ok:HOk P w H h) (e:H a=some (.dK kvs)):kvs.length<=sizeLine/\(a == sysModules)=false/\∃vs,KV kvs vs/\h.DictOf (mixKind P w) a vs:=dk_rd ok (.inl e)
theorem key_of {ks:List Key} (ok:HOk P w H h) (e:H a=some (.tup (ks.map kV))):(tupleKind (mixKind P w)).is h ks a:=by
 obtain⟨_,its,r,o,h1,h2,n,h3⟩:=(show ObjOk P w H h a (.tup (ks.map kV))from ok a _ e)
 exact⟨o,its.toArray,n,h1,h2,h3,by simpa using items_are r⟩
theorem dt_rd {kvs:List (List Key × V)} (ok:HOk P w H h) (e:Rd H a (.dT kvs)):kvs.length<=sizeLine/\(a == sysModules)=false/\
  ∃xs,KT H kvs xs/\h.DictOfH (tupleKind (mixKind P w)) a xs:=by
 obtain⟨z,y,xs,r,o,es,ep,h1,h2,h3,h4,h5⟩:=(show ObjOk P w H h a (.dT kvs)from rd_of ok e)
 refine⟨z,y,xs,r,o,es,ep,h1,h2,h3,h4,fun x hx=>?_,h5⟩
 have all:∀ {l:List (List Key × V)} {m:List (List Key × Addr × Value)},KT H l m->∀x ∈ m,(tupleKind (mixKind P w)).is h x.1 x.2.1:=by
  intro l m q
  induction q with
  | nil=>intro x hx;exact nomatch hx
  | @cons p q ps qs hq t ih=>
   intro x hx
   rcases List.mem_cons.mp hx with e | hx
   ·subst e
    exact key_of ok (by rw[<-hq.1];exact hq.2.1)
   ·exact ih x hx
 exact all r x hx
theorem dt_of {kvs:List (List Key × V)} (ok:HOk P w H h) (e:H a=some (.dT kvs)):kvs.length<=sizeLine/\(a == sysModules)=false/\
  ∃xs,KT H kvs xs/\h.DictOfH (tupleKind (mixKind P w)) a xs:=dt_rd ok (.inl e)
end
noncomputable def DGet (H:Hp) (a:Addr) (y:V) (r:Option V):Prop:=
 (∃ kvs k,Rd H a (.dK kvs)/\y=kV k/\r=valV kvs k)\/∃kvs k b,Rd H a (.dT kvs)/\y=.ref b/\H b=some (.tup (k.map kV))/\r=valV kvs k
noncomputable def DPut (H:Hp) (a:Addr) (y v:V) (H':Hp):Prop:=
 (∃ kvs k,H a=some (.dK kvs)/\y=kV k/\kvs.length < sizeLine/\H'=upd H a (.dK (putK kvs k v)))\/
 ∃kvs k b,H a=some (.dT kvs)/\y=.ref b/\H b=some (.tup (k.map kV))/\kvs.length < sizeLine/\H'=upd H a (.dT (putK kvs k v))
theorem DGet.t {H:Hp} {a b:Addr} {kvs:List (List Key × V)} {k:List Key} (e:H a=some (.dT kvs)) (eb:H b=some (.tup (k.map kV))):DGet H a (.ref b) (valV kvs k):=.inr ⟨kvs,k,b,.inl e,rfl,eb,rfl⟩
theorem DPut.k {H:Hp} {a:Addr} {kvs:List (Key × V)} {k:Key} {v:V} (e:H a=some (.dK kvs)) (hl:kvs.length < sizeLine):DPut H a (kV k) v (upd H a (.dK (putK kvs k v))):=.inl ⟨kvs,k,e,rfl,hl,rfl⟩
theorem DPut.t {H:Hp} {a b:Addr} {kvs:List (List Key × V)} {k:List Key} {v:V} (e:H a=some (.dT kvs)) (eb:H b=some (.tup (k.map kV))) (hl:kvs.length < sizeLine):
  DPut H a (.ref b) v (upd H a (.dT (putK kvs k v))):=.inr ⟨kvs,k,b,e,rfl,eb,hl,rfl⟩
section
variable {X:Cx} {pins:List (Addr × Obj)} {σ:St} {H:Hp} {s:Shared} {a:Addr} {y v:V} {u r:Value} {o:Option V} {A:Around} {E:Value->Shared->Prop}
theorem Inv.big (I:Inv X pins σ H s):sysModules < s.heap.objs.size:=by
 have h:mainGlobals < s.heap.objs.size:=(I.mod.glob.keeps I.bk).lt
 exact Nat.lt_trans (by decide) h
theorem d_in {Q:Value->Shared->Prop} (hu:A.units + 1 < cLine) (I:Inv X pins σ H s) (g:DGet H a y o) (ry:RelV y u) (h:∀s',Inv X pins σ H s'->Q (.bool o.isSome) s'):
  wpAny (model X.prog X.w) A (compareOp .In u (.ref a)) Q E s:=by
 rcases g with ⟨kvs,k,e,ey,l⟩ | ⟨kvs,k,b,e,ey,eb,l⟩
 ·subst ey
  obtain⟨z,hd,vs,rel,dd⟩:=dk_rd I.hok e
  refine wpAny_in_of (kV_is ry) hd dd.mapOf ?_
  rw[<-(rel.val k).isSome_eq,<-l]
  exact h _ (I.tok _)
 ·subst ey
  cases (show u=Value.ref b from ry)
  obtain⟨z,hd,xs,rel,dd⟩:=dt_rd I.hok e
  refine wpAny_in_heap (tupleKind_room_in1 hu) (key_of I.hok eb) hd dd ?_
  have q:=(rel.val k).isSome_eq
  rw[Option.isSome_map]at q
  rw[<-q,<-l]
  exact h _ (I.tok _)
theorem d_notIn {Q:Value->Shared->Prop} (hu:A.units + 1 < cLine) (I:Inv X pins σ H s) (g:DGet H a y o) (ry:RelV y u) (h:∀s',Inv X pins σ H s'->Q (.bool (!o.isSome)) s'):
  wpAny (model X.prog X.w) A (compareOp .NotIn u (.ref a)) Q E s:=by
 rcases g with ⟨kvs,k,e,ey,l⟩ | ⟨kvs,k,b,e,ey,eb,l⟩
 ·subst ey
  obtain⟨z,hd,vs,rel,dd⟩:=dk_rd I.hok e
  refine wpAny_notIn_of (kV_is ry) hd dd.mapOf ?_
  rw[<-(rel.val k).isSome_eq,<-l]
  exact h _ (I.tok _)
 ·subst ey
  cases (show u=Value.ref b from ry)
  obtain⟨z,hd,xs,rel,dd⟩:=dt_rd I.hok e
  refine wpAny_notIn_heap (tupleKind_room_in1 hu) (key_of I.hok eb) hd dd ?_
  have q:=(rel.val k).isSome_eq
  rw[Option.isSome_map]at q
  rw[<-q,<-l]
  exact h _ (I.tok _)
theorem d_write {h':Heap} {t':Nat} {ob:HO} (I:Inv X pins σ H s) (mu:Mut (H a)) (hs:Heap.SameBut a s.heap h') (he:∃q,h'.get? a=some q) (new:ObjOk X.prog X.w (upd H a ob) h' a ob):
  Inv X pins σ (upd H a ob) {s with heap:=h',toks:=t'}:=
 I.write (x:=a) (e:=a) mu (.inl rfl) (fun b q hb z=>(hs.2 b hb).trans z) he new
theorem dk_new {P:Program} {w:World} {H':Hp} {h':Heap} {kvs:List (Key × V)} {vs:List (Key × Value)} (z:kvs.length<=sizeLine) (hd:(a == sysModules)=false) (rel:KV kvs vs) (dd:h'.DictOf (mixKind P w) a vs):
  ObjOk P w H' h' a (.dK kvs):=⟨z,hd,vs,rel,dd⟩
theorem d_setItem {H':Hp} {Q:Unit->Shared->Prop} (hu:A.units + 1 < cLine) (I:Inv X pins σ H s) (g:DPut H a y v H') (ry:RelV y u) (rv:RelV v r) (h:∀s',Inv X pins σ H' s'->Q () s'):
  wpAny (model X.prog X.w) A (setItem (.ref a) u r) Q E s:=by
 rcases g with ⟨kvs,k,e,ey,l,eH⟩ | ⟨kvs,k,b,e,ey,eb,l,eH⟩
 ·subst ey eH
  obtain⟨z,hd,vs,rel,dd⟩:=dk_of I.hok e
  have hz:vs.length<=sizeLine:=by rw[<-rel.length];exact z
  have hl:(putK kvs k v).length<=sizeLine:=by have:=length_putK kvs k v;omega
  refine wpAny_setItem_pairs (hsz:=hz) (kV_is ry) dd fun h' dd' hs=>h _ ?_
  have he:∃q,h'.get? a=some q:=let ⟨q,_,_,hq,_⟩:=dd';⟨q,hq⟩
  exact d_write I (by rw[e];exact True.intro) hs he (dk_new hl hd (rel.put k rv) dd')
 ·subst ey eH
  cases (show u=Value.ref b from ry)
  obtain⟨z,hd,xs,rel,dd⟩:=dt_of I.hok e
  have hz:xs.length<=sizeLine:=by rw[<-Paired.length rel];exact z
  have hl:(putK kvs k v).length<=sizeLine:=by have:=length_putK kvs k v;omega
  refine wpAny_setItem_heap (hsz:=hz) (tupleKind_room_in1 hu) (key_of I.hok eb) dd fun h' dd' hs=>h _ ?_
  obtain⟨q,es,ep,hq,h2,h3,h4,_,h5⟩:=dd'
  refine d_write I (by rw[e];exact True.intro) hs ⟨q,hq⟩ ⟨hl,hd,_,(rel.put k eb rv).keeps fun c ys ec=>?_,q,es,ep,hq,h2,h3,h4,h5⟩
  rw[upd_ne (ne_of ec e (fun z=>nomatch z))]
  exact ec
end
section
variable {X:Cx} {pins:List (Addr × Obj)} {σ:St} {H:Hp} {s:Shared} {a:Addr} {kvs:List (Key × V)} {k:Key} {u:Value} {A:Around} {E:Value->Shared->Prop}
theorem d_pop {v:V} {more:List Value} {Q:Value->Shared->Prop} (I:Inv X pins σ H s) (e:H a=some (.dK kvs)) (ry:RelV (kV k) u) (l:valV kvs k=some v) (hm:more=[]\/∃x,more=[x])
  (h:∀w' s',Inv X pins σ (upd H a (.dK (dropK kvs k))) s'->RelV v w'->Q w' s'):wpAny (model X.prog X.w) A (call (.builtin "dict.pop") (.ref a::u::more)) Q E s:=by
 obtain⟨z,hd,vs,rel,dd⟩:=dk_of I.hok e
 obtain⟨w',hw,rw'⟩:=RelO.some_of (v:=v) (o:=valueAt vs k) (by rw[<-l];exact rel.val k)
 have hp:(keyPart u).isSome=true:=by
  cases k with
  | inl i=>obtain⟨t,q⟩:=(show ∃t,u=Value.int i t from ry);subst q;rfl
  | inr x=>obtain⟨t,q⟩:=(show ∃t,u=Value.str x t from ry);subst q;rfl
 have ha:argsOk "dict.pop" ⟨.ref a::u::more,[]⟩:=by
  rcases hm with q | ⟨x,q⟩
  ·subst q;exact PySem.F.args_dict_pop_2 _ _
  ·subst q;exact PySem.F.args_dict_pop_3 _ _ _
 refine call_meetsIn PySem.F.slot_dict_pop dd.typeIs PySem.F.entry_dict_pop ha (meets_dict_pop_there (mixKind X.prog X.w) a (kV_is ry) more hm hp)
  ⟨vs,w',dd,by rw[<-rel.length];exact z,hw,fun h' dd' hs=>h w' _ ?_ rw'⟩
 have he:∃q,h'.get? a=some q:=let ⟨q,_,_,hq,_⟩:=dd';⟨q,hq⟩
 exact d_write I (by rw[e];exact True.intro) hs he (dk_new (Nat.le_trans (dropK_le kvs k) z) hd (rel.drop k) dd')
end
section
variable {X:Cx} {o i e value:Expr} {pos pos' tpos:Pos} {td ty tv:TE}
end
theorem dk_empty {P:Program} {w:World} {H:Hp} (h:Heap) (hb:sysModules < h.objs.size):ObjOk P w H (h.push {cls:=.type "dict",data:=.dict #[]}) h.objs.size (.dK []):=
 ⟨Nat.zero_le _,beq_eq_false_iff_ne.mpr (Ne.symm (Nat.ne_of_lt hb)),[],.nil,Heap.DictOf.new h⟩
noncomputable def tDNewK:TE:=fun _ H Q=>∀p,H p=none->Q (.ref p) (upd H p (.dK []))
section
variable {X:Cx} {pos:Pos}
theorem pe_dnewK:PE X (.Dict [] [] pos) tDNewK:=fun pins s σ H Q I h=>
 wpAny_Dict_empty ⟨.ref s.heap.objs.size,_,I.laid (a:=s.heap.objs.size) (o:=.dK []) (t':=s.toks) (fun _ _ q=>Heap.get?_push_of_some _ q) (Nat.le_refl _) (dk_empty s.heap I.big),rfl,h _ (I.hok.fresh (Nat.le_refl _))⟩
end
noncomputable def mergeK (kvs more:List (Key × V)):List (Key × V):=more.foldl (fun acc kv=>putK acc kv.1 kv.2) kvs
theorem KV.merge:∀ {more:List (Key × V)} {rs:List (Key × Value)} {kvs:List (Key × V)} {vs:List (Key × Value)},KV more rs->KV kvs vs->KV (mergeK kvs more) (merged vs rs):=by
 intro more rs kvs vs r
 unfold KV at r
 induction r generalizing kvs vs with
 | nil=>intro q;exact q
 | @cons p q ps qs h t ih=>
  intro r0
  have e:KV (putK kvs p.1 p.2) (stored vs q.1 q.2):=by
   have:=r0.put p.1 h.2
   rw[<-h.1];exact this
  exact ih e
section
variable {X:Cx} {pins:List (Addr × Obj)} {σ:St} {H:Hp} {s:Shared} {a:Addr} {y d:V} {u r:Value} {o:Option V} {A:Around} {E:Value->Shared->Prop}
end
section
variable {X:Cx} {o e f:Expr} {apos cpos:Pos} {td ty tx:TE}
end
section
variable {X:Cx} {pins:List (Addr × Obj)} {σ:St} {H:Hp} {s:Shared} {a:Addr} {kvs:List (Key × V)} {A:Around} {E:Value->Shared->Prop}
end
section
variable {X:Cx} {pins:List (Addr × Obj)} {σ:St} {H:Hp} {s:Shared} {a:Addr} {y:V} {u:Value} {A:Around} {E:Value->Shared->Prop}
end
end L2
namespace HT
open PySem PyProof.Rows
section
open PySem.SeqAt
open PySem.AutoSeq1 (wpAny_loadPart')
open PySem.MeetsSeq PySem.MeetsSeq2 PySem.MeetsSeq3
end
section
variable {prog:Program} {w:World} {A:Around} {E:Value->Shared->Prop} {s:Shared}
theorem cat_tup {t b:Addr} {vs ws:List Value} {Q:Value->Shared->Prop} (ht:IsTup s.heap t vs.toArray) (hb:IsTup s.heap b ws.toArray) (hv:vs ≠ [])
  (h1:ws=[]->Q (.ref t) s) (h2:ws ≠ []->Q (.ref s.heap.objs.size) {s with heap:=s.heap.push {cls:=.type "tuple",data:=.seq (vs++ws).toArray}})
  (hsz:vs.length + ws.length<=sizeLine):wpAny (model prog w) A (binaryOp .Add (.ref t) (.ref b)) Q E s:=by
 obtain⟨⟨cls,dd,data,sl⟩,ho,hc,n,hd⟩:=id ht
 obtain⟨⟨cls2,dd2,data2,sl2⟩,ho2,hc2,n2,hd2⟩:=id hb
 simp only at hc hd hc2 hd2
 subst hc hd hc2 hd2
 have e:vs.toArray++ws.toArray=(vs++ws).toArray:=by simp
 by_cases hw:ws=[]
 ·exact concat_meets ⟨_,ho,rfl⟩ ⟨_,ho2,rfl⟩ noFill_tuple_add seq_tuple_add PySem.F.slot_tuple_add PySem.F.entry_tuple_add (PySem.F.args_tuple_add_2 _ _)
   (tuple_addW1 t b vs.toArray ws.toArray n n2 dd dd2 sl sl2 (by simpa using hv) (by simp[hw])) ⟨ho,ho2,h1 hw⟩
 ·refine concat_meets ⟨_,ho,rfl⟩ ⟨_,ho2,rfl⟩ noFill_tuple_add seq_tuple_add PySem.F.slot_tuple_add PySem.F.entry_tuple_add (PySem.F.args_tuple_add_2 _ _)
   (tuple_addW2 t b vs.toArray ws.toArray n n2 dd dd2 sl sl2 (by simpa using hv) (by simpa using hw) (by rw[List.size_toArray,List.size_toArray];exact hsz)) ⟨ho,ho2,?_⟩
  rw[e]
  exact h2 hw
noncomputable def sIx (n d:Nat):Option Int->Nat
 | none=>d
 | some v=>if v < 0 then(v + (n:Int)).toNat else min v.toNat n
theorem sIx_le (n d:Nat) (hd:d<=n) (o:Option Int):sIx n d o<=n:=by
 cases o with
 | none=>exact hd
 | some v=>
  show(if v < 0 then(v + (n:Int)).toNat else min v.toNat n)<=n
  by_cases hv:v < 0
  ·rw[if_pos hv];omega
  ·rw[if_neg hv];exact Nat.min_le_right _ _
theorem clip_eq (v:Int) (n d:Nat):(if v < 0 then max (v + (n:Int)) 0 else min v (n:Int))=((sIx n d (some v):Nat):Int):=by
 show(if v < 0 then max (v + (n:Int)) 0 else min v (n:Int))=(((if v < 0 then(v + (n:Int)).toNat else min v.toNat n):Nat):Int)
 by_cases hv:v < 0
 ·simp only[if_pos hv];omega
 ·simp only[if_neg hv];omega
theorem adjust_gen (lo hi:Option Int) (n:Nat):Builtin.Slice.sliceAdjust lo hi 1 (n:Int)=(((sIx n 0 lo:Nat):Int),((sIx n n hi:Nat):Int)):=by
 have h1:¬ ((1:Int) < 0):=by omega
 unfold Builtin.Slice.sliceAdjust
 simp only[h1,if_false]
 refine Prod.ext ?_ ?_
 ·cases lo with
  | none=>rfl
  | some v=>exact clip_eq v n 0
 ·cases hi with
  | none=>rfl
  | some v=>exact clip_eq v n n
theorem places_gen (i j:Nat):Builtin.Slice.slicePlaces (i:Int) (j:Int) 1=j - i:=by
 unfold Builtin.Slice.slicePlaces
 have h1:(1:Int) > 0:=by omega
 simp only[h1,if_true,Int.ediv_one]
 split<;>omega
theorem slicePart_ {v:Value} {o:Option Int} {Q:Option Int->Shared->Prop} (p:IsPart v o) (h:Q o s):wpAny (model prog w) A (Builtin.Slice.slicePartIndex v) Q E s:=by
 cases p with
 | none=>exact slicePart_none h
 | int i t=>exact slicePart_int h
theorem sliceApplied_gen {sl:Addr} {vl vu:Value} {lo hi:Option Int} {n:Nat} {Q:Int × Int × Nat->Shared->Prop} (hs:s.heap.IsSliceOf sl vl vu .none) (pl:IsPart vl lo) (pu:IsPart vu hi)
  (h:Q (((sIx n 0 lo:Nat):Int),1,sIx n n hi - sIx n 0 lo) s):wpAny (model prog w) A (Builtin.Slice.sliceApplied (.ref sl) (pure (n:Int))) Q E s:=by
 obtain⟨os,hos,hcs,hds⟩:=id hs
 unfold Builtin.Slice.sliceApplied Builtin.Slice.sliceFields
 refine wpAny_bind (wpAny_bind (wpAny_field hos hds (x:=vl) rfl (wpAny_bind (wpAny_field hos hds (x:=vu) rfl (wpAny_bind (wpAny_field hos hds (x:=.none) rfl (wpAny_pure ?_)))))))
 refine wpAny_bind (slicePart_none ?_)
 show wpAny _ _ (if((1:Int) == 0)=true then _ else _) _ _ s
 rw[if_neg (by decide)]
 refine wpAny_bind (slicePart_ pl (wpAny_bind (slicePart_ pu (wpAny_bind (wpAny_pure ?_)))))
 show wpAny _ _ (match Builtin.Slice.sliceAdjust lo hi 1 (n:Int)with | (lo,hi)=>pure (lo,(1:Int),Builtin.Slice.slicePlaces lo hi 1)) _ _ s
 rw[adjust_gen lo hi n]
 show wpAny _ _ (pure (((sIx n 0 lo:Nat):Int),(1:Int),Builtin.Slice.slicePlaces ((sIx n 0 lo:Nat):Int) ((sIx n n hi:Nat):Int) 1)) _ _ s
 rw[places_gen]
 exact wpAny_pure h
theorem pick_gen (xs:Array Value) (i k:Nat):((List.range k).filterMap fun(m:Nat)=>xs[((i:Int) + (m:Int) * 1).toNat]?).toArray=((xs.toList.drop i).take k).toArray:=by
 have e:(fun(m:Nat)=>xs[((i:Int) + (m:Int) * 1).toNat]?)=fun m=>xs[i + m]?:=by
  funext m
  have:((i:Int) + (m:Int) * 1).toNat=i + m:=by omega
  rw[this]
 rw[e]
 have:=pick_run xs i k
 rw[List.filterMap_map]at this
 have e2:((fun x=>xs[x]?) ∘ fun x=>i + x)=fun m=>xs[i + m]?:=rfl
 rw[e2]at this
 rw[this]
theorem getItem_tuple_cut {t sl:Addr} {items:Array Value} {vl vu:Value} {lo hi:Option Int} {Q:Value->Shared->Prop} (ht:IsTup s.heap t items) (hs:s.heap.IsSliceOf sl vl vu .none) (pl:IsPart vl lo) (pu:IsPart vu hi)
  (hw:¬ (sIx items.size 0 lo=0/\sIx items.size items.size hi=items.size))
  (h:Q (.ref s.heap.objs.size) {s with heap:=s.heap.push {cls:=.type "tuple",data:=.seq ((items.toList.drop (sIx items.size 0 lo)).take (sIx items.size items.size hi - sIx items.size 0 lo)).toArray}})
  (hsz:items.size<=sizeLine):wpAny (model prog w) A (getItem (.ref t) (.ref sl)) Q E s:=by
 have htake:sizeOk (.seq ((items.toList.drop (sIx items.size 0 lo)).take (sIx items.size items.size hi - sIx items.size 0 lo)).toArray):=by
  show((items.toList.drop (sIx items.size 0 lo)).take (sIx items.size items.size hi - sIx items.size 0 lo)).toArray.size<=sizeLine
  rw[List.size_toArray,List.length_take,List.length_drop,Array.length_toList]
  omega
 have hj:sIx items.size items.size hi<=items.size:=sIx_le _ _ (Nat.le_refl _) hi
 obtain⟨os,hos,hcs,hds⟩:=id hs
 have hTs:s.TypeIs (.ref sl) "slice" :=⟨os,hos,hcs⟩
 unfold getItem
 try with_reducible refine wpAny_holding ?_
 first | refine wpAny_bind (wpAny_pure ?_) | skip
 refine wpAny_bind (wpAny_sequenceKey ht.typeIs (by decide) ?_)
 refine wpAny_bind (wpAny_callSpecial?_slot (name:=Str.ofString "__getitem__") ht.typeIs PyProof.Rows.slot_tuple_getitem
  (wpAny_call_entry PyProof.Rows.slot_tuple_getitem ht.typeIs entry_tuple_getitem ?_ (args_tuple_getitem _ _)))
 show wpAny _ _ (Builtin.Tuple.tupleItemsOf (.ref t) >>= _) _ _ s
 refine wpAny_bind (tupleItemsOf_ ht ?_)
 refine wpAny_bind (wpAny_typeOf hTs ?_)
 rw[if_pos (by decide)]
 refine wpAny_bind (sliceApplied_gen hs pl pu ?_)
 have hno:¬ ((((sIx items.size 0 lo:Nat):Int) == 0 && (1:Int) == 1 && (sIx items.size items.size hi - sIx items.size 0 lo) == items.size)=true):=by
  intro q
  rw[Bool.and_eq_true,Bool.and_eq_true]at q
  have q1:((sIx items.size 0 lo:Nat):Int)=0:=eq_of_beq q.1.1
  have q2:sIx items.size items.size hi - sIx items.size 0 lo=items.size:=eq_of_beq q.2
  exact hw ⟨by omega,by omega⟩
 show wpAny _ _ (if(((sIx items.size 0 lo:Nat):Int) == 0 && (1:Int) == 1 && (sIx items.size items.size hi - sIx items.size 0 lo) == items.size)=true then _ else _) _ _ s
 rw[if_neg hno,pick_gen]
 first
  | exact wpAny_bind (m:=Builtin.Tuple.tupleExact _) (wpAny_newObj_type (wpAny_pure ⟨_,rfl,wpAny_pure h⟩) htake)
  | exact wpAny_bind (m:=Builtin.Tuple.tupleExact _) (wpAny_newObj_type (wpAny_bind (wpAny_pure (wpAny_pure ⟨_,rfl,wpAny_pure h⟩))) htake)
  | exact wpAny_bind (wpAny_bind (m:=Builtin.Tuple.tupleExact _) (wpAny_newObj_type (wpAny_pure (wpAny_pure ⟨_,rfl,wpAny_pure h⟩)) htake))
  | exact wpAny_bind (wpAny_bind (m:=Builtin.Tuple.tupleExact _) (wpAny_newObj_type (wpAny_pure ⟨_,rfl,wpAny_pure h⟩) htake))
end
end HT
namespace L2
open PySem PySem.Spec PyProof.Rows
@[reducible] noncomputable def TO:=St->Hp->(Option Int->Hp->Prop)->Prop
noncomputable def PO (X:Cx) (e:Option Expr) (t:TO):Prop:=
 ∀ (pins:List (Addr × Obj)) (s:Shared) (σ:St) (H:Hp) (Q:Option Int->Hp->Prop),Inv X pins σ H s->t σ H Q->
  wpAny (model X.prog X.w) X.A (evalPart e X.env) (fun u s'=>∃o H',Inv X pins σ H' s'/\IsPart u o/\Q o H') X.xe s
noncomputable def tNoPart:TO:=fun _ H Q=>Q none H
section
variable {X:Cx} {e:Expr} {te:TE} {lo hi:Option Expr} {tl th:TO} {pos p2:Pos}
theorem po_none:PO X none tNoPart:=by
 intro pins s σ H Q I h
 rw[evalPart_none]
 exact wpAny_pure ⟨none,H,I,.none,h⟩
noncomputable def SlR (X:Cx) (r:V->Option Int->Option Int->Hp->VK->Prop):Prop:=
 ∀ (pins:List (Addr × Obj)) (s:Shared) (σ:St) (H:Hp) (x:V) (v vl vu:Value) (lo hi:Option Int) (sl:Addr) (Q:VK),Inv X pins σ H s->RelV x v->s.heap.IsSliceOf sl vl vu .none->IsPart vl lo->IsPart vu hi->r x lo hi H Q->
  ∃T id,typeLookup (.type T) "__getitem__" =pure (some (.builtin id))/\s.TypeIs v T/\wpAny (model X.prog X.w) X.A (getItem v (.ref sl)) (EP X pins σ Q) X.xe s
noncomputable def tSl (r:V->Option Int->Option Int->Hp->VK->Prop) (te:TE) (tl th:TO):TE:=fun σ H Q=>te σ H fun x H1=>tl σ H1 fun l H2=>th σ H2 fun u H3=>r x l u H3 Q
theorem pe_slice {r:V->Option Int->Option Int->Hp->VK->Prop} (hr:SlR X r) (he:PE X e te) (hl:PO X lo tl) (hu:PO X hi th):PE X (.Subscript e (.Slice lo hi none p2) pos) (tSl r te tl th):=by
 intro pins s σ H Q I h
 refine Subscript_ (thn (he pins s σ H _ I h) fun v s1 ⟨x,H1,I1,r1,q1⟩=>?_)
 refine wpAny_Slice (thn (hl pins s1 σ H1 _ I1 q1) fun vl s2 ⟨l,H2,I2,pl,q2⟩=>thn (hu pins s2 σ H2 _ I2 q2) fun vu s3 ⟨u,H3,I3,pu,q3⟩=>?_)
 rw[evalPart_none]
 refine wpAny_pure ?_
 have I4:Inv X pins σ H3 {s3 with heap:=s3.heap.push {cls:=.type "slice",data:=.fields #[vl,vu,.none]}}:=I3.kept (t':=s3.toks) fun b ob q=>Heap.get?_push_of_some _ q
 obtain⟨T,id,hT,ht,hg⟩:=hr pins {s3 with heap:=s3.heap.push {cls:=.type "slice",data:=.fields #[vl,vu,.none]}} σ H3 x v vl vu l u s3.heap.objs.size Q I4 r1 (Heap.IsSliceOf.new ..) pl pu q3
 show wpAny (model X.prog X.w) X.A (subscriptTail e (.Slice lo hi none p2) v (.ref s3.heap.objs.size)) (EP X pins σ Q) X.xe {s3 with heap:=s3.heap.push {cls:=.type "slice",data:=.fields #[vl,vu,.none]}}
 exact tail_any (ops:=[.ref s3.heap.objs.size,v]) ht hT hg (by with_unfolding_all rfl)
noncomputable def cutV (xs:List V) (lo hi:Option Int):List V:=(xs.drop (HT.sIx xs.length 0 lo)).take (HT.sIx xs.length xs.length hi - HT.sIx xs.length 0 lo)
theorem cutV_length (xs:List V) (lo hi:Option Int):(cutV xs lo hi).length<=xs.length:=by
 unfold cutV
 rw[List.length_take,List.length_drop]
 omega
noncomputable def rSlT (K:PySem.W.Frag):V->Option Int->Option Int->Hp->VK->Prop:=fun x lo hi H Q=>∃a xs,x=.ref a/\SqT K H a xs/\
 ¬ (HT.sIx xs.length 0 lo=0/\HT.sIx xs.length xs.length hi=xs.length)/\∀p,H p=none->Q (.ref p) (upd H p (.tup (cutV xs lo hi)))
theorem sl_tup:SlR X (rSlT X.K):=by
 intro pins s σ H x v vl vu lo hi sl Q I rx hs pl pu h
 obtain⟨a,xs,rfl,hx,hw,q⟩:=h
 cases rx
 obtain⟨its,r,ht,hz⟩:=I.tuple hx
 have hlen:its.toArray.size=xs.length:=by rw[List.size_toArray];exact r.length.symm
 refine⟨"tuple",_,PyProof.Rows.slot_tuple_getitem.lookup,ht.typeIs,?_⟩
 refine HT.getItem_tuple_cut ht hs pl pu (by rw[hlen];exact hw) ?_ (by rw[hlen];exact hz)
 rw[hlen]
 refine⟨.ref s.heap.objs.size,_,I.laid (t':=s.toks) (o:=.tup (cutV xs lo hi)) (fun b ob q=>Heap.get?_push_of_some _ q) (Nat.le_refl _) ?_,rfl,q _ (I.hok.fresh (Nat.le_refl _))⟩
 exact⟨Nat.le_trans (cutV_length xs lo hi) hz,_,(r.drop (HT.sIx xs.length 0 lo)).take (HT.sIx xs.length xs.length hi - HT.sIx xs.length 0 lo),IsTup.new _ _⟩
noncomputable def rCatT (K:PySem.W.Frag):R2:=fun x y H Q=>∃a b xs ys,x=.ref a/\y=.ref b/\SqT K H a xs/\SqT K H b ys/\xs ≠ []/\xs.length + ys.length<=sizeLine/\
 (ys=[]->Q (.ref a) H)/\(ys ≠ []->∀p,H p=none->Q (.ref p) (upd H p (.tup (xs++ys))))
theorem Vals.nil_iff {xs:List V} {us:List Value} (r:Vals xs us):us=[] ↔ xs=[]:=by
 cases r with
 | nil=>simp
 | cons _ _=>simp
theorem op_catT:OpR X (binaryOp .Add) (rCatT X.K):=by
 intro pins s σ H x y v u Q I rx ry h
 obtain⟨a,b,xs,ys,rfl,rfl,ha,hb,hx,hz,q1,q2⟩:=h
 cases rx
 cases ry
 obtain⟨its,r1,p1,_⟩:=I.tuple ha
 obtain⟨its2,r2,p2,_⟩:=I.tuple hb
 refine HT.cat_tup p1 p2 (fun z=>hx (r1.nil_iff.mp z)) (fun z=>⟨.ref a,H,I,rfl,q1 (r2.nil_iff.mp z)⟩) (fun z=>?_) (by rw[<-r1.length,<-r2.length];exact hz)
 refine⟨.ref s.heap.objs.size,_,I.laid (t':=s.toks) (o:=.tup (xs++ys)) (fun b ob q=>Heap.get?_push_of_some _ q) (Nat.le_refl _) ?_,rfl,q2 (fun w=>z (r2.nil_iff.mpr w)) _ (I.hok.fresh (Nat.le_refl _))⟩
 exact⟨by rw[List.length_append];exact hz,_,r1.append r2,IsTup.new _ _⟩
end
end L2
namespace L2
open PySem PySem.Spec PyProof.Rows
noncomputable def ixN (n:Nat) (i:Int):Option Nat:=if 0<=i then(if i < n then some i.toNat else none)else if -(n:Int)<=i then some (i + n).toNat else none
noncomputable def atI {α:Type} (xs:List α) (i:Int):Option α:=(ixN xs.length i).bind fun j=>xs[j]?
theorem ixN_seq {n:Nat} {i:Int} {j:Nat} (h:ixN n i=some j):seqIndex? i n=some j/\j < n/\-(n:Int)<=i/\i < n:=by
 unfold ixN at h
 by_cases h0:0<=i
 ·rw[if_pos h0]at h
  by_cases h1:i < n
  ·rw[if_pos h1]at h
   have e:i.toNat=j:=Option.some.inj h
   exact⟨by rw[seqIndex_of h0 h1,e],by omega,by omega,h1⟩
  ·rw[if_neg h1]at h;cases h
 ·rw[if_neg h0]at h
  by_cases h1: -(n:Int)<=i
  ·rw[if_pos h1]at h
   have e:(i + n).toNat=j:=Option.some.inj h
   exact⟨by rw[seqIndex_neg (by omega) h1,e],by omega,h1,by omega⟩
  ·rw[if_neg h1]at h;cases h
theorem atI_get {α:Type} {xs:List α} {i:Int} {v:α} (h:atI xs i=some v):∃j,seqIndex? i xs.length=some j/\xs[j]?=some v/\j < xs.length/\-(xs.length:Int)<=i/\i < xs.length:=by
 unfold atI at h
 cases e:ixN xs.length i with
 | none=>rw[e]at h;cases h
 | some j=>
  rw[e]at h
  obtain⟨h1,h2,h3,h4⟩:=ixN_seq e
  exact⟨j,h1,h,h2,h3,h4⟩
noncomputable def PlainIx (b:Expr):Prop:=∀o i,subscripted b false o i=operate [o,i] (getItem o i)
noncomputable def IxR (X:Cx) (r:R2):Prop:=
 ∀ (value slice:Expr) (pins:List (Addr × Obj)) (s:Shared) (σ:St) (H:Hp) (x y:V) (v u:Value) (Q:VK),Inv X pins σ H s->RelV x v->RelV y u->r x y H Q->
  subscripted slice false v u=operate [v,u] (getItem v u)->wpAny (model X.prog X.w) X.A (subscriptTail value slice v u) (EP X pins σ Q) X.xe s
noncomputable def MtR (X:Cx) (id:String) (r:V->List V->Hp->VK->Prop):Prop:=
 ∀ (pins:List (Addr × Obj)) (s:Shared) (σ:St) (H:Hp) (x:V) (xs:List V) (v:Value) (us:List Value) (Q:VK),Inv X pins σ H s->RelV x v->Vals xs us->r x xs H Q->
  wpAny (model X.prog X.w) X.A (call (.builtin id) (v::us)) (EP X pins σ Q) X.xe s
section
variable {X:Cx} {a b:Expr} {ta tb:TE} {pos:Pos}
theorem IxR.or {r r':R2} (h:IxR X r) (h':IxR X r'):IxR X (fun x y H Q=>r x y H Q\/r' x y H Q):=by
 intro value slice pins s σ H x y v u Q I rx ry q hs
 rcases q with q | q
 ·exact h value slice pins s σ H x y v u Q I rx ry q hs
 ·exact h' value slice pins s σ H x y v u Q I rx ry q hs
theorem pe_ix {r:R2} (hr:IxR X r) (ha:PE X a ta) (hb:PE X b tb) (hs:PlainIx b):PE X (.Subscript a b pos) (tOp r ta tb):=by
 intro pins s σ H Q I h
 exact Subscript_ (binT ha hb I h fun v u s2 x y H2 I2 rx ry q=>hr a b pins s2 σ H2 x y v u Q I2 rx ry q (hs _ _))
noncomputable def rIxL (K:PySem.W.Frag):R2:=fun x y H Q=>∃p xs i v,x=.ref p/\y=.int i/\SqL K H p xs/\atI xs i=some v/\Q v H
noncomputable def rIxT (K:PySem.W.Frag):R2:=fun x y H Q=>∃p xs i v,x=.ref p/\y=.int i/\SqT K H p xs/\atI xs i=some v/\Q v H
noncomputable def rIxS:R2:=fun x y H Q=>∃z i c,x=.str z/\y=.int i/\z.length<=sizeLine/\atI z.cps.toList i=some c/\Q (.str ⟨#[c]⟩) H
theorem ix_list:IxR X (rIxL X.K):=by
 intro value slice pins s σ H x y v u Q I rx ry h hs
 obtain⟨p,xs,i,z,rfl,rfl,hq,he,q⟩:=h
 cases rx
 obtain⟨t,rfl⟩:=ry
 obtain⟨its,r,pl,hz⟩:=I.list hq
 obtain⟨j,h1,h2,h3,h4,h5⟩:=atI_get he
 obtain⟨w,ew,rw'⟩:=r.get h2
 have hl:=r.length
 have hn:=line63
 have fin:EP X pins σ Q w s:=⟨z,H,I,rw',q⟩
 by_cases h0:0<=i
 ·have hj:i.toNat=j:=by
   rw[seqIndex_of h0 h5]at h1
   exact Option.some.inj h1
  exact item_listR pl.isList h0 (by omega) (by rw[hj];simpa using ew) fin hs
 ·have hj:(i + (its.toArray.size:Int)).toNat=j:=by
   rw[seqIndex_neg (by omega) h4]at h1
   rw[List.size_toArray,<-hl]
   exact Option.some.inj h1
  exact subscriptTail_builtinR (x:=w) pl.isList.typeIs slot_list_getitem.lookup
   (wpAny_getItem_list_neg (Q:=fun r s'=>r=w/\EP X pins σ Q r s') pl.isList (by omega) (by rw[List.size_toArray]<;>omega) (by omega) (by rw[hj];simpa using ew) ⟨rfl,fin⟩) hs
theorem ix_tup:IxR X (rIxT X.K):=by
 intro value slice pins s σ H x y v u Q I rx ry h hs
 obtain⟨p,xs,i,z,rfl,rfl,hq,he,q⟩:=h
 cases rx
 obtain⟨t,rfl⟩:=ry
 obtain⟨its,r,pl,hz⟩:=I.tuple hq
 obtain⟨j,h1,h2,h3,h4,h5⟩:=atI_get he
 obtain⟨w,ew,rw'⟩:=r.get h2
 have hl:=r.length
 have hn:=line63
 have fin:EP X pins σ Q w s:=⟨z,H,I,rw',q⟩
 exact subscriptTail_builtinR (x:=w) pl.typeIs slot_tuple_getitem.lookup
  (getItem_tuple (j:=j) (Q:=fun r s'=>r=w/\EP X pins σ Q r s') pl (by omega) (by omega) (by rw[List.size_toArray,<-hl];exact h1) (by simpa using ew) ⟨rfl,fin⟩) hs
theorem ix_str:IxR X rIxS:=by
 intro value slice pins s σ H x y v u Q I rx ry h hs
 obtain⟨z,i,c,rfl,rfl,hz,he,q⟩:=h
 obtain⟨t,rfl⟩:=rx
 obtain⟨t',rfl⟩:=ry
 obtain⟨j,h1,h2,h3,h4,h5⟩:=atI_get he
 have hl:z.cps.toList.length=z.length:=by simp[Str.length]
 rw[hl]at h1 h4 h5
 have hn:=line63
 exact tail_any (typeIs_str s z t) slot_str_getitem.lookup (getItem_str (c:=c) (by
  have e1:decide (i < -(2 ^ 63:Int))=false:=decide_eq_false (by omega)
  have e2:decide (i ≥ 2 ^ 63)=false:=decide_eq_false (by omega)
  rw[e1,e2,Bool.or_false]) (by rw[h1];simpa using h2) ⟨.str ⟨#[c]⟩,H,I.tok _,⟨_,rfl⟩,q⟩) hs
noncomputable def rIx (K:PySem.W.Frag):R2:=fun x y H Q=>rIxL K x y H Q\/rIxT K x y H Q\/rIxS x y H Q
theorem ix_seq:IxR X (rIx X.K):=ix_list.or (ix_tup.or ix_str)
theorem mapSeq_set (its:List Value) (n j:Nat) (u:Value):Obj.mapSeq (·.setIfInBounds j u) {cls:=.type "list",data:=.seq its.toArray n}={cls:=.type "list",data:=.seq (its.set j u).toArray n}:=by
 simp[Obj.mapSeq]
theorem Inv.lst {pins:List (Addr × Obj)} {σ:St} {H:Hp} {s:Shared} {p:Addr} {xs:List V} (I:Inv X pins σ H s) (h:H p=some (.lst xs)):
  ∃ (its:List Value) (n:Nat),Vals xs its/\s.heap.get? p=some {cls:=.type "list",data:=.seq its.toArray n}/\xs.length<=sizeLine:=by
 obtain⟨z,its,n,r,e⟩:=I.hok p _ h
 exact⟨its,n,r,e,z⟩
theorem Inv.lstUpd {pins:List (Addr × Obj)} {σ:St} {H:Hp} {s:Shared} {p:Addr} {xs ys:List V} {its its':List Value} {n n':Nat} {f:Obj->Obj} (I:Inv X pins σ H s) (h:H p=some (.lst xs))
  (ho:s.heap.get? p=some {cls:=.type "list",data:=.seq its.toArray n}) (hf:f {cls:=.type "list",data:=.seq its.toArray n}={cls:=.type "list",data:=.seq its'.toArray n'}) (r:Vals ys its') (hz:ys.length<=sizeLine) (t:Nat):
  Inv X pins σ (upd H p (.lst ys)) {s with heap:=s.heap.update p f,toks:=t}:=by
 have e:(s.heap.update p f).get? p=some {cls:=.type "list",data:=.seq its'.toArray n'}:=by
  rw[Heap.get?_update_self f ho (by rw[hf]<;>rfl),hf]
 refine I.write (x:=p) (e:=p) (by rw[h];trivial) (.inl rfl) (fun b u hb q=>(Heap.get?_update_other _ _ (Ne.symm hb)).trans q) ⟨_,e⟩ ?_
 exact⟨hz,its',n',r,e⟩
noncomputable def rSetL:V->V->V->Hp->(Hp->Prop)->Prop:=fun o i v H Q=>∃p xs k j,o=.ref p/\i=.int k/\H p=some (.lst xs)/\ixN xs.length k=some j/\Q (upd H p (.lst (xs.set j v)))
theorem set_list:PSet X rSetL:=by
 intro pins s σ H o i v ov iv u Q I ro ri rv h
 obtain⟨p,xs,k,j,rfl,rfl,hp,hj,q⟩:=h
 cases ro
 obtain⟨t,rfl⟩:=ri
 obtain⟨its,n,r,ho,hz⟩:=I.lst hp
 obtain⟨h1,h2,h3,h4⟩:=ixN_seq hj
 have hl:=r.length
 have hn:=line63
 have I':Inv X pins σ (upd H p (.lst (xs.set j v))) {s with heap:=s.heap.update p (Obj.mapSeq (·.setIfInBounds j u))}:=
  I.lstUpd hp ho (mapSeq_set its n j u) (r.set rv j) (by rw[List.length_set];exact hz) s.toks
 by_cases h0:0<=k
 ·have hk:k.toNat=j:=by
   rw[seqIndex_of h0 h4]at h1
   exact Option.some.inj h1
  exact PySem.W.ki_setAt ho h0 (by omega) (by rw[List.size_toArray,<-hl];exact h4) (by rw[hk];exact⟨_,I',q⟩)
 ·have hk:(k + (its.toArray.size:Int)).toNat=j:=by
   rw[seqIndex_neg (by omega) h3]at h1
   rw[List.size_toArray,<-hl]
   exact Option.some.inj h1
  exact PySem.W.ki_setBack ho (by omega) (by rw[List.size_toArray,<-hl];exact h3) (by omega) (by rw[hk];exact⟨_,I',q⟩)
theorem slice_bounds (lo hi:Option Int) (n:Nat):(sliceBounds lo hi none n).1=((HT.sIx n 0 lo:Nat):Int)/\(sliceBounds lo hi none n).2.1=((HT.sIx n n hi:Nat):Int)/\(sliceBounds lo hi none n).2.2=1:=by
 refine⟨?_,?_,rfl⟩
 ·cases lo with
  | none=>simp[sliceBounds,HT.sIx]
  | some i=>
   simp only[sliceBounds,HT.sIx,Option.getD_none,show(1:Int) > 0 by decide,if_true]
   by_cases h:i < 0
   ·simp only[h,if_true]<;>omega
   ·simp only[h,if_false]<;>omega
 ·cases hi with
  | none=>simp[sliceBounds,HT.sIx]
  | some i=>
   simp only[sliceBounds,HT.sIx,Option.getD_none,show(1:Int) > 0 by decide,if_true]
   by_cases h:i < 0
   ·simp only[h,if_true]<;>omega
   ·simp only[h,if_false]<;>omega
theorem slicePick_cut (its:List Value) (lo hi:Option Int):slicePick its.toArray lo hi none=((its.drop (HT.sIx its.length 0 lo)).take (HT.sIx its.length its.length hi - HT.sIx its.length 0 lo)).toArray:=by
 obtain⟨h1,h2,h3⟩:=slice_bounds lo hi its.toArray.size
 unfold slicePick
 rw[h1,h2,h3]
 simp only[sliceRange_one,pick_run,List.size_toArray]<;>rfl
noncomputable def rSlL (K:PySem.W.Frag):V->Option Int->Option Int->Hp->VK->Prop:=fun x lo hi H Q=>∃a xs,x=.ref a/\SqL K H a xs/\∀p,H p=none->Q (.ref p) (upd H p (.lst (cutV xs lo hi)))
theorem sl_list:SlR X (rSlL X.K):=by
 intro pins s σ H x v vl vu lo hi sl Q I rx hs pl pu h
 obtain⟨a,xs,rfl,hx,q⟩:=h
 cases rx
 obtain⟨its,r,ht,hz⟩:=I.list hx
 have hlen:=r.length
 refine⟨"list",_,slot_list_getitem.lookup,ht.isList.typeIs,?_⟩
 refine wpAny_getItem_list_slice ht.isList hs pl pu .none (by simp) ?_ (by rw[List.size_toArray]<;>omega)
 rw[slicePick_cut,<-hlen]
 refine⟨.ref s.heap.objs.size,_,I.laid (t':=s.toks) (o:=.lst (cutV xs lo hi)) (fun b ob q=>Heap.get?_push_of_some _ q) (Nat.le_refl _) ?_,rfl,q _ (I.hok.fresh (Nat.le_refl _))⟩
 exact⟨Nat.le_trans (cutV_length xs lo hi) hz,_,0,(r.drop (HT.sIx xs.length 0 lo)).take (HT.sIx xs.length xs.length hi - HT.sIx xs.length 0 lo),Heap.get?_push_size _ rfl⟩
noncomputable def flatV:V->Bool
 | .non=>true
 | .bl _=>true
 | .int _=>true
 | .str _=>true
 | _=>false
noncomputable def eqV:V->V->Bool
 | .non,.non=>true
 | .bl a,.bl b=>a == b
 | .bl a,.int b=>(if a then 1 else 0) == b
 | .int a,.bl b=>a == (if b then 1 else 0)
 | .int a,.int b=>a == b
 | .str a,.str b=>a == b
 | _,_=>false
theorem eqAt_V {A:Around} {s:Shared} {y x:V} {u v:Value} (ry:RelV y u) (rx:RelV x v) (fy:flatV y=true) (fx:flatV x=true):SeqAt.EqAt A s u v (eqV y x):=by
 cases y with
 | non=>
  cases ry
  cases x with
  | non=>cases rx;exact SeqAt.EqAt.same _
  | bl b=>cases rx;exact SeqAt.EqAt.none_bool b
  | int b=>obtain⟨t,rfl⟩:=rx;exact SeqAt.EqAt.none_int b t
  | str b=>obtain⟨t,rfl⟩:=rx;exact SeqAt.EqAt.none_str b t
  | _=>exact absurd (show false=true from fx) Bool.false_ne_true
 | bl a=>
  cases ry
  cases x with
  | non=>cases rx;exact SeqAt.EqAt.bool_none a
  | bl b=>cases rx;exact SeqAt.EqAt.bool_bool a b
  | int b=>obtain⟨t,rfl⟩:=rx;exact SeqAt.EqAt.bool_int a b t
  | str b=>obtain⟨t,rfl⟩:=rx;exact SeqAt.EqAt.bool_str a b t
  | _=>exact absurd (show false=true from fx) Bool.false_ne_true
 | int a=>
  obtain⟨t',rfl⟩:=ry
  cases x with
  | non=>cases rx;exact SeqAt.EqAt.int_none a t'
  | bl b=>cases rx;exact SeqAt.EqAt.int_bool a t' b
  | int b=>obtain⟨t,rfl⟩:=rx;exact SeqAt.EqAt.int_int a t' b t
  | str b=>obtain⟨t,rfl⟩:=rx;exact SeqAt.EqAt.int_str a t' b t
  | _=>exact absurd (show false=true from fx) Bool.false_ne_true
 | str a=>
  obtain⟨t',rfl⟩:=ry
  cases x with
  | non=>cases rx;exact SeqAt.EqAt.str_none a t'
  | bl b=>cases rx;exact SeqAt.EqAt.str_bool a t' b
  | int b=>obtain⟨t,rfl⟩:=rx;exact SeqAt.EqAt.str_int a t' b t
  | str b=>obtain⟨t,rfl⟩:=rx;exact SeqAt.EqAt.str_str a t' b t
  | _=>exact absurd (show false=true from fx) Bool.false_ne_true
 | _=>exact absurd (show false=true from fy) Bool.false_ne_true
noncomputable def eqU (x:V) (u:Value):Bool:=match u with
 | .none=>eqV .non x
 | .bool b=>eqV (.bl b) x
 | .int i _=>eqV (.int i) x
 | .str z _=>eqV (.str z) x
 | _=>false
theorem eqU_of {x y:V} {u:Value} (r:RelV y u) (f:flatV y=true):eqU x u=eqV y x:=by
 cases y with
 | non=>cases r;rfl
 | bl b=>cases r;rfl
 | int i=>obtain⟨t,rfl⟩:=r;rfl
 | str z=>obtain⟨t,rfl⟩:=r;rfl
 | _=>exact absurd (show false=true from f) Bool.false_ne_true
theorem any_eqU {x:V}:∀ {xs:List V} {us:List Value},Vals xs us->xs.all flatV=true->us.any (eqU x)=xs.any fun y=>eqV y x
 | _,_,.nil,_=>rfl
 | y::xs,u::us,.cons r t,f=>by
  rw[List.all_cons,Bool.and_eq_true]at f
  rw[List.any_cons,List.any_cons,eqU_of r f.1,any_eqU t f.2]
theorem mem_eqAt {A:Around} {s:Shared} {x:V} {v:Value} (rx:RelV x v) (fx:flatV x=true):∀ {xs:List V} {us:List Value},Vals xs us->xs.all flatV=true->∀u ∈ us,SeqAt.EqAt A s u v (eqU x u)
 | _,_,.nil,_=>fun u hu=>by cases hu
 | y::xs,u::us,.cons r t,f=>fun u' hu=>by
  rw[List.all_cons,Bool.and_eq_true]at f
  rcases List.mem_cons.mp hu with rfl | hu
  ·rw[eqU_of r f.1];exact eqAt_V r rx f.1 fx
  ·exact mem_eqAt rx fx t f.2 u' hu
noncomputable def inV (x:V) (xs:List V):Bool:=xs.any fun y=>eqV y x
noncomputable def rIn (K:PySem.W.Frag) (neg:Bool):R2:=fun x y H Q=>∃p xs,y=.ref p/\(SqL K H p xs\/SqT K H p xs)/\flatV x=true/\xs.all flatV=true/\Q (.bl (if neg then !inV x xs else inV x xs)) H
theorem op_in_seq:OpR X (compareOp .In) (rIn X.K false):=by
 intro pins s σ H x y v u Q I rx ry h
 obtain⟨p,xs,rfl,hq,fx,fs,q⟩:=h
 cases ry
 rcases hq with hq | hq
 ·obtain⟨its,r,pl,hz⟩:=I.list hq
  refine SeqAt.in_listAt (eqU x) pl.isList (fun w hw=>mem_eqAt rx fx r fs w (by simpa using hw)) ⟨.bl _,H,I,rfl,?_⟩
  rw[show its.toArray.any (eqU x)=its.any (eqU x) by simp,any_eqU r fs]
  exact q
 ·obtain⟨its,r,pl,hz⟩:=I.tuple hq
  refine SeqAt.in_tupleAt (eqU x) pl (fun w hw=>mem_eqAt rx fx r fs w (by simpa using hw)) ⟨.bl _,H,I,rfl,?_⟩
  rw[show its.toArray.any (eqU x)=its.any (eqU x) by simp,any_eqU r fs]
  exact q
theorem op_notIn_seq:OpR X (compareOp .NotIn) (rIn X.K true):=by
 intro pins s σ H x y v u Q I rx ry h
 obtain⟨p,xs,rfl,hq,fx,fs,q⟩:=h
 cases ry
 rcases hq with hq | hq
 ·obtain⟨its,r,pl,hz⟩:=I.list hq
  refine SeqAt.notIn_listAt (eqU x) pl.isList (fun w hw=>mem_eqAt rx fx r fs w (by simpa using hw)) ⟨.bl _,H,I,rfl,?_⟩
  rw[show its.toArray.any (eqU x)=its.any (eqU x) by simp,any_eqU r fs]
  exact q
 ·obtain⟨its,r,pl,hz⟩:=I.tuple hq
  refine SeqAt.notIn_tupleAt (eqU x) pl (fun w hw=>mem_eqAt rx fx r fs w (by simpa using hw)) ⟨.bl _,H,I,rfl,?_⟩
  rw[show its.toArray.any (eqU x)=its.any (eqU x) by simp,any_eqU r fs]
  exact q
theorem call_len_seq:CallR X (.builtin "len") (fun xs H Q=>∃p ys,xs=[.ref p]/\(SqL X.K H p ys\/SqT X.K H p ys)/\Q (.int ys.length) H):=by
 intro pins s σ H xs us Q I r h
 obtain⟨p,ys,rfl,hq,q⟩:=h
 obtain⟨u,rfl,rx⟩:=vals1 r
 cases rx
 have hn:=line63
 rcases hq with hq | hq
 ·obtain⟨its,r',pl,hz⟩:=I.list hq
  have hlen:=r'.length
  exact Calls.call_len_list pl.isList (by simp only[List.size_toArray]<;>omega) ⟨.int ys.length,H,I.tok _,⟨s.toks + 1,by rw[List.size_toArray,hlen]⟩,q⟩
 ·obtain⟨its,r',pl,hz⟩:=I.tuple hq
  have hlen:=r'.length
  exact len_tuple pl (by simp only[List.size_toArray]<;>omega) ⟨.int ys.length,H,I.tok _,⟨s.toks + 1,by rw[List.size_toArray,hlen]⟩,q⟩
theorem call_len_str:CallR X (.builtin "len") (fun xs H Q=>∃z,xs=[.str z]/\z.length<=sizeLine/\Q (.int z.length) H):=by
 intro pins s σ H xs us Q I r h
 obtain⟨z,rfl,hz,q⟩:=h
 obtain⟨u,rfl,t,rfl⟩:=vals1 r
 have hn:=line63
 exact len_str (by omega) ⟨.int z.length,H,I.tok _,⟨_,rfl⟩,q⟩
theorem call_list_of:CallR X (.type "list") (fun xs H Q=>∃p ys,xs=[.ref p]/\(SqL X.K H p ys\/SqT X.K H p ys)/\∀l,H l=none->Q (.ref l) (upd H l (.lst ys))):=by
 intro pins s σ H xs us Q I r h
 obtain⟨p,ys,rfl,hq,q⟩:=h
 obtain⟨u,rfl,rx⟩:=vals1 r
 cases rx
 have fin:∀ (its:List Value),Vals ys its->ys.length<=sizeLine->∀ (h':Heap) (c':Nat),(∀ b o',s.heap.get? b=some o'->h'.get? b=some o')->
   h'.get? s.heap.objs.size=some {cls:=.type "list",dict:=none,data:=.seq its.toArray c',slots:=#[]}->EP X pins σ Q (.ref s.heap.objs.size) {s with heap:=h'}:=fun its r' hz h' c' kp e=>
  ⟨.ref s.heap.objs.size,_,I.laid (t':=s.toks) kp (Nat.le_refl _) (show ObjOk X.prog X.w _ h' _ (.lst ys)from⟨hz,its,c',r',e⟩),rfl,q _ (I.hok.fresh (Nat.le_refl _))⟩
 rcases hq with hq | hq
 ·obtain⟨its,r',pl,hz⟩:=I.list hq
  have hlen:=r'.length
  obtain⟨o,ho,hc,n,hd⟩:=pl.isList
  exact call_list_seq p (.inl rfl) ho hc hd (fun h' c' kp e=>fin its r' hz h' c' kp e) (by simp only[List.size_toArray]<;>omega)
 ·obtain⟨its,r',pl,hz⟩:=I.tuple hq
  have hlen:=r'.length
  obtain⟨o,ho,hc,n,hd⟩:=pl
  exact call_list_seq p (.inr rfl) ho hc hd (fun h' c' kp e=>fin its r' hz h' c' kp e) (by simp only[List.size_toArray]<;>omega)
noncomputable def tyV (K:PySem.W.Frag) (T:String) (x:V) (H:Hp):Prop:=match x with
 | .str _=>T= "str"
 | .int _=>T= "int"
 | .ref p=>(T= "list" /\∃xs,SqL K H p xs)\/(T= "tuple" /\∃o,K.lookup p=some o/\o.cls=.type "tuple" /\o.dict=none)\/
   (T= "dict" /\((∃ kvs,H p=some (.dK kvs))\/∃kvs,H p=some (.dT kvs)))\/(T= "set" /\∃S n,H p=some (.set S n))
 | _=>False
theorem tyV_is {pins:List (Addr × Obj)} {σ:St} {H:Hp} {s:Shared} {T:String} {x:V} {v:Value} (I:Inv X pins σ H s) (r:RelV x v) (ty:tyV X.K T x H):
  s.TypeIs v T/\∀a,v=.ref a->∃ob,s.heap.get? a=some ob/\ob.dict=none:=by
 cases x with
 | str z=>
  obtain⟨t,rfl⟩:=r
  cases (show T= "str" from ty)
  exact⟨typeIs_str s z t,fun _ e=>nomatch e⟩
 | int i=>
  obtain⟨t,rfl⟩:=r
  cases (show T= "int" from ty)
  exact⟨typeIs_int s i t,fun _ e=>nomatch e⟩
 | ref p=>
  cases r
  rcases ty with ⟨rfl,xs,hq⟩ | ⟨rfl,o,hk,hc,hd⟩ | ⟨rfl,hk⟩ | ⟨rfl,S,n,hk⟩
  ·obtain⟨its,_,pl,_⟩:=I.list hq
   refine⟨pl.isList.typeIs,fun a e=>?_⟩
   cases e
   obtain⟨o,n,e,c,hd,_⟩:=pl
   exact⟨o,e,hd⟩
  ·refine⟨⟨o,I.kIn p o hk,hc⟩,fun a e=>?_⟩
   cases e
   exact⟨o,I.kIn _ o hk,hd⟩
  ·have z:∃o,s.heap.get? p=some o/\o.ExactDict:=by
    rcases hk with ⟨kvs,hk⟩ | ⟨kvs,hk⟩
    ·obtain⟨_,_,_,_,o,_,_,e,ex,_⟩:=I.hok p _ hk
     exact⟨o,e,ex⟩
    ·obtain⟨_,_,_,_,o,_,_,e,ex,_⟩:=I.hok p _ hk
     exact⟨o,e,ex⟩
   obtain⟨o,e,ex⟩:=z
   refine⟨⟨o,e,ex.1⟩,fun a e2=>?_⟩
   cases e2
   exact⟨o,e,ex.2.1⟩
  ·obtain⟨o,_,_,_,e,ex,_⟩:=I.hok p _ hk
   refine⟨⟨o,e,ex.1⟩,fun a e2=>?_⟩
   cases e2
   exact⟨o,e,ex.2.1⟩
 | _=>exact False.elim ty
variable {o e:Expr} {es:List Expr} {to:TE} {t:TA} {name:Str} {apos cpos:Pos} {T id:String} {r:V->List V->Hp->VK->Prop}
end
end L2
namespace L2
open PySem PySem.Spec PyProof.Rows
noncomputable def MtM (X:Cx) (id:String) (r:V->List V->Hp->VK->Prop):Prop:=
 ∀ (pins:List (Addr × Obj)) (s:Shared) (σ:St) (H:Hp) (x:V) (xs:List V) (v:Value) (us:List Value) (Q:VK),Inv X pins σ H s->RelV x v->Vals xs us->r x xs H Q->
  wpAny (model X.prog X.w) X.A (call (.builtin id) (v::us)) (EP X pins σ Q) X.xe s
theorem Vals.one:∀ {x:V} {us:List Value},Vals [x] us->∃u,us=[u]/\RelV x u
 | _,_,.cons r .nil=>⟨_,rfl,r⟩
theorem Vals.two:∀ {x y:V} {us:List Value},Vals [x,y] us->∃u v,us=[u,v]/\RelV x u/\RelV y v
 | _,_,_,.cons r (.cons q .nil)=>⟨_,_,rfl,r,q⟩
theorem Vals.zero:∀ {us:List Value},Vals [] us->us=[]
 | _,.nil=>rfl
theorem Vals.eraseIdx:∀ {xs:List V} {us:List Value} (i:Nat),Vals xs us->Vals (xs.eraseIdx i) (us.eraseIdx i)
 | _,_,_,.nil=>.nil
 | _,_,0,.cons _ t=>t
 | _,_,i + 1,.cons r t=>.cons r (Vals.eraseIdx i t)
theorem Vals.reverse {xs:List V} {us:List Value} (h:Vals xs us):Vals xs.reverse us.reverse:=by
 induction h with
 | nil=>exact .nil
 | cons r t ih=>rw[List.reverse_cons,List.reverse_cons];exact Vals.append ih (.cons r .nil)
theorem Vals.rep {xs:List V} {us:List Value} (h:Vals xs us):∀k:Nat,Vals (List.replicate k xs).flatten (List.replicate k us).flatten
 | 0=>.nil
 | k + 1=>by
  rw[List.replicate_succ,List.replicate_succ,List.flatten_cons,List.flatten_cons]
  exact Vals.append h (Vals.rep h k)
theorem foldl_rep (its:List Value):∀ (k:Nat) (acc:List Value),
  List.foldl (fun x1 x2=>x1++x2) acc.toArray (List.replicate k its.toArray)=(acc++(List.replicate k its).flatten).toArray
 | 0,acc=>by simp
 | k + 1,acc=>by
  have e:acc.toArray++its.toArray=(acc++its).toArray:=by simp
  have e2:(acc++its)++(List.replicate k its).flatten=acc++(List.replicate (k + 1) its).flatten:=by
   rw[List.replicate_succ,List.flatten_cons,List.append_assoc]
  rw[<-e2,<-foldl_rep its k (acc++its),<-e,List.replicate_succ,List.foldl_cons]
section
variable {X:Cx} {pins:List (Addr × Obj)} {σ:St} {H:Hp} {s:Shared} {l b:Addr} {xs ys zs:List V}
theorem Inv.lset {its its':List Value} {n:Nat} {f:Array Value->Array Value} {t':Nat} (I:Inv X pins σ H s) (hH:H l=some (.lst xs))
  (e:s.heap.get? l=some {cls:=.type "list",data:=.seq its.toArray n}) (hf:f its.toArray=its'.toArray) (hv:Vals ys its') (hz:ys.length<=sizeLine):
  Inv X pins σ (upd H l (.lst ys)) {s with heap:=s.heap.update l (Obj.mapSeq f),toks:=t'}:=by
 have q:=PySem.IsL.update e f
 rw[hf]at q
 refine I.write (x:=l) (e:=l) (by rw[hH];exact trivial) (.inl rfl) (fun b' u hb hu=>(Heap.get?_update_other s.heap (Obj.mapSeq f) (Ne.symm hb)).trans hu) ⟨_,q⟩ ?_
 exact⟨hz,its',_,hv,q⟩
theorem Inv.lnew {its:List Value} {t':Nat} (I:Inv X pins σ H s) (hv:Vals ys its) (hz:ys.length<=sizeLine):
  Inv X pins σ (upd H s.heap.objs.size (.lst ys)) {s with heap:=s.heap.push {cls:=.type "list",data:=.seq its.toArray},toks:=t'}:=
 I.laid (fun _ _ q=>Heap.get?_push_of_some _ q) (Nat.le_refl _) ⟨hz,its,0,hv,Heap.get?_push_size _ rfl⟩
theorem Inv.fresh (I:Inv X pins σ H s):H s.heap.objs.size=none:=I.hok.fresh (Nat.le_refl _)
theorem Inv.lstM (I:Inv X pins σ H s) (hH:H l=some (.lst xs)):xs.length<=sizeLine/\∃ (its:List Value) (n:Nat),Vals xs its/\xs.length=its.length/\s.heap.get? l=some {cls:=.type "list",data:=.seq its.toArray n}:=by
 obtain⟨z,its,n,r,e⟩:=I.hok l _ hH
 exact⟨z,its,n,r,r.length,e⟩
theorem notLongL {n:Nat} (h:n<=sizeLine):Builtin.List.listTooLong n=false:=by
 unfold Builtin.List.listTooLong
 exact decide_eq_false (by omega)
end
section
variable {X:Cx}
noncomputable def rAppend:V->List V->Hp->VK->Prop:=fun x vs H Q=>∃l xs y,x=.ref l/\vs=[y]/\H l=some (.lst xs)/\xs.length < sizeLine/\Q .non (upd H l (.lst (xs++[y])))
theorem mt_append:MtM X "list.append" rAppend:=by
 intro pins s σ H x vs v us Q I rx rv h
 obtain⟨l,xs,y,rfl,rfl,hH,hz,q⟩:=h
 cases rx
 obtain⟨u,rfl,ru⟩:=rv.one
 obtain⟨z,its,n,r,hl,e⟩:=I.lstM hH
 refine call_meets F.slot_list_append ⟨_,e,rfl⟩ F.entry_list_append (F.args_list_append_2 _ _) (PySem.list_append l its.toArray n u (by rw[List.size_toArray];omega)) ⟨e,?_⟩
 refine⟨.non,_,I.lset (its':=its++[u]) hH e (by simp) (r.append (.cons ru .nil)) ?_,rfl,q⟩
 rw[List.length_append,List.length_singleton]
 omega
noncomputable def rExtend:V->List V->Hp->VK->Prop:=fun x vs H Q=>∃l b xs zs,x=.ref l/\vs=[.ref b]/\H l=some (.lst xs)/\H b=some (.lst zs)/\xs.length + zs.length<=sizeLine/\Q .non (upd H l (.lst (xs++zs)))
theorem mt_extend:MtM X "list.extend" rExtend:=by
 intro pins s σ H x vs v us Q I rx rv h
 obtain⟨l,b,xs,zs,rfl,rfl,hH,hB,hz,q⟩:=h
 cases rx
 obtain⟨u,rfl,ru⟩:=rv.one
 cases ru
 obtain⟨z,its,n,r,hl,e⟩:=I.lstM hH
 obtain⟨z2,its2,n2,r2,hl2,e2⟩:=I.lstM hB
 have hsz:its.toArray.size + its2.toArray.size<=sizeLine:=by rw[List.size_toArray,List.size_toArray];omega
 have hlong:¬ (!its.toArray.isEmpty && Builtin.List.listTooLong (its.toArray.size + its2.toArray.size))=true:=by
  rw[notLongL hsz,Bool.and_false]
  exact Bool.false_ne_true
 refine call_meets F.slot_list_extend ⟨_,e,rfl⟩ F.entry_list_extend (F.args_list_extend_2 _ _)
  (AutoSeq1.list_extend_list_list_0 l its.toArray n b its2.toArray n2 hlong (by rw[List.size_toArray];omega) (by omega)) ⟨e,e2,?_⟩
 refine⟨.non,_,I.lset (its':=its++its2) hH e (by simp) (r.append r2) ?_,rfl,q⟩
 rw[List.length_append]
 omega
noncomputable def rClear:V->List V->Hp->VK->Prop:=fun x vs H Q=>∃l xs,x=.ref l/\vs=[]/\H l=some (.lst xs)/\Q .non (upd H l (.lst []))
theorem mt_clear:MtM X "list.clear" rClear:=by
 intro pins s σ H x vs v us Q I rx rv h
 obtain⟨l,xs,rfl,rfl,hH,q⟩:=h
 cases rx
 have hus:=rv.zero
 subst hus
 obtain⟨z,its,n,r,hl,e⟩:=I.lstM hH
 refine call_meets F.slot_list_clear ⟨_,e,rfl⟩ F.entry_list_clear (F.args_list_clear_1 _) (AutoSeq1.list_clear_list_0 l its.toArray n (by rw[List.size_toArray];omega)) ⟨e,?_⟩
 exact⟨.non,_,I.lset (its':=[]) (ys:=[]) hH e rfl .nil (Nat.zero_le _),rfl,q⟩
noncomputable def rRep:R2:=fun x y H Q=>∃l k xs,x=.ref l/\y=.int k/\H l=some (.lst xs)/\-(2 ^ 63)<=k/\k < 2 ^ 63/\xs.length * k.toNat<=sizeLine/\
 ∀p,H p=none->Q (.ref p) (upd H p (.lst (List.replicate k.toNat xs).flatten))
theorem len_rep {α:Type} (xs:List α) (k:Nat):(List.replicate k xs).flatten.length=k * xs.length:=by
 induction k with
 | zero=>simp
 | succ k ih=>rw[List.replicate_succ,List.flatten_cons,List.length_append,ih,Nat.succ_mul,Nat.add_comm]
theorem op_rep:OpR X (binaryOp .Mult) rRep:=by
 intro pins s σ H x y v u Q I rx ry h
 obtain⟨l,k,xs,rfl,rfl,hH,h1,h2,hz,q⟩:=h
 cases rx
 obtain⟨t,rfl⟩:=ry
 obtain⟨z,its,n,r,hl,e⟩:=I.lstM hH
 have hlen:its.toArray.size * k.toNat<=sizeLine:=by rw[List.size_toArray,<-hl];exact hz
 have hcap:¬its.toArray.size * k.toNat > (2 ^ 63 - 1) / 8:=by
  have:(sizeLine:Nat)<=(2 ^ 63 - 1) / 8:=by decide
  omega
 have hfit:¬ (!Builtin.List.listFitsIndex k)=true:=by
  rw[fitsIndex_both h1 h2]
  exact Bool.false_ne_true
 have hlong:¬Builtin.List.listTooLong (its.toArray.size * k.toNat)=true:=by
  rw[notLongL hlen]
  exact Bool.false_ne_true
 have hnew:List.foldl (fun x1 x2=>x1++x2) #[] (List.replicate (if its.toArray.isEmpty=true then 0 else k.toNat) its.toArray)=(List.replicate k.toNat its).flatten.toArray:=by
  have f0:∀m:Nat,List.foldl (fun x1 x2=>x1++x2) #[] (List.replicate m its.toArray)=(List.replicate m its).flatten.toArray:=fun m=>by
   have:=foldl_rep its m []
   rw[List.nil_append]at this
   exact this
  rw[f0]
  cases its with
  | nil=>simp
  | cons a r'=>rw[if_neg (by simp)]
 refine wpAny_binaryOp_repeat_ref (T:= "list") (U:= "int") (by decide) ⟨_,e,rfl⟩ (fun s'=>typeIs_int s' k t) noFill_list_mul F.fills_int_mul F.slot_int_rmul repeat_list F.slot_int_index.lookup
  (call_meets F.slot_int_rmul (typeIs_int s k t) F.entry_int_rmul (F.args_int_rmul_2 _ _) (int___rmul___int_list k t l its.toArray n)
   ⟨e,rfl,⟨_,e,rfl⟩,call_meets F.slot_list_mul ⟨_,e,rfl⟩ F.entry_list_mul (F.args_list_mul_2 _ _) (AutoListH.list___mul___list_int_3 l its.toArray n k t hfit hcap hlong) ⟨e,?_⟩⟩)
 rw[hnew]
 exact⟨.ref _,_,I.lnew (t':=s.toks) (r.rep k.toNat) (by rw[len_rep,Nat.mul_comm];exact hz),rfl,q _ I.fresh⟩
end
section
variable {prog:Program} {w:World} {A:Around} {E:Value->Shared->Prop} {s:Shared}
set_option maxRecDepth 100000 in
end
section
variable {X:Cx}
end
end L2
namespace Att
open PySem PySem.W PySem.Calls PyProof.Rows
theorem ints_of_wellAll {P:Params} {h:Heap}:∀ (ns:List Int) (vs:List Value),WellAll P h vs (ns.map WData.int)->IntsAre vs ns:=by
 intro ns
 induction ns with
 | nil=>
  intro vs w
  rw[List.map_nil]at w
  cases w
  exact .nil
 | cons n ns ih=>
  intro vs w
  rw[List.map_cons]at w
  cases w with
  | cons a b=>
   cases a
   exact .cons _ _ (ih _ b)
theorem script_of {l:OpenLaw} {n:Nat} (hn:l.most=some n) {P:Params} {h:Heap} {args:List WData} {vals:List Value}
  (hpre:l.row.toRowW.claim.pre args=true) (hwl:WellAll P h vals args):
  ∃a vs ns,vals=[Value.ref a]/\args=[WData.list (ns.map WData.int)]/\h.get? a=some {cls:=.type "list",data:=.seq vs.toArray}/\IntsAre vs ns/\ns.length<=n:=by
 have hsh:WShape.hasAll [] args [.list .int]=true:=(pre_splitW hpre).1
 have hc:l.pre.holds [] {args:=args}=true:=(pre_splitW hpre).2
 obtain⟨d,r,rfl,h1,h2⟩:=hasAllW_cons hsh
 obtain rfl:=hasAllW_nil h2
 obtain⟨xs,rfl,h3⟩:=hasW_list h1
 obtain⟨ns,rfl⟩:=items_int h3
 have hlen:ns.length<=n:=by
  unfold OpenLaw.pre at hc
  have h4:(WTm.not (.lt (.lit (.int (n:Int))) (.len (.arg 0)))).holds [] {args:=[.list (ns.map .int)]}=true:=by
   have h4:=(holds_andW hc).1
   rw[hn]at h4
   exact h4
  have h5:=condW_of h4 (w_not (w_lt w_lit (w_len_list (w_arg rfl))))
  rw[List.length_map]at h5
  refine Nat.le_of_not_lt fun q=>?_
  have q':(n:Int) < ((ns.length:Nat):Int):=by omega
  first
   | (rw[decide_eq_true q']at h5;exact absurd h5 (by decide))
   | (simp at h5;omega)
 cases hwl with
 | cons w1 w2=>
  cases w2
  cases w1 with
  | list ho hall=>exact⟨_,_,ns,rfl,rfl,ho,ints_of_wellAll ns _ hall,hlen⟩
theorem post_true (l:OpenLaw) (args:List WData):l.row.toRowW.claim.post args (.bool true) args=true:=
 postW_of (r:=l.row.toRowW) (X:=(true == true))
  (show WShape.has [] (.bool true) .bool=true by first | rfl | decide | simp[WShape.has,WShape.arms,WShape.armsAll])
  (show(WTm.eq .res (.lit (.bool true))).value [] {args:=args,res:=some (.bool true),after:=args}=some (.bool (true == true))from w_eq_bool (w_res rfl) w_lit) rfl
theorem attach_call {l:OpenLaw} {n:Nat} {q:Program} {loose:List Str} {XP:(Str->Option Value)->Heap->Prop} {YP:World->Heap->Prop} {d:DefRec}
  (hn:l.most=some n) (hdf:d.params.defaults=[])
  (call:∀ (w:World) (s₀ s₁:Shared) (mg mb:Str->Option Value) (fa:Addr) (o:Obj) (pm cd doc:Value) (a:Addr) (vs:List Value) (ns:List Int),
   Ground q loose [] XP w s₀ mg mb s₁.heap->YP w s₁.heap->
   s₁.heap.get? fa=some o->o.data=.func (docDef d.name d.params d.body d.scope pm cd doc)->s₁.heap.CodeRec cd d.name->mg d.name=some (.ref fa)->
   s₁.heap.get? a=some {cls:=.type "list",data:=.seq vs.toArray}->IntsAre vs ns->ns.length<=n->s₁.gens=#[]->
   codeAny (model l.prog w) callerA (.call (.ref fa) ⟨[.ref a],[]⟩) (fun r s'=>r=.ok (.ret (.bool true))/\OldK s₁.heap s'.heap/\s'.os=s₁.os/\AllBare s'.gens) s₁):
  WalkO q loose XP YP l.row.toRowW d [] (fun f vs=>PySem.call f vs):=by
 intro w s₀ s₁ mg mb G Y fa o pm cd doc dV kV ho hd hcd hD hmg hg args vals as hpre hlay hrd hwl hlo
 obtain rfl:dV=.none:=Dflts.none hD hdf
 obtain rfl:kV=.none:=Dflts.noKw hD
 obtain⟨a,vs,ns,rfl,rfl,hobj,hints,hlen⟩:=script_of hn hpre hwl
 refine enter_call (codeAny_mono (call w s₀ s₁ mg mb fa o pm cd doc a vs ns G Y ho (fd_plain hd) hcd hmg hobj hints hlen hg) fun r s' hq=>?_)
 obtain⟨rfl,h2,h3,h4⟩:=hq
 exact⟨.inl ⟨.bool true,.bool true,[],rfl,fun _=>rfl,.bool true,post_true l _,fun _=>⟨List.Pairwise.nil,fun _ hm=>(nomatch hm)⟩⟩,h2,h3,h4⟩
section
variable {prog:Program} {w:World} {A:Around} {E:Value->Shared->Prop} {s:Shared} {K:Frag}
end
end Att
namespace L2
open PySem PySem.Spec PyProof.Rows
theorem vals_ints:∀ {vs:List Value} {ns:List Int},IntsAre vs ns->Vals (ns.map V.int) vs
 | _,_,.nil=>.nil
 | _,_,.cons n t h=>.cons ⟨t,rfl⟩ (vals_ints h)
noncomputable def Only (H:Hp):Prop:=∀b,H b=none\/∃o xs,H b=some (.frz o (.lst xs))
theorem law_call {P:Program} {w:World} {K:PySem.W.Frag} {mg mb:Str->Option Value} {CX:CXT} {k:Nat} {fa a:Addr} {fd:FuncData} {x:Str} {sp:Sp} {s₁:Shared} {vs:List Value} {ns:List Int}
  (KX:K.In s₁.heap) (hns:s₁.heap.Ns mainGlobals mg) (hb:s₁.heap.Ns builtinsNs mb) (hbb:∀x:Str,x ≠ "__name__" ->mb x=bootBuiltins x) (hlim:s₁.heap.NoLimit) (hg:s₁.gens=#[])
  (ha:s₁.heap.get? a=some {cls:=.type "list",data:=.seq vs.toArray}) (hi:IntsAre vs ns) (hl:ns.length<=sizeLine) (hr:Room k callerA)
  (F:∀base:Heap,K.In base->base.Ns mainGlobals mg->FnOk P w K mg base CX k fa fd [x] sp) (hbind:∀ (s:Shared) (u:Value),BindsTo s fd ⟨[u],[]⟩ [(x,u)])
  (hsp:∀H:Hp,Only H->SqL K H a (ns.map V.int)->sp [.ref a] H (fun v _=>v=.bl true) fun _ _ _=>False)
  (hCX:∀H e s',CX [] H s₁ (fun _ _ _=>False) e s'->False):
  codeAny (model P w) callerA (.call (.ref fa) ⟨[.ref a],[]⟩) (fun r s'=>r=.ok (.ret (.bool true))/\OldK s₁.heap s'.heap/\s'.os=s₁.os/\AllBare s'.gens) s₁:=by
 have rv:=vals_ints hi
 have lenV:=hi.length
 -- from an abstract heap in which nothing but the script may be tracked
 have core:∀H:Hp,Only H->SqL K H a (ns.map V.int)->HOk P w H s₁.heap->(∀ b,H b ≠ none->b=a)->(H a ≠ none->K.lookup a=none)->
   codeAny (model P w) callerA (.call (.ref fa) ⟨[.ref a],[]⟩) (fun r s'=>r=.ok (.ret (.bool true))/\OldK s₁.heap s'.heap/\s'.os=s₁.os/\AllBare s'.gens) s₁:=by
  intro H hO hS hok hA hK
  have base_of:∀ {b:Addr} {o:Obj},s₁.heap.get? b=some o->H b=none->(hidT s₁.heap H).get? b=some o:=fun e n=>hidT_get e n
  have noA:∀ {b:Addr} {o:Obj} {es:Array DictEntry} {ep:Nat},s₁.heap.get? b=some o->o.data=.dict es ep->H b=none:=fun{b o es ep} e d=>by
   cases q:H b with
   | none=>rfl
   | some u=>
    have e':b=a:=hA b (by rw[q];simp)
    subst e'
    rw[ha]at e;cases e
    have d':Data.seq vs.toArray _=Data.dict es ep:=d
    cases d'
  have nsK:∀ {b:Addr} {m:Str->Option Value},s₁.heap.Ns b m->(hidT s₁.heap H).Ns b m:=fun{b m} ⟨o,es,ep,e,d,r⟩=>⟨o,es,ep,base_of e (noA e d),d,r⟩
  have hKb:K.In (hidT s₁.heap H):=fun b o e=>base_of (KX b o e) (by
   cases q:H b with
   | none=>rfl
   | some u=>
    have e':b=a:=hA b (by rw[q];simp)
    subst e'
    rw[hK (by rw[q];simp)]at e;cases e)
  have hM:Mod K mg (hidT s₁.heap H):=⟨hKb,nsK hns,⟨mb,nsK hb,hbb⟩,let ⟨mc,h1,h2⟩:=hlim;⟨mc,nsK h1,h2⟩⟩
  have e0:Env0 P w K mg (hidT s₁.heap H) callerA [] s₁ H:=⟨rfl,hM,fun b o e=>of_hidT e,Nat.le_of_eq (hidT_size _ _),trivial,fun b hb=>absurd (show b ∈ ([]:List Addr)from hb) (by simp),hok,.of_eq hg⟩
  refine codeAny_mono ((F _ hKb (nsK hns)).run callerA [] s₁ H ⟨[.ref a],[]⟩ [.ref a] [.ref a] _ _ hr e0 (hbind s₁ (.ref a)) (.cons rfl .nil) (hsp H hO hS)) fun r s' h=>?_
  cases r with
  | error e=>exact(hCX H e s' h).elim
  | ok fl=>
   cases fl with
   | next=>exact False.elim h
   | brk=>exact False.elim h
   | cont=>exact False.elim h
   | ret u=>
    obtain⟨v,H',os,bare,un,hok',r',q⟩:=h
    have q':v=.bl true:=q
    subst q'
    obtain rfl:u=Value.bool true:=r'
    refine⟨rfl,OldK.of_keep fun b o e=>?_,os,bare⟩
    cases q:H b with
    | none=>exact un.keep b o e q (by intro z;exact absurd (show b ∈ ([]:List Addr)from z) (by simp)) (by simp)
    | some u=>
     rcases hO b with z | ⟨ob,xs,z⟩
     ·rw[q]at z;cases z
     ·have z2:=un.frzs b ob _ z
      obtain⟨e1,_⟩:=hok b _ z
      obtain⟨e2,_⟩:=hok' b _ z2
      rw[e]at e1;cases e1
      exact e2
 cases hk:K.lookup a with
 | some o=>
  -- the script is one of the module's own objects
  have e:=KX a o hk
  rw[ha]at e
  cases e
  refine core (fun _=>none) (fun _=>.inl rfl) (.inr ⟨_,vs.toArray,_,hk,rfl,rfl,rfl,by rw[List.size_toArray,lenV];exact hl,by simpa using rv⟩) (fun b u z=>by have z':(none:Option HO)=some u:=z;cases z') (fun b z=>absurd rfl z) fun z=>absurd rfl z
 | none=>
  refine core (fun b=>if b=a then some (.frz {cls:=.type "list",data:=.seq vs.toArray} (.lst (ns.map V.int)))else none) (fun b=>?_) (.inl (.inr ⟨{cls:=.type "list",data:=.seq vs.toArray},if_pos rfl⟩)) (fun b u z=>?_) (fun b z=>?_) fun _=>hk
  ·by_cases hb:b=a
   ·exact .inr ⟨_,_,if_pos hb⟩
   ·exact .inl (if_neg hb)
  ·by_cases hb:b=a
   ·have z':=(if_pos hb).symm.trans z
    cases z'
    subst hb
    exact⟨ha,by rw[List.length_map];exact hl,vs,_,rv,ha⟩
   ·have z':=(if_neg hb).symm.trans z
    cases z'
  ·by_cases hb:b=a
   ·exact hb
   ·exact absurd (if_neg hb) z
end L2
namespace L2
open PySem PySem.Spec PyProof.Rows
theorem walk_of {l:PySem.W.OpenLaw} {n k:Nat} {q:Program} {loose:List Str} {XP:(Str->Option Value)->Heap->Prop} {YP:World->Heap->Prop} {d:DefRec} {K:Params->PySem.W.Frag} {CX:World->CXT} {sp:World->Sp} {x:Str}
  (hn:l.most=some n) (hn2:n<=sizeLine) (hdf:d.params.defaults=[]) (hr:Room k callerA)
  (hY:∀ (w:World) (h:Heap),YP w h->(K w.params).In h)
  (F:∀ (w:World) (mg:Str->Option Value) (fa:Addr) (h:Heap),(K w.params).In h->h.Ns mainGlobals mg->mg d.name=some (.ref fa)->
   ∃fd:FuncData,(∀ (s:Shared) (u:Value),BindsTo s fd ⟨[u],[]⟩ [(x,u)])/\
    ∀base:Heap,(K w.params).In base->base.Ns mainGlobals mg->FnOk l.prog w (K w.params) mg base (CX w) k fa fd [x] (sp w))
  (hsp:∀ (w:World) (H:Hp) (a:Addr) (ns:List Int),ns.length<=n->Only H->SqL (K w.params) H a (ns.map V.int)->sp w [.ref a] H (fun v _=>v=.bl true) fun _ _ _=>False)
  (hCX:∀ (w:World) (H:Hp) (s:Shared) (e:Value) (s':Shared),CX w [] H s (fun _ _ _=>False) e s'->False):
  PySem.W.WalkO q loose XP YP l.row.toRowW d [] (fun f vs=>PySem.call f vs):=by
 refine Att.attach_call hn hdf fun w s₀ s₁ mg mb fa o pm cd doc a vs ns G Y ho hd hcd hmg hobj hints hlen hg=>?_
 have KX:=hY w _ Y
 obtain⟨fd,hb,hF⟩:=F w mg fa _ KX G.T.g hmg
 exact law_call KX G.T.g G.T.b G.T.builtins G.T.nolimit hg hobj hints (Nat.le_trans hlen hn2) hr hF hb (fun H hO hS=>hsp w H a ns hlen hO hS) fun H e s'=>hCX w H s₁ e s'
end L2
namespace L2
open PySem PySem.Spec PyProof.Rows
noncomputable def defArgs (s:Stmt):Arguments:=match s with
 | .FunctionDef _ a _ _ _ _ _ _ _ _=>a
 | _=>{posonlyargs:=[],args:=[],vararg:=none,kwonlyargs:=[],kw_defaults:=[],kwarg:=none,defaults:=[]}
noncomputable def defBody (s:Stmt):List Stmt:=match s with
 | .FunctionDef _ _ b _ _ _ _ _ _ _=>b
 | _=>[]
noncomputable def defScope (s:Stmt):Scope:=match s with
 | .FunctionDef _ _ _ _ _ _ sc _ _ _=>sc
 | _=>{kind:=.function,names:=[],isGenerator:=false,isCoroutine:=false}
structure Fun (K:PySem.W.Frag) (x qual:Str) (st:Stmt) (f:Addr) (fd:FuncData):Prop where
 ex:∃ (oc:Value) (od:Option Addr) (kV doc pm:Value) (an:Option Addr) (cdv ct:Value) (osl:Array (Option Value)),
  fd=PySem.W.fnOf x qual (defArgs st) (defBody st) (defScope st) .none kV doc pm an cdv ct/\K.lookup f=some ⟨oc,od,.func fd,osl⟩/\PySem.W.codeIn K cdv qual=true
 kp:PySem.W.keepIn K (.ref f)=true
section
variable {P:Program} {w:World} {K:PySem.W.Frag} {mg:Str->Option Value} {base:Heap}
theorem Fun.binds {x qual:Str} {st:Stmt} {f:Addr} {fd:FuncData} {ps:List Str} (F:Fun K x qual st f fd)
  (h:∀ (kV doc pm:Value) (an:Option Addr) (cdv ct:Value) (us:List Value),us.length=ps.length->bindArgs (PySem.W.fnOf x qual (defArgs st) (defBody st) (defScope st) .none kV doc pm an cdv ct) ⟨us,[]⟩=pure (ps.zip us)):Binds K fd ps []:=by
 obtain⟨oc,od,kV,doc,pm,an,cdv,ct,osl,rfl,lk,hcd⟩:=F.ex
 exact .all (h kV doc pm an cdv ct)
theorem fun_mk {x qual:Str} {st:Stmt} {f:Addr} {oc:Value} {od an:Option Addr} {osl:Array (Option Value)} {kV doc pm cdv ct:Value} (l:K.lookup f=some ⟨oc,od,.func (PySem.W.fnOf x qual (defArgs st) (defBody st) (defScope st) .none kV doc pm an cdv ct),osl⟩)
  (c:PySem.W.codeIn K cdv qual=true) (k:PySem.W.keepIn K (.ref f)=true):Fun K x qual st f (PySem.W.fnOf x qual (defArgs st) (defBody st) (defScope st) .none kV doc pm an cdv ct):=⟨⟨oc,od,kV,doc,pm,an,cdv,ct,osl,rfl,l,c⟩,k⟩
end
section
variable {X:Cx}
end
noncomputable def Same (H H':Hp):Prop:=∀b o,H b=some o->H' b=some o
theorem Same.refl (H:Hp):Same H H:=fun _ _ h=>h
theorem Same.trans {H H1 H2:Hp} (a:Same H H1) (b:Same H1 H2):Same H H2:=fun c o h=>b c o (a c o h)
theorem Same.free {H H':Hp} (e:Same H H') {l:Addr} (h:H' l=Option.none):H l=Option.none:=by
 cases q:H l with
 | none=>rfl
 | some o=>
  rw[e l o q]at h
  cases h
end L2
namespace L2
open PySem PySem.Spec PyProof.Rows
section
variable {X:Cx}
end
section
variable {κ:Type} [DecidableEq κ]
end
end L2
set_option maxHeartbeats 4000000
namespace PySem.Sg
open PySem PySem.Spec PyProof.Rows
section tables
theorem orStandIn_led (t:SetTable) (n:Nat):(t.orStandIn n).led=t.led:=by
 unfold SetTable.orStandIn
 split<;>rfl
theorem layNew_led (t:SetTable) (es:Array (Int × Value)) (h:Int) (x:Value):(layNew t es h x).2.1.led=t.led:=by
 unfold layNew
 cases t.freeSlot h with
 | none=>rfl
 | some p=>
  obtain⟨j,d⟩:=p
  exact orStandIn_led _ _
theorem relayAll_led (t:SetTable) (es:Array (Int × Value)) (n:Nat):(relayAll t es n).2.1.led=t.led:=by
 unfold relayAll
 cases e:t.relaid (es.map (·.1)) n with
 | none=>rfl
 | some p=>
  obtain⟨t',o⟩:=p
  have z:t'.led=t.led:=by
   simp only[SetTable.relaid,SetTable.laid,Option.bind_eq_bind,Option.bind_eq_some_iff,Option.pure_def,Option.some.injEq,Prod.mk.injEq]at e
   obtain⟨_,_,e,_⟩:=e
   rw[<-e]
  dsimp only
  split<;>first | exact z | rfl
theorem relayAll_plain (t:SetTable) (es:Array (Int × Value)) (n:Nat) (h:t.plain=false):(relayAll t es n).2.1.plain=false:=by
 unfold relayAll
 cases e:t.relaid (es.map (·.1)) n with
 | none=>rfl
 | some p=>
  obtain⟨t',o⟩:=p
  have z:t'.plain=false:=by
   simp only[SetTable.relaid,SetTable.laid,Option.bind_eq_bind,Option.bind_eq_some_iff,Option.pure_def,Option.some.injEq,Prod.mk.injEq]at e
   obtain⟨_,_,e,_⟩:=e
   rw[<-e];exact h
  dsimp only
  split<;>first | exact z | rfl
end tables
noncomputable def SetIs (prog:Program) (w:World) (h:Heap) (a:Addr) (τ:List Str):Prop:=
 ∃o es ep t,h.get? a=some o/\o.ExactSet/\o.data=.set es ep t/\ElemsOf (strKind prog w) es.toList/\List.Perm (es.toList.map fun e=>strOf e.2) τ
  /\es.size < scanBound/\t.fits es.size=true/\(w.params.followText "set-order" =true\/t.led=true)/\(es.size=0\/t.plain=false)
noncomputable def putIn (τ:List Str) (k:Str):List Str:=if k ∈ τ then τ else τ++[k]
section add
variable {prog:Program} {w:World} {A:Around} {E:Value->Shared->Prop} {s:Shared}
theorem isStr_of {k:Str} {v:Value} (h:(strKind prog w).is k v=true):strOf v=k/\∃t,v=.str k t:=by
 obtain⟨t,rfl⟩:=Value.isStrOf_shape h
 exact⟨rfl,t,rfl⟩
theorem get_put {h:Heap} {a:Addr} {o:Obj} {es es':Array (Int × Value)} {ep:Nat} {t t':SetTable} (ho:h.get? a=some o) (hd:o.data=.set es ep t):
  (h.update a (Obj.putSet es' t')).get? a=some {o with data:=.set es' (ep + 1) t'}:=by
 have z:=Heap.get?_update_self (Obj.putSet es' t') ho (by rw[putSet_of es' t' hd];rfl)
 rw[putSet_of es' t' hd]at z
 exact z
theorem told {s₁:Shared} {Q':Unit->Shared->Prop} (b:Bool) (h:Q' () s₁):wpAny (model prog w) A (match b with | true=>rule "set.scan.the-table-gave-way" | false=>pure ()) Q' E s₁:=by
 cases b
 ·exact wpAny_pure h
 ·exact wpAny_rule h
theorem add_str {a:Addr} {τ:List Str} {k:Str} {u:Tok} {Q:Bool->Shared->Prop} (hS:SetIs prog w s.heap a τ) (hroom:τ.length + 1 < scanBound)
  (h:∀b h',Heap.SameBut a s.heap h'->SetIs prog w h' a (putIn τ k)->Q b {s with heap:=h'}):
  wpAny (model prog w) A (setAddHashed a (.str k u) ((strKind prog w).hash k)) Q E s:=by
 obtain⟨o,es,ep,t,ho,hex,hd,hel,hp,hb,hf,hled,hpl⟩:=hS
 have hkey:(strKind prog w).is k (.str k u)=true:=strKind_is _ _ _ _
 have hlen:es.size=τ.length:=by have z:=hp.length_eq;simpa using z
 unfold setAddHashed setAddHashedIn
 refine wpAny_holding (wpAny_bind (wpAny_setState_of ho hd hf ?_))
 dsimp only
 rw[byScan_of rfl hb hel,if_pos rfl]
 unfold setAddByScan
 refine wpAny_bind (wpAny_bind (wpAny_rule (wpAny_bind (wpAny_setScan_of hkey ho hd hf hel ?_))))
 have memk:k ∈ τ ↔ ∃e ∈ es.toList,(strKind prog w).is k e.2=true:=by
  rw[<-hp.mem_iff,List.mem_map]
  constructor
  ·rintro⟨e,he,q⟩
   obtain⟨⟨k',hk',_⟩,_⟩:=hel e he
   obtain⟨z,_⟩:=isStr_of hk'
   exact⟨e,he,by rw[<-q,z];exact hk'⟩
  ·rintro⟨e,he,q⟩
   exact⟨e,he,(isStr_of q).1⟩
 cases hr:List.findIdx? (fun e=>(strKind prog w).is k e.2) es.toList with
 | some j=>
  dsimp only
  obtain⟨hj,hpj,_⟩:=List.findIdx?_eq_some_iff_getElem.mp hr
  have hk:k ∈ τ:=memk.mpr ⟨_,List.getElem_mem hj,hpj⟩
  have z:=h false s.heap (Heap.SameBut.refl a s.heap) (by unfold putIn;rw[if_pos hk];exact⟨o,es,ep,t,ho,hex,hd,hel,hp,hb,hf,hled,hpl⟩)
  exact wpAny_pure (wpAny_pure z)
 | none=>
  dsimp only
  have hk:k ∉ τ:=fun c=>by
   obtain⟨e,he,q⟩:=memk.mp c
   have z:=List.findIdx?_eq_none_iff.mp hr e he
   rw[q]at z;exact Bool.noConfusion z
  have h':∀h',Heap.SameBut a s.heap h'->SetIs prog w h' a (τ++[k])->Q true {s with heap:=h'}:=fun h' a1 a2=>h true h' a1 (by unfold putIn;rw[if_neg hk];exact a2)
  have p1:=layNew_perm t es ((strKind prog w).hash k) (.str k u)
  have f1:=layNew_fits t es ((strKind prog w).hash k) (.str k u)
  have l1:=layNew_led t es ((strKind prog w).hash k) (.str k u)
  generalize layNew t es ((strKind prog w).hash k) (.str k u)=L at p1 f1 l1 ⊢
  obtain⟨es1,t1,wd,gv⟩:=L
  dsimp only at p1 f1 l1 ⊢
  rw[Array.toList_push]at p1
  have hel1:ElemsOf (strKind prog w) es1.toList:=(hel.push hkey rfl).perm p1
  have hp1:List.Perm (es1.toList.map fun e=>strOf e.2) (τ++[k]):=(p1.map _).trans (by rw[List.map_append];exact hp.append_right _)
  have hs1:es1.size=τ.length + 1:=by have z:=hp1.length_eq;simpa using z
  have hb1:es1.size < scanBound:=by omega
  refine wpAny_bind (told gv ?_)
  have last:∀t2:SetTable,t2.fits es1.size=true->t2.led=t.led->t2.plain=false->wpAny (model prog w) A (do
    storeSet a es1 t2
    if(!wd && t2.tooFull)=true then do
      (match(relayAll t2 es1 (SetTable.grown es1.size)).2.2 with | true=>rule "set.scan.the-table-gave-way" | false=>pure ())
      storeSet a (relayAll t2 es1 (SetTable.grown es1.size)).1 (relayAll t2 es1 (SetTable.grown es1.size)).2.1
      pure (some true)
     else pure (some true))
    (fun r s'=>wpAny (model prog w) A (match r with | some added=>pure added | none=>setAddHashedIn a (Value.str k u) ((strKind prog w).hash k) 99999) Q E s') E s:=by
   intro t2 f2 l2 n2
   have g1:=get_put (es':=es1) (t':=t2) ho hd
   have k1:=Heap.SameBut.update s.heap a (Obj.putSet es1 t2)
   refine wpAny_bind (wpAny_storeSet_of ho hd ?_ (fits_of_scanBound hb1))
   split
   ·have p2:=relayAll_perm t2 es1 (SetTable.grown es1.size)
    have f3:=relayAll_fits t2 es1 (SetTable.grown es1.size)
    have l3:=relayAll_led t2 es1 (SetTable.grown es1.size)
    have n3:=relayAll_plain t2 es1 (SetTable.grown es1.size) n2
    generalize relayAll t2 es1 (SetTable.grown es1.size)=L at p2 f3 l3 n3 ⊢
    obtain⟨es2,t3,gv2⟩:=L
    dsimp only at p2 f3 l3 n3 ⊢
    have hp2:List.Perm (es2.toList.map fun e=>strOf e.2) (τ++[k]):=(p2.map _).trans hp1
    have hs2:es2.size=τ.length + 1:=by have z:=hp2.length_eq;simpa using z
    have hb2:es2.size < scanBound:=by omega
    refine wpAny_bind (told gv2 (wpAny_bind (wpAny_storeSet_of g1 rfl ?_ (fits_of_scanBound hb2))))
    exact wpAny_pure (wpAny_pure (h' _ (k1.trans (Heap.SameBut.update _ a _)) ⟨_,es2,_,t3,get_put g1 rfl,hex,rfl,hel1.perm p2,hp2,hb2,f3,by rw[l3,l2];exact hled,.inr n3⟩))
   ·exact wpAny_pure (wpAny_pure (h' _ k1 ⟨_,es1,_,t2,g1,hex,rfl,hel1,hp1,hb1,f2,by rw[l2];exact hled,.inr n2⟩))
  cases q:t1.plain with
  | true=>
   rw[if_pos rfl,hashByValue_scannable 8 rfl]
   refine wpAny_bind (wpAny_pure ?_)
   exact last {t1 with plain:=false} (SetTable.fits_plain_off f1) l1 rfl
  | false=>
   rw[if_neg (by decide)]
   refine wpAny_bind (wpAny_pure ?_)
   exact last t1 f1 l1 q
end add
section loop
variable {prog:Program} {w:World} {A:Around} {R:Result->Shared->Prop} {I:Addr} {fp wr:List Addr} {G:Array GenState->Array GenState->Prop} {n:Nat} {P:Nat->Value->Prop} {St:Nat->Shared->Prop}
theorem SetIs.at {h h':Heap} {a:Addr} {τ:List Str} (hS:SetIs prog w h a τ) (k:∀o,h.get? a=some o->h'.get? a=some o):SetIs prog w h' a τ:=
 let ⟨o,es,ep,t,ho,r⟩:=hS;⟨o,es,ep,t,k o ho,r⟩
end loop
section new
variable {prog:Program} {w:World} {A:Around} {E:Value->Shared->Prop} {s:Shared}
end new
end PySem.Sg
namespace PySem.Sg
open PySem PySem.Spec PyProof.Rows
section orders
variable {prog:Program} {w:World} {A:Around} {E:Value->Shared->Prop}
end orders
namespace F
end F
noncomputable def ItAt (h:Heap) (I S:Addr) (first:Value) (i n ep:Nat):Prop:=
 ∃o,h.get? I=some o/\o.cls=.type "set_iterator" /\o.data=.fields #[first,.int i 0,.ref S,.int n 0,.int ep 0]
noncomputable def StAt (h:Heap) (S:Addr) (es:Array (Int × Value)) (ep:Nat) (t:SetTable):Prop:=∃o,h.get? S=some o/\o.data=.set es ep t/\t.fits es.size=true
theorem ItAt.typeIs {s:Shared} {I S:Addr} {f:Value} {i n ep:Nat} (x:ItAt s.heap I S f i n ep):s.TypeIs (.ref I) "set_iterator" :=let ⟨o,ho,hc,_⟩:=x;⟨o,ho,hc⟩
theorem ItAt.keep {h h':Heap} {I S:Addr} {f:Value} {i n ep:Nat} (x:ItAt h I S f i n ep) (k:∀o,h.get? I=some o->h'.get? I=some o):ItAt h' I S f i n ep:=let ⟨o,ho,r⟩:=x;⟨o,k o ho,r⟩
theorem StAt.keep {h h':Heap} {S:Addr} {es:Array (Int × Value)} {ep:Nat} {t:SetTable} (x:StAt h S es ep t) (k:∀o,h.get? S=some o->h'.get? S=some o):StAt h' S es ep t:=let ⟨o,ho,r⟩:=x;⟨o,k o ho,r⟩
section walk
variable {prog:Program} {w:World} {A:Around} {E:Value->Shared->Prop} {s:Shared}
end walk
end PySem.Sg
namespace PySem.Sg
open PySem PySem.Spec PyProof.Rows
section walks
variable {prog:Program} {w:World} {A:Around}
end walks
end PySem.Sg
namespace PySem.Sg
open PySem PySem.Spec PyProof.Rows
section iter
variable {prog:Program} {w:World} {A:Around} {E:Value->Shared->Prop} {s:Shared}
end iter
end PySem.Sg
namespace PySem.Sg
open PySem PySem.Spec PyProof.Rows L2
section dict
variable {prog:Program} {w:World} {A:Around} {E:Value->Shared->Prop} {s:Shared}
theorem dict_len:typeLookup (.type "dict") "__len__" =pure (some (.builtin "dict.__len__")):=by rw[typeLookup_type,builtinLookup_eq_fast];kernel_rfl
theorem strsAre_of:∀ (ts:List Str) (vs:List Value),vs.length=ts.length->(∀ (j:Nat) (x:Str),ts[j]?=some x->∃t,vs[j]?=some (Value.str x t))->StrsAre vs ts
 | [],[],_,_=>.nil
 | x::ts,v::vs,hl,h=>by
  obtain⟨t,e⟩:=h 0 x rfl
  have e':v=Value.str x t:=Option.some.inj (by simpa using e)
  subst e'
  exact .cons x t (strsAre_of ts vs (by simpa using hl) fun j y e=>by simpa using h (j + 1) y (by simpa using e))
 | [],_::_,hl,_=>by simp at hl
 | _::_,[],hl,_=>by simp at hl
theorem collect_dict (hh:A.handled=none) {S:Addr} {kvs:List (Key × Value)} {ts:List Str} {Q:List Value->Shared->Prop} (hd:(S == sysModules)=false) (hS:s.heap.DictOf (mixKind prog w) S kvs) (hk:kvs.map (·.1)=ts.map Sum.inr) (hn:kvs.length<=sizeLine)
  (hQ:∀s' vs,(∀ b o,s.heap.get? b=some o->s'.heap.get? b=some o)->s'.gens=s.gens->s'.os=s.os->s.toks<=s'.toks->s.heap.objs.size<=s'.heap.objs.size->StrsAre vs ts->Q vs s'):
  wpAny (model prog w) A (collect (.ref S)) Q E s:=by
 obtain⟨ep,hm⟩:=hS.dictAt
 have hlt:S < s.heap.objs.size:=hm.lt_size
 unfold collect
 refine wpAny_bind (wpAny_runValue (codeAny_builtin PySem.F.entry_proto_collect ?_))
 rw[Around.under_plainId PySem.F.plain_proto_collect _]
 show wpAny _ A.in1 (newList [] >>= fun l=>again (.builtin "list.__iadd__" ⟨[l,.ref S],[]⟩)) _ _ s
 refine wpAny_bind (wpAny_newObj_type ?_)
 refine wpAny_pure ⟨plainId_quiet PySem.F.plain_list_iadd _,codeAny_builtin PySem.F.entry_list_iadd ?_⟩
 rw[Around.under_plainId PySem.F.plain_list_iadd _]
 show wpAny _ A.in1 (Builtin.List.listExtendWith (.ref s.heap.objs.size) (.ref S) (.ref s.heap.objs.size)) _ _ _
 unfold Builtin.List.listExtendWith
 have hz1:(s.heap.push {cls:=.type "list",data:=.seq ([]:List Value).toArray}).objs.size=s.heap.objs.size + 1:=Heap.size_push _ _
 have hL1:(s.heap.push {cls:=.type "list",data:=.seq ([]:List Value).toArray}).get? s.heap.objs.size=some {cls:=.type "list",data:=.seq ([]:List Value).toArray}:=Heap.get?_push_size _ rfl
 have hm1:=hm.push {cls:=.type "list",data:=.seq ([]:List Value).toArray}
 refine wpAny_bind (wpAny_typeOf (s:={s with heap:=s.heap.push {cls:=.type "list",data:=.seq ([]:List Value).toArray}}) hm1.dictOf.typeIs ?_)
 have h1:Builtin.List.listSameRef (.ref s.heap.objs.size) (.ref S)=false:=by simp only[Builtin.List.listSameRef];exact beq_eq_false_iff_ne.mpr (Nat.ne_of_gt hlt)
 have h2:(Value.type "dict" == Value.type "list")=false:=by decide
 have h3:(Value.type "dict" == Value.type "tuple")=false:=by decide
 simp only[h1,h2,h3,Bool.or_false,Bool.false_eq_true,if_false]
 refine wpAny_bind (wpAny_pyIter_dict (s:={s with heap:=s.heap.push {cls:=.type "list",data:=.seq ([]:List Value).toArray}}) hd hm1 ?_)
 have hm2:=hm1.push {cls:=.type "dict_keyiterator",data:=.fields #[.ref S,.int 0 0,.int kvs.length 0,.int ep 0]}
 have hit2:((s.heap.push {cls:=.type "list",data:=.seq ([]:List Value).toArray}).push {cls:=.type "dict_keyiterator",data:=.fields #[.ref S,.int 0 0,.int kvs.length 0,.int ep 0]}).IsKeyIter (s.heap.push {cls:=.type "list",data:=.seq ([]:List Value).toArray}).objs.size S 0 kvs.length ep:=
  ⟨_,Heap.get?_push_size _ rfl,rfl,rfl⟩
 have kp:∀b o,s.heap.get? b=some o->((s.heap.push {cls:=.type "list",data:=.seq ([]:List Value).toArray}).push {cls:=.type "dict_keyiterator",data:=.fields #[.ref S,.int 0 0,.int kvs.length 0,.int ep 0]}).get? b=some o:=fun b o e=>Heap.get?_push_of_some _ (Heap.get?_push_of_some _ e)
 have hL2:((s.heap.push {cls:=.type "list",data:=.seq ([]:List Value).toArray}).push {cls:=.type "dict_keyiterator",data:=.fields #[.ref S,.int 0 0,.int kvs.length 0,.int ep 0]}).get? s.heap.objs.size=some {cls:=.type "list",data:=.seq ([]:List Value).toArray}:=Heap.get?_push_of_some _ hL1
 have hne:S ≠ (s.heap.push {cls:=.type "list",data:=.seq ([]:List Value).toArray}).objs.size:=by rw[hz1];exact Nat.ne_of_lt (Nat.lt_succ_of_lt hlt)
 generalize eI:(s.heap.push {cls:=.type "list",data:=.seq ([]:List Value).toArray}).objs.size=I at hit2 hne ⊢
 generalize eh:((s.heap.push {cls:=.type "list",data:=.seq ([]:List Value).toArray}).push {cls:=.type "dict_keyiterator",data:=.fields #[.ref S,.int 0 0,.int kvs.length 0,.int ep 0]})=h₂ at hm2 hit2 kp hL2 ⊢
 have hI:I=s.heap.objs.size + 1:=by rw[<-eI,hz1]
 refine wpAny_bind (wpAny_holding ?_)
 have hT2:Shared.TypeIs {s with heap:=h₂} (.ref S) "dict" :=hm2.dictOf.typeIs
 unfold Builtin.List.listLengthHint
 refine wpAny_bind (wpAny_specialOf hT2 dict_len ?_)
 wp_delta
 refine wpAny_bind (wpAny_isInstance (b:=true) hT2 (by rw[isSubtype_type];kernel_rfl) ?_)
 show wpAny _ A.in1 (typeOf (Value.ref S) >>= _) _ _ _
 refine wpAny_bind (wpAny_typeOf hT2 ?_)
 refine wpAny_pure ?_
 rw[if_pos (by decide)]
 have hLf:s.heap.objs.size ∉ [I,S]:=fun hmm=>by
  rcases List.mem_cons.mp hmm with e | e
  ·exact Nat.ne_of_lt (Nat.lt_succ_self _) (e.trans hI)
  ·exact Nat.ne_of_gt hlt (List.mem_singleton.mp e)
 refine wpAny_bind (wpAny_rule (wpAny_bind ?_))
 show wpAny _ A.in1 (updateSeq s.heap.objs.size (·.push .none) >>= fun _=>updateSeq s.heap.objs.size (·.pop)) _ _ _
 refine wpAny_bind (wpAny_updateSeq hL2 rfl ?_)
 have hL3:=Heap.get?_update_self (Obj.mapSeq (·.push Value.none)) hL2 rfl
 refine wpAny_updateSeq hL3 rfl ?_
 have hL4:=Heap.get?_update_self (Obj.mapSeq (·.pop)) hL3 rfl
 have oth:∀b o,b ≠ s.heap.objs.size->h₂.get? b=some o->((h₂.update s.heap.objs.size (Obj.mapSeq (·.push Value.none))).update s.heap.objs.size (Obj.mapSeq (·.pop))).get? b=some o:=
  fun b o hb e=>(Heap.get?_update_other _ _ (Ne.symm hb)).trans ((Heap.get?_update_other _ _ (Ne.symm hb)).trans e)
 have W:=(Walks.dictKeys (prog:=prog) (w:=w) (knd:=mixKind prog w) (A:=A.in1) (by simp[hh]) I S hne kvs ep).toS
 refine wpAny_pure ⟨plainId_quiet PySem.F.plain_extend_loop _,codeAny_extend_loopS W hn _ hLf _ kvs.length 0 _ _ _ rfl (Nat.zero_le _)
  (W.frame 0 {s with heap:=h₂} _ s.toks ⟨hit2,hm2⟩ (Nat.le_refl _) fun b hb o e=>oth b o (fun h=>hLf (h ▸ hb)) e) hL4 (ItemsOf.nil _) fun s' acc' c' hmv hS' hacc=>?_⟩
 show wpAny _ A (load s.heap.objs.size >>= _) _ _ s'
 refine wpAny_bind (wpAny_load hS' (wpAny_pure ?_))
 have lts:ts.length=kvs.length:=by have:=congrArg List.length hk;simpa using this.symm
 refine hQ s' acc'.toList (fun b o e=>?_) hmv.gens hmv.os hmv.toks (Nat.le_of_lt (Heap.lt_size hS')) (strsAre_of ts _ (by rw[Array.length_toList,hacc.1,lts]) fun j x ex=>?_)
 ·have hlb:=Heap.lt_size e
  have hbL:b ≠ s.heap.objs.size:=Nat.ne_of_lt hlb
  have hbI:b ≠ I:=by rw[hI];exact Nat.ne_of_lt (Nat.lt_succ_of_lt hlb)
  exact hmv.heap b o (by simp only[List.mem_cons,List.not_mem_nil,or_false,not_or];exact⟨hbL,hbI⟩) (oth b o hbL (kp b o e))
 ·have hj:j < ts.length:=(List.getElem?_eq_some_iff.mp ex).1
  have hj':j < acc'.size:=by rw[hacc.1,<-lts];exact hj
  obtain⟨k,y,q1,q2⟩:=hacc.2 j acc'[j] (Array.getElem?_eq_getElem hj')
  have q3:(kvs.map (·.1))[j]?=some k:=by rw[List.getElem?_map,q1];rfl
  rw[hk,List.getElem?_map,ex]at q3
  obtain rfl:Sum.inr x=k:=Option.some.inj q3
  rcases keyIs_shape (show keyIs (Sum.inr x) acc'[j]=true from q2)with ⟨i,t,e1,e2⟩ | ⟨z,t,e1,e2⟩
  ·cases e1
  ·cases e1
   exact⟨t,by rw[Array.getElem?_toList,Array.getElem?_eq_getElem hj',e2]⟩
theorem sorted_dict (hh:A.handled=none) {S:Addr} {kvs:List (Key × Value)} {ts:List Str} (h64:ts.length < 64) {Q:Value->Shared->Prop} (hd:(S == sysModules)=false) (hS:s.heap.DictOf (mixKind prog w) S kvs) (hk:kvs.map (·.1)=ts.map Sum.inr)
  (hQ:∀ (s':Shared) (l:Addr) (out:Array Value) (ss:List Str) (e:Nat),(∀ b o,s.heap.get? b=some o->s'.heap.get? b=some o)->s'.gens=s.gens->s'.os=s.os->s.toks<=s'.toks->s.heap.objs.size<=l->
   s'.heap.get? l=some (seqObj "list" out e)->StrsAre out.toList ss->List.Perm ss ts->sortedS ss=true->Q (.ref l) s'):
  wpAny (model prog w) A (call (.builtin "sorted") [.ref S]) Q E s:=by
 have hlt:S < s.heap.objs.size:=by obtain⟨o,_,_,ho,_⟩:=hS;exact Heap.lt_size ho
 have lts:ts.length=kvs.length:=by have:=congrArg List.length hk;simpa using this.symm
 refine Calls.call_function_entry kind_sorted plain_sorted entry_sorted (args_sorted1 _) ?_
 unfold Builtin.«sorted»
 refine wpAny_bind (m:=checkCount "sorted" 1 1 _) (wpAny_pure ?_)
 refine wpAny_bind (collect_dict (by simp[hh]) hd hS hk (by rw[<-lts,sizeLine_eq];omega) fun s' vs kp eg eo et hge h1=>?_)
 have hl:vs.length < 64:=by rw[h1.len_eq];exact h64
 refine wpAny_bind (wpAny_newList ?_)
 have hoL:(s'.heap.push (seqObj "list" vs.toArray 0)).get? s'.heap.objs.size=some (seqObj "list" vs.toArray 0):=Heap.get?_push_size _ rfl
 show wpAny _ _ _ _ _ {s' with heap:=s'.heap.push (seqObj "list" vs.toArray 0)}
 refine wpAny_bind (wpAny_holding (wpAny_call_entry slot_list_sort ⟨_,hoL,rfl⟩ entry_list_sort (list_sort_treeK strKind_oneLt hoL h1.keysOf (fun v₁ v₂ rest e=>keyKind_strs (by rw[<-e];exact h1)) hl fun st' a1 a2=>⟨_,rfl,?_⟩) (args_list_sort _)))
 obtain⟨ss',b1,b2,b3⟩:=sorted_out_str h1 a1 a2
 obtain⟨e,he⟩:=sortedHeap_at (out:=(arrOf st').map (·.2)) hoL
 refine wpAny_pure ⟨_,rfl,hQ _ s'.heap.objs.size _ ss' e (fun b o q=>?_) eg eo et hge he b1 b2 b3⟩
 have hb:=Heap.lt_size (kp b o q)
 rw[sortedHeap_old (Nat.ne_of_lt hb) (by rw[Heap.size_push];exact Nat.lt_succ_of_lt hb)]
 exact Heap.get?_push_of_some _ (kp b o q)
noncomputable def strItems (xs:Array (Str × Tok)):Array Value:=xs.map fun p=>.str p.1 p.2
noncomputable def textAt (xs:Array (Str × Tok)) (i:Nat):Str:=(xs[i]?.map (·.1)).getD Str.empty
theorem strItems_at {xs:Array (Str × Tok)} {i:Nat} {v:Value} (h:(strItems xs)[i]?=some v):∃t,v=.str (textAt xs i) t:=by
 simp only[strItems,Array.getElem?_map,Option.map_eq_some_iff]at h
 obtain⟨p,hp,rfl⟩:=h
 exact⟨p.2,by simp[textAt,hp]⟩
theorem cmp_strs {P:Nat->Value->Prop} (val:Nat->Str) (hval:∀i v,P i v->∃t,v=.str (val i) t):
  CmpOf prog w A .Lt P (fun i j=>decide ((val i).cps.toList < (val j).cps.toList)):=fun i j vi vj s Q E hi hj h=>by
 obtain⟨t,rfl⟩:=hval i vi hi
 obtain⟨u,rfl⟩:=hval j vj hj
 exact PySem.P.lt_str h
theorem min_two_strs {a b:Str} {t u:Tok} {Q:Value->Shared->Prop} (hh:A.handled=none)
  (h:∀h' tk,(∀ c o,s.heap.get? c=some o->h'.get? c=some o)->Q (if b.cps.toList < a.cps.toList then .str b u else .str a t) {s with heap:=h',toks:=tk}):
  wpAny (model prog w) A (call (.builtin "min") [.str a t,.str b u]) Q E s:=by
 have hT:(s.heap.push {cls:=.type "tuple",data:=.seq #[.str a t,.str b u]}).IsTuple s.heap.objs.size (strItems #[(a,t),(b,u)]):=⟨_,Heap.get?_push_size _ rfl,rfl,0,by simp[strItems]⟩
 refine call_min_two (wpAny_pyIter_tuple hT ?_)
 have hsz:(s.heap.push {cls:=.type "tuple",data:=.seq #[.str a t,.str b u]}).objs.size=s.heap.objs.size + 1:=Heap.size_push ..
 refine⟨_,[_,s.heap.objs.size],[_],_,_,_,_,rfl,Walks.tuple (A:=A.in1) hh _ s.heap.objs.size (by rw[hsz];exact Nat.ne_of_lt (Nat.lt_succ_self _)) (strItems #[(a,t),(b,u)]),
  ⟨⟨_,Heap.get?_push_size _ rfl,rfl,rfl⟩,hT.push _⟩,fun c hc=>?_,by simp[strItems],cmp_strs (textAt #[(a,t),(b,u)]) (fun _ _=>strItems_at),fun v h' tk hP hk=>?_⟩
 ·show c < ((s.heap.push _).push _).objs.size
  rw[Heap.size_push,hsz]
  rcases List.mem_cons.mp hc with rfl | hc
  ·rw[hsz];exact Nat.lt_succ_self _
  ·rcases List.mem_cons.mp hc with rfl | hc
   ·exact Nat.lt_succ_of_lt (Nat.lt_succ_self _)
   ·cases hc
 ·have hold:∀c o,s.heap.get? c=some o->h'.get? c=some o:=fun c o e=>by
   refine hk c o (fun hm=>?_) (Heap.get?_push_of_some _ (Heap.get?_push_of_some _ e))
   rcases List.mem_cons.mp hm with e1 | hm
   ·have:=Heap.lt_size e;rw[e1,hsz]at this;exact Nat.lt_irrefl _ (Nat.lt_of_succ_lt this)
   ·cases hm
  have:=h h' tk hold
  have hv:v=if b.cps.toList < a.cps.toList then Value.str b u else Value.str a t:=by
   have hP':(strItems #[(a,t),(b,u)])[argBest (fun i j=>decide ((textAt #[(a,t),(b,u)] i).cps.toList < (textAt #[(a,t),(b,u)] j).cps.toList)) 1]?=some v:=by
    have hsz2:(strItems #[(a,t),(b,u)]).size - 1=1:=by simp[strItems]
    rw[<-hsz2];exact hP
   by_cases hba:b.cps.toList < a.cps.toList
   ·have e:argBest (fun i j=>decide ((textAt #[(a,t),(b,u)] i).cps.toList < (textAt #[(a,t),(b,u)] j).cps.toList)) 1=1:=by simp[argBest,textAt,hba]
    rw[e]at hP'
    simpa[strItems,hba]using hP'.symm
   ·have e:argBest (fun i j=>decide ((textAt #[(a,t),(b,u)] i).cps.toList < (textAt #[(a,t),(b,u)] j).cps.toList)) 1=0:=by simp[argBest,textAt,hba]
    rw[e]at hP'
    simpa[strItems,hba]using hP'.symm
  rw[hv];exact this
end dict
end PySem.Sg
namespace Sw
open PySem PySem.Spec PyProof.Rows L2
@[reducible] noncomputable def Mo:=Addr->Option HO
noncomputable def rd (M:Mo) (H:Hp) (a:Addr):Option HO:=match H a with
 | some (.frz _ u)=>some u
 | some o=>some o
 | none=>M a
noncomputable def ModOk (K:PySem.W.Frag) (M:Mo):Prop:=∀a o,M a=some o->match o with
 | .lst xs=>∃ (o:Obj) (its:Array Value) (n:Nat),K.lookup a=some o/\o.cls=.type "list" /\o.dict=none/\o.data=.seq its n/\its.size<=sizeLine/\Vals xs its.toList
 | .tup xs=>∃ (o:Obj) (its:Array Value) (n:Nat),K.lookup a=some o/\o.cls=.type "tuple" /\o.data=.seq its n/\its.size<=sizeLine/\Vals xs its.toList
 | _=>False
theorem rd_cases {M:Mo} {H:Hp} {a:Addr} {u:HO} (h:rd M H a=some u):Rd H a u\/(H a=none/\M a=some u):=by
 unfold rd at h
 cases e:H a with
 | none=>rw[e]at h;exact .inr ⟨rfl,h⟩
 | some o=>
  rw[e]at h
  cases o<;>first | (injection h with h;subst h;exact .inl (.inl e)) | (injection h with h;subst h;exact .inl (.inr ⟨_,e⟩))
theorem rd_lst {K:PySem.W.Frag} {M:Mo} (m:ModOk K M) {H:Hp} {a:Addr} {xs:List V} (h:rd M H a=some (.lst xs)):SqL K H a xs:=by
 rcases rd_cases h with h | ⟨_,h⟩
 ·exact .inl h
 ·exact .inr (m a _ h)
theorem rd_tup {K:PySem.W.Frag} {M:Mo} (m:ModOk K M) {H:Hp} {a:Addr} {xs:List V} (h:rd M H a=some (.tup xs)):SqT K H a xs:=by
 rcases rd_cases h with h | ⟨_,h⟩
 ·exact .inl h
 ·exact .inr (m a _ h)
noncomputable def allM {α:Type} (f:V->Option α):List V->Option (List α)
 | []=>some []
 | x::r=>match f x,allM f r with
  | some a,some l=>some (a::l)
  | _,_=>none
noncomputable def data (M:Mo) (H:Hp):Nat->V->Option PyData
 | _,.non=>some .none
 | _,.bl b=>some (.bool b)
 | _,.int i=>some (.int i)
 | _,.str x=>some (.str x)
 | n + 1,.ref p=>match rd M H p with
  | some (.lst xs)=>(allM (data M H n) xs).map .list
  | some (.tup xs)=>(allM (data M H n) xs).map .tuple
  | _=>none
 | _,_=>none
theorem allM_cons {α:Type} {f:V->Option α} {x:V} {r:List V} {l:List α} (h:allM f (x::r)=some l):∃a t,f x=some a/\allM f r=some t/\l=a::t:=by
 unfold allM at h
 split at h
 ·rename_i a t h1 h2
  exact⟨a,t,h1,h2,(Option.some.inj h).symm⟩
 ·cases h
theorem allM_nil {α:Type} {f:V->Option α} {l:List α} (h:allM f []=some l):l=[]:=(Option.some.inj h).symm
theorem allM_get {α:Type} {f:V->Option α}:∀ {xs:List V} {bs:List α} {i:Nat} {x:V},allM f xs=some bs->xs[i]?=some x->∃b,bs[i]?=some b/\f x=some b
 | [],bs,i,x,h,e=>by simp at e
 | y::r,bs,i,x,h,e=>by
  obtain⟨a,t,h1,h2,rfl⟩:=allM_cons h
  cases i with
  | zero=>
   simp at e
   subst e
   exact⟨a,rfl,h1⟩
  | succ i=>exact allM_get (i:=i) h2 (by simpa using e)
theorem allM_length {α:Type} {f:V->Option α}:∀ {xs:List V} {bs:List α},allM f xs=some bs->bs.length=xs.length
 | [],bs,h=>by rw[allM_nil h];rfl
 | y::r,bs,h=>by
  obtain⟨a,t,h1,h2,rfl⟩:=allM_cons h
  simp[allM_length h2]
theorem Vals.back {xs:List V} {us:List Value} {i:Nat} {u:Value} (r:Vals xs us) (e:us[i]?=some u):∃x,xs[i]?=some x/\RelV x u:=by
 cases h:xs[i]? with
 | none=>
  have:=Vals.none_of r h
  rw[this]at e;cases e
 | some x=>
  obtain⟨u',e',rx⟩:=Vals.get r h
  rw[e']at e
  cases e
  exact⟨x,rfl,rx⟩
theorem eqvAll_self:∀ {xs:List PyData},(∀ d ∈ xs,PyData.eqv d d=true)->PyData.eqvAll xs xs=true
 | [],_=>rfl
 | x::r,h=>by
  rw[PyData.eqvAll,h x List.mem_cons_self,eqvAll_self fun d hd=>h d (List.mem_cons_of_mem _ hd)]
  rfl
theorem mem_allM {α:Type} {f:V->Option α}:∀ {xs:List V} {bs:List α} {b:α},allM f xs=some bs->b ∈ bs->∃x ∈ xs,f x=some b
 | [],bs,b,h,hb=>by rw[allM_nil h]at hb;cases hb
 | y::r,bs,b,h,hb=>by
  obtain⟨a,t,h1,h2,rfl⟩:=allM_cons h
  rcases List.mem_cons.mp hb with rfl | hb
  ·exact⟨y,List.mem_cons_self,h1⟩
  ·obtain⟨x,hx,e⟩:=mem_allM h2 hb
   exact⟨x,List.mem_cons_of_mem _ hx,e⟩
theorem data_self {M:Mo} {H:Hp}:∀ (n:Nat) (x:V) (d:PyData),data M H n x=some d->PyData.eqv d d=true:=by
 intro n
 induction n with
 | zero=>
  intro x d h
  cases x<;>first | (cases h;simp[PyData.eqv]) | cases h
 | succ n ih=>
  intro x d h
  cases x with
  | ref p=>
   unfold data at h
   split at h
   ·obtain⟨l,hl,rfl⟩:=Option.map_eq_some_iff.mp h
    rw[PyData.eqv]
    exact eqvAll_self fun d hd=>by
     obtain⟨x,_,e⟩:=mem_allM hl hd
     exact ih x d e
   ·obtain⟨l,hl,rfl⟩:=Option.map_eq_some_iff.mp h
    rw[PyData.eqv]
    exact eqvAll_self fun d hd=>by
     obtain⟨x,_,e⟩:=mem_allM hl hd
     exact ih x d e
   ·cases h
  | _=>first | (cases h;simp[PyData.eqv]) | cases h
inductive Lies (M:Mo) (H:Hp) (h:Heap) (n:Nat):V->Value->PyData->Prop where
 | non:Lies M H h n .non .none .none
 | bl (b:Bool):Lies M H h n (.bl b) (.bool b) (.bool b)
 | int (i:Int) (t:Tok):Lies M H h n (.int i) (.int i t) (.int i)
 | str (x:Str) (t:Tok):Lies M H h n (.str x) (.str x t) (.str x)
 | lst {p:Addr} {xs:List V} {its:List Value} {l:List PyData} {m:Nat}:n=m + 1->h.IsList p its.toArray->Vals xs its->allM (data M H m) xs=some l->Lies M H h n (.ref p) (.ref p) (.list l)
 | tup {p:Addr} {xs:List V} {its:List Value} {l:List PyData} {m:Nat}:n=m + 1->h.IsTuple p its.toArray->Vals xs its->allM (data M H m) xs=some l->Lies M H h n (.ref p) (.ref p) (.tuple l)
section
open PySem.SeqAt
variable {X:Cx} {M:Mo} {pins:List (Addr × Obj)} {σ:L2.St} {H:Hp} {s:Shared}
theorem lies (m:ModOk X.K M) (I:Inv X pins σ H s) {n:Nat} {x:V} {v:Value} {d:PyData} (rx:RelV x v) (h:data M H n x=some d):Lies M H s.heap n x v d:=by
 cases x with
 | non=>cases (show v=Value.none from rx);cases n<;>(cases h;exact .non)
 | bl b=>cases (show v=Value.bool b from rx);cases n<;>(cases h;exact .bl b)
 | int i=>obtain⟨t,e⟩:=(show ∃t,v=Value.int i t from rx);subst e;cases n<;>(cases h;exact .int i t)
 | str x=>obtain⟨t,e⟩:=(show ∃t,v=Value.str x t from rx);subst e;cases n<;>(cases h;exact .str x t)
 | ref p=>
  cases (show v=Value.ref p from rx)
  cases n with
  | zero=>cases h
  | succ n=>
   unfold data at h
   split at h
   ·rename_i xs e
    obtain⟨l,hl,rfl⟩:=Option.map_eq_some_iff.mp h
    obtain⟨its,rv,pl,_⟩:=I.list (rd_lst m e)
    exact .lst rfl pl.isList rv hl
   ·rename_i xs e
    obtain⟨l,hl,rfl⟩:=Option.map_eq_some_iff.mp h
    obtain⟨its,rv,pl,_⟩:=I.tuple (rd_tup m e)
    exact .tup rfl pl rv hl
   ·cases h
 | _=>cases n<;>cases h
theorem item_eqAt {n:Nat} {A:Around} (ih:∀ (x y:V) (v u:Value) (d e:PyData),RelV x v->RelV y u->data M H n x=some d->data M H n y=some e->EqAt A s v u (PyData.eqv d e))
  {xs ys:List V} {vs us:List Value} {l l':List PyData} (r1:Vals xs vs) (r2:Vals ys us) (h1:allM (data M H n) xs=some l) (h2:allM (data M H n) ys=some l'):
  ∀j (q1:j < vs.toArray.size) (q2:j < us.toArray.size),EqAt A s vs.toArray[j] us.toArray[j] (pairEq l l' j):=by
 intro j q1 q2
 have q1':j < vs.length:=by simpa using q1
 have q2':j < us.length:=by simpa using q2
 obtain⟨x,ex,rx⟩:=Vals.back r1 (List.getElem?_eq_getElem q1')
 obtain⟨y,ey,ry⟩:=Vals.back r2 (List.getElem?_eq_getElem q2')
 obtain⟨d,ed,fd⟩:=allM_get h1 ex
 obtain⟨e,ee,fe⟩:=allM_get h2 ey
 have:=ih x y _ _ d e rx ry fd fe
 show EqAt A s vs.toArray[j] us.toArray[j] (PyData.eqv (l.getD j .none) (l'.getD j .none))
 rw[List.getD_eq_getElem?_getD,List.getD_eq_getElem?_getD,ed,ee]
 simpa using this
theorem rc_lists {n:Nat} {A:Around} (hu:A.units < cLine) (ih:∀ (x y:V) (v u:Value) (d e:PyData),RelV x v->RelV y u->data M H n x=some d->data M H n y=some e->EqAt A.in1 s v u (PyData.eqv d e))
  {p q:Addr} {xs ys:List V} {vs us:List Value} {l l':List PyData} (hp:s.heap.IsList p vs.toArray) (hq:s.heap.IsList q us.toArray) (r1:Vals xs vs) (r2:Vals ys us) (h1:allM (data M H n) xs=some l) (h2:allM (data M H n) ys=some l'):
  RcAt A s (.ref p) (.ref q) (PyData.eqvAll l l')/\RcNeAt A s (.ref p) (.ref q) (!PyData.eqvAll l l'):=by
 have n1:vs.length=l.length:=by rw[allM_length h1];exact r1.length.symm
 have n2:us.length=l'.length:=by rw[allM_length h2];exact r2.length.symm
 by_cases hz:l.length=l'.length
 ·have hs:vs.toArray.size=us.toArray.size:=by simp;omega
  have e1:=RcAt.lists hp hq hs hu (item_eqAt ih r1 r2 h1 h2)
  have e2:=RcNeAt.lists hp hq hs hu (item_eqAt ih r1 r2 h1 h2)
  rw[List.size_toArray,n1,eqvAll_same_length hz]at e1 e2
  exact⟨e1,e2⟩
 ·have hs:(vs.toArray.size != us.toArray.size)=true:=by simp;omega
  rw[eqvAll_other_length hz]
  exact⟨RcAt.lists_lengths hp hq hs hu,RcNeAt.lists_lengths hp hq hs hu⟩
theorem rc_tuples {n:Nat} {A:Around} (hu:A.units < cLine) (ih:∀ (x y:V) (v u:Value) (d e:PyData),RelV x v->RelV y u->data M H n x=some d->data M H n y=some e->EqAt A.in1 s v u (PyData.eqv d e))
  {p q:Addr} {xs ys:List V} {vs us:List Value} {l l':List PyData} (hp:s.heap.IsTuple p vs.toArray) (hq:s.heap.IsTuple q us.toArray) (r1:Vals xs vs) (r2:Vals ys us) (h1:allM (data M H n) xs=some l) (h2:allM (data M H n) ys=some l'):
  RcAt A s (.ref p) (.ref q) (PyData.eqvAll l l')/\RcNeAt A s (.ref p) (.ref q) (!PyData.eqvAll l l'):=by
 have n1:vs.length=l.length:=by rw[allM_length h1];exact r1.length.symm
 have n2:us.length=l'.length:=by rw[allM_length h2];exact r2.length.symm
 have e1:=RcAt.tuples hp hq hu (item_eqAt ih r1 r2 h1 h2)
 have e2:=RcNeAt.tuples hp hq hu (item_eqAt ih r1 r2 h1 h2)
 rw[List.size_toArray,List.size_toArray,n1,n2,eqvAll_eq]at e1 e2
 exact⟨e1,e2⟩
theorem ref_eqAt {n:Nat} {A:Around} {p q:Addr} {d e:PyData} (h1:data M H n (.ref p)=some d) (h2:data M H n (.ref q)=some e) (h:RcAt A s (.ref p) (.ref q) (PyData.eqv d e)):EqAt A s (.ref p) (.ref q) (PyData.eqv d e):=by
 by_cases hpq:p=q
 ·subst hpq
  have hd:=h1.symm.trans h2
  cases hd
  rw[data_self _ _ _ h1]
  exact EqAt.same _
 ·exact EqAt.of_refs hpq h
theorem eqAt_data (m:ModOk X.K M) (I:Inv X pins σ H s):∀ (n:Nat) (A:Around) (x y:V) (v u:Value) (d e:PyData),A.units + n < cLine->RelV x v->RelV y u->data M H n x=some d->data M H n y=some e->EqAt A s v u (PyData.eqv d e):=by
 intro n
 induction n with
 | zero=>
  intro A x y v u d e hu rx ry h1 h2
  cases lies m I rx h1 with
  | non=>
   cases lies m I ry h2 with
   | non=>exact EqAt.same _
   | bl b2=>exact EqAt.none_bool b2
   | int i2 t2=>exact EqAt.none_int i2 t2
   | str z2 t2=>exact EqAt.none_str z2 t2
   | lst z2 hl2 r2 a2=>exact absurd z2 (by omega)
   | tup z2 hl2 r2 a2=>exact absurd z2 (by omega)
  | bl b1=>
   cases lies m I ry h2 with
   | non=>exact EqAt.bool_none b1
   | bl b2=>exact EqAt.bool_bool b1 b2
   | int i2 t2=>exact EqAt.bool_int b1 i2 t2
   | str z2 t2=>exact EqAt.bool_str b1 z2 t2
   | lst z2 hl2 r2 a2=>exact absurd z2 (by omega)
   | tup z2 hl2 r2 a2=>exact absurd z2 (by omega)
  | int i1 t1=>
   cases lies m I ry h2 with
   | non=>exact EqAt.int_none i1 t1
   | bl b2=>exact EqAt.int_bool i1 t1 b2
   | int i2 t2=>exact EqAt.int_int i1 t1 i2 t2
   | str z2 t2=>exact EqAt.int_str i1 t1 z2 t2
   | lst z2 hl2 r2 a2=>exact absurd z2 (by omega)
   | tup z2 hl2 r2 a2=>exact absurd z2 (by omega)
  | str z1 t1=>
   cases lies m I ry h2 with
   | non=>exact EqAt.str_none z1 t1
   | bl b2=>exact EqAt.str_bool z1 t1 b2
   | int i2 t2=>exact EqAt.str_int z1 t1 i2 t2
   | str z2 t2=>exact EqAt.str_str z1 t1 z2 t2
   | lst z2 hl2 r2 a2=>exact absurd z2 (by omega)
   | tup z2 hl2 r2 a2=>exact absurd z2 (by omega)
  | lst z1 hl1 r1 a1=>
   exact absurd z1 (by omega)
  | tup z1 hl1 r1 a1=>
   exact absurd z1 (by omega)
 | succ n ih=>
  intro A x y v u d e hu rx ry h1 h2
  have hu0:A.units < cLine:=by omega
  have ih1:∀ (x y:V) (v u:Value) (d e:PyData),RelV x v->RelV y u->data M H n x=some d->data M H n y=some e->EqAt A.in1 s v u (PyData.eqv d e):=
   fun x y v u d e=>ih A.in1 x y v u d e (by show A.units + 1 + n < cLine;omega)
  cases lies m I rx h1 with
  | non=>
   cases lies m I ry h2 with
   | non=>exact EqAt.same _
   | bl b2=>exact EqAt.none_bool b2
   | int i2 t2=>exact EqAt.none_int i2 t2
   | str z2 t2=>exact EqAt.none_str z2 t2
   | lst z2 hl2 r2 a2=>exact EqAt.none_list hl2 hu0
   | tup z2 hl2 r2 a2=>exact EqAt.none_tuple hl2 hu0
  | bl b1=>
   cases lies m I ry h2 with
   | non=>exact EqAt.bool_none b1
   | bl b2=>exact EqAt.bool_bool b1 b2
   | int i2 t2=>exact EqAt.bool_int b1 i2 t2
   | str z2 t2=>exact EqAt.bool_str b1 z2 t2
   | lst z2 hl2 r2 a2=>exact EqAt.bool_list b1 hl2 hu0
   | tup z2 hl2 r2 a2=>exact EqAt.bool_tuple b1 hl2 hu0
  | int i1 t1=>
   cases lies m I ry h2 with
   | non=>exact EqAt.int_none i1 t1
   | bl b2=>exact EqAt.int_bool i1 t1 b2
   | int i2 t2=>exact EqAt.int_int i1 t1 i2 t2
   | str z2 t2=>exact EqAt.int_str i1 t1 z2 t2
   | lst z2 hl2 r2 a2=>exact EqAt.int_list i1 t1 hl2 hu0
   | tup z2 hl2 r2 a2=>exact EqAt.int_tuple i1 t1 hl2 hu0
  | str z1 t1=>
   cases lies m I ry h2 with
   | non=>exact EqAt.str_none z1 t1
   | bl b2=>exact EqAt.str_bool z1 t1 b2
   | int i2 t2=>exact EqAt.str_int z1 t1 i2 t2
   | str z2 t2=>exact EqAt.str_str z1 t1 z2 t2
   | lst z2 hl2 r2 a2=>exact EqAt.str_list z1 t1 hl2 hu0
   | tup z2 hl2 r2 a2=>exact EqAt.str_tuple z1 t1 hl2 hu0
  | lst z1 hl1 r1 a1=>
   cases lies m I ry h2 with
   | non=>exact EqAt.list_none hl1 hu0
   | bl b2=>exact EqAt.list_bool b2 hl1 hu0
   | int i2 t2=>exact EqAt.list_int i2 t2 hl1 hu0
   | str z2 t2=>exact EqAt.list_str z2 t2 hl1 hu0
   | lst z2 hl2 r2 a2=>
    cases z1;cases z2
    exact ref_eqAt h1 h2 (rc_lists hu0 ih1 hl1 hl2 r1 r2 a1 a2).1
   | tup z2 hl2 r2 a2=>exact EqAt.list_tuple hl1 hl2 hu0
  | tup z1 hl1 r1 a1=>
   cases lies m I ry h2 with
   | non=>exact EqAt.tuple_none hl1 hu0
   | bl b2=>exact EqAt.tuple_bool b2 hl1 hu0
   | int i2 t2=>exact EqAt.tuple_int i2 t2 hl1 hu0
   | str z2 t2=>exact EqAt.tuple_str z2 t2 hl1 hu0
   | lst z2 hl2 r2 a2=>exact EqAt.tuple_list hl1 hl2 hu0
   | tup z2 hl2 r2 a2=>
    cases z1;cases z2
    exact ref_eqAt h1 h2 (rc_tuples hu0 ih1 hl1 hl2 r1 r2 a1 a2).1
theorem rcAt_data (m:ModOk X.K M) (I:Inv X pins σ H s) {n:Nat} {A:Around} {x y:V} {v u:Value} {d e:PyData} (hu:A.units + (n + 1) < cLine) (rx:RelV x v) (ry:RelV y u) (h1:data M H (n + 1) x=some d) (h2:data M H (n + 1) y=some e):
  RcAt A s v u (PyData.eqv d e)/\RcNeAt A s v u (!PyData.eqv d e):=by
 have hu0:A.units < cLine:=by omega
 have ih1:∀ (x y:V) (v u:Value) (d e:PyData),RelV x v->RelV y u->data M H n x=some d->data M H n y=some e->EqAt A.in1 s v u (PyData.eqv d e):=
  fun x y v u d e=>eqAt_data m I n A.in1 x y v u d e (by show A.units + 1 + n < cLine;omega)
 cases lies m I rx h1 with
 | non=>
  cases lies m I ry h2 with
  | non=>exact⟨RcAt.none_none,RcNeAt.none_none⟩
  | bl b2=>exact⟨RcAt.none_bool b2,RcNeAt.none_bool b2⟩
  | int i2 t2=>exact⟨RcAt.none_int i2 t2,RcNeAt.none_int i2 t2⟩
  | str z2 t2=>exact⟨RcAt.none_str z2 t2,RcNeAt.none_str z2 t2⟩
  | lst z2 hl2 r2 a2=>exact⟨RcAt.none_list hl2 hu0,RcNeAt.none_list hl2 hu0⟩
  | tup z2 hl2 r2 a2=>exact⟨RcAt.none_tuple hl2 hu0,RcNeAt.none_tuple hl2 hu0⟩
 | bl b1=>
  cases lies m I ry h2 with
  | non=>exact⟨RcAt.bool_none b1,RcNeAt.bool_none b1⟩
  | bl b2=>exact⟨RcAt.bool_bool b1 b2,RcNeAt.bool_bool b1 b2⟩
  | int i2 t2=>exact⟨RcAt.bool_int b1 i2 t2,RcNeAt.bool_int b1 i2 t2⟩
  | str z2 t2=>exact⟨RcAt.bool_str b1 z2 t2,RcNeAt.bool_str b1 z2 t2⟩
  | lst z2 hl2 r2 a2=>exact⟨RcAt.bool_list b1 hl2 hu0,RcNeAt.bool_list b1 hl2 hu0⟩
  | tup z2 hl2 r2 a2=>exact⟨RcAt.bool_tuple b1 hl2 hu0,RcNeAt.bool_tuple b1 hl2 hu0⟩
 | int i1 t1=>
  cases lies m I ry h2 with
  | non=>exact⟨RcAt.int_none i1 t1,RcNeAt.int_none i1 t1⟩
  | bl b2=>exact⟨RcAt.int_bool i1 t1 b2,RcNeAt.int_bool i1 t1 b2⟩
  | int i2 t2=>exact⟨RcAt.int_int i1 t1 i2 t2,RcNeAt.int_int i1 t1 i2 t2⟩
  | str z2 t2=>exact⟨RcAt.int_str i1 t1 z2 t2,RcNeAt.int_str i1 t1 z2 t2⟩
  | lst z2 hl2 r2 a2=>exact⟨RcAt.int_list i1 t1 hl2 hu0,RcNeAt.int_list i1 t1 hl2 hu0⟩
  | tup z2 hl2 r2 a2=>exact⟨RcAt.int_tuple i1 t1 hl2 hu0,RcNeAt.int_tuple i1 t1 hl2 hu0⟩
 | str z1 t1=>
  cases lies m I ry h2 with
  | non=>exact⟨RcAt.str_none z1 t1,RcNeAt.str_none z1 t1⟩
  | bl b2=>exact⟨RcAt.str_bool z1 t1 b2,RcNeAt.str_bool z1 t1 b2⟩
  | int i2 t2=>exact⟨RcAt.str_int z1 t1 i2 t2,RcNeAt.str_int z1 t1 i2 t2⟩
  | str z2 t2=>exact⟨RcAt.str_str z1 t1 z2 t2,RcNeAt.str_str z1 t1 z2 t2⟩
  | lst z2 hl2 r2 a2=>exact⟨RcAt.str_list z1 t1 hl2 hu0,RcNeAt.str_list z1 t1 hl2 hu0⟩
  | tup z2 hl2 r2 a2=>exact⟨RcAt.str_tuple z1 t1 hl2 hu0,RcNeAt.str_tuple z1 t1 hl2 hu0⟩
 | lst z1 hl1 r1 a1=>
  cases lies m I ry h2 with
  | non=>exact⟨RcAt.list_none hl1 hu0,RcNeAt.list_none hl1 hu0⟩
  | bl b2=>exact⟨RcAt.list_bool b2 hl1 hu0,RcNeAt.list_bool b2 hl1 hu0⟩
  | int i2 t2=>exact⟨RcAt.list_int i2 t2 hl1 hu0,RcNeAt.list_int i2 t2 hl1 hu0⟩
  | str z2 t2=>exact⟨RcAt.list_str z2 t2 hl1 hu0,RcNeAt.list_str z2 t2 hl1 hu0⟩
  | lst z2 hl2 r2 a2=>
   cases z1;cases z2
   exact rc_lists hu0 ih1 hl1 hl2 r1 r2 a1 a2
  | tup z2 hl2 r2 a2=>exact⟨RcAt.list_tuple hl1 hl2 hu0,RcNeAt.list_tuple hl1 hl2 hu0⟩
 | tup z1 hl1 r1 a1=>
  cases lies m I ry h2 with
  | non=>exact⟨RcAt.tuple_none hl1 hu0,RcNeAt.tuple_none hl1 hu0⟩
  | bl b2=>exact⟨RcAt.tuple_bool b2 hl1 hu0,RcNeAt.tuple_bool b2 hl1 hu0⟩
  | int i2 t2=>exact⟨RcAt.tuple_int i2 t2 hl1 hu0,RcNeAt.tuple_int i2 t2 hl1 hu0⟩
  | str z2 t2=>exact⟨RcAt.tuple_str z2 t2 hl1 hu0,RcNeAt.tuple_str z2 t2 hl1 hu0⟩
  | lst z2 hl2 r2 a2=>exact⟨RcAt.tuple_list hl1 hl2 hu0,RcNeAt.tuple_list hl1 hl2 hu0⟩
  | tup z2 hl2 r2 a2=>
   cases z1;cases z2
   exact rc_tuples hu0 ih1 hl1 hl2 r1 r2 a1 a2
end
section
variable (M:Mo)
noncomputable def bnd (i:Int):Bool:=decide (-(2 ^ 64) < i) && decide (i < 2 ^ 64)
noncomputable def binV (op:Operator) (x y:V) (H:Hp) (Q:VK):Prop:=match op,x,y with
 | .Add,.int i,.int j=>Q (.int (i + j)) H
 | .Add,.str i,.str j=>i.length + j.length<=sizeLine/\Q (.str (i++j)) H
 | .Add,.ref a,.ref b=>match rd M H a,rd M H b with
  | some (.lst xs),some (.lst ys)=>xs.length + ys.length<=sizeLine/\∀p,H p=none->M p=none->Q (.ref p) (upd H p (.lst (xs++ys)))
  | some (.tup xs),some (.tup ys)=>xs ≠ []/\ys ≠ []/\xs.length + ys.length<=sizeLine/\∀p,H p=none->M p=none->Q (.ref p) (upd H p (.tup (xs++ys)))
  | _,_=>False
 | .Sub,.int i,.int j=>Q (.int (i - j)) H
 | .Mult,.int i,.int j=>(bnd i || bnd j)=true/\Q (.int (i * j)) H
 | .Mult,.str x,.int k=>(-(2 ^ 63)<=k/\k < 2 ^ 63/\x.length * k.toNat<=16777216)/\Q (.str (Txt.mul x k)) H
 | .Mult,.ref a,.int k=>match H a with
  | some (.lst xs)=>-(2 ^ 63)<=k/\k < 2 ^ 63/\xs.length * k.toNat<=sizeLine/\∀p,H p=none->M p=none->Q (.ref p) (upd H p (.lst (List.replicate k.toNat xs).flatten))
  | _=>False
 | .FloorDiv,.int i,.int j=>0 < j/\j < 1073741824/\Q (.int (i / j)) H
 | .Mod,.int i,.int j=>0 < j/\Q (.int (i % j)) H
 | .Pow,.int i,.int j=>CPow i j/\Q (.int (i ^ j.toNat)) H
 | _,_,_=>False
noncomputable def cmpV (op:CmpOp) (x y:V) (H:Hp) (Q:VK):Prop:=match op,x,y with
 | .Eq,_,_=>if scal x y=true then Q (.bl (decide (x=y))) H else match data M H 16 x,data M H 16 y with
  | some d,some e=>Q (.bl (PyData.eqv d e)) H
  | _,_=>False
 | .NotEq,_,_=>if scal x y=true then Q (.bl (!decide (x=y))) H else match data M H 16 x,data M H 16 y with
  | some d,some e=>Q (.bl (!PyData.eqv d e)) H
  | _,_=>False
 | .Lt,.int i,.int j=>Q (.bl (decide (i < j))) H
 | .Gt,.int i,.int j=>Q (.bl (decide (j < i))) H
 | .GtE,.int i,.int j=>Q (.bl (decide (j<=i))) H
 | .Lt,.str i,.str j=>Q (.bl (decide (i.cps.toList < j.cps.toList))) H
 | .Gt,.str i,.str j=>Q (.bl (decide (j.cps.toList < i.cps.toList))) H
 | .GtE,.str i,.str j=>Q (.bl (!decide (i.cps.toList < j.cps.toList))) H
 | .In,.str i,.str j=>Q (.bl (!(Builtin.Str.occurrences j i 0 j.length 1).isEmpty)) H
 | .NotIn,.str i,.str j=>Q (.bl (!(!(Builtin.Str.occurrences j i 0 j.length 1).isEmpty))) H
 | .In,_,.ref p=>match rd M H p with
  | some (.lst xs)=>flatV x=true/\xs.all flatV=true/\Q (.bl (inV x xs)) H
  | some (.tup xs)=>flatV x=true/\xs.all flatV=true/\Q (.bl (inV x xs)) H
  | _=>False
 | .NotIn,_,.ref p=>match rd M H p with
  | some (.lst xs)=>flatV x=true/\xs.all flatV=true/\Q (.bl (!inV x xs)) H
  | some (.tup xs)=>flatV x=true/\xs.all flatV=true/\Q (.bl (!inV x xs)) H
  | _=>False
 | _,_,_=>False
noncomputable def truV (x:V) (H:Hp) (Q:Bool->Prop):Prop:=match x with
 | .non=>Q false
 | .bl b=>Q b
 | .int i=>Q (i != 0)
 | .str y=>y.length<=sizeLine/\Q ((y.length:Int) != 0)
 | .ref p=>match rd M H p with
  | some (.lst xs)=>Q (!xs.isEmpty)
  | some (.tup xs)=>Q (!xs.isEmpty)
  | _=>False
 | _=>False
noncomputable def idxV (x y:V) (H:Hp) (Q:VK):Prop:=match x,y with
 | .str z,.int i=>z.length<=sizeLine/\match atI z.cps.toList i with | some c=>Q (.str ⟨#[c]⟩) H | none=>False
 | .ref p,.int i=>match rd M H p with
  | some (.lst xs)=>match atI xs i with | some v=>Q v H | none=>False
  | some (.tup xs)=>match atI xs i with | some v=>Q v H | none=>False
  | _=>False
 | _,_=>False
end
section
variable {X:Cx} {M:Mo}
theorem bnd_ok {i j:Int} (h:(bnd i || bnd j)=true):CMul i j:=by
 unfold bnd at h
 simp only[Bool.or_eq_true,Bool.and_eq_true,decide_eq_true_eq]at h
 exact h
noncomputable def OffM (M:Mo) (H:Hp):Prop:=∀a,M a ≠ none->H a=none
theorem ModOk.look {K:PySem.W.Frag} {M:Mo} (m:ModOk K M) {a:Addr} (h:M a ≠ none):∃o,K.lookup a=some o:=by
 cases e:M a with
 | none=>exact absurd e h
 | some u=>
  have z:=m a u e
  cases u<;>first | exact z.elim | (obtain⟨o,_,_,h1,_⟩:=z;exact⟨o,h1⟩)
theorem Inv.offM (m:ModOk X.K M) {pins:List (Addr × Obj)} {σ:L2.St} {H:Hp} {s:Shared} (I:Inv X pins σ H s):OffM M H:=fun a h=>by
 obtain⟨o,e⟩:=m.look h
 exact(I.bs a o (I.ok.mod.kin a o e)).2
theorem OffM.new {H:Hp} {p:Addr} {o:HO} (h:OffM M (upd H p o)):M p=none:=by
 cases e:M p with
 | none=>rfl
 | some u=>
  have z:=h p (by rw[e];intro z;cases z)
  rw[upd_same]at z
  cases z
theorem ep_off (m:ModOk X.K M) {pins:List (Addr × Obj)} {σ:L2.St} {Q:VK} {u:Value} {s:Shared} (h:EP X pins σ (fun v H'=>OffM M H'->Q v H') u s):EP X pins σ Q u s:=by
 obtain⟨v,H',I,r,q⟩:=h
 exact⟨v,H',I,r,q (Inv.offM m I)⟩
theorem cat_lists (m:ModOk X.K M) {pins:List (Addr × Obj)} {s:Shared} {σ:L2.St} {H:Hp} {l b:Addr} {xs ys:List V} {Q:VK} (I:Inv X pins σ H s) (ha:SqL X.K H l xs) (hb:SqL X.K H b ys) (hz:xs.length + ys.length<=sizeLine)
  (h:∀p,H p=none->M p=none->Q (.ref p) (upd H p (.lst (xs++ys)))):wpAny (model X.prog X.w) X.A (binaryOp .Add (.ref l) (.ref b)) (EP X pins σ Q) X.xe s:=by
 obtain⟨its,r1,p1,_⟩:=I.list ha
 obtain⟨its2,r2,p2,_⟩:=I.list hb
 obtain⟨⟨c1,d1,da1,sl1⟩,n1,o1,hc1,hd1,hda1⟩:=p1
 obtain⟨⟨c2,d2,da2,sl2⟩,n2,o2,hc2,hd2,hda2⟩:=p2
 simp only at hc1 hda1 hc2 hda2
 subst hc1 hda1 hc2 hda2
 have hsz:its.toArray.size + its2.toArray.size<=sizeLine:=by rw[List.size_toArray,List.size_toArray,<-r1.length,<-r2.length];exact hz
 refine concat_meets ⟨_,o1,rfl⟩ ⟨_,o2,rfl⟩ noFill_list_add seq_list_add PySem.F.slot_list_add PySem.F.entry_list_add (PySem.F.args_list_add_2 _ _) (list_addW l b its.toArray its2.toArray n1 n2 d1 d2 sl1 sl2 hsz) ⟨o1,o2,?_⟩
 have ea:its.toArray++its2.toArray=(its++its2).toArray:=by simp
 rw[ea]
 have I2:=I.lnew (t':=s.toks) (r1.append r2) (by rw[List.length_append];exact hz)
 exact⟨.ref _,_,I2,rfl,h _ I.fresh (OffM.new (Inv.offM m I2))⟩
theorem mul_ok {x:Str} {k:Int} (h: -(2 ^ 63)<=k/\k < 2 ^ 63/\x.length * k.toNat<=16777216):MulOk x k:=by
 obtain⟨h1,h2,h3⟩:=h
 refine⟨by simp;omega,fun z _=>?_,fun z _=>?_⟩
 ·have hk:0 < k:=by omega
  intro hc
  have:=Int.lt_of_lt_of_le (Int.lt_mul_of_ediv_lt hk hc) (Int.le_refl _)
  have e:(x.length:Int) * k=((x.length * k.toNat:Nat):Int):=by
   rw[Int.natCast_mul]
   congr 1
   omega
  rw[e]at this
  omega
 ·unfold Builtin.Str.tooLong
  rw[decide_eq_false_iff_not,sizeLine_eq]
  omega
theorem bin_ok (m:ModOk X.K M) (op:Operator):OpR X (binaryOp op) (binV M op):=by
 intro pins s σ H x y v u Q I rx ry h
 cases op with
 | Add=>
  cases x with
  | int i=>
   cases y with
   | int j=>
    exact op_add pins s σ H _ _ v u Q I rx ry ⟨_,_,rfl,rfl,h⟩
   | _=>exact False.elim h
  | str i=>
   cases y with
   | str j=>
    exact op_add_str pins s σ H _ _ v u Q I rx ry ⟨_,_,rfl,rfl,h.1,h.2⟩
   | _=>exact False.elim h
  | ref a=>
   cases y with
   | ref b=>
    unfold binV at h
    dsimp only at h
    split at h
    ·rename_i xs ys ea eb
     cases rx
     cases ry
     exact cat_lists m I (rd_lst m ea) (rd_lst m eb) h.1 h.2
    ·rename_i xs ys ea eb
     exact thn (op_catT pins s σ H _ _ v u _ I rx ry ⟨_,_,xs,ys,rfl,rfl,rd_tup m ea,rd_tup m eb,h.1,h.2.2.1,fun z=>absurd z h.2.1,fun _ p hp of=>h.2.2.2 p hp of.new⟩) fun _ _=>ep_off m
    ·exact h.elim
   | _=>exact False.elim h
  | _=>first | exact False.elim h | (cases y<;>exact False.elim h)
 | Sub=>
  cases x with
  | int i=>
   cases y with
   | int j=>
    exact op_sub pins s σ H _ _ v u Q I rx ry ⟨_,_,rfl,rfl,h⟩
   | _=>exact False.elim h
  | _=>first | exact False.elim h | (cases y<;>exact False.elim h)
 | Mult=>
  cases x with
  | int i=>
   cases y with
   | int j=>
    exact op_mul pins s σ H _ _ v u Q I rx ry ⟨_,_,rfl,rfl,bnd_ok h.1,h.2⟩
   | _=>exact False.elim h
  | str z=>
   cases y with
   | int k=>
    obtain⟨t,rfl⟩:=rx
    obtain⟨t',rfl⟩:=ry
    exact PySem.SB.mul (mul_ok h.1) fun t' k=>⟨.str _,H,I.tok _,⟨_,rfl⟩,h.2⟩
   | _=>exact False.elim h
  | ref a=>
   cases y with
   | int k=>
    unfold binV at h
    dsimp only at h
    split at h
    ·rename_i xs ea
     exact thn (op_rep pins s σ H _ _ v u _ I rx ry ⟨_,_,xs,rfl,rfl,ea,h.1,h.2.1,h.2.2.1,fun p hp of=>h.2.2.2 p hp of.new⟩) fun _ _=>ep_off m
    ·exact h.elim
   | _=>exact False.elim h
  | _=>first | exact False.elim h | (cases y<;>exact False.elim h)
 | FloorDiv=>
  cases x with
  | int i=>
   cases y with
   | int j=>
    exact op_fdiv pins s σ H _ _ v u Q I rx ry ⟨_,_,rfl,rfl,⟨h.1,h.2.1⟩,h.2.2⟩
   | _=>exact False.elim h
  | _=>first | exact False.elim h | (cases y<;>exact False.elim h)
 | Mod=>
  cases x with
  | int i=>
   cases y with
   | int j=>
    exact op_mod pins s σ H _ _ v u Q I rx ry ⟨_,_,rfl,rfl,h.1,h.2⟩
   | _=>exact False.elim h
  | _=>first | exact False.elim h | (cases y<;>exact False.elim h)
 | Pow=>
  cases x with
  | int i=>
   cases y with
   | int j=>
    exact op_pow pins s σ H _ _ v u Q I rx ry ⟨_,_,rfl,rfl,h.1,h.2⟩
   | _=>exact False.elim h
  | _=>first | exact False.elim h | (cases y<;>exact False.elim h)
 | _=>exact False.elim h
theorem in_any {op:CmpOp} {x y:V} {H:Hp} {Q:VK} (h:cmpV M op x y H Q) (e:op=.In\/op=.NotIn):(∃ i j,x=.str i/\y=.str j)\/∃p,y=.ref p:=by
 cases y with
 | ref p=>exact .inr ⟨p,rfl⟩
 | str j=>cases x with
  | str i=>exact .inl ⟨i,j,rfl,rfl⟩
  | _=>rcases e with e | e<;>(subst e;exact False.elim h)
 | _=>rcases e with e | e<;>(subst e;cases x<;>exact False.elim h)
theorem lt_any {op:CmpOp} {x y:V} {H:Hp} {Q:VK} (h:cmpV M op x y H Q) (e:op=.Lt\/op=.LtE\/op=.Gt\/op=.GtE):(∃ i j,x=.int i/\y=.int j)\/∃i j,x=.str i/\y=.str j:=by
 cases x with
 | int i=>cases y with
  | int j=>exact .inl ⟨i,j,rfl,rfl⟩
  | _=>rcases e with e | e | e | e<;>(subst e;exact False.elim h)
 | str i=>cases y with
  | str j=>exact .inr ⟨i,j,rfl,rfl⟩
  | _=>rcases e with e | e | e | e<;>(subst e;exact False.elim h)
 | _=>rcases e with e | e | e | e<;>(subst e;exact False.elim h)
theorem cmp_ok (hu:X.A.units + 64 < cLine) (m:ModOk X.K M) (op:CmpOp):OpR X (compareOp op) (cmpV M op):=by
 intro pins s σ H x y v u Q I rx ry h
 cases op with
 | Eq=>
  by_cases hs:scal x y=true
  ·exact op_eq pins s σ H _ _ v u Q I rx ry ⟨hs,Eq.mp (if_pos hs) (show(if scal x y=true then _ else _)from h)⟩
  ·have h:=Eq.mp (if_neg hs) (show(if scal x y=true then _ else _)from h)
   split at h
   ·rename_i d e h1 h2
    exact(rcAt_data (n:=15) m I (by omega) rx ry h1 h2).1 X.prog X.w X.xe _ ⟨.bl _,H,I,rfl,h⟩
   ·exact h.elim
 | NotEq=>
  by_cases hs:scal x y=true
  ·exact op_ne pins s σ H _ _ v u Q I rx ry ⟨hs,Eq.mp (if_pos hs) (show(if scal x y=true then _ else _)from h)⟩
  ·have h:=Eq.mp (if_neg hs) (show(if scal x y=true then _ else _)from h)
   split at h
   ·rename_i d e h1 h2
    exact(rcAt_data (n:=15) m I (by omega) rx ry h1 h2).2 X.prog X.w X.xe _ ⟨.bl _,H,I,rfl,h⟩
   ·exact h.elim
 | Lt=>
  obtain⟨i,j,rfl,rfl⟩ | ⟨i,j,rfl,rfl⟩:=lt_any h (.inl rfl)
  ·exact op_lt pins s σ H _ _ v u Q I rx ry ⟨_,_,rfl,rfl,h⟩
  ·exact op_lt_str pins s σ H _ _ v u Q I rx ry ⟨_,_,rfl,rfl,h⟩
 | Gt=>
  obtain⟨i,j,rfl,rfl⟩ | ⟨i,j,rfl,rfl⟩:=lt_any h (.inr (.inr (.inl rfl)))
  ·exact op_gt pins s σ H _ _ v u Q I rx ry ⟨_,_,rfl,rfl,h⟩
  ·obtain⟨t,rfl⟩:=rx
   obtain⟨t',rfl⟩:=ry
   exact PySem.P.gt_str (fin_bl I h rfl)
 | GtE=>
  obtain⟨i,j,rfl,rfl⟩ | ⟨i,j,rfl,rfl⟩:=lt_any h (.inr (.inr (.inr rfl)))
  ·exact op_ge pins s σ H _ _ v u Q I rx ry ⟨_,_,rfl,rfl,h⟩
  ·obtain⟨t,rfl⟩:=rx
   obtain⟨t',rfl⟩:=ry
   exact PySem.P.ge_str (fin_bl I h rfl)
 | In=>
  obtain⟨i,j,rfl,rfl⟩ | ⟨p,rfl⟩:=in_any h (.inl rfl)
  ·exact op_in_str pins s σ H _ _ v u Q I rx ry ⟨_,_,rfl,rfl,h⟩
  ·have h:(match rd M H p with
    | some (.lst xs)=>flatV x=true/\xs.all flatV=true/\Q (.bl (inV x xs)) H
    | some (.tup xs)=>flatV x=true/\xs.all flatV=true/\Q (.bl (inV x xs)) H
    | _=>False):=by cases x<;>exact h
   split at h
   ·rename_i e;exact op_in_seq pins s σ H _ _ v u Q I rx ry ⟨_,_,rfl,.inl (rd_lst m e),h.1,h.2.1,h.2.2⟩
   ·rename_i e;exact op_in_seq pins s σ H _ _ v u Q I rx ry ⟨_,_,rfl,.inr (rd_tup m e),h.1,h.2.1,h.2.2⟩
   ·exact h.elim
 | NotIn=>
  obtain⟨i,j,rfl,rfl⟩ | ⟨p,rfl⟩:=in_any h (.inr rfl)
  ·exact op_notin_str pins s σ H _ _ v u Q I rx ry ⟨_,_,rfl,rfl,h⟩
  ·have h:(match rd M H p with
    | some (.lst xs)=>flatV x=true/\xs.all flatV=true/\Q (.bl (!inV x xs)) H
    | some (.tup xs)=>flatV x=true/\xs.all flatV=true/\Q (.bl (!inV x xs)) H
    | _=>False):=by cases x<;>exact h
   split at h
   ·rename_i e;exact op_notIn_seq pins s σ H _ _ v u Q I rx ry ⟨_,_,rfl,.inl (rd_lst m e),h.1,h.2.1,h.2.2⟩
   ·rename_i e;exact op_notIn_seq pins s σ H _ _ v u Q I rx ry ⟨_,_,rfl,.inr (rd_tup m e),h.1,h.2.1,h.2.2⟩
   ·exact h.elim
 | _=>exact False.elim h
theorem tru_of (m:ModOk X.K M):TruR X (fun x H Q=>truV M x H fun k=>Q k H):=by
 intro pins s σ H x v Q I rx h
 refine tru_ok pins s σ H x v Q I rx ?_
 unfold truV at h
 split at h
 ·exact⟨_,rfl,h⟩
 ·exact⟨_,rfl,h⟩
 ·exact⟨_,rfl,h⟩
 ·exact⟨_,⟨h.1,rfl⟩,h.2⟩
 ·split at h
  ·rename_i e;exact⟨_,.inl ⟨_,rd_lst m e,rfl⟩,h⟩
  ·rename_i e;exact⟨_,.inr (.inl ⟨_,rd_tup m e,rfl⟩),h⟩
  ·exact h.elim
 ·exact h.elim
theorem idx_ok (m:ModOk X.K M):IxR X (idxV M):=by
 intro value slice pins s σ H x y v u Q I rx ry h hs
 refine ix_seq value slice pins s σ H x y v u Q I rx ry ?_ hs
 unfold idxV at h
 split at h
 ·obtain⟨h1,h⟩:=h
  split at h
  ·rename_i e;exact .inr (.inr ⟨_,_,_,rfl,rfl,h1,e,h⟩)
  ·exact h.elim
 ·split at h
  ·rename_i e
   split at h
   ·rename_i e2;exact .inl ⟨_,_,_,_,rfl,rfl,rd_lst m e,e2,h⟩
   ·exact h.elim
  ·rename_i e
   split at h
   ·rename_i e2;exact .inr (.inl ⟨_,_,_,_,rfl,rfl,rd_tup m e,e2,h⟩)
   ·exact h.elim
  ·exact h.elim
 ·exact h.elim
end
end Sw
namespace Sw
open PySem PySem.Spec PyProof.Rows L2
inductive Bf where | len | all | any | str | int | abs | sorted | sortset | list | tuple | max | min | sum | dlen | dsorted | smin
 deriving DecidableEq
noncomputable def Bf.name:Bf->Str
 | .len=> "len" | .all=> "all" | .any=> "any" | .str=> "str" | .int=> "int" | .abs=> "abs" | .sorted=> "sorted" | .sortset=> "sorted" | .list=> "list" | .tuple=> "tuple" | .max=> "max" | .min=> "min" | .sum=> "sum" | .dlen=> "len" | .dsorted=> "sorted" | .smin=> "min"
inductive Mf where | startswith | endswith | split | join | append | pop | extend | clear | dpop | dclear | copy | setdefault
 deriving DecidableEq
noncomputable def Mf.name:Mf->Str
 | .startswith=> "startswith" | .endswith=> "endswith" | .split=> "split" | .join=> "join" | .append=> "append" | .pop=> "pop" | .extend=> "extend" | .clear=> "clear" | .dpop=> "pop" | .dclear=> "clear" | .copy=> "copy" | .setdefault=> "setdefault"
inductive Ty where | str | int | bool | list | tuple | dict | own (x:Str)
 deriving DecidableEq
noncomputable def Ty.name:Ty->Str
 | .str=> "str" | .int=> "int" | .bool=> "bool" | .list=> "list" | .tuple=> "tuple" | .dict=> "dict" | .own x=>x
inductive B2 where | sortT | sortM
 deriving DecidableEq
noncomputable def B2.name:B2->Str
 | .sortT=> "sorted" | .sortM=> "sorted"
inductive M2 where | remove
 deriving DecidableEq
noncomputable def M2.name:M2->Str
 | .remove=> "remove"
mutual
inductive Ex where
 | var (i:Nat) | con (v:V) | glob (x:Str)
 | bin (op:Operator) (a b:Ex) | neg (a:Ex)
 | cmp (op:CmpOp) (a b:Ex)
 | and (a b:Ex) | or (a b:Ex) | not (a:Ex)
 | call (f:Str) (args:Exs)
 | blt (f:Bf) (args:Exs)
 | mth (m:Mf) (o:Ex) (args:Exs)
 | isin (a:Ex) (T:Ty)
 | idx (a b:Ex)
 | slc (a:Ex) (lo hi:Exs)
 | tup (es:Exs) | lst (es:Exs)
 | comp (x:Str) (fv:List (Str × Nat)) (it:Ix) (elt:Ex) (ifs:Exs)
 | cmpD (op:CmpOp) (a b:Ex) | idxD (a b:Ex) | dnew
 | blt2 (f:B2) (a:Ex)
 | mth2 (m:M2) (o:Ex) (args:Exs) | smax (a b:Ex) | cmpP (a b:Ex)
 | cmpI (op:CmpOp) (a b:Ex) | lzip (a b:Ex) | lrev (a:Ex)
 | compZ (xs:List Str) (fv:List (Str × Nat)) (a b:Ex) (elt:Ex)
inductive Exs where
 | nil | cons (e:Ex) (r:Exs)
inductive Ix where
 | ex (e:Ex) | rng1 (a:Ex)
end
mutual
inductive Sx where
 | asg (i:Nat) (e:Ex)
 | exp (e:Ex) | ret (e:Ex)
 | iff (c:Ex) (a b:Sxs)
 | fr (i:Nat) (it:Ix) (b:Sxs)
 | sto (o i e:Ex) | asgT (is:List Nat) (e:Ex) | frT (is:List Nat) (it:Ix) (b:Sxs)
inductive Sxs where
 | nil | cons (s:Sx) (r:Sxs)
end
noncomputable def isVis (sc:Scope) (x:Str):Bool:=match sc.names.lookup x with
 | some .local=>true | some .cell=>true | some .free=>true | _=>false
noncomputable def isLoc (sc:Scope) (x:Str):Bool:=match sc.names.lookup x with
 | some .local=>true | some .cell=>true | _=>false
noncomputable def isGl (sc:Scope) (x:Str):Bool:=match sc.names.lookup x with
 | some .globalImplicit=>true | _=>false
noncomputable def okName (x:Str):Bool:=!(x == ("__debug__" :Str)) && !(x == ("__classdict__" :Str)) && !(decide (x= "__name__"))
noncomputable def plainE:Expr->Bool
 | .Starred _ _=>false | .Set _ _ _=>false | .Slice _ _ _ _=>false | _=>true
noncomputable def noCall0:Expr->Bool
 | .Call (.Name _ _) [] [] _=>false | _=>true
noncomputable def compOkN (sc:Scope) (csc:Scope) (N ns:List Str) (fv:List (Str × Nat)):Bool:=
 decide (csc.kind=.function) && ns.all (fun x=>decide (csc.names.lookup x=some .local)) && decide (sc.kind=.function)
 && csc.names.all (fun y=>decide (y.2 ≠ .cell) && (decide (y.2 ≠ .local) || decide (csc.names.lookup y.1=some .local)) && (decide (y.2 ≠ .free) || (decide (sc.names.lookup y.1=some .cell) || decide (sc.names.lookup y.1=some .free))))
 && fv.all (fun y=>decide (N[y.2]?=some y.1) && decide (csc.names.lookup y.1=some .free))
 && decide (ns++fv.map (·.1)).Nodup
noncomputable def ek:Expr->List Expr
 | .BoolOp _ vs _=>vs
 | .BinOp a _ b _=>[a,b]
 | .UnaryOp _ a _=>[a]
 | .IfExp c a b _=>[c,a,b]
 | .Dict ks vs _=>((ks.zip vs).map fun t=>[t.1.getD default,t.2]).flatten
 | .ListComp e gs _ _=>e::(gs.map fun g=>g.target::g.iter::g.ifs).flatten
 | .Compare a _ bs _=>a::bs
 | .Call f es _ _=>f::es
 | .FormattedValue a _ _ _=>[a]
 | .JoinedStr vs _=>vs
 | .Attribute a _ _=>[a]
 | .Subscript a b _=>[a,b]
 | .List es _=>es
 | .Tuple es _ _=>es
 | .Slice l u _ _=>[l.getD default,u.getD default]
 | _=>[]
noncomputable def kd:Expr->Nat
 | .Constant _ k _=>k
 | .Tuple _ k _=>k
 | _=>0
noncomputable def csc:Expr->Scope
 | .ListComp _ _ sc _=>sc
 | _=>default
noncomputable def kid (e:Expr) (i:Nat):Expr:=(ek e).getD i default
noncomputable def se:Stmt->List Expr
 | .Return v _=>[v.getD default]
 | .Assign ts v _=>ts++[v]
 | .For t it _ _ _=>[t,it]
 | .While c _ _ _=>[c]
 | .If c _ _ _=>[c]
 | .Raise e c _=>[e.getD default,c.getD default]
 | .Try _ hs _ _ _=>hs.map fun h=>match h with | .ExceptHandler t _ _ _=>t.getD default
 | .Expr v _=>[v]
 | _=>[]
noncomputable def sb:Stmt->List Stmt × List Stmt
 | .For _ _ b _ _=>(b,[])
 | .While _ b _ _=>(b,[])
 | .If _ a b _=>(a,b)
 | .Try b hs _ _ _=>(b,(hs.map fun h=>match h with | .ExceptHandler _ _ b _=>b).flatten)
 | _=>([],[])
noncomputable def sk (s:Stmt) (i:Nat):Expr:=(se s).getD i default
noncomputable def nx (N:List Str) (i:Nat):Str:=N.getD i Str.empty
noncomputable def cOf:V->Const
 | .int i=>.int i | .str x=>.str x | .bl b=>.bool b | _=>.none
noncomputable def isC:V->Bool
 | .int _=>true | .str _=>true | .bl _=>true | .non=>true | _=>false
noncomputable def isAnd:Ex->Bool
 | .and _ _=>true | _=>false
noncomputable def isOr:Ex->Bool
 | .or _ _=>true | _=>false
noncomputable def isComp:Ex->Bool
 | .comp _ _ _ _ _=>true | .compZ _ _ _ _ _=>true | _=>false
noncomputable def isCompX:Ex->Bool
 | _=>false
noncomputable def isTup:Ex->Bool
 | .tup _=>true | _=>false
noncomputable def Exs.len:Exs->Nat
 | .nil=>0
 | .cons _ r=>r.len + 1
noncomputable def isIn (fv:List (Str × Nat)) (x:Str):List Str:=x::fv.map (·.1)
noncomputable def inT (fv:List (Str × Nat)) (xs:List Str):List Str:=xs++fv.map (·.1)
noncomputable def bN (N:List Str):List Nat->List Expr->List Expr
 | [],_=>[]
 | i::is,ts=>.Name (nx N i) (ts.headD default).pos::bN N is ts.tail
mutual
noncomputable def bE (N:List Str):Ex->Expr->Expr
 | .var i,e=>.Name (nx N i) e.pos
 | .con v,e=>.Constant (cOf v) (kd e) e.pos
 | .glob x,e=>.Name x e.pos
 | .bin op a b,e=>.BinOp (bE N a (kid e 0)) op (bE N b (kid e 1)) e.pos
 | .neg a,e=>.UnaryOp .USub (bE N a (kid e 0)) e.pos
 | .cmp op a b,e=>.Compare (bE N a (kid e 0)) [op] [bE N b (kid e 1)] e.pos
 | .and a b,e=>.BoolOp .And (bE N a (kid e 0)::(cond (decide ((ek e).length=2)) [bE N b (kid e 1)] (ek (bE N b (.BoolOp .And (ek e).tail e.pos))))) e.pos
 | .or a b,e=>.BoolOp .Or (bE N a (kid e 0)::(cond (decide ((ek e).length=2)) [bE N b (kid e 1)] (ek (bE N b (.BoolOp .Or (ek e).tail e.pos))))) e.pos
 | .not a,e=>.UnaryOp .Not (bE N a (kid e 0)) e.pos
 | .call f args,e=>.Call (.Name f (kid e 0).pos) (bEs N args (ek e).tail) [] e.pos
 | .blt f args,e=>.Call (.Name f.name (kid e 0).pos) (bEs N args (ek e).tail) [] e.pos
 | .mth m o args,e=>.Call (.Attribute (bE N o (kid (kid e 0) 0)) m.name (kid e 0).pos) (bEs N args (ek e).tail) [] e.pos
 | .isin a T,e=>.Call (.Name "isinstance" (kid e 0).pos) [bE N a (kid e 1),.Name T.name (kid e 2).pos] [] e.pos
 | .idx a b,e=>.Subscript (bE N a (kid e 0)) (bE N b (kid e 1)) e.pos
 | .slc a lo hi,e=>.Subscript (bE N a (kid e 0)) (.Slice (bEs N lo [kid (kid e 1) 0]).head? (bEs N hi [kid (kid e 1) 1]).head? none (kid e 1).pos) e.pos
 | .tup es,e=>.Tuple (bEs N es (ek e)) (kd e) e.pos
 | .lst es,e=>.List (bEs N es (ek e)) e.pos
 | .comp x fv it elt ifs,e=>.ListComp (bE (isIn fv x) elt (kid e 0)) [⟨.Name x (kid e 1).pos,bI N it (kid e 2),bEs (isIn fv x) ifs ((ek e).drop 3),0⟩] (csc e) e.pos
 | .cmpD op a b,e=>.Compare (bE N a (kid e 0)) [op] [bE N b (kid e 1)] e.pos
 | .idxD a b,e=>.Subscript (bE N a (kid e 0)) (bE N b (kid e 1)) e.pos
 | .dnew,e=>.Dict [] [] e.pos
 | .blt2 f a,e=>.Call (.Name f.name (kid e 0).pos) [bE N a (kid e 1)] [] e.pos
 | .mth2 m o args,e=>.Call (.Attribute (bE N o (kid (kid e 0) 0)) m.name (kid e 0).pos) (bEs N args (ek e).tail) [] e.pos
 | .smax a b,e=>.Call (.Name "max" (kid e 0).pos) [bE N a (kid e 1),bE N b (kid e 2)] [] e.pos
 | .cmpP a b,e=>.Compare (bE N a (kid e 0)) [.GtE] [bE N b (kid e 1)] e.pos
 | .cmpI op a b,e=>.Compare (bE N a (kid e 0)) [op] [bE N b (kid e 1)] e.pos
 | .lzip a b,e=>.Call (.Name "list" (kid e 0).pos) [.Call (.Name "zip" (kid (kid e 1) 0).pos) [bE N a (kid (kid e 1) 1),bE N b (kid (kid e 1) 2)] [] (kid e 1).pos] [] e.pos
 | .lrev a,e=>.Call (.Name "list" (kid e 0).pos) [.Call (.Name "reversed" (kid (kid e 1) 0).pos) [bE N a (kid (kid e 1) 1)] [] (kid e 1).pos] [] e.pos
 | .compZ xs fv a b elt,e=>.ListComp (bE (inT fv xs) elt (kid e 0)) [⟨.Tuple (bN (inT fv xs) (List.range xs.length) (ek (kid e 1))) (kd (kid e 1)) (kid e 1).pos,.Call (.Name "zip" (kid (kid e 2) 0).pos) [bE N a (kid (kid e 2) 1),bE N b (kid (kid e 2) 2)] [] (kid e 2).pos,[],0⟩] (csc e) e.pos
noncomputable def bEs (N:List Str):Exs->List Expr->List Expr
 | .nil,_=>[]
 | .cons c r,es=>bE N c (es.headD default)::bEs N r es.tail
noncomputable def bI (N:List Str):Ix->Expr->Expr
 | .ex c,e=>bE N c e
 | .rng1 a,e=>.Call (.Name "range" (kid e 0).pos) [bE N a (kid e 1)] [] e.pos
end
mutual
/-- what must hold besides -/
noncomputable def oE (sc:Scope) (N:List Str):Ex->Expr->Bool
 | .var i,_=>decide (i < N.length) && (isVis sc (nx N i) && okName (nx N i))
 | .con v,_=>isC v
 | .glob x,_=>isGl sc x && okName x
 | .bin _ a b,e=>oE sc N a (kid e 0) && oE sc N b (kid e 1)
 | .neg a,e=>oE sc N a (kid e 0)
 | .cmp _ a b,e=>oE sc N a (kid e 0) && oE sc N b (kid e 1)
 | .and a b,e=>oE sc N a (kid e 0) && (cond (decide ((ek e).length=2)) (oE sc N b (kid e 1)) (isAnd b && oE sc N b (.BoolOp .And (ek e).tail e.pos)))
 | .or a b,e=>oE sc N a (kid e 0) && (cond (decide ((ek e).length=2)) (oE sc N b (kid e 1)) (isOr b && oE sc N b (.BoolOp .Or (ek e).tail e.pos)))
 | .not a,e=>oE sc N a (kid e 0)
 | .call f args,e=>(isGl sc f && okName f) && oEs sc N args (ek e).tail
 | .blt f args,e=>(isGl sc f.name && okName f.name) && ((decide (f ≠ .sortset) && decide (args.len ≠ 0)) && oEs sc N args (ek e).tail)
 | .mth _ o args,e=>(noCall0 (bE N o (kid (kid e 0) 0)) && ((kid e 0).pos.endLine == e.pos.line)) && (decide (args.len < 20) && (oE sc N o (kid (kid e 0) 0) && oEs sc N args (ek e).tail))
 | .isin a T,e=>(isGl sc "isinstance" && (isGl sc T.name && okName T.name)) && oE sc N a (kid e 1)
 | .idx a b,e=>oE sc N a (kid e 0) && oE sc N b (kid e 1)
 | .slc a lo hi,e=>oE sc N a (kid e 0) && (oEs sc N lo [kid (kid e 1) 0] && oEs sc N hi [kid (kid e 1) 1])
 | .tup es,e=>oEs sc N es (ek e)
 | .lst es,e=>oEs sc N es (ek e)
 | .comp x fv it elt ifs,e=>(compOkN sc (csc e) N [x] fv && decide (ifs.len<=1)) && (oI sc N it (kid e 2) && (oE (csc e) (isIn fv x) elt (kid e 0) && oEs (csc e) (isIn fv x) ifs ((ek e).drop 3)))
 | .cmpD _ a b,e=>oE sc N a (kid e 0) && oE sc N b (kid e 1)
 | .idxD a b,e=>oE sc N a (kid e 0) && oE sc N b (kid e 1)
 | .dnew,_=>true
 | .blt2 f a,e=>isGl sc f.name && oE sc N a (kid e 1)
 | .mth2 _ o args,e=>(noCall0 (bE N o (kid (kid e 0) 0)) && ((kid e 0).pos.endLine == e.pos.line)) && (decide (args.len < 20) && (oE sc N o (kid (kid e 0) 0) && oEs sc N args (ek e).tail))
 | .smax a b,e=>isGl sc "max" && (oE sc N a (kid e 1) && oE sc N b (kid e 2))
 | .cmpP a b,e=>oE sc N a (kid e 0) && oE sc N b (kid e 1)
 | .cmpI op a b,e=>oE sc N a (kid e 0) && oE sc N b (kid e 1)
 | .lzip a b,e=>(isGl sc "list" && isGl sc "zip") && (oE sc N a (kid (kid e 1) 1) && oE sc N b (kid (kid e 1) 2))
 | .lrev a,e=>(isGl sc "list" && isGl sc "reversed") && oE sc N a (kid (kid e 1) 1)
 | .compZ xs fv a b elt,e=>(compOkN sc (csc e) N xs fv && decide (xs.length=2)) && (isGl sc "zip" && (oE sc N a (kid (kid e 2) 1) && (oE sc N b (kid (kid e 2) 2) && oE (csc e) (inT fv xs) elt (kid e 0))))
noncomputable def oEs (sc:Scope) (N:List Str):Exs->List Expr->Bool
 | .nil,_=>true
 | .cons c r,es=>oE sc N c (es.headD default) && oEs sc N r es.tail
noncomputable def oI (sc:Scope) (N:List Str):Ix->Expr->Bool
 | .ex c,e=>oE sc N c e
 | .rng1 a,e=>isGl sc "range" && oE sc N a (kid e 1)
end
noncomputable def notComp:Expr->Bool
 | .ListComp _ _ _ _=>false | .SetComp _ _ _ _=>false | .DictComp _ _ _ _ _=>false | _=>true
noncomputable def usedOk (sc s:Scope) (x:Str) (tp p:Pos):Bool:=decide (sc.names.lookup x=some .local) && ((tp.line == p.line) && !(s.names.any fun(n,k)=>n == x && (k == .local || k == .cell)))
noncomputable def notTup:Expr->Bool
 | .Tuple _ _ _=>false | _=>true
noncomputable def oN (sc:Scope) (N:List Str):List Nat->Bool
 | []=>true
 | i::is=>(decide (i < N.length) && isLoc sc (nx N i)) && oN sc N is
mutual
noncomputable def bS (N:List Str):Sx->Stmt->Stmt
 | .asg i e,st=>.Assign [.Name (nx N i) (sk st 0).pos] (bE N e (sk st 1)) st.pos
 | .exp e,st=>.Expr (bE N e (sk st 0)) st.pos
 | .ret e,st=>.Return (some (bE N e (sk st 0))) st.pos
 | .iff c a b,st=>.If (bE N c (sk st 0)) (bSs N a (sb st).1) (bSs N b (sb st).2) st.pos
 | .fr i it b,st=>.For (.Name (nx N i) (sk st 0).pos) (bI N it (sk st 1)) (bSs N b (sb st).1) [] st.pos
 | .sto o i e,st=>.Assign [.Subscript (bE N o (kid (sk st 0) 0)) (bE N i (kid (sk st 0) 1)) (sk st 0).pos] (bE N e (sk st 1)) st.pos
 | .asgT is e,st=>.Assign [.Tuple (bN N is (ek (sk st 0))) (kd (sk st 0)) (sk st 0).pos] (bE N e (sk st 1)) st.pos
 | .frT is it b,st=>.For (.Tuple (bN N is (ek (sk st 0))) (kd (sk st 0)) (sk st 0).pos) (bI N it (sk st 1)) (bSs N b (sb st).1) [] st.pos
noncomputable def bSs (N:List Str):Sxs->List Stmt->List Stmt
 | .nil,_=>[]
 | .cons c r,ss=>bS N c (ss.headD default)::bSs N r ss.tail
end
mutual
noncomputable def oS (sc:Scope) (N:List Str):Sx->Stmt->Bool
 | .asg i e,st=>(decide (i < N.length) && isLoc sc (nx N i)) && ((!isComp e || (!isCompX e && usedOk sc (csc (sk st 1)) (nx N i) (sk st 0).pos (sk st 1).pos)) && oE sc N e (sk st 1))
 | .exp e,st=>!isComp e && oE sc N e (sk st 0)
 | .ret e,st=>oE sc N e (sk st 0)
 | .iff c a b,st=>oE sc N c (sk st 0) && (oSs sc N a (sb st).1 && oSs sc N b (sb st).2)
 | .fr i it b,st=>(decide (i < N.length) && isLoc sc (nx N i)) && (oI sc N it (sk st 1) && oSs sc N b (sb st).1)
 | .sto o i e,st=>(!isComp e && oE sc N o (kid (sk st 0) 0)) && (oE sc N i (kid (sk st 0) 1) && oE sc N e (sk st 1))
 | .asgT is e,st=>((!isComp e && !isTup e) && oN sc N is) && oE sc N e (sk st 1)
 | .frT is it b,st=>oN sc N is && (oI sc N it (sk st 1) && oSs sc N b (sb st).1)
noncomputable def oSs (sc:Scope) (N:List Str):Sxs->List Stmt->Bool
 | .nil,_=>true
 | .cons c r,ss=>oS sc N c (ss.headD default) && oSs sc N r ss.tail
end
noncomputable def mSs (sc:Scope) (N:List Str) (b:Sxs) (ss:List Stmt):Prop:=bSs N b ss=ss/\oSs sc N b ss=true
end Sw
namespace Sw
open PySem PySem.Spec PyProof.Rows L2
@[reducible] noncomputable def St:=L2.St
@[reducible] noncomputable def XS:=Value->Option Addr->St->Hp->Prop
noncomputable def X0:XS:=fun _ _ _ _=>False
structure Gam where
 con:Str->Option V
 mod:Mo
 has:Str->Bool
 fn:Str->Sp
 exc:Str->Option (Addr × List Str)
 cm:Bool:=true
 /-- is an exception of this class one of that name's class -/
 sub:Addr->Str->Option Bool
 /-- a class that may be caught -/
 cat:Str->Bool
 /-- a value of such an exception that may be read -/
 fo:Addr->Str->Bool
 /-- an exception is in hand: raise .. from None -/
 hd:Bool:=false
 /-- what a call of the function at an address promises -/
 vc:Addr->Sp:=fun _ _ _ _ _=>False
 /-- the module's dicts -/
 gd:Str->Option (List (Key × V)):=fun _=>none
noncomputable def keyOf:V->Option Key
 | .int i=>some (.inl i)
 | .str x=>some (.inr x)
 | _=>none
noncomputable def asS:V->Option Str
 | .str x=>some x
 | _=>none
noncomputable def hasXd (H:Hp):Option Addr->Bool
 | none=>true
 | some d=>match H d with | some (.xd _)=>true | _=>false
noncomputable def known (M:Mo) (H:Hp):V->Bool
 | .ref p=>match H p with
  | some (.lst _)=>true | some (.tup _)=>true | some (.dK _)=>true | some (.frz _ (.lst _))=>true | _=>false
 | .non=>true | .bl _=>true | .int _=>true | .str _=>true
 | _=>false
noncomputable def isTy (T:Ty) (H:Hp):V->Bool
 | .str _=>decide (T=.str)
 | .int _=>decide (T=.int)
 | .bl _=>decide (T=.bool) || decide (T=.int)
 | .ref p=>match H p with
  | some (.lst _)=>decide (T=.list) | some (.frz _ (.lst _))=>decide (T=.list) | some (.tup _)=>decide (T=.tuple) | some (.dK _)=>decide (T=.dict) | _=>false
 | _=>false
noncomputable def isDk (x:V) (H:Hp):Bool:=match x with
 | .ref p=>(match H p with | some (.dK _)=>true | _=>false)
 | _=>false
noncomputable def pairK (M:Mo) (H:Hp):V->Option (Str × Str)
 | .ref p=>match rd M H p with
  | some (.tup [.str a,.str b])=>some (a,b)
  | _=>none
 | _=>none
noncomputable def lt2 (x y:Str × Str):Bool:=if x.1=y.1 then decide (x.2.cps.toList < y.2.cps.toList)else decide (x.1.cps.toList < y.1.cps.toList)
noncomputable def drawK (M:Mo) (H:Hp):V->Bool
 | .ref p=>match rd M H p with
  | some (.tup [.int _,r])=>(pairK M H r).isSome
  | _=>false
 | _=>false
section
variable (M:Mo)
noncomputable def newSorted (ts:List Str) (H:Hp) (Q:VK):Prop:=ts.length < 64/\∀ss l,List.Perm ss ts->sortedS ss=true->H l=none->M l=none->Q (.ref l) (upd H l (.lst (ss.map V.str)))
noncomputable def bltV (f:Bf) (vs:List V) (H:Hp) (Q:VK):Prop:=match f,vs with
 | .len,[.str y]=>y.length<=sizeLine/\Q (.int y.length) H
 | .len,[.ref p]=>match rd M H p with
  | some (.lst xs)=>Q (.int xs.length) H
  | some (.tup xs)=>Q (.int xs.length) H
  | _=>False
 | .list,[.ref p]=>match rd M H p with
  | some (.lst xs)=>∀l,H l=none->M l=none->Q (.ref l) (upd H l (.lst xs))
  | some (.tup xs)=>∀l,H l=none->M l=none->Q (.ref l) (upd H l (.lst xs))
  | _=>False
 | .dsorted,[.ref p]=>match H p with
  | some (.dK kvs)=>match allM asS (kvs.map fun y=>kV y.1)with
   | some ts=>newSorted M ts H Q
   | none=>False
  | _=>False
 | .smin,[.str i,.str j]=>Q (.str (if j.cps.toList < i.cps.toList then j else i)) H
 | _,_=>False
noncomputable def mthV (m:Mf) (x:V) (vs:List V) (H:Hp) (Q:VK):Prop:=match m,x,vs with
 | .join,.str x,[.ref p]=>match rd M H p with
  | some (.lst xs)=>match allM asS xs with
   | some ts=>JoinOk x ts=true/\Q (.str (Txt.join x ts)) H
   | none=>False
  | _=>False
 | .append,.ref p,[v]=>match H p with
  | some (.lst xs)=>xs.length < sizeLine/\Q .non (upd H p (.lst (xs++[v])))
  | _=>False
 | .extend,.ref p,[.ref b]=>match H p,H b with
  | some (.lst xs),some (.lst ys)=>xs.length + ys.length<=sizeLine/\Q .non (upd H p (.lst (xs++ys)))
  | _,_=>False
 | .clear,.ref p,[]=>match H p with
  | some (.lst _)=>Q .non (upd H p (.lst []))
  | _=>False
 | .dpop,.ref p,[y]=>match H p with
  | some (.dK kvs)=>(match keyOf y with | some k=>(match valV kvs k with | some v=>Q v (upd H p (.dK (dropK kvs k))) | none=>False) | none=>False)
  | _=>False
 | _,_,_=>False
noncomputable def mty (m:Mf) (x:V) (H:Hp):Bool:=match m with
 | .append=>(match x with | .ref p=>(match rd M H p with | some (.lst _)=>true | _=>false) | _=>false)
 | .pop=>(match x with | .ref p=>(match rd M H p with | some (.lst _)=>true | _=>false) | _=>false)
 | .extend=>(match x with | .ref p=>(match rd M H p with | some (.lst _)=>true | _=>false) | _=>false)
 | .clear=>(match x with | .ref p=>(match rd M H p with | some (.lst _)=>true | _=>false) | _=>false)
 | .dclear=>isDk x H
 | .copy=>isDk x H
 | .dpop=>isDk x H
 | .setdefault=>isDk x H
 | _=>(match x with | .str _=>true | _=>false)
noncomputable def slcV (x:V) (lo hi:Option Int) (H:Hp) (Q:VK):Prop:=match x with
 | .str z=>z.length<=sizeLine/\Q (.str (Txt.slice z lo hi)) H
 | .ref p=>match rd M H p with
  | some (.lst xs)=>∀l,H l=none->M l=none->Q (.ref l) (upd H l (.lst (cutV xs lo hi)))
  | some (.tup xs)=>¬ (HT.sIx xs.length 0 lo=0/\HT.sIx xs.length xs.length hi=xs.length)/\∀l,H l=none->M l=none->Q (.ref l) (upd H l (.tup (cutV xs lo hi)))
  | _=>False
 | _=>False
noncomputable def iterV (x:V) (H:Hp) (k:List V->(Hp->Prop)->Prop):Prop:=match x with
 | .str z=>z.length<=sizeLine/\k (z.cps.toList.map fun c=>.str ⟨#[c]⟩) (fun _=>True)
 | .ref p=>match rd M H p with
  | some (.lst xs)=>k xs (fun H'=>rd M H' p=some (.lst xs))
  | some (.tup xs)=>k xs (fun H'=>rd M H' p=some (.tup xs))
  | _=>False
 | _=>False
end
noncomputable def compW (te:TE) (tt:TT) (fvs:St) (D:Addr) (stay:Hp->Prop):List V->List V->Hp->(Hp->Prop)->Prop
 | [],acc,H,k=>stay H/\H D=some (.lst acc)/\k H
 | v::r,acc,H,k=>stay H/\tt (some v::fvs) H fun ok H1=>
  if ok=true then te (some v::fvs) H1 fun y H2=>H2 D=some (.lst acc)/\acc.length < sizeLine/\compW te tt fvs D stay r (acc++[y]) (upd H2 D (.lst (acc++[y]))) k
  else compW te tt fvs D stay r acc H1 k
noncomputable def compWB (bd:V->Hp->Option St) (te:TE) (tt:TT) (fvs:St) (D:Addr) (stay:Hp->Prop):List V->List V->Hp->(Hp->Prop)->Prop
 | [],acc,H,k=>stay H/\H D=some (.lst acc)/\k H
 | v::r,acc,H,k=>stay H/\match bd v H with
  | some w=>tt (w++fvs) H fun ok H1=>if ok=true then te (w++fvs) H1 fun y H2=>H2 D=some (.lst acc)/\acc.length < sizeLine/\compWB bd te tt fvs D stay r (acc++[y]) (upd H2 D (.lst (acc++[y]))) k
   else compWB bd te tt fvs D stay r acc H1 k
  | none=>False
noncomputable def compWG {ι:Type} (nxt:ι->Hp->(St->Hp->Prop)->Prop) (te:TE) (tt:TT) (fvs:St) (D:Addr) (stay:Hp->Prop):List ι->List V->Hp->(Hp->Prop)->Prop
 | [],acc,H,k=>stay H/\H D=some (.lst acc)/\k H
 | v::r,acc,H,k=>stay H/\nxt v H fun w H0=>tt (w++fvs) H0 fun ok H1=>if ok=true then te (w++fvs) H1 fun y H2=>H2 D=some (.lst acc)/\acc.length < sizeLine/\compWG nxt te tt fvs D stay r (acc++[y]) (upd H2 D (.lst (acc++[y]))) k
   else compWG nxt te tt fvs D stay r acc H1 k
noncomputable def nxtZ (M:Mo) (p:V × V) (H:Hp) (R:St->Hp->Prop):Prop:=∀t,H t=none->M t=none->R [some p.1,some p.2] (upd H t (.tup [p.1,p.2]))
noncomputable def zipV (M:Mo) (x y:V) (H:Hp) (k:List (V × V)->(Hp->Prop)->Prop):Prop:=match x,y with
 | .ref p,.ref q=>(match rd M H p,rd M H q with
  | some (.lst xs),some (.lst ys)=>k (xs.zip ys) (fun H'=>rd M H' p=some (.lst xs)/\rd M H' q=some (.lst ys))
  | _,_=>False)
 | _,_=>False
noncomputable def pairsV (M:Mo) (ps:List (V × V)) (H:Hp) (Q:VK):Prop:=∀H' l (ts:List Addr),ts.length=ps.length->(∀ (j:Nat) t,ts[j]?=some t->H t=none/\M t=none/\∃x y,ps[j]?=some (x,y)/\H' t=some (.tup [x,y]))->
 (∀ a o,H a=some o->H' a=some o)->(∀ a,M a ≠ none->H a=none->H' a=none)->H l=none->M l=none->H' l=some (.lst (ts.map V.ref))->Q (.ref l) H'
noncomputable def lrevV (M:Mo) (x:V) (H:Hp) (Q:VK):Prop:=match x with
 | .ref p=>(match rd M H p with
  | some (.lst xs)=>∀l,H l=none->M l=none->Q (.ref l) (upd H l (.lst xs.reverse))
  | _=>False)
 | _=>False
noncomputable def cmpIV (M:Mo) (op:CmpOp) (x y:V) (H:Hp) (Q:VK):Prop:=match y with
 | .ref p=>(match rd M H p with
  | some (.lst xs)=>(match data M H 8 x,allM (data M H 8) xs with
   | some d,some ds=>(match op with
    | .In=>Q (.bl (ds.any fun e=>PyData.eqv e d)) H
    | .NotIn=>Q (.bl (!ds.any fun e=>PyData.eqv e d)) H
    | _=>False)
   | _,_=>False)
  | _=>False)
 | _=>False
noncomputable def b2V (M:Mo) (f:B2) (x:V) (H:Hp) (Q:VK):Prop:=match x with
 | .ref p=>(match rd M H p with
  | some (.lst xs)=>(match f with
   | .sortT=>(xs.length < 64/\xs.all (fun x=>(pairK M H x).isSome)=true)/\∀ws l,List.Perm ws xs->ws.Pairwise (fun x y=>∀a b,pairK M H x=some a->pairK M H y=some b->lt2 b a=false)->H l=none->M l=none->Q (.ref l) (upd H l (.lst ws))
   | .sortM=>xs.all (drawK M H)=true/\∀ws l,List.Perm ws xs->H l=none->M l=none->Q (.ref l) (upd H l (.lst ws)))
  | _=>False)
 | _=>False
noncomputable def m2V (M:Mo) (m:M2) (x:V) (vs:List V) (H:Hp) (Q:VK):Prop:=match m,x,vs with
 | .remove,.ref p,[v]=>(match H p with
  | some (.lst xs)=>(match data M H 8 v,allM (data M H 8) xs with
   | some d,some ds=>(match ds.findIdx? (fun e=>PyData.eqv e d)with
    | some j=>Q .non (upd H p (.lst (xs.eraseIdx j)))
    | none=>False)
   | _,_=>False)
  | _=>False)
 | _,_,_=>False
noncomputable def m2ty (M:Mo) (m:M2) (x:V) (H:Hp):Bool:=match m with
 | .remove=>(match x with | .ref p=>(match rd M H p with | some (.lst _)=>true | _=>false) | _=>false)
noncomputable def smaxV (x y:V) (H:Hp) (Q:VK):Prop:=match x,y with
 | .str a,.str b=>Q (.str (if a.cps.toList < b.cps.toList then b else a)) H
 | _,_=>False
noncomputable def cmpPV (M:Mo) (x y:V) (H:Hp) (Q:VK):Prop:=match pairK M H x,pairK M H y with
 | some a,some b=>Q (.bl (!lt2 a b)) H
 | _,_=>False
noncomputable def forW (i:Nat) (tb:TS) (stay:Hp->Prop):List V->TS
 | [],D,σ,H=>stay H/\D.nx σ H
 | v::r,D,σ,H=>stay H/\tb {D with nx:=forW i tb stay r D,ct:=forW i tb stay r D,bk:=D.nx} (σ.set i (some v)) H
noncomputable def setAll:St->List Nat->List V->St
 | σ,i::is,x::xs=>setAll (σ.set i (some x)) is xs
 | σ,_,_=>σ
noncomputable def forWT (M:Mo) (is:List Nat) (tb:TS) (stay:Hp->Prop):List V->TS
 | [],D,σ,H=>stay H/\D.nx σ H
 | v::r,D,σ,H=>stay H/\match v with
  | .ref p=>(match rd M H p with
   | some (.tup xs)=>xs.length=is.length/\tb {D with nx:=forWT M is tb stay r D,ct:=forWT M is tb stay r D,bk:=D.nx} (setAll σ is xs) H
   | _=>False)
  | _=>False
noncomputable def stoV (x k v:V) (H:Hp) (Q:Hp->Prop):Prop:=match x with
 | .ref p=>(match H p with
  | some (.lst xs)=>(match k with | .int j=>(match ixN xs.length j with | some n=>Q (upd H p (.lst (xs.set n v))) | none=>False) | _=>False)
  | some (.dK kvs)=>(match keyOf k with | some kk=>kvs.length < sizeLine/\Q (upd H p (.dK (putK kvs kk v))) | none=>False)
  | _=>False)
 | _=>False
noncomputable def idxDV (M:Mo) (x y:V) (H:Hp) (Q:VK):Prop:=match x with
 | .ref p=>(match rd M H p with
  | some (.dK kvs)=>(match keyOf y with | some k=>(match valV kvs k with | some v=>Q v H | none=>False) | none=>False)
  | _=>False)
 | _=>False
noncomputable def dOf (M:Mo) (H:Hp):V->Option (List (Key × V))
 | .ref p=>(match rd M H p with | some (.dK kvs)=>some kvs | _=>none)
 | _=>none
noncomputable def cmpDV (M:Mo) (op:CmpOp) (x y:V) (H:Hp) (Q:VK):Prop:=match op with
 | .In=>(match dOf M H y,keyOf x with | some kvs,some k=>Q (.bl (valV kvs k).isSome) H | _,_=>False)
 | .NotIn=>(match dOf M H y,keyOf x with | some kvs,some k=>Q (.bl (!(valV kvs k).isSome)) H | _,_=>False)
 | _=>False
noncomputable def vars (σ:St) (fv:List (Str × Nat)):St:=fv.map fun y=>(σ[y.2]?).join
mutual
noncomputable def wE (Γ:Gam):Ex->XS->TE
 | .var i,_=>fun σ H Q=>match σ[i]? with | some (some v)=>Q v H | _=>False
 | .con v,_=>fun _ H Q=>Q v H
 | .glob x,_=>fun _ H Q=>match Γ.con x with | some v=>Q v H | none=>False
 | .bin op a b,Ξ=>fun σ H Q=>wE Γ a Ξ σ H fun x H1=>wE Γ b Ξ σ H1 fun y H2=>binV Γ.mod op x y H2 Q
 | .neg a,Ξ=>fun σ H Q=>wE Γ a Ξ σ H fun x H1=>match x with | .int i=>Q (.int (-i)) H1 | _=>False
 | .cmp op a b,Ξ=>fun σ H Q=>wE Γ a Ξ σ H fun x H1=>wE Γ b Ξ σ H1 fun y H2=>cmpV Γ.mod op x y H2 Q
 | .and a b,Ξ=>fun σ H Q=>wE Γ a Ξ σ H fun x H1=>truV Γ.mod x H1 fun k=>if k=true then wE Γ b Ξ σ H1 Q else Q x H1
 | .or a b,Ξ=>fun σ H Q=>wE Γ a Ξ σ H fun x H1=>truV Γ.mod x H1 fun k=>if k=true then Q x H1 else wE Γ b Ξ σ H1 Q
 | .not a,Ξ=>fun σ H Q=>wE Γ a Ξ σ H fun x H1=>truV Γ.mod x H1 fun k=>Q (.bl (!k)) H1
 | .call f args,Ξ=>fun σ H Q=>(Γ.cm=true/\Γ.has f=true)/\wEs Γ args Ξ σ H fun vs H1=>Γ.fn f vs H1 Q fun C d H'=>Ξ C d σ H'
 | .blt f args,Ξ=>fun σ H Q=>Γ.cm=true/\wEs Γ args Ξ σ H fun vs H1=>bltV Γ.mod f vs H1 Q
 | .mth m o args,Ξ=>fun σ H Q=>wE Γ o Ξ σ H fun x H1=>mty Γ.mod m x H1=true/\wEs Γ args Ξ σ H1 fun vs H2=>mthV Γ.mod m x vs H2 Q
 | .isin a T,Ξ=>fun σ H Q=>wE Γ a Ξ σ H fun x H1=>match T with
  | .own c=>(match x with | .ref p=>(match H1 p with | some (.exo C d)=>hasXd H1 d=true/\(match Γ.sub C c with | some b=>Q (.bl b) H1 | none=>False) | _=>False) | _=>False)
  | T=>known Γ.mod H1 x=true/\Q (.bl (isTy T H1 x)) H1
 | .idx a b,Ξ=>fun σ H Q=>wE Γ a Ξ σ H fun x H1=>wE Γ b Ξ σ H1 fun y H2=>idxV Γ.mod x y H2 Q
 | .slc a lo hi,Ξ=>fun σ H Q=>wE Γ a Ξ σ H fun x H1=>wP Γ lo Ξ σ H1 fun l H2=>wP Γ hi Ξ σ H2 fun u H3=>slcV Γ.mod x l u H3 Q
 | .tup es,Ξ=>fun σ H Q=>wEs Γ es Ξ σ H fun xs H1=>xs.length<=sizeLine/\∀p,H1 p=none->Γ.mod p=none->Q (.ref p) (upd H1 p (.tup xs))
 | .lst es,Ξ=>fun σ H Q=>wEs Γ es Ξ σ H fun xs H1=>xs.length<=sizeLine/\∀p,H1 p=none->Γ.mod p=none->Q (.ref p) (upd H1 p (.lst xs))
 | .comp _ fv it elt ifs,Ξ=>fun σ H Q=>Γ.cm=true/\wI Γ it Ξ σ H fun xs stay H1=>∀D,H1 D=none->Γ.mod D=none->
  compW (wE Γ elt fun C d _ H'=>Ξ C d σ H') (wTs Γ ifs X0) (vars σ fv) D stay xs [] (upd H1 D (.lst [])) fun H'=>Q (.ref D) H'
 | .cmpD op a b,Ξ=>fun σ H Q=>wE Γ a Ξ σ H fun x H1=>wE Γ b Ξ σ H1 fun y H2=>cmpDV Γ.mod op x y H2 Q
 | .idxD a b,Ξ=>fun σ H Q=>wE Γ a Ξ σ H fun x H1=>wE Γ b Ξ σ H1 fun y H2=>idxDV Γ.mod x y H2 Q
 | .dnew,_=>fun _ H Q=>∀p,H p=none->Γ.mod p=none->Q (.ref p) (upd H p (.dK []))
 | .blt2 f a,Ξ=>fun σ H Q=>Γ.cm=true/\wE Γ a Ξ σ H fun x H1=>b2V Γ.mod f x H1 Q
 | .mth2 m o args,Ξ=>fun σ H Q=>wE Γ o Ξ σ H fun x H1=>m2ty Γ.mod m x H1=true/\wEs Γ args Ξ σ H1 fun vs H2=>m2V Γ.mod m x vs H2 Q
 | .smax a b,Ξ=>fun σ H Q=>Γ.cm=true/\wE Γ a Ξ σ H fun x H1=>wE Γ b Ξ σ H1 fun y H2=>smaxV x y H2 Q
 | .cmpP a b,Ξ=>fun σ H Q=>wE Γ a Ξ σ H fun x H1=>wE Γ b Ξ σ H1 fun y H2=>cmpPV Γ.mod x y H2 Q
 | .cmpI op a b,Ξ=>fun σ H Q=>wE Γ a Ξ σ H fun x H1=>wE Γ b Ξ σ H1 fun y H2=>cmpIV Γ.mod op x y H2 Q
 | .lzip a b,Ξ=>fun σ H Q=>Γ.cm=true/\wE Γ a Ξ σ H fun x H1=>wE Γ b Ξ σ H1 fun y H2=>zipV Γ.mod x y H2 fun ps _=>pairsV Γ.mod ps H2 Q
 | .lrev a,Ξ=>fun σ H Q=>Γ.cm=true/\wE Γ a Ξ σ H fun x H1=>lrevV Γ.mod x H1 Q
 | .compZ _ fv a b elt,Ξ=>fun σ H Q=>Γ.cm=true/\wE Γ a Ξ σ H fun x H1=>wE Γ b Ξ σ H1 fun y H2=>zipV Γ.mod x y H2 fun ps stay=>∀D,H2 D=none->Γ.mod D=none->
  compWG (nxtZ Γ.mod) (wE Γ elt fun C d _ H'=>Ξ C d σ H') (fun _ H Q=>Q true H) (vars σ fv) D stay ps [] (upd H2 D (.lst [])) fun H'=>Q (.ref D) H'
noncomputable def wT (Γ:Gam):Ex->XS->TT
 | .and a b,Ξ=>fun σ H Q=>wT Γ a Ξ σ H fun k H1=>if k=true then wT Γ b Ξ σ H1 Q else Q false H1
 | .or a b,Ξ=>fun σ H Q=>wT Γ a Ξ σ H fun k H1=>if k=true then Q true H1 else wT Γ b Ξ σ H1 Q
 | .not a,Ξ=>fun σ H Q=>wT Γ a Ξ σ H fun k H1=>Q (!k) H1
 | .var i,_=>fun σ H Q=>match σ[i]? with | some (some v)=>truV Γ.mod v H fun k=>Q k H | _=>False
 | .cmp op a b,Ξ=>fun σ H Q=>wE Γ a Ξ σ H fun x H1=>wE Γ b Ξ σ H1 fun y H2=>cmpV Γ.mod op x y H2 fun x H'=>∃k,x=.bl k/\Q k H'
 | .call f args,Ξ=>fun σ H Q=>(Γ.cm=true/\Γ.has f=true)/\wEs Γ args Ξ σ H fun vs H1=>Γ.fn f vs H1 (fun x H1=>truV Γ.mod x H1 fun k=>Q k H1) fun C d H'=>Ξ C d σ H'
 | .blt f args,Ξ=>fun σ H Q=>Γ.cm=true/\wEs Γ args Ξ σ H fun vs H1=>bltV Γ.mod f vs H1 fun x H1=>truV Γ.mod x H1 fun k=>Q k H1
 | .mth m o args,Ξ=>fun σ H Q=>wE Γ o Ξ σ H fun x H1=>mty Γ.mod m x H1=true/\wEs Γ args Ξ σ H1 fun vs H2=>mthV Γ.mod m x vs H2 fun x H1=>truV Γ.mod x H1 fun k=>Q k H1
 | .isin a T,Ξ=>fun σ H Q=>wE Γ a Ξ σ H fun x H1=>match T with
  | .own c=>(match x with | .ref p=>(match H1 p with | some (.exo C d)=>hasXd H1 d=true/\(match Γ.sub C c with | some b=>Q b H1 | none=>False) | _=>False) | _=>False)
  | T=>known Γ.mod H1 x=true/\Q (isTy T H1 x) H1
 | .idx a b,Ξ=>fun σ H Q=>wE Γ a Ξ σ H fun x H1=>wE Γ b Ξ σ H1 fun y H2=>idxV Γ.mod x y H2 fun x H1=>truV Γ.mod x H1 fun k=>Q k H1
 | .con v,_=>fun _ H Q=>truV Γ.mod v H fun k=>Q k H
 | .cmpP a b,Ξ=>fun σ H Q=>wE Γ a Ξ σ H fun x H1=>wE Γ b Ξ σ H1 fun y H2=>cmpPV Γ.mod x y H2 fun x H'=>∃k,x=.bl k/\Q k H'
 | .cmpI op a b,Ξ=>fun σ H Q=>wE Γ a Ξ σ H fun x H1=>wE Γ b Ξ σ H1 fun y H2=>cmpIV Γ.mod op x y H2 fun x H'=>∃k,x=.bl k/\Q k H'
 | .cmpD op a b,Ξ=>fun σ H Q=>wE Γ a Ξ σ H fun x H1=>wE Γ b Ξ σ H1 fun y H2=>cmpDV Γ.mod op x y H2 fun x H'=>∃k,x=.bl k/\Q k H'
 | _,_=>fun _ _ _=>False
noncomputable def wEs (Γ:Gam):Exs->XS->TA
 | .nil,_=>fun _ H Q=>Q [] H
 | .cons e r,Ξ=>fun σ H Q=>wE Γ e Ξ σ H fun x H1=>wEs Γ r Ξ σ H1 fun xs H2=>Q (x::xs) H2
noncomputable def wP (Γ:Gam):Exs->XS->St->Hp->(Option Int->Hp->Prop)->Prop
 | .nil,_=>fun _ H Q=>Q none H
 | .cons e .nil,Ξ=>fun σ H Q=>wE Γ e Ξ σ H fun x H1=>match x with | .int i=>Q (some i) H1 | _=>False
 | _,_=>fun _ _ _=>False
noncomputable def wTs (Γ:Gam):Exs->XS->TT
 | .nil,_=>fun _ H Q=>Q true H
 | .cons e _,Ξ=>wT Γ e Ξ
noncomputable def wI (Γ:Gam):Ix->XS->St->Hp->(List V->(Hp->Prop)->Hp->Prop)->Prop
 | .ex e,Ξ,σ,H,k=>wE Γ e Ξ σ H fun x H1=>iterV Γ.mod x H1 fun xs stay=>k xs stay H1
 | .rng1 a,Ξ,σ,H,k=>wE Γ a Ξ σ H fun x H1=>match x with
  | .int j=>-(2 ^ 62)<=j/\j < 2 ^ 62/\k ((List.range j.toNat).map fun i:Nat=>.int i) (fun _=>True) H1
  | _=>False
end
noncomputable def Gam.hush (Γ:Gam):Gam:={Γ with cm:=false,hd:=false}
noncomputable def Gam.grip (Γ:Gam):Gam:={Γ with cm:=false,hd:=true}
mutual
noncomputable def wS:Sx->Gam->XS->TS
 | .asg i e,Γ,Ξ=>fun D σ H=>wE Γ e Ξ σ H fun v H1=>D.nx (σ.set i (some v)) H1
 | .exp e,Γ,Ξ=>fun D σ H=>wE Γ e Ξ σ H fun _ H1=>D.nx σ H1
 | .ret e,Γ,Ξ=>fun D σ H=>wE Γ e Ξ σ H D.rt
 | .iff c a b,Γ,Ξ=>fun D σ H=>wT Γ c Ξ σ H fun k H1=>if k=true then wSs a Γ Ξ D σ H1 else wSs b Γ Ξ D σ H1
 | .fr i it b,Γ,_=>fun D σ H=>Γ.cm=true/\wI Γ it X0 σ H fun xs stay H1=>forW i (wSs b Γ X0) stay xs D σ H1
 | .sto o i e,Γ,Ξ=>fun D σ H=>wE Γ e Ξ σ H fun v H1=>wE Γ o Ξ σ H1 fun x H2=>wE Γ i Ξ σ H2 fun k H3=>stoV x k v H3 (D.nx σ)
 | .asgT is e,Γ,Ξ=>fun D σ H=>Γ.cm=true/\wE Γ e Ξ σ H fun x H1=>match x with
  | .ref p=>(match rd Γ.mod H1 p with | some (.tup xs)=>xs.length=is.length/\D.nx (setAll σ is xs) H1 | _=>False)
  | _=>False
 | .frT is it b,Γ,_=>fun D σ H=>Γ.cm=true/\wI Γ it X0 σ H fun xs stay H1=>forWT Γ.mod is (wSs b Γ X0) stay xs D σ H1
noncomputable def wSs:Sxs->Gam->XS->TS
 | .nil,_,_=>fun D σ H=>D.nx σ H
 | .cons s r,Γ,Ξ=>fun D σ H=>wS s Γ Ξ {D with nx:=wSs r Γ Ξ D} σ H
end
end Sw
namespace Sw
open PySem PySem.Spec PyProof.Rows L2
structure SeqIt (J:It) (xs:List V) (stay:Hp->Prop):Prop where
 go:∀i H,stay H->i < xs.length->J.go i H
 yld:∀i H x H',i < xs.length->J.yld i H x H'->stay H->H'=H/\xs[i]?=some x
 stop:∀i H,stay H->xs.length<=i->J.stop i H
section
variable {X:Cx} {M:Mo} {pins:List (Addr × Obj)} {σ:L2.St} {H:Hp} {s:Shared} {p:Addr} {kvs:List (Key × V)} {A:Around} {E:Value->Shared->Prop}
theorem dkOf_kV {x:V} {k:Key} (h:keyOf x=some k):x=kV k:=by
 cases x<;>first | (cases h;rfl) | cases h
theorem _root_.L2.KV.get:∀ {xs:List (Key × V)} {ys:List (Key × Value)} {i:Nat} {x:Key × V},KV xs ys->xs[i]?=some x->∃u,ys[i]?=some (x.1,u)/\RelV x.2 u
 | _,_,_,_,.nil,e=>by simp at e
 | _,y::_,0,_,.cons r _,e=>by
  simp at e;subst e
  obtain⟨e1,e2⟩:=r
  exact⟨y.2,by rw[e1];rfl,e2⟩
 | _,_,i + 1,x,.cons _ t,e=>by
  obtain⟨u,h1,h2⟩:=L2.KV.get (i:=i) (x:=x) t (by simpa using e)
  exact⟨u,by simpa using h1,h2⟩
theorem allM_keys:∀ {kvs:List (Key × V)} {ts:List Str},allM asS (kvs.map fun y=>kV y.1)=some ts->kvs.map (·.1)=ts.map Sum.inr
 | [],ts,h=>by rw[allM_nil h];rfl
 | y::r,ts,h=>by
  obtain⟨a,t,h1,h2,rfl⟩:=allM_cons (x:=kV y.1) (r:=r.map fun y=>kV y.1) h
  obtain⟨k,v⟩:=y
  cases k with
  | inl i=>cases h1
  | inr x=>cases h1;rw[List.map_cons,List.map_cons,allM_keys h2]
theorem _root_.L2.Inv.swap {o u:HO} (I:Inv X pins σ H s) (e:H p=some o) (nt:∀xs,o ≠ .tup xs) (no:∀y,o ≠ .own y) (nb:∀ps,o ≠ .tbl ps) (nf:∀b v,X.H₀ p ≠ some (.frz b v)) (new:ObjOk X.prog X.w (upd H p u) s.heap p u):Inv X pins σ (upd H p u) s:=by
 have ne:∀b,H b=none->b ≠ p:=fun b hb z=>by subst z;rw[hb]at e;cases e
 have up:∀b,H b=none->upd H p u b=none:=fun b hb=>by rw[upd_ne (ne b hb)];exact hb
 have tp:∀b xs,H b=some (.tup xs)->upd H p u b=some (.tup xs):=fun b xs q=>by
  rw[upd_ne (fun z=>by subst z;rw[q]at e;exact nt xs (Option.some.inj e).symm)];exact q
 have ow:∀b y,H b=some (.own y)->upd H p u b=some (.own y):=fun b y q=>by
  rw[upd_ne (fun z=>by subst z;rw[q]at e;exact no y (Option.some.inj e).symm)];exact q
 refine⟨I.ok,I.os,I.bare,⟨I.base.keep,I.base.slot,fun b ob q n hx=>up b (I.base.free b ob q n hx),I.base.there,fun b xs q=>tp b xs (I.base.tups b xs q),fun b ob v q=>?_,fun b ps q=>?_⟩,I.loc,I.cell,up _ I.free,fun x c q=>up c (I.freeC x c q),fun q hq=>?_,fun b v q=>?_,I.len⟩
 ·rw[upd_ne (fun z=>by subst z;exact nf ob v q)];exact I.base.frzs b ob v q
 ·obtain⟨more,q2⟩:=I.base.tbls b ps q
  exact⟨more,by rw[upd_ne (fun z=>by subst z;rw[q2]at e;exact nb _ (Option.some.inj e).symm)];exact q2⟩
 ·obtain⟨h1,h2,h3⟩:=I.pin q hq
  exact⟨h1,up _ h2,h3⟩
 ·by_cases hb:b=p
  ·subst hb;rw[upd_same]at q;cases q;exact new
  ·rw[upd_ne hb]at q
   exact(I.hok b v q).stay (fun _ _ _ r=>r) (fun c r=>ow c _ r) fun c xs r=>tp c xs r
noncomputable def NF (X:Cx) (p:Addr):Prop:=∀b v,X.H₀ p ≠ some (.frz b v)
theorem _root_.L2.Inv.nf (I:Inv X pins σ H s) (e:H p=some (.dK kvs)):NF X p:=fun b v q=>by
 have:=I.base.frzs p b v q
 rw[e]at this;cases this
end
end Sw
namespace Sw
open PySem PySem.Spec PyProof.Rows L2
section
variable {X:Cx} {M:Mo} {pins:List (Addr × Obj)} {σ:L2.St} {H:Hp} {s:Shared}
noncomputable def bfV:Bf->Value
 | .str=>.type "str" | .int=>.type "int" | .list=>.type "list" | .tuple=>.type "tuple"
 | .len=>.builtin "len" | .all=>.builtin "all" | .any=>.builtin "any" | .abs=>.builtin "abs" | .sorted=>.builtin "sorted" | .sortset=>.builtin "sorted"
 | .max=>.builtin "max" | .min=>.builtin "min" | .sum=>.builtin "sum" | .dlen=>.builtin "len" | .dsorted=>.builtin "sorted" | .smin=>.builtin "min"
theorem vals_of_strs:∀ {its:List Value} {ts:List Str},StrsAre its ts->Vals (ts.map V.str) its
 | _,_,.nil=>.nil
 | _,_,.cons y t r=>.cons ⟨t,rfl⟩ (vals_of_strs r)
theorem Inv.like {s':Shared} (I:Inv X pins σ H s) (h1:s'.heap=s.heap) (h2:s'.gens=s.gens) (h3:s'.os=s.os):Inv X pins σ H s':=by
 obtain⟨hp,g,d,tk,os⟩:=s'
 obtain⟨hp',g',d',tk',os'⟩:=s
 dsimp only at h1 h2 h3
 subst h1;subst h2;subst h3
 exact⟨I.ok,I.os,I.bare,I.base,I.loc,I.cell,I.free,I.freeC,I.pin,I.hok,I.len⟩
theorem new_list (mo:ModOk X.K M) {s':Shared} {l:Addr} {out:Array Value} {e:Nat} {ys:List V} {Q:VK} (I:Inv X pins σ H s) (kp:∀b o,s.heap.get? b=some o->s'.heap.get? b=some o) (hg:s'.gens=s.gens) (ho:s'.os=s.os) (hl:s.heap.objs.size<=l)
  (hn:s'.heap.get? l=some (seqObj "list" out e)) (hv:Vals ys out.toList) (hz:ys.length<=sizeLine) (h:H l=none->M l=none->Q (.ref l) (upd H l (.lst ys))):EP X pins σ Q (.ref l) s':=by
 have J:Inv X pins σ (upd H l (.lst ys)) {s with heap:=s'.heap,toks:=s'.toks}:=I.laid (t':=s'.toks) kp hl (show ObjOk X.prog X.w _ s'.heap l (.lst ys)from⟨hz,out.toList,e,hv,by rw[hn]⟩)
 have J':Inv X pins σ (upd H l (.lst ys)) s':=Inv.like J rfl hg ho
 exact⟨.ref l,_,J',rfl,h (I.hok.fresh hl) (OffM.new (Inv.offM mo J'))⟩
theorem sortedD_ok (hc:X.calm=true) (mo:ModOk X.K M) {p:Addr} {kvs:List (Key × V)} {ts:List Str} {Q:VK} (I:Inv X pins σ H s) (e:H p=some (.dK kvs)) (et:allM asS (kvs.map fun y=>kV y.1)=some ts) (h:newSorted M ts H Q):wpAny (model X.prog X.w) X.A (call (.builtin "sorted") [.ref p]) (EP X pins σ Q) X.xe s:=by
 obtain⟨z,hd,vs,rel,dd⟩:=dk_of I.hok e
 obtain⟨h64,h⟩:=h
 refine PySem.Sg.sorted_dict (I.ok.hd hc) h64 hd dd (by rw[<-rel.keys];exact allM_keys et) fun s' l out ss e kp2 eg eo _ hl hn a1 a2 a3=>?_
 refine new_list mo I kp2 eg eo hl hn (vals_of_strs a1) ?_ (h ss _ a2 a3)
 rw[List.length_map,a2.length_eq,sizeLine_eq];omega
theorem blt_ok (hc:X.calm=true) (m:ModOk X.K M) (f:Bf):CallR X (bfV f) (bltV M f):=by
 intro pins s σ H xs us Q I r h
 cases f with
 | len=>
  cases xs with
  | nil=>exact False.elim h
  | cons x t=>
   cases t with
   | cons _ _=>first | exact False.elim h | (cases x<;>exact False.elim h)
   | nil=>
    cases x with
    | str y=>
     exact call_len_str pins s σ H _ _ Q I r ⟨_,rfl,h.1,h.2⟩
    | ref p=>
     unfold bltV at h
     dsimp only at h
     split at h
     ·rename_i e;exact call_len_seq pins s σ H _ _ Q I r ⟨_,_,rfl,.inl (rd_lst m e),h⟩
     ·rename_i e;exact call_len_seq pins s σ H _ _ Q I r ⟨_,_,rfl,.inr (rd_tup m e),h⟩
     ·exact h.elim
    | _=>exact False.elim h
 | list=>
  cases xs with
  | nil=>exact False.elim h
  | cons x t=>
   cases t with
   | cons _ _=>first | exact False.elim h | (cases x<;>exact False.elim h)
   | nil=>
    cases x with
    | ref p=>
     unfold bltV at h
     dsimp only at h
     split at h
     ·rename_i e;exact thn (call_list_of pins s σ H _ _ (fun v H'=>OffM M H'->Q v H') I r ⟨_,_,rfl,.inl (rd_lst m e),fun l hl of=>h l hl of.new⟩) fun _ _=>ep_off m
     ·rename_i e;exact thn (call_list_of pins s σ H _ _ (fun v H'=>OffM M H'->Q v H') I r ⟨_,_,rfl,.inr (rd_tup m e),fun l hl of=>h l hl of.new⟩) fun _ _=>ep_off m
     ·exact h.elim
    | _=>exact False.elim h
 | dsorted=>
  cases xs with
  | nil=>exact False.elim h
  | cons x t=>
   cases t with
   | cons _ _=>first | exact False.elim h | (cases x<;>exact False.elim h)
   | nil=>
    cases x with
    | ref p=>
     obtain⟨u,rfl,ru⟩:=vals1 r
     cases ru
     unfold bltV at h
     dsimp only at h
     split at h
     ·rename_i e
      split at h
      ·rename_i et;exact sortedD_ok hc m I e et h
      ·exact h.elim
     ·exact h.elim
    | _=>exact False.elim h
 | smin=>
  cases xs with
  | nil=>exact False.elim h
  | cons x t=>
   cases x with
   | str i=>
    cases t with
    | nil=>exact False.elim h
    | cons y t=>
     cases t with
     | cons _ _=>first | exact False.elim h | (cases y<;>exact False.elim h)
     | nil=>
      cases y with
      | str j=>
       obtain⟨u,w',rfl,⟨t,rfl⟩,⟨t',rfl⟩⟩:=vals2 r
       refine PySem.Sg.min_two_strs (I.ok.hd hc) fun h' tk k=>⟨_,H,I.kept k,?_,h⟩
       by_cases hj:j.cps.toList < i.cps.toList
       ·rw[if_pos hj,if_pos hj];exact⟨_,rfl⟩
       ·rw[if_neg hj,if_neg hj];exact⟨_,rfl⟩
      | _=>exact False.elim h
   | _=>exact False.elim h
 | _=>exact False.elim h
noncomputable def mfT:Mf->String
 | .append=> "list" | .pop=> "list" | .extend=> "list" | .clear=> "list" | .dpop=> "dict" | .dclear=> "dict" | .copy=> "dict" | .setdefault=> "dict" | _=> "str"
noncomputable def mfId:Mf->String
 | .startswith=> "str.startswith" | .endswith=> "str.endswith" | .split=> "str.split" | .join=> "str.join" | .append=> "list.append" | .pop=> "list.pop" | .extend=> "list.extend" | .clear=> "list.clear" | .dpop=> "dict.pop" | .dclear=> "dict.clear" | .copy=> "dict.copy" | .setdefault=> "dict.setdefault"
theorem strs_of:∀ {xs:List V} {us:List Value} {ts:List Str},Vals xs us->allM asS xs=some ts->∃l:List (Str × Tok),strValues l=us/\l.map (·.1)=ts
 | [],_,ts,.nil,h=>by rw[allM_nil h];exact⟨[],rfl,rfl⟩
 | x::xs,_,ts,.cons r t,h=>by
  obtain⟨a,l,h1,h2,rfl⟩:=allM_cons h
  obtain⟨q,e1,e2⟩:=strs_of t h2
  cases x<;>first | cases h1 | skip
  obtain⟨tk,rfl⟩:=r
  exact⟨(_,tk)::q,by rw[<-e1];rfl,by rw[<-e2];rfl⟩
theorem mth_ok (mo:ModOk X.K M) (m:Mf):MtR X (mfId m) (mthV M m):=by
 intro pins s σ H x xs v us Q I rx r h
 cases m with
 | join=>
  cases x with
  | str x=>
   cases xs with
   | nil=>exact False.elim h
   | cons y t=>
    cases t with
    | cons _ _=>first | exact False.elim h | (cases y<;>exact False.elim h)
    | nil=>
     cases y with
     | ref p=>
      obtain⟨u,rfl,ru⟩:=vals1 r
      obtain⟨t,rfl⟩:=rx
      cases ru
      unfold mthV at h
      dsimp only at h
      split at h
      ·rename_i e
       split at h
       ·rename_i ts et
        obtain⟨its,rv,pl,_⟩:=I.list (rd_lst mo e)
        obtain⟨l,e1,e2⟩:=strs_of rv et
        exact PySem.SC.join (l:=l) (texts:=ts) (by rw[e1];exact pl.isList) e2 h.1 fun t' k=>⟨.str _,H,I.tok _,⟨_,rfl⟩,h.2⟩
       ·exact h.elim
      ·exact h.elim
     | _=>exact False.elim h
  | _=>exact False.elim h
 | append=>
  cases x with
  | ref p=>
   cases xs with
   | nil=>exact False.elim h
   | cons y t=>
    cases t with
    | cons _ _=>first | exact False.elim h | (cases y<;>exact False.elim h)
    | nil=>
     obtain⟨u,rfl,ru⟩:=vals1 r
     unfold mthV at h
     dsimp only at h
     split at h
     ·rename_i e
      exact mt_append pins s σ H _ _ _ _ Q I rx r ⟨_,_,_,rfl,rfl,e,h.1,h.2⟩
     ·exact h.elim
  | _=>exact False.elim h
 | extend=>
  cases x with
  | ref p=>
   cases xs with
   | nil=>exact False.elim h
   | cons y t=>
    cases t with
    | cons _ _=>first | exact False.elim h | (cases y<;>exact False.elim h)
    | nil=>
     cases y with
     | ref b=>
      unfold mthV at h
      dsimp only at h
      split at h
      ·rename_i e1 e2
       exact mt_extend pins s σ H _ _ _ _ Q I rx r ⟨_,_,_,_,rfl,rfl,e1,e2,h.1,h.2⟩
      ·exact h.elim
     | _=>exact False.elim h
  | _=>exact False.elim h
 | clear=>
  cases x with
  | ref p=>
   cases xs with
   | nil=>
    unfold mthV at h
    dsimp only at h
    split at h
    ·rename_i e1
     exact mt_clear pins s σ H _ _ _ _ Q I rx r ⟨_,_,rfl,rfl,e1,h⟩
    ·exact h.elim
   | cons _ _=>exact False.elim h
  | _=>exact False.elim h
 | dpop=>
  cases x with
  | ref p=>
   cases xs with
   | nil=>exact False.elim h
   | cons y t=>
    cases t with
    | cons _ _=>exact False.elim h
    | nil=>
     unfold mthV at h
     dsimp only at h
     obtain⟨u,rfl,ru⟩:=vals1 r
     cases rx
     split at h
     ·rename_i e1
      split at h
      ·rename_i ek
       split at h
       ·rename_i ev
        rw[dkOf_kV ek]at ru
        exact d_pop I e1 ru ev (.inl rfl) fun w' s' I' rw'=>⟨_,_,I',rw',h⟩
       ·exact h.elim
      ·exact h.elim
     ·exact h.elim
  | _=>exact False.elim h
 | _=>exact False.elim h
theorem isl_ty {K:PySem.W.Frag} (mo:ModOk K M) {x:V} {H:Hp} (h:(match x with | .ref p=>(match rd M H p with | some (.lst _)=>true | _=>false) | _=>false)=true):tyV K "list" x H:=by
 cases x with
 | ref p=>
  dsimp only at h
  split at h
  ·rename_i e;exact .inl ⟨rfl,_,rd_lst mo e⟩
  ·cases h
 | _=>cases h
theorem isd_ty {K:PySem.W.Frag} {x:V} {H:Hp} (h:isDk x H=true):tyV K "dict" x H:=by
 unfold isDk at h
 cases x with
 | ref p=>
  dsimp only at h
  split at h
  ·rename_i e;exact .inr (.inr (.inl ⟨rfl,.inl ⟨_,e⟩⟩))
  ·cases h
 | _=>cases h
theorem mth_ty {K:PySem.W.Frag} (mo:ModOk K M) {m:Mf} {x:V} {H:Hp} (h:mty M m x H=true):tyV K (mfT m) x H:=by
 cases m with
 | append=>exact isl_ty mo h
 | extend=>exact isl_ty mo h
 | pop=>exact isl_ty mo h
 | clear=>exact isl_ty mo h
 | dclear=>exact isd_ty h
 | copy=>exact isd_ty h
 | dpop=>exact isd_ty h
 | setdefault=>exact isd_ty h
 | _=>cases x<;>first | exact rfl | cases h
theorem sl_str:SlR X (fun x lo hi H Q=>∃z,x=.str z/\z.length<=sizeLine/\Q (.str (Txt.slice z lo hi)) H):=by
 intro pins s σ H x v vl vu lo hi sl Q I rx hs pl pu h
 obtain⟨z,rfl,hz,q⟩:=h
 obtain⟨t,rfl⟩:=rx
 refine⟨"str",_,F.slot_str_getitem.lookup,typeIs_str _ _ _,?_⟩
 cases pl with
 | none=>
  cases pu with
  | none=>exact wpAny_getItem_str_slice (l:=none) (u:=none) (st:=none) hs rfl (post_val_or_str ⟨Nat.le_trans (Txt.slice_le z _ _) hz,fun t' k=>⟨.str _,H,I.tok _,⟨_,rfl⟩,q⟩⟩)
  | int j uj=>exact wpAny_getItem_str_slice (l:=none) (u:=some (j,uj)) (st:=none) hs rfl (post_val_or_str ⟨Nat.le_trans (Txt.slice_le z _ _) hz,fun t' k=>⟨.str _,H,I.tok _,⟨_,rfl⟩,q⟩⟩)
 | int i ui=>
  cases pu with
  | none=>exact wpAny_getItem_str_slice (l:=some (i,ui)) (u:=none) (st:=none) hs rfl (post_val_or_str ⟨Nat.le_trans (Txt.slice_le z _ _) hz,fun t' k=>⟨.str _,H,I.tok _,⟨_,rfl⟩,q⟩⟩)
  | int j uj=>exact wpAny_getItem_str_slice (l:=some (i,ui)) (u:=some (j,uj)) (st:=none) hs rfl (post_val_or_str ⟨Nat.le_trans (Txt.slice_le z _ _) hz,fun t' k=>⟨.str _,H,I.tok _,⟨_,rfl⟩,q⟩⟩)
theorem slc_ok (m:ModOk X.K M):SlR X (slcV M):=by
 intro pins s σ H x v vl vu lo hi sl Q I rx hs pl pu h
 unfold slcV at h
 split at h
 ·exact sl_str pins s σ H _ v vl vu lo hi sl Q I rx hs pl pu ⟨_,rfl,h.1,h.2⟩
 ·split at h
  ·rename_i e
   obtain⟨T,id,h1,h2,h3⟩:=sl_list pins s σ H _ v vl vu lo hi sl (fun v H'=>OffM M H'->Q v H') I rx hs pl pu ⟨_,_,rfl,rd_lst m e,fun p hp of=>h p hp of.new⟩
   exact⟨T,id,h1,h2,thn h3 fun _ _=>ep_off m⟩
  ·rename_i e
   obtain⟨T,id,h1,h2,h3⟩:=sl_tup pins s σ H _ v vl vu lo hi sl (fun v H'=>OffM M H'->Q v H') I rx hs pl pu ⟨_,_,rfl,rd_tup m e,h.1,fun p hp of=>h.2 p hp of.new⟩
   exact⟨T,id,h1,h2,thn h3 fun _ _=>ep_off m⟩
  ·exact h.elim
 ·exact h.elim
end
theorem seq_list {K:PySem.W.Frag} {M:Mo} (m:ModOk K M) {a:Addr} {xs:List V}:SeqIt (Itl K a) xs (fun H=>rd M H a=some (.lst xs)) where
 go:=fun i H st e=>⟨xs,xs[i],rd_lst m st,List.getElem?_eq_getElem e⟩
 yld:=fun i H x H' _ y st=>⟨y.1,y.2 xs (rd_lst m st)⟩
 stop:=fun i H st h=>⟨xs,rd_lst m st,h⟩
theorem seq_tup {K:PySem.W.Frag} {M:Mo} (m:ModOk K M) {a:Addr} {xs:List V}:SeqIt (Itt K a) xs (fun H=>rd M H a=some (.tup xs)) where
 go:=fun i H st e=>⟨xs,xs[i],rd_tup m st,List.getElem?_eq_getElem e⟩
 yld:=fun i H x H' _ y st=>⟨y.1,y.2 xs (rd_tup m st)⟩
 stop:=fun i H st h=>⟨xs,rd_tup m st,h⟩
theorem seq_range (lo:Int) (n:Nat):SeqIt (Itr lo n) ((List.range n).map fun i:Nat=>.int (lo + i)) (fun _=>True) where
 go:=fun i H st e=>by
  show i < n
  simpa using e
 yld:=fun i H x H' e y st=>by
  obtain⟨y1,y2⟩:=y
  subst y2
  refine⟨y1,?_⟩
  have e:i < n:=by simpa using e
  rw[List.getElem?_map,List.getElem?_range e]
  rfl
 stop:=fun i H st h=>by
  show n<=i
  simpa using h
noncomputable def Its (z:Str):It:=⟨fun i _=>i < z.cps.size,fun i H x H'=>H'=H/\∃c,z.cps[i]?=some c/\x=.str ⟨#[c]⟩,fun i _=>z.cps.size<=i⟩
theorem seq_str (z:Str):SeqIt (Its z) (z.cps.toList.map fun c=>.str ⟨#[c]⟩) (fun _=>True) where
 go:=fun i H st e=>by
  show i < z.cps.size
  simpa using e
 yld:=fun i H x H' e y st=>by
  obtain⟨y1,c,y2,y3⟩:=y
  subst y3
  refine⟨y1,?_⟩
  rw[List.getElem?_map]
  simp[y2]
 stop:=fun i H st h=>by
  show z.cps.size<=i
  simpa using h
theorem turn_str {P:Program} {w:World} {K:PySem.W.Frag} {tg:Expr} (it:Addr) (z:Str) (t:Tok):Turn P w K tg (Its z) [it] it (fun i h=>h.IsStrIter it (strIterType z) z t i) where
 mem:=by simp
 obj:=fun i h st b hb=>by
  have e:b=it:=by simpa using hb
  subst e
  obtain⟨o,ho,hc,hd⟩:=st
  exact⟨o,ho,fun v q=>by rw[hd]at q;cases q⟩
 keep:=fun i h h' st k=>by
  obtain⟨o,ho,r⟩:=st
  exact⟨o,k it (by simp) _ ho,r⟩
 item:=by
  intro X hP hw hK hc i pins s σ H E I hf st hg
  subst hP hw hK
  obtain⟨f0,f1,f2,f3,f4,f5⟩:=hf it (by simp)
  have hg:i < z.cps.size:=hg
  have hx:z.cps[i]?=some z.cps[i]:=Array.getElem?_eq_getElem hg
  have fin:∀ (ty:String),ty ≠ "x" ->strIterType z=ty->(["enumerate","zip","dict_itemiterator","dict_reverseitemiterator","odict_iterator","itertools.zip_longest","itertools.pairwise"].contains ty=false)->∀h',h'.IsStrIter it ty z t (i + 1)->Heap.SameBut it s.heap h'->
    ∃u,some (Value.str ⟨#[z.cps[i]]⟩ s.toks)=some u/\wpAny (model X.prog X.w) X.A (letOwnedTupleGo tg (.ref it) u) (fun _ s2=>∃x H',Inv X pins σ H' s2/\RelV x u/\(Its z).yld i H x H'/\s2.heap.IsStrIter it (strIterType z) z t (i + 1)/\∀b ∈ [it],H' b=none) E {s with heap:=h',toks:=s.toks + 1}:=by
   intro ty _ e hn h' st' sb
   have I1:Inv X pins σ H {s with heap:=h',toks:=s.toks + 1}:=I.turned (fun b o hb e=>sb.extBut b o hb e) f0 f1 f3 f4 f5
   obtain⟨o,ho,hcl,hd⟩:=id st'
   refine⟨_,rfl,go_of (s:={s with heap:=h',toks:=s.toks + 1}) ho hcl hd hn ⟨.str ⟨#[z.cps[i]]⟩,H,I1,⟨_,rfl⟩,⟨rfl,_,hx,rfl⟩,by rw[e];exact st',fun b hb=>(hf b hb).1⟩⟩
  cases ha:z.cps.all (·< 128)
  ·have e:strIterType z= "str_iterator" :=by simp[strIterType,ha]
   rw[e]at st
   exact wpAny_pyNext_wide_item st hx fun h' st' sb=>fin _ (by decide) e (by decide) h' st' sb
  ·have e:strIterType z= "str_ascii_iterator" :=by simp[strIterType,ha]
   rw[e]at st
   exact wpAny_pyNext_ascii_item st hx fun h' st' sb=>fin _ (by decide) e (by decide) h' st' sb
 done:=by
  intro X hP hw hK hc i pins s σ H E I hf st hg
  subst hP hw hK
  obtain⟨f0,f1,f2,f3,f4,f5⟩:=hf it (by simp)
  have hg:z.cps.size<=i:=hg
  have hx:z.cps[i]?=none:=by simp[hg]
  cases ha:z.cps.all (·< 128)
  ·have e:strIterType z= "str_iterator" :=by simp[strIterType,ha]
   rw[e]at st
   exact wpAny_pyNext_wide_end (I.ok.hd hc) st hx fun h' eb=>⟨rfl,I.turned (t':=s.toks) (fun b o hb e=>eb b o hb e) f0 f1 f3 f4 f5⟩
  ·have e:strIterType z= "str_ascii_iterator" :=by simp[strIterType,ha]
   rw[e]at st
   exact wpAny_pyNext_ascii_end (I.ok.hd hc) st hx fun h' eb=>⟨rfl,I.turned (t':=s.toks) (fun b o hb e=>eb b o hb e) f0 f1 f3 f4 f5⟩
 self:=fun A i s Q E st h=>by
  cases ha:z.cps.all (·< 128)
  ·have e:strIterType z= "str_iterator" :=by simp[strIterType,ha]
   rw[e]at st
   exact wpAny_pyIter_striter_wide st h
  ·have e:strIterType z= "str_ascii_iterator" :=by simp[strIterType,ha]
   rw[e]at st
   exact wpAny_pyIter_striter_ascii st h
section
variable {X:Cx} {tg:Expr}
noncomputable def iSeq (wi:L2.St->Hp->(List V->(Hp->Prop)->Hp->Prop)->Prop):TI:=fun σ H R=>∃k,wi σ H k/\∀J xs stay H1,SeqIt J xs stay->k xs stay H1->R J H1
theorem iterV_mono {M:Mo} {x:V} {H:Hp} {k k':List V->(Hp->Prop)->Prop} (h:iterV M x H k) (hk:∀xs stay,k xs stay->k' xs stay):iterV M x H k':=by
 unfold iterV at h ⊢
 split at h
 ·exact⟨h.1,hk _ _ h.2⟩
 ·split at h
  ·first | exact hk _ _ h | (rename_i e;rw[e];exact hk _ _ h)
  ·first | exact hk _ _ h | (rename_i e;rw[e];exact hk _ _ h)
  ·exact h.elim
 ·exact h.elim
theorem pi_str {pins:List (Addr × Obj)} {σ:L2.St} {H:Hp} {s:Shared} {R:It->Hp->Prop} {z:Str} {t:Tok} (I:Inv X pins σ H s) (q:R (Its z) H):
  wpAny (model X.prog X.w) X.A (pyIter (.str z t)) (PIE X pins σ tg R) X.xe s:=by
 refine wpAny_pyIter_strU ?_
 refine⟨s.heap.objs.size,[s.heap.objs.size],_,_,H,rfl,I.kept (t':=s.toks) fun b o e=>Heap.get?_push_of_some _ e,turn_str _ z t,⟨_,Heap.get?_push_size _ rfl,rfl,rfl⟩,fun b hb=>?_,q⟩
 have e:b=s.heap.objs.size:=by simpa using hb
 subst e
 exact I.fpOk (Nat.le_refl _) (I.hok.fresh (Nat.le_refl _))
theorem pi_val {M:Mo} (m:ModOk X.K M) {pins:List (Addr × Obj)} {σ:L2.St} {H:Hp} {s:Shared} {R:It->Hp->Prop} {x:V} {v:Value} (I:Inv X pins σ H s) (rx:RelV x v)
  (h:iterV M x H fun xs stay=>∀J,SeqIt J xs stay->R J H):wpAny (model X.prog X.w) X.A (pyIter v) (PIE X pins σ tg R) X.xe s:=by
 unfold iterV at h
 split at h
 ·obtain⟨t,rfl⟩:=rx
  exact pi_str I (h.2 _ (seq_str _))
 ·cases rx
  split at h
  ·rename_i xs e
   obtain⟨its,rv,p,hz⟩:=I.list (rd_lst m e)
   refine wpAny_pyIter_list p.isList ?_
   refine⟨s.heap.objs.size,[s.heap.objs.size],_,_,H,rfl,I.kept (t':=s.toks) fun b o e=>Heap.get?_push_of_some _ e,turn_list _ _,⟨_,Heap.get?_push_size _ rfl,rfl,rfl⟩,fun b hb=>?_,h _ (seq_list m)⟩
   have e:b=s.heap.objs.size:=by simpa using hb
   subst e
   exact I.fpOk (Nat.le_refl _) (I.hok.fresh (Nat.le_refl _))
  ·rename_i xs e
   obtain⟨its,rv,p,hz⟩:=I.tuple (rd_tup m e)
   refine wpAny_pyIter_tuple (show s.heap.IsTuple _ its.toArray from p) ?_
   refine⟨s.heap.objs.size,[s.heap.objs.size],_,_,H,rfl,I.kept (t':=s.toks) fun b o e=>Heap.get?_push_of_some _ e,turn_tuple _ _,⟨_,Heap.get?_push_size _ rfl,rfl,rfl⟩,fun b hb=>?_,h _ (seq_tup m)⟩
   have e:b=s.heap.objs.size:=by simpa using hb
   subst e
   exact I.fpOk (Nat.le_refl _) (I.hok.fresh (Nat.le_refl _))
  ·exact h.elim
 ·exact h.elim
end
end Sw
namespace Sw
open PySem PySem.Spec PyProof.Rows L2
theorem closure_go (env:Env):∀ (names:List (Str × NameKind)) (acc:List (Str × Addr)),(∀ y ∈ names,y.2=.free->∃c,env.cells.lookup y.1=some c)->
  ∃cl,((forIn names acc (fun(x:Str × NameKind) (r:List (Str × Addr))=>if(x.2 == .free)=true then(do let a<-cellOf env x.1;pure (ForInStep.yield ((x.1,a)::r)))else pure (ForInStep.yield r)):Sem (List (Str × Addr)))=pure (cl++acc))/\
   (∀ y ∈ cl,env.cells.lookup y.1=some y.2)/\(∀ y ∈ names,y.2=.free->∃c,(y.1,c) ∈ cl):=by
 intro names
 induction names with
 | nil=>intro acc _;exact⟨[],rfl,(fun _ h=>by cases h),(fun _ h=>by cases h)⟩
 | cons x r ih=>
  intro acc h
  obtain⟨n,k⟩:=x
  cases hk:(k == NameKind.free)with
  | false=>
   obtain⟨cl,e,h1,h2⟩:=ih acc fun y hy=>h y (List.mem_cons_of_mem _ hy)
   refine⟨cl,?_,h1,fun y hy hf=>?_⟩
   ·simp only[List.forIn_cons,hk,Bool.false_eq_true,if_false]
    exact e
   ·rcases List.mem_cons.mp hy with rfl | hy
    ·have hf:k=.free:=hf
     rw[hf]at hk;cases hk
    ·exact h2 y hy hf
  | true=>
   have hkf:k=.free:=by simpa using hk
   obtain⟨c,hc⟩:=h (n,k) List.mem_cons_self hkf
   obtain⟨cl,e,h1,h2⟩:=ih ((n,c)::acc) fun y hy=>h y (List.mem_cons_of_mem _ hy)
   refine⟨cl++[(n,c)],?_,fun y hy=>?_,fun y hy hf=>?_⟩
   ·simp only[List.forIn_cons,hk,if_true]
    unfold cellOf
    have hc':env.cells.lookup n=some c:=hc
    rw[hc']
    simp only[List.append_assoc,List.singleton_append]
    exact e
   ·rcases List.mem_append.mp hy with hy | hy
    ·exact h1 y hy
    ·have ey:y=(n,c):=by simpa using hy
     subst ey;exact hc
   ·rcases List.mem_cons.mp hy with rfl | hy
    ·exact⟨c,List.mem_append_right _ (by simp)⟩
    ·obtain⟨d,hd⟩:=h2 y hy hf
     exact⟨d,List.mem_append_left _ hd⟩
theorem closure_ok {env:Env} {csc:Scope} (h:∀y ∈ csc.names,y.2=.free->∃c,env.cells.lookup y.1=some c):
  ∃cl,closureFor csc env=pure cl/\(∀ y c,cl.lookup y=some c->env.cells.lookup y=some c)/\(∀ y,(y,NameKind.free) ∈ csc.names->∃c,cl.lookup y=some c):=by
 obtain⟨cl,e,h1,h2⟩:=closure_go env csc.names [] h
 refine⟨cl,?_,fun y c hl=>h1 (y,c) (PySem.mem_of_lookup hl),fun y hy=>?_⟩
 ·rw[List.append_nil]at e
  unfold closureFor
  simp only[e]
  rfl
 ·obtain⟨c,hc⟩:=h2 (y,.free) hy rfl
  cases q:cl.lookup y with
  | some d=>exact⟨d,rfl⟩
  | none=>
   exfalso
   clear h1 h2 e
   induction cl with
   | nil=>cases hc
   | cons z r ih=>
    obtain⟨a,b⟩:=z
    simp only[List.lookup_cons]at q
    cases hb:(y == a)with
    | true=>rw[hb]at q;cases q
    | false=>
     rw[hb]at q
     rcases List.mem_cons.mp hc with hc | hc
     ·cases hc
      simp at hb
     ·exact ih hc q
theorem relabel_vis {csc:Scope} {env:Env} {y:Str}:(relabel csc env).names.lookup y=(csc.names.lookup y).map fun k=>if(k == .free && env.scope.kind == .function && env.kindOf y == some .cell)then .cell else k:=by
 unfold relabel
 dsimp only
 generalize csc.names=names
 induction names with
 | nil=>rfl
 | cons z r ih=>
  obtain⟨n,k⟩:=z
  simp only[List.map_cons,List.lookup_cons]
  cases hb:(y == n)with
  | true=>
   have e:y=n:=by simpa using hb
   subst e
   by_cases hc:(k == NameKind.free && env.scope.kind == .function && env.kindOf y == some .cell)=true
   ·simp only[hc,if_true,List.lookup_cons,hb,Option.map_some]
   ·simp only[hc,if_false,List.lookup_cons,hb,Option.map_some,Bool.false_eq_true]
  | false=>
   by_cases hc:(k == NameKind.free && env.scope.kind == .function && env.kindOf n == some .cell)=true
   ·simp only[hc,if_true,List.lookup_cons,hb];exact ih
   ·simp only[hc,if_false,List.lookup_cons,hb,Bool.false_eq_true];exact ih
theorem mem_of_look {α β:Type} [BEq α] [LawfulBEq α] {l:List (α × β)} {a:α} {b:β} (h:l.lookup a=some b):(a,b) ∈ l:=by
 induction l with
 | nil=>cases h
 | cons x r ih=>
  obtain⟨c,d⟩:=x
  simp only[List.lookup_cons]at h
  cases hb:(a == c)with
  | true=>
   rw[hb]at h
   have e:a=c:=by simpa using hb
   subst e
   cases h
   exact List.mem_cons_self
  | false=>rw[hb]at h;exact List.mem_cons_of_mem _ (ih h)
structure CompOf (X X':Cx) (csc:Scope) (N':List Str):Prop where
 prog:X'.prog=X.prog
 w:X'.w=X.w
 K:X'.K=X.K
 mg:X'.mg=X.mg
 base:X'.base=X.base
 A:X'.A=X.A
 calm:X'.calm=true
 stack:X'.stack=X.stack
 frame:X'.env.frame=X.env.frame
 N:X'.N=N'
 scope:X'.env.scope=relabel csc X.env
noncomputable def PTs (X:Cx) (ifs:List Expr) (tt:TT):Prop:=
 ∀ (pins:List (Addr × Obj)) (s:Shared) (σ:L2.St) (H:Hp) (Q:Bool->Hp->Prop),Inv X pins σ H s->tt σ H Q->
  wpAny (model X.prog X.w) X.A (forIn ifs true fun c r=>if r=true then do let ok<-isTrue c X.env (eval c X.env);pure (ForInStep.yield ok)else pure (ForInStep.yield r)) (TP X pins σ Q) X.xe s
theorem vars_get {σ:L2.St} {fv:List (Str × Nat)} {i:Nat} {v:V} (h:(vars σ fv)[i]?=some (some v)):∃y,fv[i]?=some y/\σ[y.2]?=some (some v):=by
 unfold vars at h
 rw[List.getElem?_map]at h
 cases e:fv[i]? with
 | none=>rw[e]at h;cases h
 | some y=>
  rw[e]at h
  refine⟨y,rfl,?_⟩
  have h:(σ[y.2]?).join=some v:=by simpa using h
  cases q:σ[y.2]? with
  | none=>rw[q]at h;cases h
  | some z=>rw[q]at h;simp at h;rw[h]
set_option maxHeartbeats 8000000 in
theorem Inv.letgo {X:Cx} {pins:List (Addr × Obj)} {σ:L2.St} {H:Hp} {s:Shared} {C:Addr} {h':Heap} (I:Inv X pins σ H s) (f:FpOk X pins H C) (sb:Heap.SameBut C s.heap h'):Inv X pins σ H {s with heap:=h'}:=by
 have same:∀b o,b ≠ C->s.heap.get? b=some o->h'.get? b=some o:=fun b o hb e=>sb.extBut b o hb e
 obtain⟨f0,f1,f2,f3,f4,f5⟩:=f
 refine I.call' (ch:=[C]) (s':={s with heap:=h'}) rfl ⟨fun b o e n hb hx=>same b o (by simpa using hx) e,fun b o e n hb hx=>⟨o.slots,same b o (by simpa using hx) e⟩,fun b o e n _=>n,fun b o e hb=>⟨o,same b o (by simpa using hb) e⟩,fun _ _ q=>q,fun _ _ _ q=>q,fun b ps q=>⟨#[],by simpa using q⟩⟩ (fun b o e=>?_) I.bare (fun b hb=>?_)
 ·refine(I.hok b o e).stay (fun c u hcu q=>same c u (fun z=>?_) q) (fun _ q=>q) fun _ _ q=>q
  subst z
  rcases hcu with z | z
  ·rw[<-z,f0]at e;cases e
  ·rw[f0]at z;cases z
 ·rw[show b=C by simpa using hb]
  exact⟨f3,f1,f4,f5⟩
end Sw
namespace Sw
open PySem PySem.Spec PyProof.Rows L2
theorem mapFields_eq {o:Obj} {vs:Array Value} (h:o.data=.fields vs) (f:Array Value->Array Value):Obj.mapFields f o={o with data:=.fields (f vs)}:=by
 obtain⟨c,d,da,sl⟩:=o
 have h:da=.fields vs:=h
 subst h
 rfl
structure Landed (fs:List Addr) (h h':Heap) (e:Addr) (oe:Obj):Prop where
 keep:∀b o,b ∉ fs->b ≠ e->h.get? b=some o->h'.get? b=some o
 slot:∀b o,b ≠ e->h.get? b=some o->∃sl,h'.get? b=some {o with slots:=sl}
 exc:∃vs T oT ts,h'.get? e=some {oe with data:=.fields vs}/\vs[1]?=some (.ref T)/\h.objs.size<=T/\h'.get? T=some oT/\oT.data=.fields ts/\3 < ts.size/\vs.size=6/\∀vs0:Array Value,oe.data=.fields vs0->vs[2]?=vs0[2]?
section
variable {M:Model} {A:Around} {E:Value->Shared->Prop} {s:Shared}
theorem entry_D {base:Heap} {env:Env} {outer:List Env} {L e:Addr} {oe:Obj} {vs:Array Value} {head:Value} {hadNext:Bool} {Q:Unit->Shared->Prop}
  (hfr:A.frames=some (env::outer)) (hl:s.heap.FunFrames base (env::outer)) (hf:env.frame=some L)
  (he:s.heap.get? e=some oe) (hd:oe.data=.fields vs) (hsz:vs.size=6)
  (h:∀h',Landed (frs (env::outer)) s.heap h' e oe->Q () {s with heap:=h'}):
  wpAny M A (do let a<-frameOf env;let pl<-entryPlaceOf L hadNext;let b<-EntryCells.newEntry head a .none (rawInt L) .none pl;setField (.ref e) 1 b) Q E s:=by
 have hene:e ∉ (env::outer).filterMap (·.frame):=fun hm=>by
  obtain⟨_,o,ho,hnf⟩:=hl.mem hm
  rw[he]at ho;injection ho with ho;subst ho;exact hnf vs hd
 refine wpAny_bind (wpAny_frameOf_fun hfr hl hf fun h₁ hs₁=>?_)
 refine wpAny_bind (wpAny_entryPlaceOf fun pl hpl=>?_)
 unfold EntryCells.newEntry newFields
 refine wpAny_bind (wpAny_newObj_type ?_ (hpl.sizeOk5 _ _ _ _ _))
 have he₁:h₁.get? e=some oe:=(hs₁.2.1 e hene).trans he
 generalize hTO:({cls:=.type "traceback",dict:=none,data:=.fields ([head,.ref L,.none,rawInt L,.none]++(if pl.isEmpty then List.replicate 6 Value.none else pl)).toArray}:Obj)=TO
 have he₂:=Heap.get?_push_of_some (h:=h₁) TO he₁
 have hTd:∃ts,TO.data=.fields ts/\3 < ts.size:=by
  subst hTO
  exact⟨_,rfl,by simp only[List.size_toArray,List.length_append,List.length_cons,List.length_nil]<;>omega⟩
 obtain⟨ts,hTd,hT3⟩:=hTd
 refine wpAny_setField he₂ hd (by omega) (h _ ?_)
 have hTe:h₁.objs.size ≠ e:=Nat.ne_of_gt (Heap.lt_size he₁)
 have hd₃:=Obj.data_mapFields hd (·.setIfInBounds 1 (Value.ref h₁.objs.size))
 have he₃:=Heap.get?_update_self (Obj.mapFields (·.setIfInBounds 1 (Value.ref h₁.objs.size))) he₂ (Obj.isFreed_of_fields hd₃)
 have hfT:TO.isFreed=false:=Obj.isFreed_of_fields hTd
 have hT₃:=(Heap.get?_update_other (h₁.push TO) (Obj.mapFields (·.setIfInBounds 1 (Value.ref h₁.objs.size))) (Ne.symm hTe)).trans (Heap.get?_push_size h₁ hfT)
 have keep:∀b o,b ≠ e->h₁.get? b=some o->((h₁.push TO).update e (Obj.mapFields (·.setIfInBounds 1 (Value.ref h₁.objs.size)))).get? b=some o:=fun b o hbe hb=>by
  rw[Heap.get?_update_other _ _ (Ne.symm hbe)]
  exact Heap.get?_push_of_some _ hb
 refine⟨fun b o hbf hbe hb=>keep b o hbe ((hs₁.2.1 b hbf).trans hb),fun b o hbe hb=>?_,?_⟩
 ·obtain⟨sl,hs⟩:=hs₁.2.2 b o hb
  exact⟨sl,keep b _ hbe hs⟩
 ·refine⟨vs.setIfInBounds 1 (Value.ref h₁.objs.size),h₁.objs.size,_,ts,?_,by simp[hsz],Nat.le_of_eq hs₁.1.symm,hT₃,hTd,hT3,by simp[hsz],fun vs0 h0=>?_⟩
  ·rw[he₃,mapFields_eq hd]
  ·rw[hd]at h0;cases h0;simp[Array.getElem?_setIfInBounds]
noncomputable def ClsOf (Cv:Value) (oe:Obj) (vs:Array Value):Prop:=(∃ c,Cv=.ref c/\oe.cls=.ref c/\vs[2]?=some .none)\/∃c:Addr,Cv=rawInt c/\oe.cls=.ref c
theorem ClsOf.any {Cv:Value} {oe:Obj} {vs:Array Value} (h:ClsOf Cv oe vs):∃c:Addr,oe.cls=.ref c/\(Cv=.ref c\/Cv=rawInt c):=by
 rcases h with ⟨c,e,h,_⟩ | ⟨c,e,h⟩
 ·exact⟨c,h,.inl e⟩
 ·exact⟨c,h,.inr e⟩
theorem ClsOf.same {Cv:Value} {oe oe':Obj} {vs vs':Array Value} (h:ClsOf Cv oe vs) (h1:oe'.cls=oe.cls) (h2:vs'[2]?=vs[2]?):ClsOf Cv oe' vs':=by
 rcases h with ⟨c,e,h,k⟩ | ⟨c,e,h⟩
 ·exact .inl ⟨c,e,h1.trans h,h2.trans k⟩
 ·exact .inr ⟨c,e,h1.trans h⟩
noncomputable def XTb (h:Heap) (e:Addr) (Cv:Value) (d:Option Addr) (P:Addr->Prop):Prop:=
 ∃oe vs,h.get? e=some oe/\ClsOf Cv oe vs/\oe.dict=d/\oe.data=.fields vs/\vs.size=6/\∃T oT ts,vs[1]?=some (.ref T)/\P T/\T ≠ e/\h.get? T=some oT/\oT.data=.fields ts/\3 < ts.size
noncomputable def XAt (L:Option Addr) (h:Heap) (e:Addr) (Cv:Value) (d:Option Addr) (P:Addr->Prop):Prop:=
 ∃oe vs,h.get? e=some oe/\ClsOf Cv oe vs/\oe.dict=d/\oe.data=.fields vs/\vs.size=6/\(vs[1]?=some .none\/∃T oT ts,vs[1]?=some (.ref T)/\P T/\T ≠ e/\h.get? T=some oT/\oT.data=.fields ts/\3 < ts.size)
theorem XTb.at {L:Option Addr} {h:Heap} {e:Addr} {Cv:Value} {d:Option Addr} {P:Addr->Prop} (x:XTb h e Cv d P):XAt L h e Cv d P:=by
 obtain⟨oe,vs,h1,h2,h3,h4,h5,r⟩:=x
 exact⟨oe,vs,h1,h2,h3,h4,h5,.inr r⟩
theorem XTb.imp {h:Heap} {e:Addr} {C:Value} {d:Option Addr} {P P':Addr->Prop} (x:XTb h e C d P) (i:∀T,P T->P' T):XTb h e C d P':=by
 obtain⟨oe,vs,h1,h2,h3,h4,h5,T,oT,ts,r1,r2,r3⟩:=x
 exact⟨oe,vs,h1,h2,h3,h4,h5,T,oT,ts,r1,i T r2,r3⟩
theorem note1 {base:Heap} {env:Env} {outer:List Env} {L e:Addr} {L':Option Addr} {Cv:Value} {d:Option Addr} {P:Addr->Prop} {Q:Unit->Shared->Prop}
  (hfr:A.frames=some (env::outer)) (hl:s.heap.FunFrames base (env::outer)) (hf:env.frame=some L) (x:XAt L' s.heap e Cv d P)
  (h:∀ (h':Heap) (ch:List Addr),(∀ b ∈ ch,b=e\/P b)->(∀ b o,b ∉ frs (env::outer)->b ∉ ch->s.heap.get? b=some o->h'.get? b=some o)->(∀ b o,b ∉ ch->s.heap.get? b=some o->∃sl,h'.get? b=some {o with slots:=sl})->
   (∀ b o,s.heap.get? b=some o->∃o',h'.get? b=some o')->XTb h' e Cv d (fun T=>s.heap.objs.size<=T\/P T)->Q () {s with heap:=h'}):
  wpAny M A (noteFrame (.ref e) env) Q E s:=by
 obtain⟨oe,vs,he,hc,hdi,hd,hsz,r⟩:=x
 have fin:∀ (h1 h':Heap) (ch:List Addr),h1.objs.size=s.heap.objs.size->(∀ b ∈ ch,b=e\/P b)->(∀ b o,b ∉ ch->s.heap.get? b=some o->h1.get? b=some o)->(∀ b ∈ ch,∃o',h1.get? b=some o')->Landed (frs (env::outer)) h1 h' e oe->e ∈ ch->Q () {s with heap:=h'}:=by
  intro h1 h' ch hs hch k1 k2 ld hec
  obtain⟨vs',T,oT,ts,e1,e2,e3,e4,e5,e6,e7,e8⟩:=ld.exc
  have kE:∀b o,b ≠ e->h1.get? b=some o->∃o',h'.get? b=some o':=fun b o hb q=>by
   obtain⟨sl,q'⟩:=ld.slot b o hb q
   exact⟨_,q'⟩
  refine h h' ch hch (fun b o hb hc q=>ld.keep b o hb (fun z=>hc (by rw[z];exact hec)) (k1 b o hc q)) (fun b o hc q=>ld.slot b o (fun z=>hc (by rw[z];exact hec)) (k1 b o hc q))
   (fun b o q=>?_) ⟨_,vs',e1,hc.same rfl (e8 _ hd),hdi,rfl,e7,T,oT,ts,e2,.inl (by rw[<-hs];exact e3),?_,e4,e5,e6⟩
  ·by_cases hb:b=e
   ·subst hb;exact⟨_,e1⟩
   ·by_cases hbc:b ∈ ch
    ·obtain⟨o',q'⟩:=k2 b hbc
     exact kE b o' hb q'
    ·exact kE b o hb (k1 b o hbc q)
  ·exact Nat.ne_of_gt (Nat.lt_of_lt_of_le (Heap.lt_size he) (by rw[<-hs];exact e3))
 unfold noteFrame
 simp only[hf]
 rcases r with r | ⟨T,oT,ts,h1,hP,hTe,hT,hdT,h3⟩
 ·refine wpAny_bind (wpAny_field he hd r ?_)
  rw[if_neg (by decide)]
  exact entry_D hfr hl hf he hd hsz fun h' ld=>fin s.heap h' [e] rfl (fun b hb=>.inl (by simpa using hb)) (fun _ _ _ q=>q) (fun b hb=>⟨oe,by rw[show b=e by simpa using hb];exact he⟩) ld (by simp)
 ·have other:∀ (v:Value) b,b ≠ T->(s.heap.update T (Obj.mapFields (·.setIfInBounds 3 v))).get? b=s.heap.get? b:=fun v b hb=>Heap.get?_update_other _ _ (Ne.symm hb)
  have noRecord:∀b o,s.heap.get? b=some o->(∀ vs,o.data ≠ .fields vs)->b ≠ T:=fun b o hb hnf q=>by
   rw[q,hT]at hb;injection hb with hb;subst hb;exact hnf ts hdT
  refine wpAny_bind (wpAny_field he hd h1 ?_)
  rw[if_pos (show(Value.ref T != Value.none)=true from by simp)]
  refine wpAny_bind (wpAny_field hT hdT (Array.getElem?_eq_getElem h3) ?_)
  by_cases hv:(ts[3] == rawInt L)=true
  ·rw[if_pos hv]
   refine wpAny_pure ?_
   exact h s.heap [] (fun b hb=>absurd hb (by simp)) (fun _ _ _ _ q=>q) (fun b o _ q=>⟨o.slots,q⟩) (fun b o q=>⟨o,q⟩) ⟨oe,vs,he,hc,hdi,hd,hsz,T,oT,ts,h1,.inr hP,hTe,hT,hdT,h3⟩
  ·rw[if_neg hv]
   refine wpAny_bind (wpAny_setField hT hdT h3 ?_)
   refine entry_D (base:=base) hfr (hl.of_keeps fun b o hb hnf=>⟨o,(other _ b (noRecord b o hb hnf)).trans hb,rfl⟩) hf ((other _ e (Ne.symm hTe)).trans he) hd hsz fun h' ld=>?_
   refine fin (s.heap.update T (Obj.mapFields (·.setIfInBounds 3 Value.none))) h' [e,T] (Heap.size_update ..) (fun b hb=>?_) (fun b o hb q=>?_) (fun b hb=>?_) ld (by simp)
   ·rcases List.mem_cons.mp hb with z | z
    ·exact .inl z
    ·exact .inr (by rw[show b=T by simpa using z];exact hP)
   ·rw[other _ b (fun z=>hb (by simp[z]))];exact q
   ·rcases List.mem_cons.mp hb with z | z
    ·exact⟨oe,by rw[z,other _ e (Ne.symm hTe)];exact he⟩
    ·exact⟨_,by rw[show b=T by simpa using z];exact Heap.get?_update_self _ hT (Obj.isFreed_of_fields (Obj.data_mapFields hdT _))⟩
theorem set1 {e:Addr} {Cv:Value} {d:Option Addr} {P:Addr->Prop} {fl:Option Addr} {Q:Unit->Shared->Prop} (x:XTb s.heap e Cv d P)
  (h:∀ (h':Heap) (T:Addr),P T->(∀ b,b ≠ T->h'.get? b=s.heap.get? b)->(∃ o',h'.get? T=some o')->XTb h' e Cv d P->Q () {s with heap:=h'}):wpAny M A (setFlight (.ref e) fl) Q E s:=by
 obtain⟨oe,vs,he,hc,hdi,hd,hsz,T,oT,ts,h1,hP,hTe,hT,hdT,h3⟩:=x
 unfold setFlight
 refine wpAny_bind (wpAny_field he hd h1 ?_)
 rw[if_pos (show(Value.ref T != Value.none)=true from by simp)]
 have other:∀b,b ≠ T->(s.heap.update T (Obj.mapFields (·.setIfInBounds 3 (fl.elim Value.none fun f=>rawInt f)))).get? b=s.heap.get? b:=fun b hb=>Heap.get?_update_other _ _ (Ne.symm hb)
 have self:=Heap.get?_update_self (Obj.mapFields (·.setIfInBounds 3 (fl.elim Value.none fun f=>rawInt f))) hT (Obj.isFreed_of_fields (Obj.data_mapFields hdT _))
 exact wpAny_setField hT hdT h3 (h _ T hP other ⟨_,self⟩ ⟨oe,vs,(other e (Ne.symm hTe)).trans he,hc,hdi,hd,hsz,T,_,_,h1,hP,hTe,self,Obj.data_mapFields hdT _,by simp[h3]⟩)
theorem XTb.head {h:Heap} {e:Addr} {Cv:Value} {d:Option Addr} {P:Addr->Prop} (x:XTb h e Cv d P):∃oe vs T,h.get? e=some oe/\oe.data=.fields vs/\vs[1]?=some (.ref T):=by
 obtain⟨oe,vs,he,hc,hdi,hd,hsz,T,oT,ts,h1,r⟩:=x
 exact⟨oe,vs,T,he,hd,h1⟩
theorem note_set {A2:Around} {base:Heap} {env:Env} {outer:List Env} {L e:Addr} {L' fl:Option Addr} {Cv:Value} {d:Option Addr} {P:Addr->Prop} {Q:Unit->Shared->Prop} {E0:Value->Shared->Prop} {k:Sem Unit}
  (hfr:A.frames=some (env::outer)) (hl:s.heap.FunFrames base (env::outer)) (hf:env.frame=some L) (x:XAt L' s.heap e Cv d P)
  (hk:∀s' P',XTb s'.heap e Cv d P'->wpAny M A2 (setFlight (.ref e) fl) Q E s'->wpAny M A2 k Q E s')
  (h:∀ (h':Heap) (ch:List Addr),(∀ b ∈ ch,b=e\/P b)->(∀ b o,b ∉ frs (env::outer)->b ∉ ch->s.heap.get? b=some o->h'.get? b=some o)->(∀ b o,b ∉ ch->s.heap.get? b=some o->∃sl,h'.get? b=some {o with slots:=sl})->
   (∀ b o,s.heap.get? b=some o->∃o',h'.get? b=some o')->XAt L' h' e Cv d (fun T=>s.heap.objs.size<=T\/P T)->Q () {s with heap:=h'}):
  wpAny M A (noteFrame (.ref e) env) (fun _ s'=>wpAny M A2 k Q E s') E0 s:=by
 refine note1 hfr hl hf x fun h1 ch hch k1 k2 k3 x1=>?_
 refine hk _ _ x1 (set1 x1 fun h2 T hT ot th x2=>?_)
 refine h h2 (ch++(if s.heap.objs.size<=T then []else [T])) (fun b hb=>?_) (fun b o hb hc q=>?_) (fun b o hc q=>?_) (fun b o q=>?_) x2.at
 ·rcases List.mem_append.mp hb with z | z
  ·exact hch b z
  ·by_cases hs:s.heap.objs.size<=T
   ·rw[if_pos hs]at z;cases z
   ·rw[if_neg hs]at z
    rw[show b=T by simpa using z]
    rcases hT with q | q
    ·exact absurd q hs
    ·exact .inr q
 ·have hbT:b ≠ T:=fun z=>by
   subst z
   rw[if_neg (Nat.not_le.mpr (Heap.lt_size q))]at hc
   exact hc (List.mem_append_right _ (by simp))
  exact(ot b hbT).trans (k1 b o hb (fun z=>hc (List.mem_append_left _ z)) q)
 ·have hbT:b ≠ T:=fun z=>by
   subst z
   rw[if_neg (Nat.not_le.mpr (Heap.lt_size q))]at hc
   exact hc (List.mem_append_right _ (by simp))
  obtain⟨sl,q2⟩:=k2 b o (fun z=>hc (List.mem_append_left _ z)) q
  exact⟨sl,(ot b hbT).trans q2⟩
 ·by_cases hbT:b=T
  ·subst hbT;exact th
  ·obtain⟨o',q2⟩:=k3 b o q
   exact⟨o',(ot b hbT).trans q2⟩
theorem note_land {base:Heap} {env:Env} {outer:List Env} {L e:Addr} {L':Option Addr} {Cv:Value} {d:Option Addr} {P:Addr->Prop} {Q:Unit->Shared->Prop}
  (hfr:A.frames=some (env::outer)) (hl:s.heap.FunFrames base (env::outer)) (hf:env.frame=some L) (x:XAt L' s.heap e Cv d P)
  (h:∀ (h':Heap) (ch:List Addr),(∀ b ∈ ch,b=e\/P b)->(∀ b o,b ∉ frs (env::outer)->b ∉ ch->s.heap.get? b=some o->h'.get? b=some o)->(∀ b o,b ∉ ch->s.heap.get? b=some o->∃sl,h'.get? b=some {o with slots:=sl})->
   (∀ b o,s.heap.get? b=some o->∃o',h'.get? b=some o')->XAt L' h' e Cv d (fun T=>s.heap.objs.size<=T\/P T)->Q () {s with heap:=h'}):
  wpAny M A (noteFrame (.ref e) env) (fun _ s'=>wpAny M A (setFlight (.ref e) none) Q E s') E s:=
 note_set hfr hl hf x (fun _ _ _ q=>q) h
theorem note_back {A2:Around} {base:Heap} {env:Env} {outer:List Env} {L e:Addr} {L':Option Addr} {Cv:Value} {d:Option Addr} {P:Addr->Prop} {R:Value->Shared->Prop}
  (hfr:A.frames=some (env::outer)) (hl:s.heap.FunFrames base (env::outer)) (hf:env.frame=some L) (x:XAt L' s.heap e Cv d P)
  (h:∀ (h':Heap) (ch:List Addr),(∀ b ∈ ch,b=e\/P b)->(∀ b o,b ∉ frs (env::outer)->b ∉ ch->s.heap.get? b=some o->h'.get? b=some o)->(∀ b o,b ∉ ch->s.heap.get? b=some o->∃sl,h'.get? b=some {o with slots:=sl})->
   (∀ b o,s.heap.get? b=some o->∃o',h'.get? b=some o')->XAt L' h' e Cv d (fun T=>s.heap.objs.size<=T\/P T)->R (.ref e) {s with heap:=h'}):
  notedBy M A env (cameBackBy M A2 env R) (.ref e) s:=by
 unfold notedBy
 show wpAny M A (noteFrame (.ref e) env) (fun _ s''=>wpAny M A2 _ _ _ s'') _ s
 refine note_set (fl:=env.frame) hfr hl hf x (fun s' P' x' q=>?_) h
 obtain⟨oe,vs,T,h1,h2,h3⟩:=x'.head
 refine wpAny_bind (wpAny_field h1 h2 h3 ?_)
 rw[if_neg (show ¬ ((Value.ref T == Value.none)=true)from by simp)]
 first | exact q | exact wpAny_bind (wpAny_pure q)
end
end Sw
namespace Sw
open PySem PySem.Spec PyProof.Rows L2
noncomputable def CXW (P:Program) (w:World):CXT:=fun outer H s E e s'=>∃ea C d H',e=.ref ea/\s'.os=s.os/\AllBare s'.gens/\Un (frs outer) [] H H' s.heap s'.heap/\HOk P w H' s'.heap/\
 s.heap.objs.size<=ea/\H' ea=none/\XAt none s'.heap ea C d (fun T=>s.heap.objs.size<=T/\H' T=none)/\E C d H'
structure Flew (X:Cx) (pins:List (Addr × Obj)) (σ:L2.St) (H:Hp) (e:Addr) (C:Value) (d:Option Addr) (s:Shared):Prop where
 inv:Inv X pins σ H s
 fe:FpOk X pins H e
 at_:XAt (some X.env.locals) s.heap e C d (FpOk X pins H)
noncomputable def XOk (X:Cx) (Ξ:XS):Prop:=∀pins σ H e C d s,Flew X pins σ H e C d s->Ξ C d σ H->X.xe (.ref e) s
theorem XAt.imp {L:Option Addr} {h:Heap} {e:Addr} {C:Value} {d:Option Addr} {P P':Addr->Prop} (x:XAt L h e C d P) (i:∀T,P T->P' T):XAt L h e C d P':=by
 obtain⟨oe,vs,h1,h2,h3,h4,h5,r⟩:=x
 refine⟨oe,vs,h1,h2,h3,h4,h5,r.imp id fun⟨T,oT,ts,r1,r2,r3⟩=>⟨T,oT,ts,r1,i T r2,r3⟩⟩
theorem XAt.fly {l l':Option Addr} {h:Heap} {e:Addr} {C:Value} {d:Option Addr} {P:Addr->Prop} (x:XAt l h e C d P):XAt l' h e C d P:=x
theorem XOk.no {X:Cx}:XOk X X0:=fun _ _ _ _ _ _ _ _ h=>h.elim
section
variable {X:Cx} {pins:List (Addr × Obj)} {σ:L2.St} {H:Hp} {s s':Shared}
theorem flew_of {E:XK} {e:Value} (I:Inv X pins σ H s) (h:CXW X.prog X.w X.stack H s E e s'):∃ea C d H',e=.ref ea/\Flew X pins σ H' ea C d s'/\E C d H':=by
 obtain⟨ea,C,d,H',rfl,ho,hg,u,hok,hs,hn,x,q⟩:=h
 have I':Inv X pins σ H' s':=I.call' (ch:=[]) ho u hok hg (fun b hb=>absurd hb (by simp))
 exact⟨ea,C,d,H',rfl,⟨I',I.fpOk hs hn,(x.imp fun T ⟨h1,h2⟩=>I.fpOk h1 h2).fly⟩,q⟩
theorem run_fnX {Q:VK} {us:List Value} {vs:List V} {k:Nat} {f:Addr} {fd:FuncData} {ps:List Str} {sp:Sp} {Ξ:XS} (F:FnOk X.prog X.w X.K X.mg X.base (CXW X.prog X.w) k f fd ps sp) (hr:Room k X.A) (hb:Binds X.K fd ps []) (xo:XOk X Ξ)
  (I:Inv X pins σ H s) (r:Vals vs us) (h:sp vs H Q fun C d H'=>Ξ C d σ H'):wpAny (model X.prog X.w) X.A (call (.ref f) us) (EP X pins σ Q) X.xe s:=by
 have hl:(us++[]).length=ps.length:=by rw[List.append_nil,<-r.length];exact F.len _ _ _ _ h
 refine wpAny_call (codeAny_mono (F.run X.A X.stack s H ⟨us,[]⟩ us vs Q (fun C d H'=>Ξ C d σ H') hr I.env0 (by have:=hb s us I.kIn hl;rwa[List.append_nil]at this) r h) fun r s' hq=>?_)
 cases r with
 | error e=>
  obtain⟨ea,C,d,H',e1,fl,q⟩:=flew_of (E:=fun C d H'=>Ξ C d σ H') (e:=e) (s':=s') I hq
  subst e1
  exact xo pins σ H' ea C d s' fl q
 | ok fl=>
  cases fl with
  | ret u=>exact I.after hq
  | next=>exact False.elim hq
  | brk=>exact False.elim hq
  | cont=>exact False.elim hq
end
theorem hok_land {X:Cx} {pins:List (Addr × Obj)} {σ:L2.St} {H:Hp} {e:Addr} {C:Value} {d:Option Addr} {s:Shared} (F:Flew X pins σ H e C d s) {h':Heap} {ch:List Addr} (hch:∀b ∈ ch,b=e\/FpOk X pins H b)
  (k:∀b o,b ∉ frs X.stack->b ∉ ch->s.heap.get? b=some o->h'.get? b=some o):HOk X.prog X.w H h':=by
 intro a o ea
 have nch:∀c u,H c=some u->c ∉ ch:=fun c u q hc=>by
  rcases hch c hc with z | z
  ·rw[z,F.fe.1]at q;cases q
  ·rw[z.1]at q;cases q
 refine(F.inv.hok a o ea).stay (fun c u hc q=>k c u (fun hm=>?_) (fun hm=>?_) q) (fun _ q=>q) fun _ _ q=>q
 ·have hn:=F.inv.stkFree c hm
  rcases hc with z | z
  ·rw[z,ea]at hn;cases hn
  ·rw[z]at hn;cases hn
 ·rcases hc with z | z
  ·exact nch c o (by rw[z];exact ea) hm
  ·exact nch c _ z hm
theorem xok_def {P:Program} {w:World} {K:PySem.W.Frag} {mg:Str->Option Value} {base:Heap} {N:List Str} {qual:Str} {scope:Scope} {f:Addr} {cd:Value} {A:Around} {outer:List Env} {s:Shared} {H:Hp} {E:XK}:
  XOk (cxOf (CXW P w) P w K mg base N qual scope f cd A outer s H E) (fun C d _ H'=>E C d H'):=by
 intro pins σ H' e C d s' F q
 have I:=F.inv
 show wpAny (model P w) (A.deeper (envOfC qual scope s.heap.objs.size f cd)) (leaving (envOfC qual scope s.heap.objs.size f cd) (.ref e)) _ _ s'
 unfold leaving
 have sz:s.heap.objs.size<=s'.heap.objs.size:=I.sz
 refine wpAny_bind (note_land (base:=base) I.ok.frames I.stack rfl F.at_ fun h' ch hch k1 k2 k3 x'=>?_)
 have fpS:∀b,FpOk (cxOf (CXW P w) P w K mg base N qual scope f cd A outer s H E) pins H' b->s.heap.objs.size<=b:=fun b z=>by
  rcases z.2.2.2.1 with z | z
  ·exact absurd (show b ∈ ([]:List Addr)from z) (by simp)
  ·exact z
 have big:∀b ∈ ch,s.heap.objs.size<=b:=fun b hb=>by
  have fp:∀b,FpOk (cxOf (CXW P w) P w K mg base N qual scope f cd A outer s H E) pins H' b->s.heap.objs.size<=b:=fun b z=>by
   rcases z.2.2.2.1 with z | z
   ·exact absurd (show b ∈ ([]:List Addr)from z) (by simp)
   ·exact z
  rcases hch b hb with z | z
  ·rw[z];exact fp e F.fe
  ·exact fp b z
 have nch:∀b o,s.heap.get? b=some o->b ∉ ch:=fun b o e hb=>absurd (Heap.lt_size e) (Nat.not_lt.mpr (big b hb))
 have B:=I.base
 have hok':HOk P w H' h':=hok_land F hch k1
 have fpe:s.heap.objs.size<=e:=by
  rcases F.fe.2.2.2.1 with z | z
  ·exact absurd (show e ∈ ([]:List Addr)from z) (by simp)
  ·exact z
 have un:Un (frs outer) [] H H' s.heap h':=by
  refine⟨fun b o eb n hb _=>k1 b o (fun hm=>?_) (nch b o eb) (B.keep b o eb n hb (by exact List.not_mem_nil)),fun b o eb n hb _=>?_,fun b o eb n _=>B.free b o eb n List.not_mem_nil,fun b o eb _=>?_,B.tups,B.frzs,B.tbls⟩
  ·rcases List.mem_cons.mp hm with z | z
   ·exact absurd (Heap.lt_size eb) (by rw[z];exact Nat.lt_irrefl _)
   ·exact hb z
  ·obtain⟨sl,q1⟩:=B.slot b o eb n hb List.not_mem_nil
   obtain⟨sl2,q2⟩:=k2 b _ (nch b o eb) q1
   exact⟨sl2,q2⟩
  ·obtain⟨o',q1⟩:=B.there b o eb List.not_mem_nil
   exact k3 b o' q1
 refine⟨e,C,d,H',rfl,I.os,I.bare,un,hok',fpe,F.fe.1,x'.imp fun T hT=>?_,q⟩
 rcases hT with hT | hT
 ·exact⟨Nat.le_trans sz hT,I.hok.fresh hT⟩
 ·exact⟨fpS T hT,hT.1⟩
end Sw
namespace Sw
open PySem PySem.Spec PyProof.Rows L2 PySem.W
open Sem (wp)
section
variable {prog:Program} {w:World} {A:Around} {R:Result->Shared->Prop} {h:Heap} {g:Array GenState} {d:Drawn} {t:Nat} {os:OsState}
variable {nm q:Str} {C N:Addr} {bs bm bmB:List Value} {hdct:Bool} {sn:List Str} {sub:List Value} {ab:Bool} {col:Option Bool} {dd:Option Addr} {k0 k1 k2 k3 k5:Option Value} {B newId initId:String}
end
noncomputable def excTail:List Value:=[.type "ValueError",.type "Exception",.type "BaseException",.type "object"]
noncomputable def excOnly:List Value->Bool
 | .ref _::r=>excOnly r
 | l=>l == excTail
noncomputable def plainExc (K:Frag) (C:Addr):Bool:=(clsIn K C).any fun cd=>excOnly cd.mro
section
variable {prog:Program} {w:World} {A:Around} {s:Shared} {K:Frag} {x C:Addr}
end
end Sw
namespace Sw
open PySem PySem.Spec PyProof.Rows L2
open PySem.W (Frag clsIn findIn takerIn hasDictIn typeIn InitBack nsIn nsOkIn tailIn)
noncomputable def excInI (K:Frag) (C fI:Addr):Bool:=match K.lookup C with
 | some ⟨.type "type",_,.cls cd,sl⟩=>(match cd.mro,sl.toList with
  | .ref C'::bm,[_,_,_,_,some (.builtin n),_]=>C' == C && n == "ValueError.__new__" && !cd.hasDel && tailIn K excTail bm && nsOkIn K cd.ns && nsIn K cd.ns "__init__" == some (some (.ref fI))
  | _,_=>false)
 | _=>false
structure XCls (K:Frag) (C fI:Addr) (f:Str):Prop where
 ex:excInI K C fI=true
 fn:typeIn K (.ref fI)=some (.type "function")
 sa:findIn K (.ref C) "__setattr__" =some (some (.builtin "object.__setattr__"))
 pl:plainExc K C=true
 tk:takerIn K C f=some none
 hd:hasDictIn K C=true
noncomputable def rawX (e C t:Addr) (d:Option Addr):Heap->Prop:=fun h=>∃o,h.get? e=some o/\o.cls=.ref C/\o.dict=d/\o.data=.fields #[.ref t,.none,.none,.none,.bool false,.none]
section
variable {X:Cx} {pins:List (Addr × Obj)} {σ:L2.St} {H:Hp} {s:Shared}
noncomputable def spX (C:Addr) (f:Str):Sp:=fun vs H Q _=>∃e t y,vs=[.ref e,y]/\H e=some (.ext (rawX e C t none))/\∀d,H d=none->Q .non (upd (upd H d (.xd [(f,y)])) e (.ext (rawX e C t (some d))))
end
structure RoomU (k:Nat) (A:Around):Prop where
 dp:A.depth + 3 * k + 5 < recursionLimit
 un:A.units + 16 * k + 200 < cLine
theorem RoomU.of {k:Nat} {A:Around} (r:Room k A):RoomU k A:=⟨r.dp,r.un⟩
theorem RoomU.mono {j k:Nat} {A:Around} (r:RoomU k A) (h:j<=k):RoomU j A:=⟨by have:=r.dp;omega,by have:=r.un;omega⟩
theorem mark_frames {A:Around} {v:Option Value}:(A.mark v).frames=A.frames:=by
 first | rfl | (unfold Around.mark;rfl) | (cases v<;>rfl)
theorem mark_units {A:Around} {v:Option Value}:(A.mark v).units=A.units:=by
 first | rfl | (unfold Around.mark;rfl) | (cases v<;>rfl)
theorem mark_depth {A:Around} {v:Option Value}:(A.mark v).depth=A.depth:=by
 first | rfl | (unfold Around.mark;rfl) | (cases v<;>rfl)
theorem RoomU.mark {k:Nat} {A:Around} {v:Option Value} (r:RoomU k A):RoomU k (A.mark v):=⟨by rw[mark_depth];exact r.dp,by rw[mark_units];exact r.un⟩
structure FnOkU (P:Program) (w:World) (K:Frag) (mg:Str->Option Value) (base:Heap) (CX:CXT) (k:Nat) (f:Addr) (fd:FuncData) (ps:List Str) (sp:Sp):Prop where
 len:∀vs H Q E,sp vs H Q E->vs.length=ps.length
 run:∀ (A:Around) (outer:List Env) (s:Shared) (H:Hp) (args:Args) (us:List Value) (vs:List V) (Q:VK) (E:XK),RoomU k A->Env0 P w K mg base A outer s H->BindsTo s fd args (ps.zip us)->Vals vs us->sp vs H Q E->
  codeAny (model P w) A (.call (.ref f) args) (CR CX outer P w H s Q E) s
theorem FnOkU.mono {P:Program} {w:World} {K:Frag} {mg:Str->Option Value} {base:Heap} {CX:CXT} {j k:Nat} {f:Addr} {fd:FuncData} {ps:List Str} {sp:Sp} (F:FnOkU P w K mg base CX j f fd ps sp) (h:j<=k):
  FnOkU P w K mg base CX k f fd ps sp:=⟨F.len,fun A outer s H args us vs Q E hr=>F.run A outer s H args us vs Q E (hr.mono h)⟩
section
variable {X:Cx} {pins:List (Addr × Obj)} {σ:L2.St} {H:Hp} {s:Shared}
structure XRise (X:Cx) (k:Nat) (C fI:Addr) (f:Str):Prop where
 cls:XCls X.K C fI f
 run:∃fd ps,FnOkU X.prog X.w X.K X.mg X.base (CXW X.prog X.w) k fI fd ps (spX C f)/\Binds X.K fd ps []
end
end Sw
namespace Sw
open PySem PySem.Spec PyProof.Rows L2
open PySem.W (Frag clsIn findIn takerIn hasDictIn typeIn InitBack nsIn nsOkIn tailIn)
section
variable {P:Program} {w:World} {A:Around} {E:Value->Shared->Prop} {s:Shared}
end
section
variable {X:Cx} {pins:List (Addr × Obj)} {σ:L2.St} {H:Hp} {s:Shared}
noncomputable def InHand (X:Cx):Prop:=∃h0 o0 vs0,X.A.handled=some (.ref h0)/\(h0,o0) ∈ X.pn/\o0.data=.fields vs0/\vs0[2]?=some .none
end
end Sw
namespace Sw
open PySem PySem.Spec PyProof.Rows L2
open PySem.W (Frag clsIn findIn takerIn hasDictIn typeIn InitBack nsIn nsOkIn tailIn ktsIn mroIn)
@[reducible] noncomputable def Cx.held (X:Cx) (e:Addr):Cx:={X with A:=X.A.mark (some (.ref e)),calm:=false,xe:=fun _ _=>False}
@[reducible] noncomputable def Cx.hold (X:Cx) (e:Addr) (o:Obj):Cx:={X with A:=X.A.mark (some (.ref e)),calm:=false,pn:=X.pn++[(e,o)],xe:=notedBy (model X.prog X.w) (X.A.mark (some (.ref e))) X.env (cameBackBy (model X.prog X.w) X.A X.env X.xe)}
section
variable {X:Cx} {pins pins':List (Addr × Obj)} {σ:L2.St} {H:Hp} {s:Shared} {E:Value->Shared->Prop} {e:Addr}
theorem Inv.held (I:Inv X pins σ H s) (e:Addr):Inv (Cx.held X e) pins σ H s:=by
 have ok:=I.ok
 exact⟨⟨ok.mod,ok.kind,ok.glob,ok.blt,ok.above,ok.inj,ok.has,ok.cab,fun z=>absurd (show false=true from z) Bool.false_ne_true,(by show(X.A.mark _).frames=_;rw[mark_frames];exact ok.frames),ok.stk,ok.exf,ok.bs,ok.bsz,ok.noex,ok.exfs,ok.funs,ok.frf⟩,
  I.os,I.bare,I.base,I.loc,I.cell,I.free,I.freeC,I.pin,I.hok,I.len⟩
theorem Inv.hold {C:Value} {d:Option Addr} {o:Obj} (F:Flew X pins σ H e C d s) (ho:s.heap.get? e=some o) (hnc:∀v,o.data ≠ .cell v):Inv (Cx.hold X e o) pins σ H s:=by
 have I:=F.inv
 have ok:=I.ok
 obtain⟨f0,f1,f2,f3,f4,f5⟩:=F.fe
 refine⟨⟨ok.mod,ok.kind,ok.glob,ok.blt,ok.above,ok.inj,ok.has,ok.cab,fun z=>absurd (show false=true from z) Bool.false_ne_true,(by show(X.A.mark _).frames=_;rw[mark_frames];exact ok.frames),ok.stk,ok.exf,ok.bs,ok.bsz,ok.noex,ok.exfs,ok.funs,ok.frf⟩,
  I.os,I.bare,I.base,I.loc,I.cell,I.free,I.freeC,fun p hp=>?_,I.hok,I.len⟩
 have hp:p ∈ (X.pn++[(e,o)])++pins:=hp
 rcases List.mem_append.mp hp with q | q
 ·rcases List.mem_append.mp q with q | q
  ·exact I.pin p (List.mem_append_left _ q)
  ·rw[show p=(e,o) by simpa using q]
   exact⟨ho,f0,f1,f2,hnc⟩
 ·exact I.pin p (List.mem_append_right _ q)
theorem Inv.unhold {o:Obj} (I:Inv (Cx.hold X e o) pins σ H s) (ok0:X.Ok):Inv X pins σ H s:=
 ⟨ok0,I.os,I.bare,I.base,I.loc,I.cell,I.free,I.freeC,fun p hp=>I.pin p (by
  rcases List.mem_append.mp hp with q | q
  ·exact List.mem_append_left _ (List.mem_append_left _ q)
  ·exact List.mem_append_right _ q),I.hok,I.len⟩
theorem Flew.land {C:Value} {d:Option Addr} (F:Flew X pins σ H e C d s) {h':Heap} {ch:List Addr} (hch:∀b ∈ ch,b=e\/FpOk X pins H b)
  (k1:∀b o,b ∉ frs X.stack->b ∉ ch->s.heap.get? b=some o->h'.get? b=some o) (k2:∀b o,b ∉ ch->s.heap.get? b=some o->∃sl,h'.get? b=some {o with slots:=sl}) (k3:∀b o,s.heap.get? b=some o->∃o',h'.get? b=some o')
  (x:XAt (some X.env.locals) h' e C d (fun T=>s.heap.objs.size<=T\/FpOk X pins H T)):Flew X pins σ H e C d {s with heap:=h'}:=by
 have I:=F.inv
 have I':Inv X pins σ H {s with heap:=h'}:=by
  refine I.call (g':=s.gens) (t':=s.toks) (d':=s.drawn) (ch:=ch) ⟨fun b o q n hb hc=>k1 b o hb hc q,fun b o q n hb hc=>k2 b o hc q,fun b o q n _=>n,fun b o q _=>k3 b o q,fun _ _ q=>q,fun _ _ _ q=>q,fun b ps q=>⟨#[],by simpa using q⟩⟩ (hok_land F hch k1) I.bare fun b hb=>?_
  rcases hch b hb with z | z
  ·subst z
   obtain⟨f0,f1,f2,f3,f4,f5⟩:=F.fe
   exact⟨f3,f1,f4,f5⟩
  ·obtain⟨f0,f1,f2,f3,f4,f5⟩:=z
   exact⟨f3,f1,f4,f5⟩
 refine⟨I',F.fe,x.imp fun T hT=>?_⟩
 rcases hT with z | z
 ·exact I.fpOk z (I.hok.fresh z)
 ·exact z
theorem XOk.hold {o:Obj} {Ξ:XS} (xo:XOk X Ξ) (ok0:X.Ok) (hstk:X.stack=X.env::X.outer/\X.env.frame=some X.env.locals):XOk (Cx.hold X e o) Ξ:=by
 intro pins σ H e' C d s F q
 obtain⟨hs1,hs2⟩:=hstk
 have hfr:(X.A.mark (some (.ref e))).frames=some (X.env::X.outer):=by rw[<-hs1];exact F.inv.ok.frames
 have hl:s.heap.FunFrames X.base (X.env::X.outer):=by rw[<-hs1];exact F.inv.stack
 show notedBy _ _ X.env _ _ _
 refine note_back (base:=X.base) hfr hl hs2 F.at_ fun h' ch hch k1 k2 k3 x'=>?_
 have F2:=F.land hch (by show ∀b o,b ∉ frs X.stack->_;rw[hs1];exact k1) k2 k3 x'
 have sub:∀b,FpOk (Cx.hold X e o) pins H b->FpOk X pins H b:=fun b ⟨f0,f1,f2,f3,f4,f5⟩=>⟨f0,f1,f2,f3,f4,fun p hp=>f5 p (by
  rcases List.mem_append.mp hp with q | q
  ·exact List.mem_append_left _ (List.mem_append_left _ q)
  ·exact List.mem_append_right _ q)⟩
 exact xo pins σ H e' C d _ ⟨Inv.unhold F2.inv ok0,sub _ F2.fe,F2.at_.imp sub⟩ q
theorem Flew.again {C:Value} {d:Option Addr} {M:Model} {A:Around} {E:Value->Shared->Prop} {Q:Unit->Shared->Prop} (F:Flew X pins σ H e C d s) (h:∀s',Flew X pins σ H e C d s'->Q () s'):wpAny M A (setFlight (.ref e) none) Q E s:=by
 obtain⟨oe,vs,he,hc,hdi,hd,hsz,r⟩:=F.at_
 rcases r with r | r
 ·unfold setFlight
  refine wpAny_bind (wpAny_field he hd r ?_)
  rw[if_neg (by decide)]
  exact wpAny_pure (h s F)
 ·refine set1 (P:=FpOk X pins H) ⟨oe,vs,he,hc,hdi,hd,hsz,r⟩ fun h' T hT ot th x=>h _ ?_
  refine F.land (ch:=[T]) (fun b hb=>.inr (by rw[show b=T by simpa using hb];exact hT)) (fun b o _ hb q=>(ot b (by simpa using hb)).trans q) (fun b o hb q=>⟨o.slots,(ot b (by simpa using hb)).trans q⟩) (fun b o q=>?_) (x.imp fun _ z=>.inr z).at
  by_cases hb:b=T
  ·subst hb;exact th
  ·exact⟨o,(ot b hb).trans q⟩
end
end Sw
namespace Sw
open PySem PySem.Spec PyProof.Rows L2
open PySem.W (Frag clsIn findIn takerIn hasDictIn typeIn InitBack nsIn nsOkIn tailIn ktsIn mroIn Looks looks_mroIn kts_cls)
end Sw
namespace Sw
open PySem PySem.Spec PyProof.Rows L2 PySem.W
section
variable {prog:Program} {w:World} {A:Around} {E:Value->Shared->Prop} {s:Shared} {K:Frag} {x C:Addr} {ox:Obj} {od:Option Obj} {name:Str} {expr:Bool}
structure XGet (K:Frag) (C:Addr):Prop where
 ga:findIn K (.ref C) "__getattribute__" =some (some (.builtin "BaseException.__getattribute__"))
 gh:findIn K (.ref C) "__getattr__" =some none
 sb:mroIn K C (.type "BaseException")=some true
 ob:mroIn K C (.type "object")=some true
theorem xget_slot {R:Result->Shared->Prop} {tk:Tok} (X:K.In s.heap) (I:InstAt s.heap x ox C od) (c:XGet K C)
  (h:wpAny (model prog w) A.in1 (Builtin.«object.__getattribute__» ⟨[.ref x,.str name tk],[]⟩) (fun fin s'=>match fin with | .done f=>R (.ok f) s' | .again c'=>c'.quiet=true/\codeAny (model prog w) A c' R s') (fun e s'=>R (.error e) s') s):
  codeAny (model prog w) A (.call (.builtin "BaseException.__getattribute__") ⟨[.ref x,.str name tk],[]⟩) R s:=by
 have hk:builtinKind "BaseException.__getattribute__" =some .slot:=by decide +kernel
 have hsplit:splitId "BaseException.__getattribute__" =some ("BaseException","__getattribute__"):=by decide +kernel
 have L:Looks (model prog w) s.heap (isInstance (.ref x) (.type "BaseException")) true:=I.type.andThen (looks_mroIn X c.sb)
 exact codeAny_call_builtin PySem.F.excAttr_ValueError.ga.plain PySem.F.entry_bexc_ga (@check_slot (model prog w) _ _ s "BaseException.__getattribute__" "BaseException" "__getattribute__" (.ref x) [.str name tk] [] _ hk hsplit L (PySem.F.args_bexc_ga (.ref x) (.str name tk)) h)
theorem xget_by {fill:Bool} {tk:Tok} {Q:Value->Shared->Prop} (X:K.In s.heap) (I:InstAt s.heap x ox C od) (c:XGet K C)
  (h:wpAny (model prog w) A.in1 (Builtin.«object.__getattribute__» ⟨[.ref x,.str name tk],[]⟩) (fun fin s'=>match fin with | .done (.ret v)=>wpAny (model prog w) A (handedOut v) Q E s' | _=>False) (fun _ _=>False) s):
  wpAny (model prog w) A (getAttrBy (.ref x) (.str name tk) fill expr) Q E s:=by
 have hx0:(expr && onTheHeap (Value.builtin "BaseException.__getattribute__"))=false:=by cases expr<;>rfl
 have hx2:(Value.builtin "BaseException.__getattribute__" == Value.builtin "object.__getattribute__")=false:=by decide +kernel
 have hx1:(onTheHeap (Value.ref C) && Value.builtin "BaseException.__getattribute__" == Value.builtin "object.__getattribute__")=false:=by rw[hx2];exact Bool.and_false _
 unfold getAttrBy
 refine wpAny_holding (wpAny_bind (I.type.here (wpAny_bind ((looks_findIn X c.ga).here ?_))))
 show wpAny _ _ (if(onTheHeap (Value.ref C) && Value.builtin "BaseException.__getattribute__" == Value.builtin "object.__getattribute__")=true then _ else _) _ _ _
 rw[hx1,if_neg Bool.false_ne_true]
 unfold getAttrByItsOwn hookBefore
 refine wpAny_bind ?_
 show wpAny _ _ (typeLookup (.ref C) "__getattr__") _ _ _
 refine(looks_findIn X c.gh).here (wpAny_bind (wpAny_attempt (wpAny_holding ?_)))
 unfold callGetattribute boundAndCalled
 rw[hx0,if_neg Bool.false_ne_true,PySem.F.excAttr_ValueError.ga.bind]
 refine wpAny_bind (wpAny_pure (wpAny_call (xget_slot X I c (wpAny_mono h (fun fin s' z=>?_) fun _ _ z=>z.elim))))
 rcases fin with (_ | _ | _ | _) | _<;>first | exact z | exact z.elim
theorem xget_class {Q:Option Value->Shared->Prop} (X:K.In s.heap) (I:InstAt s.heap x ox C od) (c:XGet K C) (hf:findObj K C od "__class__" =some (.bind (.builtin "getset_descriptor.__get__") (.builtin "object.__class__")))
  (h:Q (some (.ref C)) {s with toks:=s.toks + 1}):wpAny (model prog w) A (getAttr? (.ref x) "__class__") Q E s:=by
 unfold getAttr? getAttrBy?
 refine wpAny_bind (wpAny_mkText (wpAny_bind (wpAny_attempt (xget_by (s:={s with toks:=s.toks + 1}) X I c ?_))))
 obtain⟨hh',g,d,t,os⟩:=s
 have L0:=I.type (M:=model prog w)
 have L1:=looks_find (M:=model prog w) X I hf
 unfold Builtin.«object.__getattribute__»
 repeat (first | (with_reducible refine wpAny_call (class_get X I c.ob ?_)) | lk)
 exact h
theorem kitx_exc (c:XGet K C) (hdct:hasDictIn K C=true) (hf:∀od,findObj K C od "__class__" =some (.bind (.builtin "getset_descriptor.__get__") (.builtin "object.__class__"))):
  KitX K (.ref x) (.ref C) (fun h=>∃ox od,InstAt h x ox C od) where
 ty:=fun _ _ _ ⟨_,_,I⟩=>I.type
 it:=fun _ _ X _=>by
  obtain⟨cdD,hcD,_⟩:=any_some hdct
  unfold clsIn at hcD
  split at hcD
  ·rename_i c' d' cd' sl' ho
   intro A' Q' E' s' k q
   unfold isType loadHead
   exact wpAny_bind (wpAny_loadPart (k _ _ (X _ _ ho)) (wpAny_pure q))
  ·cases hcD
 ne:=fun h tp dd its n sl X htp=>by
  obtain⟨cdD,hcD,_⟩:=any_some hdct
  refine Bool.eq_false_iff.mpr fun q=>?_
  have e:C=tp:=Value.ref.inj (beq_iff_eq.mp q)
  subst e
  unfold clsIn at hcD
  split at hcD
  ·rename_i c' d' cd' sl' ho
   have z:=(X _ _ ho).symm.trans htp
   cases z
  ·cases hcD
 ca:=fun X ⟨_,_,I⟩ k=>xget_class X I c (hf _) k
noncomputable def classBy (K:Frag) (C:Addr):Bool:=(clsIn K C).isSome && findIn K (.ref C) "__class__" == some (some (.builtin "object.__class__"))
 && specialIn K (.builtin "object.__class__") "__get__" == some (some (.builtin "getset_descriptor.__get__")) && takesIn K (.builtin "object.__class__") == some true
theorem classBy_find (h:classBy K C=true) (od:Option Obj):findObj K C od "__class__" =some (.bind (.builtin "getset_descriptor.__get__") (.builtin "object.__class__")):=by
 unfold classBy at h
 simp only[Bool.and_eq_true,beq_iff_eq]at h
 obtain⟨⟨⟨h1,h2⟩,h3⟩,h4⟩:=h
 obtain⟨cd,h1⟩:=Option.isSome_iff_exists.mp h1
 unfold findObj
 rw[h1,Option.bind_some,h2,Option.bind_some]
 simp only[h3,h4,Option.bind_some]
end
structure XRead (K:Frag) (C:Addr):Prop where
 get:XGet K C
 hd:hasDictIn K C=true
 cl:classBy K C=true
section
variable {X:Cx} {pins:List (Addr × Obj)} {σ:L2.St} {H:Hp} {s:Shared} {A:Around} {E:Value->Shared->Prop} {Q:Value->Shared->Prop} {e C:Addr} {d:Option Addr}
theorem isexc_ok {b:Bool} {cl:Value} (I:Inv X pins σ H s) (he:H e=some (.exo C d)) (hdx:∀dx,d=some dx->∃fs,H dx=some (.xd fs)) (c:XRead X.K C) (k:PySem.W.kitOne X.K (.ref C) cl=some b) (h:∀tk,Q (.bool b) {s with toks:=tk}):
  wpAny (model X.prog X.w) A (call (.builtin "isinstance") [.ref e,cl]) Q E s:=by
 obtain⟨oe,vs,h1,h2,h3,h4⟩:∃oe vs,s.heap.get? e=some oe/\oe.cls=.ref C/\oe.dict=d/\oe.data=.fields vs:=I.hok e _ he
 have nc:PySem.W.notCls oe=true:=by obtain⟨a,b,c,d⟩:=oe;have h4:c=.fields vs:=h4;subst h4;rfl
 have J:∃ox od,PySem.W.InstAt s.heap e ox C od:=by
  cases d with
  | none=>exact⟨oe,none,h1,h2,nc,by rw[h3];trivial⟩
  | some dx=>
   obtain⟨fs,hd⟩:=hdx dx rfl
   obtain⟨mA,⟨od,es,ep,hod,_⟩,_⟩:∃mA,s.heap.Ns1 dx mA/\∀f,RelO (fs.lookup f) (mA f):=I.hok dx _ hd
   exact⟨oe,some od,h1,h2,nc,by rw[h3];exact hod⟩
 exact PySem.W.kia_one (kitx_exc c.get c.hd (classBy_find c.cl)) I.kIn J k (fun z=>nomatch z) h
end
end Sw
namespace Sw
open PySem PySem.Spec PyProof.Rows L2
noncomputable def TopFr (X:Cx):Prop:=∃e0 o0 L,X.stack=e0::o0/\e0.frame=some L/\X.env.frame=some L
theorem noteFrame_by {env env':Env} {x:Value} (h:env.frame=env'.frame):noteFrame x env=noteFrame x env':=by
 unfold noteFrame PySem.frameOf
 rw[h]
structure SeqG {ι:Type} (J:It) (xs:List ι) (stay:Hp->Prop) (nxt:ι->Hp->(L2.St->Hp->Prop)->Prop) (g:TG) (n:Nat):Prop where
 go:∀i H,stay H->i < xs.length->J.go i H
 yld:∀i a H y H' R,xs[i]?=some a->J.yld i H y H'->stay H->nxt a H R->∃w,w.length=n/\R w H'/\∀ (w0 f:L2.St) (Q:L2.St->Hp->Prop),w0.length=n->Q (w++f) H'->g y (w0++f) H' Q
 stop:∀i H,stay H->xs.length<=i->J.stop i H
theorem comp_coreG {X:Cx} {M:Mo} (mo:ModOk X.K M) {sc csc:Scope} {elt iter tg:Expr} {ifs:List Expr} {ns:List Str} {pos:Pos} {fv:List (Str × Nat)} {te:TE} {tt:TT} {ι:Type} {nxt:ι->Hp->(L2.St->Hp->Prop)->Prop} {g:TG} {wi:TI} (hc:X.calm=true)
  (hcf:∀y,(sc.names.lookup y=some .cell\/sc.names.lookup y=some .free)->X.env.kindOf y=some .cell\/X.env.kindOf y=some .free)
  (ok:compOkN sc csc X.N ns fv=true) (hi:PI X tg iter wi) (hg:∀X',CompOf X X' csc (ns++fv.map (·.1))->(ns++fv.map (·.1)).Nodup->(∀ x ∈ ns,X'.env.scope.names.lookup x=some .local)->PG X' tg g)
  (top:TopFr X) {Ξ:XS} (xo:XOk X Ξ) {use:Option (Value->Sem Unit)} {R:Value->Shared->Prop} {pins:List (Addr × Obj)} {s:Shared} {σ:L2.St} {H:Hp} {Q:V->Hp->Prop}
  (he:∀X',CompOf X X' csc (ns++fv.map (·.1))->XOk X' (fun C d _ H'=>Ξ C d σ H')->PE X' elt te) (ht:∀X',CompOf X X' csc (ns++fv.map (·.1))->PTs X' ifs tt)
  (hs:∀v,foldedSetIterable iter X.env v=pure v) (I:Inv X pins σ H s)
  (h:wi σ H fun J H1=>∃ (xs:List ι) (stay:Hp->Prop),SeqG J xs stay nxt g ns.length/\∃kf:Addr->Hp->Prop,(∀ D H',kf D H'->Q (.ref D) H')/\∀D,H1 D=none->M D=none->compWG nxt te tt (vars σ fv) D stay xs [] (upd H1 D (.lst [])) (kf D))
  (hfin:∀D C s' H',Inv X pins σ H' s'->FpOk X pins H' C->(∃ m,s'.heap.Ns C m)->Q (.ref D) H'->compPost (model X.prog X.w) X.A X.xe use R (.ref D) C (.ok .next) s'):
  wpAny (model X.prog X.w) X.A (comprehension (.ListComp elt [⟨tg,iter,ifs,0⟩] csc pos) csc X.env (firstIterPos [⟨tg,iter,ifs,0⟩] pos) (newList []) (firstAsync [⟨tg,iter,ifs,0⟩]) (firstIter [⟨tg,iter,ifs,0⟩] X.env) use) R X.xe s:=by
 unfold compOkN at ok
 simp only[Bool.and_eq_true,decide_eq_true_eq,List.all_eq_true,Bool.or_eq_true]at ok
 obtain⟨⟨⟨⟨⟨hkind,hxl⟩,hsk⟩,hnames⟩,hfv⟩,hND⟩:=ok
 have hfr:∀y ∈ csc.names,y.2=.free->X.env.kindOf y.1=some .cell\/X.env.kindOf y.1=some .free:=fun y hy hf=>by
  rcases(hnames y hy).2 with q | q
  ·exact absurd hf q
  ·exact hcf _ q
 obtain⟨cl,hclos,hcl1,hcl2⟩:=closure_ok (env:=X.env) (csc:=csc) fun y hy hf=>I.ok.has _ (hfr y hy hf)
 refine wpAny_comprehension_free (cl:=cl) rfl hs hclos hkind (fun y hy hl=>?_) ?_
 ·rcases(hnames y hy).1.2 with q | q
  ·exact absurd hl q
  ·exact q
 show wpAny _ _ (eval iter X.env) _ _ _
 refine thn (hi pins s σ H _ I h) fun v s1 h1=>thn h1 fun itv s2 h2=>?_
 obtain⟨it,fp,tn,J,H2,rfl,I2,T,st2,f2,xs,stay,SQ,kf,hkf,hW⟩:=h2
 refine wpAny_newObj_type (wpAny_newFunctionEnv (fun y hy=>(hnames y hy).1.1) (by intro y hy;simp at hy) (fun h₁ hns₁ hsb₁=>?_) hkind)
 dsimp only at hns₁ hsb₁ ⊢
 generalize hG:s2.heap.push {cls:=.type "list",dict:=none,data:=.seq ([]:List Value).toArray}=G at hns₁ hsb₁ ⊢
 have hC:G.objs.size=s2.heap.objs.size + 1:=by rw[<-hG,Heap.size_push]
 have old:∀b o,s2.heap.get? b=some o->h₁.get? b=some o:=fun b o e=>
  hsb₁.extBut b o (by rw[hC];exact Nat.ne_of_lt (Nat.lt_succ_of_lt (Heap.lt_size e))) (Heap.get?_push_of_some _ (hG ▸ Heap.get?_push_of_some _ e))
 have hD1:h₁.get? s2.heap.objs.size=some {cls:=.type "list",data:=.seq ([]:List Value).toArray 0}:=
  hsb₁.extBut _ _ (by rw[hC];exact Nat.ne_of_lt (Nat.lt_succ_self _)) (Heap.get?_push_of_some _ (hG ▸ Heap.get?_push_size _ rfl))
 have fD:H2 s2.heap.objs.size=none:=I2.hok.fresh (Nat.le_refl _)
 have fC:H2 G.objs.size=none:=I2.hok.fresh (by rw[hC];exact Nat.le_succ _)
 have fpLt:∀b ∈ fp,b < s2.heap.objs.size:=fun b hb=>by
  obtain⟨o,e,_⟩:=T.obj 0 _ st2 b hb
  exact Heap.lt_size e
 have clLt:∀y c,cl.lookup y=some c->c < s2.heap.objs.size:=fun y c e=>by
  obtain⟨v,q⟩:=I2.cell y c (hcl1 y c e)
  exact q.lt
 let X':Cx:={prog:=X.prog,w:=X.w,K:=X.K,mg:=X.mg,base:=X.base,A:=X.A,N:=ns++fv.map (·.1),s₀:=s2,H₀:=H2,env:=compEnvC csc cl G.objs.size X.env,outer:=X.stack,stack:=X.stack,ex:=fp,fn:=fun _=>false,calm:=true,pn:=[],xe:=notedBy (model X.prog X.w) X.A (compEnvC csc cl G.objs.size X.env) fun e s'=>compPost (model X.prog X.w) X.A X.xe use R (.ref s2.heap.objs.size) G.objs.size (.error e) s'}
 have CO:CompOf X X' csc (ns++fv.map (·.1)):=⟨rfl,rfl,rfl,rfl,rfl,rfl,rfl,rfl,rfl,rfl,rfl⟩
 have okX:X'.Ok:=by
  refine⟨I.ok.mod,hkind,I.ok.glob,I.ok.blt,(by show s2.heap.objs.size<=G.objs.size;rw[hC];exact Nat.le_succ _),fun y z c e1 e2=>I.ok.inj y z c (hcl1 _ _ e1) (hcl1 _ _ e2),fun y hy=>?_,fun y c hf=>absurd (show false=true from hf) Bool.false_ne_true,fun _=>I.ok.hd hc,I.ok.frames,.inl rfl,
   fun b hb=>⟨?_,fun y c e=>?_⟩,I2.bs,?_,fun b o e hb=>?_,fun b hb hm=>?_,I2.stack,I2.stkFree⟩
  ·have hy:(relabel csc X.env).names.lookup y=some .cell\/(relabel csc X.env).names.lookup y=some .free:=hy
   rw[relabel_vis]at hy
   cases q:csc.names.lookup y with
   | none=>rw[q]at hy;rcases hy with hy | hy<;>cases hy
   | some k=>
    have hm:=mem_of_look q
    have kf:k=.free:=by
     rw[q]at hy
     simp only[Option.map_some]at hy
     by_cases hk:k=.free
     ·exact hk
     ·have e:(k == NameKind.free)=false:=by simpa using hk
      simp only[e,Bool.false_and,Bool.false_eq_true,if_false]at hy
      rcases hy with hy | hy
      ·exact absurd (Option.some.inj hy) (hnames _ hm).1.1
      ·exact Option.some.inj hy
    subst kf
    exact hcl2 y hm
  ·exact Nat.ne_of_lt (Nat.lt_of_lt_of_le (fpLt b hb) (by show _<=G.objs.size;rw[hC];exact Nat.le_succ _))
  ·exact(f2 b hb).2.2.2.2.1 y c (hcl1 y c e)
  ·exact Nat.le_trans I.ok.bsz I2.sz
  ·rcases(f2 b hb).2.2.2.1 with z | z
   ·exact I.ok.noex b o e z
   ·exact absurd (Nat.lt_of_lt_of_le (Heap.lt_size e) I.ok.bsz) (Nat.not_lt.mpr z)
  ·rcases List.mem_cons.mp (I2.stkSub b hm)with z | z
   ·exact(f2 b hb).2.1 z
   ·exact(f2 b hb).2.2.1 z
 have loc0:∀ (s':Shared) (H':Hp),(∀ y c,cl.lookup y=some c->s'.heap.get? c=s2.heap.get? c)->∀ (m:Str->Option Value) (i:Nat) (y:Str) (v:V),(ns++fv.map (·.1))[i]?=some y->(List.replicate ns.length none++vars σ fv)[i]?=some (some v)->∃u,RelV v u/\Look X'.env s'.heap m y u:=by
  intro s' H' hkc m i y v e1 e2
  by_cases hin:i < ns.length
  ·rw[List.getElem?_append_left (by rw[List.length_replicate];exact hin),List.getElem?_replicate,if_pos hin]at e2
   cases e2
  ·have hge:ns.length<=i:=Nat.le_of_not_lt hin
   rw[List.getElem?_append_right hge]at e1
   rw[List.getElem?_append_right (by rw[List.length_replicate];exact hge),List.length_replicate]at e2
   obtain⟨z,ez,sz⟩:=vars_get e2
   rw[List.getElem?_map,ez]at e1
   have ey:z.1=y:=by simpa using e1
   subst ey
   obtain⟨hN,hlf⟩:=hfv z (List.mem_of_getElem? ez)
   obtain⟨m2,hn2,hl2⟩:=I2.loc
   have hkz:X.env.kindOf z.1=some .cell\/X.env.kindOf z.1=some .free:=hfr _ (mem_of_look hlf) rfl
   have hvz:Vis X.env.scope z.1:=by
    rcases hkz with q | q
    ·exact .inr (.inl q)
    ·exact .inr (.inr q)
   obtain⟨u,ru,lk⟩:=hl2 z.2 z.1 v hN sz hvz
   refine⟨u,ru,.inr ⟨?_,?_⟩⟩
   ·show(relabel csc X.env).names.lookup z.1=some .cell\/(relabel csc X.env).names.lookup z.1=some .free
    rw[relabel_vis,hlf]
    simp only[Option.map_some]
    by_cases q:((NameKind.free == NameKind.free) && X.env.scope.kind == .function && X.env.kindOf z.1 == some .cell)=true
    ·rw[if_pos q];exact .inl rfl
    ·rw[if_neg q];exact .inr rfl
   ·obtain⟨c,hcz⟩:=hcl2 z.1 (mem_of_look hlf)
    rcases lk with ⟨q,_⟩ | ⟨_,c',hc',cell⟩
    ·rcases hkz with z1 | z1<;>(rw[z1]at q;cases q)
    ·have:c'=c:=by
      have:=hcl1 _ _ hcz
      rw[hc']at this
      exact Option.some.inj this
     subst this
     refine⟨c',hcz,?_⟩
     obtain⟨o,ho,hd⟩:=cell
     exact⟨o,by rw[hkc _ _ hcz];exact ho,hd⟩
 have hxr:∀x ∈ ns,(relabel csc X.env).names.lookup x=some .local:=fun x hx=>lookup_relabel_local (hxl x hx)
 have I0:∀tk0,Inv X' [] (List.replicate ns.length none++vars σ fv) (upd H2 s2.heap.objs.size (.lst [])) {s2 with heap:=h₁,toks:=tk0}:=fun tk0=>by
  refine⟨okX,rfl,I2.bare,Un.laid old (Nat.le_refl _) fD,⟨_,hns₁,fun i y v e1 e2 _=>loc0 {s2 with heap:=h₁,toks:=tk0} H2 (fun y c e=>?_) _ i y v e1 e2⟩,fun y c e=>?_,?_,fun y c e=>?_,fun p hp=>absurd (show p ∈ ([]:List (Addr × Obj))from hp) (by simp),I2.hok.laid old (Nat.le_refl _) ⟨Nat.zero_le _,[],0,.nil,hD1⟩,?_⟩
  ·obtain⟨v,o,ho,hd⟩:=I2.cell y c (hcl1 y c e)
   exact(old c o ho).trans ho.symm
  ·obtain⟨v,o,ho,hd⟩:=I2.cell y c (hcl1 y c e)
   exact⟨v,o,old c o ho,hd⟩
  ·show upd H2 s2.heap.objs.size (.lst []) G.objs.size=none
   rw[upd_ne (by rw[hC];exact Nat.ne_of_gt (Nat.lt_succ_self _))]
   exact fC
  ·rw[upd_ne (Nat.ne_of_lt (clLt y c e))]
   exact I2.freeC y c (hcl1 y c e)
  ·show(List.replicate ns.length none++vars σ fv).length=(ns++fv.map (·.1)).length
   simp[vars]
 have fpN:∀b ∈ fp,∀o,(upd H2 s2.heap.objs.size o) b=none:=fun b hb o=>by
  rw[upd_ne (Nat.ne_of_lt (fpLt b hb))]
  exact(f2 b hb).1
 have fpX:∀ {H':Hp},(∀ b ∈ fp,H' b=none)->∀b ∈ fp,FpOk X' [] H' b:=fun hn b hb=>by
  refine⟨hn b hb,(okX.exf b hb).1,okX.exfs b hb,.inl hb,(okX.exf b hb).2,fun p hp=>absurd (show p ∈ ([]:List (Addr × Obj))from hp) (by simp)⟩
 have toOut:∀ (s':Shared) (σ':L2.St) (H':Hp) (pins':List (Addr × Obj)),Inv X' pins' σ' H' s'->Inv X pins σ H' s':=fun s' σ' H' pins' I'=>by
  have B:=I'.base
  refine I2.call' (ch:=fp) (s':=s') I'.os ⟨fun b o e n hb hx=>B.keep b o e n hb hx,fun b o e n hb hx=>B.slot b o e n hb hx,B.free,fun b o e hx=>B.there b o e hx,B.tups,B.frzs,B.tbls⟩ I'.hok I'.bare (fun b hb=>?_)
  obtain⟨f0,f1,f2',f3,f4,f5⟩:=f2 b hb
  exact⟨f3,f1,f4,f5⟩
 have fpOut:∀ (H':Hp) (pins':List (Addr × Obj)) b,FpOk X' pins' H' b->FpOk X pins H' b/\b ≠ G.objs.size:=fun H' pins' b z=>by
  refine⟨?_,z.2.1⟩
  rcases z.2.2.2.1 with q | q
  ·obtain⟨f0,f1⟩:=f2 b q
   exact⟨z.1,f1⟩
  ·exact I2.fpOk q z.1
 have xoC:XOk X' (fun C d _ H'=>Ξ C d σ H'):=by
  intro pins' σ' H' e Cv d s' F q
  obtain⟨e0,o0,L,t1,t2,t3⟩:=top
  show wpAny (model X.prog X.w) X.A (noteFrame (.ref e) (compEnvC csc cl G.objs.size X.env)) _ _ s'
  rw[noteFrame_by (show(compEnvC csc cl G.objs.size X.env).frame=e0.frame from t3.trans t2.symm)]
  refine note1 (base:=X.base) (outer:=o0) (I.ok.frames.trans (congrArg some t1)) (by rw[<-t1];exact F.inv.stack) t2 F.at_ fun h1 ch hch k1 k2 k3 x1=>?_
  have F1:Flew X' pins' σ' H' e Cv d {s' with heap:=h1}:=F.land hch (by show ∀b o,b ∉ frs X.stack->_;rw[t1];exact k1) k2 k3 x1.at
  obtain⟨m,hm,_⟩:=id F1.inv.loc
  have goal:∃m,h1.Ns G.objs.size m/\∀h',Heap.SameBut G.objs.size h1 h'->∀cenv:Env,cenv.locals=G.objs.size->wpAny (model X.prog X.w) X.A (passOn "comprehension.variables-let-go" (.ref e) cenv:Sem Value) (fun _ _=>False) X.xe {s' with heap:=h'}:=by
   refine⟨m,hm,fun h' sb cenv hce=>?_⟩
   have x1':XTb h1 e Cv d (fun T=>FpOk X pins H' T/\T ≠ G.objs.size):=x1.imp fun T hT=>by
    rcases hT with z | z
    ·exact fpOut H' pins' T (F.inv.fpOk z (F.inv.hok.fresh z))
    ·exact fpOut H' pins' T z
   have fe:=fpOut H' pins' e F1.fe
   have sm:∀b o,b ≠ G.objs.size->h1.get? b=some o->h'.get? b=some o:=fun b o hb e=>sb.extBut b o hb e
   have x2:XTb h' e Cv d (FpOk X pins H'):=by
    obtain⟨oe,vs,g1,g2,g3,g4,g5,T,oT,ts,g6,g7,g8,g9,ga,gb⟩:=x1'
    exact⟨oe,vs,sm e oe fe.2 g1,g2,g3,g4,g5,T,oT,ts,g6,g7.1,g8,sm T oT g7.2 g9,ga,gb⟩
   have F2:Flew X pins σ H' e Cv d {s' with heap:=h'}:=
    ⟨Inv.letgo (s:={s' with heap:=h1}) (toOut _ σ' H' pins' F1.inv) (I2.fpOk (show s2.heap.objs.size<=G.objs.size by rw[hC];exact Nat.le_succ _) F1.inv.free) sb,fe.1,x2.at⟩
   unfold PySem.passOn
   obtain⟨oe,vs,T,g1,g2,g3⟩:=x2.head
   refine wpAny_bind (wpAny_field g1 g2 g3 ?_)
   rw[if_neg (show ¬ ((Value.ref T == Value.none)=true)from by simp)]
   have fin2:wpAny (model X.prog X.w) X.A (setFlight (.ref e) cenv.frame) (fun _ s3=>X.xe (.ref e) s3) X.xe {s' with heap:=h'}:=by
    refine set1 (s:={s' with heap:=h'}) (P:=FpOk X pins H') x2 fun h3 T hT ot th x3=>xo pins σ H' e Cv d _ ?_ q
    refine F2.land (ch:=[T]) (fun b hb=>.inr (by rw[show b=T by simpa using hb];exact hT)) (fun b o _ hb q=>(ot b (by simpa using hb)).trans q) (fun b o hb q=>⟨o.slots,(ot b (by simpa using hb)).trans q⟩) (fun b o q=>?_) (x3.imp fun _ z=>.inr z).at
    by_cases hb:b=T
    ·subst hb;exact th
    ·exact⟨o,(ot b hb).trans q⟩
   first
    | exact wpAny_bind (wpAny_mono fin2 (fun _ _ z=>wpAny_throw z) fun _ _ z=>z)
    | exact wpAny_bind (wpAny_pure (wpAny_bind (wpAny_mono fin2 (fun _ _ z=>wpAny_throw z) fun _ _ z=>z)))
  cases use<;>exact goal
 have fin:∀ (s':Shared) (σ':L2.St) (H':Hp),Inv X' [] σ' H' s'->Q (.ref s2.heap.objs.size) H'->compPost (model X.prog X.w) X.A X.xe use R (.ref s2.heap.objs.size) G.objs.size (.ok .next) s':=by
  intro s' σ' H' I' q
  obtain⟨m,hm,_⟩:=id I'.loc
  have I3:Inv X pins σ H' s':=toOut s' σ' H' [] I'
  exact hfin _ _ s' H' I3 (I2.fpOk (by rw[hC];exact Nat.le_succ _) I'.free) ⟨m,hm⟩ q
 have loop:∀s₃:Shared,(∃ tk0,s₃={s2 with heap:=h₁,toks:=tk0})->
   codeAny (model X.prog X.w) X.A (.compLoop (.ListComp elt [⟨tg,iter,ifs,0⟩] csc pos) 0 (.ref it) (.ref s2.heap.objs.size) (compEnvC csc cl G.objs.size X.env))
    (compPost (model X.prog X.w) X.A X.xe use R (.ref s2.heap.objs.size) G.objs.size) s₃:=by
  rintro s₃ ⟨tk0,rfl⟩
  refine codeAny_loop rfl (fun n s'=>∃i acc H' v0,v0.length=ns.length/\Inv X' [] (v0++vars σ fv) H' s'/\tn i s'.heap/\(∀ b ∈ fp,H' b=none)/\i + n=xs.length/\compWG nxt te tt (vars σ fv) s2.heap.objs.size stay (xs.drop i) acc H' (kf s2.heap.objs.size))
   (fun n s' hI=>?_) xs.length ⟨0,[],_,_,List.length_replicate,I0 tk0,T.keep 0 _ _ st2 (fun b hb o e=>old b o e),fun b hb=>fpN b hb _,by omega,by simpa using hW _ fD (OffM.new (Inv.offM (X:=X') mo (I0 tk0)))⟩
  obtain⟨i,acc,H',v0,hv0,I',st',fr',hin,cw⟩:=hI
  show wpAny _ _ ((compTurn (.ListComp elt [⟨tg,iter,ifs,0⟩] csc pos) 0 (.ref it) (.ref s2.heap.objs.size) (compEnvC csc cl G.objs.size X.env)).onRaise (fun x=>do noteFrame x (compEnvC csc cl G.objs.size X.env);theTreesLotGoes x)) _ _ _
  refine wpAny_noted ?_
  rw[compTurn_list]
  refine wpAny_bind (wpAny_standAt (wpAny_bind ?_))
  cases ed:xs.drop i with
  | nil=>
   rw[ed]at cw
   obtain⟨hst,hD,hq⟩:=cw
   have hle:xs.length<=i:=by simpa using ed
   refine wpAny_mono (T.done X' rfl rfl rfl rfl i [] s' _ H' (fun _ _=>False) I' (fpX fr') st' (SQ.stop i H' hst hle)) (fun r s4 ⟨hr,I4⟩=>?_) fun _ _ z=>z.elim
   subst hr
   exact wpAny_pure (fin s4 _ H' I4 (hkf _ _ hq))
  | cons v r=>
   rw[ed]at cw
   obtain⟨hst,cw⟩:=cw
   have hlt:i < xs.length:=by
    have:=congrArg List.length ed
    simp at this
    omega
   have hvi:xs[i]?=some v:=by
    have:=congrArg (fun l=>l[0]?) ed
    simpa using this
   have hdr:xs.drop (i + 1)=r:=by
    have:=congrArg List.tail ed
    simpa[List.tail_drop]using this
   refine wpAny_mono (T.item X' rfl rfl rfl rfl i [] s' _ H' (fun _ _=>False) I' (fpX fr') st' (SQ.go i H' hst hlt)) (fun r' s4 ⟨u,hr,h4⟩=>?_) fun _ _ z=>z.elim
   subst hr
   refine wpAny_bind (wpAny_mono h4 (fun _ s5 ⟨y,H5,I5,r5,y5,st5,fr5⟩=>?_) fun _ _ z=>z.elim)
   obtain⟨w,hwl,cw,hgw⟩:=SQ.yld i v H' y H5 _ hvi y5 hst cw
   have I5':=I5.pinned (fpX fr5) (T.obj _ _ st5)
   refine wpAny_bind (wpAny_mono (hg X' CO hND (fun x hx=>hxr x hx) _ s5 _ H5 y u (fun σ6 H6=>σ6=w++vars σ fv/\H6=H5) I5' r5 (hgw v0 _ _ hv0 ⟨rfl,rfl⟩)) (fun _ s6 ⟨σ6,H6,I6,e6,e6'⟩=>?_) fun _ _ z=>z)
   subst e6 e6'
   refine wpAny_bind (wpAny_mono (ht X' CO _ s6 _ H6 _ I6 cw) (fun okb s7 ⟨H7,I7,q7⟩=>?_) fun _ _ z=>z)
   have again:∀ {s8:Shared} {H8:Hp} {acc':List V},Inv X' ([]++pinsAt fp s5.heap) (w++vars σ fv) H8 s8->compWG nxt te tt (vars σ fv) s2.heap.objs.size stay r acc' H8 (kf s2.heap.objs.size)->
     ∃m,m < n/\∃i acc H' v0,v0.length=ns.length/\Inv X' [] (v0++vars σ fv) H' s8/\tn i s8.heap/\(∀ b ∈ fp,H' b=none)/\i + m=xs.length/\compWG nxt te tt (vars σ fv) s2.heap.objs.size stay (xs.drop i) acc H' (kf s2.heap.objs.size):=by
    intro s8 H8 acc' I8 c8
    refine⟨n - 1,by omega,i + 1,acc',H8,w,hwl,I8.unpinned,T.keep _ _ _ st5 fun b hb o e=>(I8.pin (b,o) (List.mem_append_right _ (List.mem_append_right _ (mem_pinsAt hb e)))).1,fun b hb=>?_,by omega,by rw[hdr];exact c8⟩
    obtain⟨o,e,d⟩:=T.obj _ _ st5 b hb
    exact(I8.pin (b,o) (List.mem_append_right _ (List.mem_append_right _ (mem_pinsAt hb e)))).2.1
   cases okb with
   | false=>
    simp only[Bool.false_eq_true,if_false]at q7 ⊢
    exact wpAny_pure ⟨rfl,again I7 q7⟩
   | true=>
    simp only[if_true]at q7 ⊢
    refine wpAny_bind (wpAny_bind (wpAny_mono (he X' CO xoC _ s7 _ H7 _ I7 q7) (fun yv s8 ⟨yy,H8,I8,r8,hD8,hz8,q8⟩=>?_) fun _ _ z=>z))
    refine wpAny_bind (wpAny_mono (mt_append (X:=X') _ s8 _ H8 (.ref s2.heap.objs.size) [yy] (.ref s2.heap.objs.size) [yv] (fun _ H9=>H9=upd H8 s2.heap.objs.size (.lst (acc++[yy]))) I8 rfl (.cons r8 .nil) ⟨_,acc,yy,rfl,rfl,hD8,hz8,rfl⟩) (fun _ s9 ⟨_,H9,I9,_,e9⟩=>?_) fun _ _ z=>z)
    subst e9
    exact wpAny_pure (wpAny_pure ⟨rfl,again I9 q8⟩)
 exact codeAny_compStart_list (loop _ ⟨_,rfl⟩) (T.self _ 0 _ _ _ (T.keep 0 _ _ st2 (fun b hb o e=>old b o e)) (loop _ ⟨_,rfl⟩))
noncomputable def nxtB (bd:V->Hp->Option L2.St) (v:V) (H:Hp) (R:L2.St->Hp->Prop):Prop:=match bd v H with
 | some w=>R w H
 | none=>False
theorem compWB_eq {bd:V->Hp->Option L2.St} {te:TE} {tt:TT} {fvs:L2.St} {D:Addr} {stay:Hp->Prop} {k:Hp->Prop}:∀ (xs acc:List V) (H:Hp),compWB bd te tt fvs D stay xs acc H k=compWG (nxtB bd) te tt fvs D stay xs acc H k
 | [],_,_=>rfl
 | v::r,acc,H=>by
  unfold compWB compWG
  simp only[compWB_eq r]
  rfl
theorem comp_core {X:Cx} {M:Mo} (mo:ModOk X.K M) {sc csc:Scope} {elt iter tg:Expr} {ifs:List Expr} {ns:List Str} {pos:Pos} {fv:List (Str × Nat)} {te:TE} {tt:TT} {bd:V->Hp->Option L2.St} {g:TG} {wi:L2.St->Hp->(List V->(Hp->Prop)->Hp->Prop)->Prop} (hc:X.calm=true)
  (hcf:∀y,(sc.names.lookup y=some .cell\/sc.names.lookup y=some .free)->X.env.kindOf y=some .cell\/X.env.kindOf y=some .free)
  (ok:compOkN sc csc X.N ns fv=true) (hi:PI X tg iter (iSeq wi)) (hg:∀X',CompOf X X' csc (ns++fv.map (·.1))->(ns++fv.map (·.1)).Nodup->(∀ x ∈ ns,X'.env.scope.names.lookup x=some .local)->PG X' tg g) (hgb:∀v w w0 f H Q,bd v H=some w->w0.length=ns.length->Q (w++f) H->g v (w0++f) H Q) (hgl:∀v w H,bd v H=some w->w.length=ns.length)
  (top:TopFr X) {Ξ:XS} (xo:XOk X Ξ) {use:Option (Value->Sem Unit)} {R:Value->Shared->Prop} {pins:List (Addr × Obj)} {s:Shared} {σ:L2.St} {H:Hp} {Q:V->Hp->Prop}
  (he:∀X',CompOf X X' csc (ns++fv.map (·.1))->XOk X' (fun C d _ H'=>Ξ C d σ H')->PE X' elt te) (ht:∀X',CompOf X X' csc (ns++fv.map (·.1))->PTs X' ifs tt)
  (hs:∀v,foldedSetIterable iter X.env v=pure v) (I:Inv X pins σ H s)
  {kk:List V->(Hp->Prop)->Hp->Prop} (h:wi σ H kk) (hkk:∀xs stay H1,kk xs stay H1->∃kf:Addr->Hp->Prop,(∀ D H',kf D H'->Q (.ref D) H')/\∀D,H1 D=none->M D=none->compWB bd te tt (vars σ fv) D stay xs [] (upd H1 D (.lst [])) (kf D))
  (hfin:∀D C s' H',Inv X pins σ H' s'->FpOk X pins H' C->(∃ m,s'.heap.Ns C m)->Q (.ref D) H'->compPost (model X.prog X.w) X.A X.xe use R (.ref D) C (.ok .next) s'):
  wpAny (model X.prog X.w) X.A (comprehension (.ListComp elt [⟨tg,iter,ifs,0⟩] csc pos) csc X.env (firstIterPos [⟨tg,iter,ifs,0⟩] pos) (newList []) (firstAsync [⟨tg,iter,ifs,0⟩]) (firstIter [⟨tg,iter,ifs,0⟩] X.env) use) R X.xe s:=by
 refine comp_coreG (nxt:=nxtB bd) mo hc hcf ok hi hg top xo he ht hs I ⟨kk,h,fun J xs stay H1 sq q=>⟨xs,stay,⟨sq.go,fun i a H y H' R e y1 st nx=>?_,sq.stop⟩,?_⟩⟩ hfin
 ·obtain⟨hlt,_⟩:=List.getElem?_eq_some_iff.mp e
  obtain⟨eH,ev⟩:=sq.yld i H y H' hlt y1 st
  subst eH
  rw[e]at ev
  obtain rfl:a=y:=Option.some.inj ev
  unfold nxtB at nx
  split at nx
  ·rename_i w ew
   exact⟨w,hgl _ _ _ ew,nx,fun w0 f Q hw q=>hgb _ _ _ _ _ _ ew hw q⟩
  ·exact nx.elim
 ·obtain⟨kf,k1,k2⟩:=hkk xs stay H1 q
  exact⟨kf,k1,fun D h1 h2=>by rw[<-compWB_eq];exact k2 D h1 h2⟩
noncomputable def gNames:List Nat->TGs
 | []=>gNil
 | i::is=>gCons (gName i) (gNames is)
theorem gNames_all:∀ {is:List Nat} {xs:List V} {σ:L2.St} {H:Hp} {Q:L2.St->Hp->Prop},xs.length=is.length->Q (setAll σ is xs) H->gNames is xs σ H Q
 | [],[],σ,H,Q,_,q=>⟨rfl,q⟩
 | i::is,x::xs,σ,H,Q,hl,q=>⟨x,xs,rfl,gNames_all (by simpa using hl) q⟩
 | [],_::_,_,_,_,hl,_=>by simp at hl
 | _::_,[],_,_,_,hl,_=>by simp at hl
theorem bN_map:∀ (is:List Nat) {ts:List Expr} {N:List Str} {env:Env},assignEach (bN N is ts) env=(bN N is ts).map fun t=>(false,assign t env)
 | [],_,_,_=>rfl
 | _::is,ts,N,env=>congrArg (_::·) (bN_map is (ts:=ts.tail) (N:=N) (env:=env))
theorem bN_length:∀ (is:List Nat) {ts:List Expr} {N:List Str},(bN N is ts).length=is.length
 | [],_,_=>rfl
 | _::is,_,_=>congrArg (·+ 1) (bN_length is)
theorem bN_len {is:List Nat} {ts:List Expr} {N:List Str} {env:Env}:(assignEach (bN N is ts) env).length=is.length:=by
 rw[bN_map,List.length_map,bN_length]
theorem bN_star {is:List Nat} {ts:List Expr} {N:List Str} {env:Env}:(assignEach (bN N is ts) env).findIdx? (·.1)=none:=by
 rw[bN_map,List.findIdx?_eq_none_iff]
 intro x hx
 obtain⟨t,_,rfl⟩:=List.mem_map.mp hx
 rfl
theorem nx_at {N:List Str} {i:Nat} (h:i < N.length):N[i]?=some (nx N i):=by
 unfold nx
 rw[List.getD_eq_getElem?_getD,List.getElem?_eq_getElem h]
 rfl
section
variable {X':Cx}
theorem pgs_local (nd:X'.N.Nodup):∀ {is:List Nat} {ts:List Expr},(∀ i ∈ is,i < X'.N.length/\X'.env.scope.names.lookup (nx X'.N i)=some .local)->PGs X' (bN X'.N is ts) (gNames is)
 | [],_,_=>pgs_nil
 | i::is,_,h=>pgs_cons (pg_name nd (nx_at (h i List.mem_cons_self).1) (.inl (h i List.mem_cons_self).2) (.inr (h i List.mem_cons_self).2)) (pgs_local nd fun j hj=>h j (List.mem_cons_of_mem _ hj)) rfl
end
theorem compW_eq {te:TE} {tt:TT} {fvs:L2.St} {D:Addr} {stay:Hp->Prop} {k:Hp->Prop}:∀ (xs acc:List V) (H:Hp),compW te tt fvs D stay xs acc H k=compWB (fun v _=>some [some v]) te tt fvs D stay xs acc H k
 | [],_,_=>rfl
 | v::r,acc,H=>by
  show(stay H/\tt (some v::fvs) H fun ok H1=>if ok=true then te (some v::fvs) H1 fun y H2=>H2 D=some (.lst acc)/\acc.length < sizeLine/\compW te tt fvs D stay r (acc++[y]) (upd H2 D (.lst (acc++[y]))) k else compW te tt fvs D stay r acc H1 k)=(stay H/\tt (some v::fvs) H fun ok H1=>if ok=true then te (some v::fvs) H1 fun y H2=>H2 D=some (.lst acc)/\acc.length < sizeLine/\compWB (fun v _=>some [some v]) te tt fvs D stay r (acc++[y]) (upd H2 D (.lst (acc++[y]))) k else compWB (fun v _=>some [some v]) te tt fvs D stay r acc H1 k)
  simp only[compW_eq r]
theorem pts_nil0 {X:Cx}:PTs X [] (fun _ H Q=>Q true H):=fun pins s σ H Q I q=>by
 show wpAny _ _ (pure true) _ _ _
 exact wpAny_pure ⟨H,I,q⟩
theorem name_in {v:V} {w w0 f:L2.St} {H:Hp} {Q:L2.St->Hp->Prop} (e:(some [some v]:Option L2.St)=some w) (hw:w0.length=([0]:List Nat).length) (q:Q (w++f) H):gName 0 v (w0++f) H Q:=by
 cases e
 match w0,hw with
 | [a],_=>exact q
section
variable {X:Cx} {M:Mo} {sc csc:Scope} {elt iter:Expr} {ifs:List Expr} {x:Str} {px pos:Pos} {fv:List (Str × Nat)} {te:L2.St->TE} {tt:TT} {wi:L2.St->Hp->(List V->(Hp->Prop)->Hp->Prop)->Prop} {Ξ:XS}
theorem pe_comp (mo:ModOk X.K M) (hc:X.calm=true) (top:TopFr X) (xo:XOk X Ξ)
  (hcf:∀y,(sc.names.lookup y=some .cell\/sc.names.lookup y=some .free)->X.env.kindOf y=some .cell\/X.env.kindOf y=some .free)
  (ok:compOkN sc csc X.N [x] fv=true) (hi:PI X (.Name x px) iter (iSeq wi))
  (he:∀σ X',CompOf X X' csc (x::fv.map (·.1))->XOk X' (fun C d _ H'=>Ξ C d σ H')->PE X' elt (te σ)) (ht:∀X',CompOf X X' csc (x::fv.map (·.1))->PTs X' ifs tt)
  (hs:∀v,foldedSetIterable iter X.env v=pure v):
  PE X (.ListComp elt [⟨.Name x px,iter,ifs,0⟩] csc pos) (fun σ H Q=>wi σ H fun xs stay H1=>∀D,H1 D=none->M D=none->compW (te σ) tt (vars σ fv) D stay xs [] (upd H1 D (.lst [])) fun H'=>Q (.ref D) H'):=by
 intro pins s σ H Q I h
 rw[eval_ListComp]
 refine comp_core (bd:=fun v _=>some [some v]) (g:=gName 0) mo hc hcf ok hi (fun X' c nd hl=>pg_name (by rw[c.N];exact nd) (by rw[c.N];rfl) (.inl (hl x (by simp))) (.inr (hl x (by simp)))) (fun v w w0 f H Q e hw q=>name_in e hw q) (fun v w H e=>by cases e;rfl) top xo (he σ) ht hs (use:=none) (R:=EP X pins σ Q) I h (fun xs stay H1 q=>⟨fun D H'=>Q (.ref D) H',fun _ _ z=>z,fun D h1 h2=>(compW_eq _ _ _).mp (q D h1 h2)⟩) fun D C s' H' I' f ⟨m,hm⟩ q=>?_
 refine⟨m,hm,fun h' sb=>⟨.ref D,H',?_,rfl,q⟩⟩
 exact Inv.letgo I' f sb
theorem ps_setC (mo:ModOk X.K M) (hc:X.calm=true) (top:TopFr X) (xo:XOk X Ξ)
  (hcf:∀y,(sc.names.lookup y=some .cell\/sc.names.lookup y=some .free)->X.env.kindOf y=some .cell\/X.env.kindOf y=some .free)
  (ok:compOkN sc csc X.N [x] fv=true) (hi:PI X (.Name x px) iter (iSeq wi))
  (he:∀σ X',CompOf X X' csc (x::fv.map (·.1))->XOk X' (fun C d _ H'=>Ξ C d σ H')->PE X' elt (te σ)) (ht:∀X',CompOf X X' csc (x::fv.map (·.1))->PTs X' ifs tt)
  (hs:∀v,foldedSetIterable iter X.env v=pure v) {i:Nat} {t:Str} {tp spos:Pos} (hN:X.N.Nodup) (hit:X.N[i]?=some t) (hx:Loc X.env.scope t) (hf:X.fn t=true\/X.env.scope.names.lookup t=some .local)
  (hsw:swapsWith (.ListComp elt [⟨.Name x px,iter,ifs,0⟩] csc pos) (some (.Name t tp)) spos.line X.env=pure true):
  PS X (.Assign [.Name t tp] (.ListComp elt [⟨.Name x px,iter,ifs,0⟩] csc pos) spos) (fun D σ H=>wi σ H fun xs stay H1=>∀B,H1 B=none->M B=none->compW (te σ) tt (vars σ fv) B stay xs [] (upd H1 B (.lst [])) fun H'=>D.nx (σ.set i (some (.ref B))) H'):=by
 intro pins s σ H D I h
 rw[exec_Assign_Name_used _ _ _ _ hsw]
 refine wpAny_bind (wpAny_standAt (wpAny_bind ?_))
 show wpAny _ _ (do let _<-comprehension _ _ _ _ _ _ _ (some _)) _ _ _
 refine wpAny_bind ?_
 refine comp_core (bd:=fun v _=>some [some v]) (g:=gName 0) mo hc hcf ok hi (fun X' c nd hl=>pg_name (by rw[c.N];exact nd) (by rw[c.N];rfl) (.inl (hl x (by simp))) (.inr (hl x (by simp)))) (fun v w w0 f H Q e hw q=>name_in e hw q) (fun v w H e=>by cases e;rfl) top xo (he σ) ht hs (Q:=fun v H'=>D.nx (σ.set i (some v)) H') I h (fun xs stay H1 q=>⟨fun B H'=>D.nx (σ.set i (some (.ref B))) H',fun _ _ z=>z,fun D h1 h2=>(compW_eq _ _ _).mp (q D h1 h2)⟩) fun B C s' H' I' f ⟨m,hm⟩ q=>?_
 show wpAny _ _ (assign (.Name t tp) X.env (.ref B)) _ _ _
 refine wpAny_bind (wpAny_standAt ?_)
 unfold bindName
 refine wpAny_bind (wpAny_holding (wpAny_point ?_))
 refine wpAny_bind (store_ok2 I' hN hit hx (v:=.ref B) rfl (fun s2 I2 ⟨a,sb,ha⟩=>?_) hf)
 refine wpAny_point ?_
 have hne:C ≠ a:=fun z=>by
  subst z
  rcases ha with z | z
  ·exact f.2.1 z
  ·exact f.2.2.2.2.1 _ _ z rfl
 obtain⟨o,es,ep,ho,r⟩:=hm
 have ho2:s2.heap.get? C=some o:=(sb.2 C hne).trans ho
 refine⟨m,⟨o,es,ep,ho2,r⟩,fun h' sb2=>?_⟩
 exact wpAny_pure (wpAny_pure ⟨_,H',Inv.letgo I2 f sb2,q⟩)
end
end Sw
namespace Sw
open PySem PySem.Spec PyProof.Rows L2
open PySem.W (Frag keepIn ktsIn mroIn kitOne)
noncomputable def bltNames:List Str:=["len","all","any","str","int","abs","sorted","list","tuple","max","min","sum","isinstance","range","bool","dict","set","ValueError","reversed","zip"]
noncomputable def NameVal (mg:Str->Option Value) (x:Str) (u:Value):Prop:=mg x=some u\/(mg x=none/\bootBuiltins x=some u)
structure VcOk (P:Program) (w:World) (K:Frag) (mg:Str->Option Value) (base:Heap) (k:Nat) (vc:Addr->Sp):Prop where
 run:∀ (A:Around) (outer:List Env) (s:Shared) (H:Hp) (f:Addr) (us:List Value) (vs:List V) (Q:VK) (E:XK),Room k A->Env0 P w K mg base A outer s H->Vals vs us->vc f vs H Q E->
  codeAny (model P w) A (.call (.ref f) ⟨us,[]⟩) (CR (CXW P w) outer P w H s Q E) s
 fnat:∀ (s:Shared) (H:Hp) (f:Addr) (vs:List V) (Q:VK) (E:XK),K.In s.heap->HOk P w H s.heap->vc f vs H Q E->PySem.W.FnAt f s.heap
theorem VcOk.mono {P:Program} {w:World} {K:Frag} {mg:Str->Option Value} {base:Heap} {j k:Nat} {vc:Addr->Sp} (F:VcOk P w K mg base j vc) (h:j<=k):VcOk P w K mg base k vc:=
 ⟨fun A outer s H f us vs Q E hr=>F.run A outer s H f us vs Q E (hr.mono h),F.fnat⟩
theorem VcOk.none {P:Program} {w:World} {K:Frag} {mg:Str->Option Value} {base:Heap} {k:Nat}:VcOk P w K mg base k (fun _ _ _ _ _=>False):=
 ⟨fun _ _ _ _ _ _ _ _ _ _ _ _ h=>h.elim,fun _ _ _ _ _ _ _ _ h=>h.elim⟩
noncomputable def DictK (P:Program) (w:World) (mg:Str->Option Value) (base:Heap) (x:Str) (kvs:List (Key × V)):Prop:=∃a vs,mg x=some (.ref a)/\KV kvs vs/\base.DictOf (mixKind P w) a vs
structure GOk (P:Program) (w:World) (K:Frag) (mg:Str->Option Value) (base:Heap) (Γ:Gam) (k:Nat):Prop where
 mod:ModOk K Γ.mod
 con:∀x v,Γ.con x=some v->∃u,mg x=some u/\RelV v u
 fn:∀f,Γ.has f=true->∃fa fd ps,mg f=some (.ref fa)/\keepIn K (.ref fa)=true/\FnOk P w K mg base (CXW P w) k fa fd ps (Γ.fn f)/\Binds K fd ps []
 exc:∀C c fs,Γ.exc C=some (c,fs)->∃fI f fd ps,fs=[f]/\mg C=some (.ref c)/\keepIn K (.ref c)=true/\XCls K c fI f/\FnOkU P w K mg base (CXW P w) k fI fd ps (spX c f)/\Binds K fd ps []
 no:∀x ∈ bltNames,mg x=none
 sub:∀c C b,Γ.sub c C=some b->XRead K c/\∃u,NameVal mg C u/\kitOne K (.ref c) u=some b
 cat:∀C,Γ.cat C=true->∃C2,mg C=some (.ref C2)/\ktsIn K C2 "BaseException" =true/\∀c,Γ.sub c C=some true->mroIn K c (.ref C2)=some true
 fo:∀C f,Γ.fo C f=true->XRead K C/\NoAttr K C f
 vc:VcOk P w K mg base k Γ.vc
 gd:∀x kvs,Γ.gd x=some kvs->DictK P w mg base x kvs
structure Ctx (X:Cx) (Γ:Gam) (sc:Scope) (k:Nat):Prop where
 g:GOk X.prog X.w X.K X.mg X.base Γ k
 room:Γ.cm=true->Room (k + 1) X.A
 calm:Γ.cm=true->X.calm=true
 un:X.A.units + 64 < cLine
 vis:∀x,isVis sc x=true->Vis X.env.scope x
 gl:∀x,isGl sc x=true->Gl X x
 cf:∀y,(sc.names.lookup y=some .cell\/sc.names.lookup y=some .free)->X.env.kindOf y=some .cell\/X.env.kindOf y=some .free
 top:TopFr X
theorem GOk.hush {P:Program} {w:World} {K:Frag} {mg:Str->Option Value} {base:Heap} {Γ:Gam} {k:Nat} (g:GOk P w K mg base Γ k):GOk P w K mg base Γ.hush k:=
 ⟨g.mod,g.con,g.fn,g.exc,g.no,g.sub,g.cat,g.fo,g.vc,g.gd⟩
theorem GOk.grip {P:Program} {w:World} {K:Frag} {mg:Str->Option Value} {base:Heap} {Γ:Gam} {k:Nat} (g:GOk P w K mg base Γ k):GOk P w K mg base Γ.grip k:=
 ⟨g.mod,g.con,g.fn,g.exc,g.no,g.sub,g.cat,g.fo,g.vc,g.gd⟩
section
variable {X:Cx} {a b e:Expr} {rest:List Expr} {ta tb:TE} {pos:Pos} {M:Mo}
theorem PE.of {t t':TE} (h:PE X e t) (i:∀σ H Q,t' σ H Q->t σ H Q):PE X e t':=fun pins s σ H Q I q=>h pins s σ H Q I (i σ H Q q)
theorem PT.of {t t':TT} (h:PT X e t) (i:∀σ H Q,t' σ H Q->t σ H Q):PT X e t':=fun pins s σ H Q I q=>h pins s σ H Q I (i σ H Q q)
theorem PT.never {t:TT} (i:∀σ H Q,¬t σ H Q):PT X e t:=fun pins s σ H Q I q=>(i σ H Q q).elim
theorem truV_mono {x:V} {H:Hp} {Q Q':Bool->Prop} (h:truV M x H Q) (i:∀k,Q k->Q' k):truV M x H Q':=by
 unfold truV at h ⊢
 cases x with
 | non=>exact i _ h
 | bl b=>exact i _ h
 | int j=>exact i _ h
 | str y=>exact⟨h.1,i _ h.2⟩
 | ref p=>
  dsimp only at h ⊢
  split at h
  ·exact i _ h
  ·exact i _ h
  ·exact h.elim
 | _=>exact h.elim
theorem tru_end (m:ModOk X.K M) {pins:List (Addr × Obj)} {s:Shared} {σ:L2.St} {H:Hp} {x:V} {v:Value} {Q:Bool->Prop} {Q':Bool->Shared->Prop} (I:Inv X pins σ H s) (rx:RelV x v) (q:truV M x H Q)
  (h:∀k s',Inv X pins σ H s'->Q k->Q' k s'):wpAny (model X.prog X.w) X.A (truthy v) Q' X.xe s:=by
 refine thn (tru_of m pins s σ H x v (fun k H2=>H2=H/\Q k) I rx (truV_mono q fun k z=>⟨rfl,z⟩)) fun k s2 ⟨H2,I2,e2,q2⟩=>?_
 subst e2
 exact h k s2 I2 q2
theorem pe_andV (m:ModOk X.K M) (ha:PE X a ta) (hb:PE X (.BoolOp .And (b::rest) pos) tb):PE X (.BoolOp .And (a::b::rest) pos) (fun σ H Q=>ta σ H fun x H1=>truV M x H1 fun k=>if k=true then tb σ H1 Q else Q x H1):=by
 intro pins s σ H Q I h
 refine BoolOp_and (thn (ha pins s σ H _ I h) fun v s1 ⟨x,H1,I1,r1,q1⟩=>tru_end m I1 r1 q1 fun k s2 I2 q2=>?_)
 cases k with
 | true=>exact hb pins s2 σ H1 Q I2 q2
 | false=>exact⟨x,H1,I2,r1,q2⟩
theorem pe_orV (m:ModOk X.K M) (ha:PE X a ta) (hb:PE X (.BoolOp .Or (b::rest) pos) tb):PE X (.BoolOp .Or (a::b::rest) pos) (fun σ H Q=>ta σ H fun x H1=>truV M x H1 fun k=>if k=true then Q x H1 else tb σ H1 Q):=by
 intro pins s σ H Q I h
 refine BoolOp_or (thn (ha pins s σ H _ I h) fun v s1 ⟨x,H1,I1,r1,q1⟩=>tru_end m I1 r1 q1 fun k s2 I2 q2=>?_)
 cases k with
 | false=>exact hb pins s2 σ H1 Q I2 q2
 | true=>exact⟨x,H1,I2,r1,q2⟩
theorem pe_notV (m:ModOk X.K M) (ha:PE X a ta):PE X (.UnaryOp .Not a pos) (fun σ H Q=>ta σ H fun x H1=>truV M x H1 fun k=>Q (.bl (!k)) H1):=by
 intro pins s σ H Q I h
 refine UnaryOp_ (thn (ha pins s σ H _ I h) fun v s1 ⟨x,H1,I1,r1,q1⟩=>not_of (tru_end m I1 r1 q1 fun k s2 I2 q2=>⟨.bl (!k),H1,I2,rfl,q2⟩))
theorem pt_tru (m:ModOk X.K M) (ha:PE X a ta) (he:∀whole,isTrue a X.env whole=(do let v<-whole;standAt a.pos;holding [v] (truthy v))):PT X a (fun σ H Q=>ta σ H fun x H1=>truV M x H1 fun k=>Q k H1):=by
 intro pins s σ H Q I h
 exact isTrue_plain (thn (ha pins s σ H _ I h) fun v s1 ⟨x,H1,I1,r1,q1⟩=>tru_end m I1 r1 q1 fun k s2 I2 q2=>⟨H1,I2,q2⟩) (he _)
end
section
variable {X:Cx}
theorem star_cons {e:Expr} {es:List Expr} {env:Env} (h:plainE e=true):starEach (e::es) env=(false,eval e env)::starEach es env:=by
 cases e<;>first | rfl | cases h
theorem plain_any:∀ {es:List Expr} {env:Env} {pos:Pos},(∀ e ∈ es,plainE e=true)->(backTo pos (starEach es env)).any (·.1)=false
 | [],_,_,_=>rfl
 | e::es,env,pos,h=>by
  rw[star_cons (h e List.mem_cons_self)]
  show(false || (backTo pos (starEach es env)).any (·.1))=false
  rw[plain_any fun e he=>h e (List.mem_cons_of_mem _ he)]
  rfl
theorem plain_all:∀ {es:List Expr} {env:Env} {pos:Pos},(∀ e ∈ es,plainE e=true)->(backTo pos (starEach es env)).all (fun x=>!x.1)=true
 | [],_,_,_=>rfl
 | e::es,env,pos,h=>by
  rw[star_cons (h e List.mem_cons_self)]
  show((!false) && (backTo pos (starEach es env)).all (fun x=>!x.1))=true
  rw[plain_all fun e he=>h e (List.mem_cons_of_mem _ he)]
  rfl
theorem a2 {a b:Bool} (h:(a && b)=true):a=true/\b=true:=Bool.and_eq_true_iff.mp h
theorem nx_get {N:List Str} {i:Nat} (h:decide (i < N.length)=true):N[i]?=some (nx N i):=by
 have h:=of_decide_eq_true h
 unfold nx
 rw[List.getD_eq_getElem?_getD,List.getElem?_eq_getElem h]
 rfl
theorem bE_plain {N:List Str} (e:Ex) {a:Expr}:plainE (bE N e a)=true:=by cases e<;>rfl
theorem bI_plain {N:List Str} (it:Ix) {a:Expr}:plainE (bI N it a)=true:=by
 cases it with
 | ex e=>exact bE_plain e
 | rng1 _=>rfl
theorem bEs_plain {N:List Str}:∀ (cs:Exs) {es:List Expr},∀e ∈ bEs N cs es,plainE e=true
 | .nil,_=>fun e h=>nomatch (show e ∈ []from h)
 | .cons c r,es=>fun e h=>(List.mem_cons.mp (show e ∈ bE N c (es.headD default)::bEs N r es.tail from h)).elim (fun q=>q ▸ bE_plain c) (bEs_plain r e)
theorem bEs_len {N:List Str}:∀ (cs:Exs) {es:List Expr},(bEs N cs es).length=cs.len
 | .nil,_=>rfl
 | .cons _ r,_=>congrArg (·+ 1) (bEs_len r)
theorem okName_of {x:Str} (h:okName x=true):(x == ("__debug__" :Str))=false/\(x == ("__classdict__" :Str))=false/\x ≠ "__name__" :=by
 unfold okName at h
 simp only[Bool.and_eq_true,Bool.not_eq_true',decide_eq_false_iff_not]at h
 exact⟨h.1.1,h.1.2,h.2⟩
end
end Sw
namespace Sw
open PySem PySem.Spec PyProof.Rows L2
open PySem.W (Frag keepIn ktsIn mroIn kitOne)
theorem boot_bf (f:Bf):bootBuiltins f.name=some (bfV f):=by cases f<;>kernel_rfl
theorem bf_in (f:Bf):f.name ∈ bltNames:=by cases f<;>decide +kernel
theorem in_isin:("isinstance" :Str) ∈ bltNames:=by decide +kernel
theorem in_reversed:("reversed" :Str) ∈ bltNames:=by decide +kernel
theorem in_zip:("zip" :Str) ∈ bltNames:=by decide +kernel
theorem b2_in (f:B2):f.name ∈ bltNames:=by cases f<;>decide +kernel
theorem in_range:("range" :Str) ∈ bltNames:=by decide +kernel
theorem boot_isin:bootBuiltins "isinstance" =some (.builtin "isinstance"):=by kernel_rfl
noncomputable def tyN:Ty->Option String
 | .str=>some "str" | .int=>some "int" | .bool=>some "bool" | .list=>some "list" | .tuple=>some "tuple" | .dict=>some "dict" | .own _=>none
theorem boot_ty:∀ {T:Ty} {n:String},tyN T=some n->bootBuiltins T.name=some (.type n)/\T.name ∈ bltNames:=by
 intro T n h
 cases T<;>first | (cases h;exact⟨by kernel_rfl,by decide +kernel⟩) | cases h
theorem kit_ty {K:Frag} {M:Mo} {H:Hp} {x:V} {T:Ty} {n:String} (h:known M H x=true) (ht:tyN T=some n):∃t,TyOf K H x t/\kitOne K t (.type n)=some (isTy T H x):=by
 cases x with
 | non=>exact⟨_,.non,by cases T<;>first | (cases ht;kernel_rfl) | cases ht⟩
 | bl b=>exact⟨_,.bl b,by cases T<;>first | (cases ht;kernel_rfl) | cases ht⟩
 | int i=>exact⟨_,.int i,by cases T<;>first | (cases ht;kernel_rfl) | cases ht⟩
 | str y=>exact⟨_,.str y,by cases T<;>first | (cases ht;kernel_rfl) | cases ht⟩
 | ref p=>
  unfold known at h
  dsimp only at h
  split at h
  ·rename_i xs e
   exact⟨_,.lst e,by unfold isTy;simp only[e];cases T<;>first | (cases ht;kernel_rfl) | cases ht⟩
  ·rename_i xs e
   exact⟨_,.tup e,by unfold isTy;simp only[e];cases T<;>first | (cases ht;kernel_rfl) | cases ht⟩
  ·rename_i xs e
   exact⟨_,.dK e,by unfold isTy;simp only[e];cases T<;>first | (cases ht;kernel_rfl) | cases ht⟩
  ·rename_i o xs e
   exact⟨_,.frz e,by unfold isTy;simp only[e];cases T<;>first | (cases ht;kernel_rfl) | cases ht⟩
  ·cases h
 | _=>cases h
section
variable {X:Cx} {Γ:Gam} {sc:Scope} {k:Nat} {Ξ:XS}
theorem ld_name {pins:List (Addr × Obj)} {s:Shared} {σ:L2.St} {H:Hp} {x:Str} {u:Value} {pos:Pos} {Q:Value->Shared->Prop} {E:Value->Shared->Prop} (I:Inv X pins σ H s) (hg:Gl X x) (hv:NameVal X.mg x u) (ho:okName x=true) (h:Q u s):
  wpAny (model X.prog X.w) X.A (eval (.Name x pos) X.env) Q E s:=by
 obtain⟨o1,o2,o3⟩:=okName_of ho
 rcases hv with hv | ⟨hv,hb⟩
 ·exact ld_glob I hg hv h o1
 ·exact ld_blt I hg hv hb h o3 o1
theorem pe_isin {a:Expr} {ta:TE} {y:Str} {p py pos:Pos} {R:V->Hp->VK->Prop} (C:Ctx X Γ sc k) (hg:Gl X "isinstance") (ha:PE X a ta) (hp:plainE a=true) (hy:Gl X y) (ho:okName y=true)
  (hR:∀ (pins:List (Addr × Obj)) (s:Shared) (σ:L2.St) (H:Hp) (x:V) (v:Value) (Q:VK),Inv X pins σ H s->RelV x v->R x H Q->∃u,NameVal X.mg y u/\wpAny (model X.prog X.w) X.A (call (.builtin "isinstance") [v,u]) (EP X pins σ Q) X.xe s):
  PE X (.Call (.Name "isinstance" p) [a,.Name y py] [] pos) (fun σ H Q=>ta σ H fun x H1=>R x H1 Q):=by
 intro pins s σ H Q I h
 refine wpAny_Call_Name_kw (ld_blt I hg (C.g.no _ in_isin) boot_isin ?_)
 have hs:=star_cons (env:=X.env) (es:=[.Name y py]) hp
 refine PyProof.Rows.callWith_builtin1 ?_ hs rfl
 rw[hs]
 show wpAny _ _ (spliced ((false,eval a X.env)::backTo pos (starEach [.Name y py] X.env))) _ _ s
 refine Calls.spliced_cons (thn (ha pins s σ H _ I h) fun v s1 ⟨x,H1,I1,r1,q1⟩=>?_)
 obtain⟨u,hv,z⟩:=hR pins s1 σ H1 x v Q I1 r1 q1
 exact Calls.spliced_cons (ld_name I1 hy hv ho (Calls.spliced_nil z))
theorem Ctx.comp {X':Cx} {csc:Scope} {N':List Str} (C:Ctx X Γ sc k) (c:CompOf X X' csc N') (hc:Γ.cm=true):Ctx X' Γ csc k:=by
 have look:∀y,X'.env.scope.names.lookup y=(csc.names.lookup y).map fun k=>if(k == .free && X.env.scope.kind == .function && X.env.kindOf y == some .cell)then .cell else k:=fun y=>by
  rw[c.scope];exact relabel_vis
 refine⟨by rw[c.prog,c.w,c.K,c.mg,c.base];exact C.g,fun h=>by rw[c.A];exact C.room h,fun _=>c.calm,by rw[c.A];exact C.un,fun x h=>?_,fun x h=>?_,fun y h=>?_,let ⟨e0,o0,L,t1,t2,t3⟩:=C.top;⟨e0,o0,L,c.stack.trans t1,t2,c.frame.trans t3⟩⟩
 ·have l:=look x
  unfold isVis at h
  unfold Vis
  split at h
  ·rename_i e;rw[e]at l;exact .inl l
  ·rename_i e;rw[e]at l;exact .inr (.inl l)
  ·rename_i e
   rw[e]at l
   simp only[Option.map_some]at l
   by_cases q:((NameKind.free == NameKind.free) && X.env.scope.kind == .function && X.env.kindOf x == some .cell)=true
   ·rw[if_pos q]at l;exact .inr (.inl l)
   ·rw[if_neg q]at l;exact .inr (.inr l)
  ·cases h
 ·have l:=look x
  unfold isGl at h
  split at h
  ·rename_i e;rw[e]at l;exact l
  ·cases h
 ·have l:=look y
  rcases h with h | h
  ·rw[h]at l;exact .inl l
  ·rw[h]at l
   simp only[Option.map_some]at l
   by_cases q:((NameKind.free == NameKind.free) && X.env.scope.kind == .function && X.env.kindOf y == some .cell)=true
   ·rw[if_pos q]at l;exact .inl l
   ·rw[if_neg q]at l;exact .inr l
end
end Sw
namespace Sw
open PySem PySem.Spec PyProof.Rows L2
open PySem.W (Frag keepIn ktsIn mroIn kitOne)
section
open PySem.SeqAt
variable {X:Cx} {M:Mo} {pins:List (Addr × Obj)} {σ:L2.St} {H:Hp} {s:Shared}
theorem rd_dk {K:Frag} (m:ModOk K M) {p:Addr} {kvs:List (Key × V)} (h:rd M H p=some (.dK kvs)):Rd H p (.dK kvs):=by
 rcases rd_cases h with h | ⟨_,h⟩
 ·exact h
 ·exact(m p _ h).elim
theorem dOf_ref {K:Frag} (m:ModOk K M) {x:V} {kvs:List (Key × V)} (h:dOf M H x=some kvs):∃p,x=.ref p/\Rd H p (.dK kvs):=by
 unfold dOf at h
 cases x with
 | ref p=>
  dsimp only at h
  split at h
  ·rename_i e;cases h;exact⟨p,rfl,rd_dk m e⟩
  ·cases h
 | _=>cases h
theorem idxD_ok (m:ModOk X.K M):IxR X (idxDV M):=by
 intro value slice pins s σ H x y v u Q I rx ry h hs
 unfold idxDV at h
 cases x with
 | ref p=>
  dsimp only at h
  cases (show v=Value.ref p from rx)
  split at h
  ·rename_i kvs e
   split at h
   ·rename_i k ek
    split at h
    ·rename_i y' ev
     obtain⟨z,hd,vs,rel,dd⟩:=dk_rd I.hok (rd_dk m e)
     obtain⟨w',hw,rw'⟩:=RelO.some_of (v:=y') (o:=valueAt vs k) (by rw[<-ev];exact rel.val k)
     rw[dkOf_kV ek]at ry
     exact tail_any dd.mapOf.typeIs PySem.F.slot_dict_getitem.lookup (wpAny_getItem_of (kV_is ry) dd.mapOf hw ⟨y',H,I.tok _,rw',h⟩) hs
    ·exact h.elim
   ·exact h.elim
  ·exact h.elim
 | _=>exact h.elim
theorem cmpD_ok (hu:X.A.units + 64 < cLine) (m:ModOk X.K M) (op:CmpOp):OpR X (compareOp op) (cmpDV M op):=by
 intro pins s σ H x y v u Q I rx ry h
 cases op with
 | In=>
  have h:(match dOf M H y,keyOf x with | some kvs,some k=>Q (.bl (valV kvs k).isSome) H | _,_=>False):=h
  revert h
  split
  ·rename_i kvs k e ek
   intro h0
   obtain⟨p,rfl,rd⟩:=dOf_ref m e
   cases (show u=Value.ref p from ry)
   exact d_in (by omega) I (.inl ⟨kvs,k,rd,dkOf_kV ek,rfl⟩) rx fun s' I'=>⟨.bl _,H,I',rfl,h0⟩
  ·exact fun h=>h.elim
 | NotIn=>
  have h:(match dOf M H y,keyOf x with | some kvs,some k=>Q (.bl (!(valV kvs k).isSome)) H | _,_=>False):=h
  revert h
  split
  ·rename_i kvs k e ek
   intro h0
   obtain⟨p,rfl,rd⟩:=dOf_ref m e
   cases (show u=Value.ref p from ry)
   exact d_notIn (by omega) I (.inl ⟨kvs,k,rd,dkOf_kV ek,rfl⟩) rx fun s' I'=>⟨.bl _,H,I',rfl,h0⟩
  ·exact fun h=>h.elim
 | _=>exact h.elim
end
end Sw
namespace Tm
open PySem PyProof.Rows
noncomputable def gallop':Bool->Keyed->Array Keyed->Nat->Nat->Nat->StateT SortSt Sem (Option Nat):=sortPriv% PySem.Builtin.gallop
noncomputable def beyond (left:Bool) (key:Keyed) (arr:Array Keyed) (base i:Nat):StateT SortSt Sem (Option Bool):=do
 let x<-elem' arr (base + i)
 if left then lt' x key else(do let r<-lt' key x;pure (r.map (!·)))
theorem gallop'_eq (left:Bool) (key:Keyed) (arr:Array Keyed) (base n hint:Nat):gallop' left key arr base n hint=(do
 let bey:=beyond left key arr base
 let mut (last,o):=(0,1)
 let mut (l,h):=(0,0)
 let some right<-bey hint | return none
 if right then
  let mo:=n - hint
  for _ in [0:n] do
   if o ≥ mo then break
   let some more<-bey (hint + o) | return none
   if !more then break
   last:=o
   o:=2 * o + 1
  l:=hint + last + 1
  h:=hint + min o mo
 else
  let mo:=hint + 1
  for _ in [0:n] do
   if o ≥ mo then break
   let some found<-bey (hint - o) | return none
   if found then break
   last:=o
   o:=2 * o + 1
  l:=hint + 1 - min o mo
  h:=hint - last
 for _ in [0:n] do
  if l ≥ h then break
  let m:=l + (h - l) / 2
  let some more<-bey m | return none
  if more then l:=m + 1 else h:=m
 return some h):=rfl
noncomputable def pick {α β:Type _} (x:Option α) (f:α->β) (g:Unit->β):β:=Break.runK.match_1 (fun _=>β) x f g
structure Cmp (prog:Program) (w:World) (A:Around) (E:Value->Shared->Prop) (s:Shared) (κ:SortKind) (D:Keyed->Prop) (less:Keyed->Keyed->Bool):Prop where
 run:∀ (st:SortSt) (x y:Keyed) (Q:Option Bool->SortSt->Prop),kindOf st=κ->D x->D y->Q (some (less x y)) st->wpS (model prog w) A E s (lt' x y) Q st
section
variable {prog:Program} {w:World} {A:Around} {E:Value->Shared->Prop} {s:Shared} {κ:SortKind} {D:Keyed->Prop} {less:Keyed->Keyed->Bool}
noncomputable def AllD (D:Keyed->Prop) (xs:Array Keyed):Prop:=∀x ∈ xs.toList,D x
theorem AllD.at {xs:Array Keyed} (h:AllD D xs) {i:Nat} (hi:i < xs.size):D xs[i]:=h _ (by simp)
theorem wpS_elem {arr:Array Keyed} {i:Nat} {st:SortSt} {Q:Keyed->SortSt->Prop} (h:i < arr.size) (q:Q arr[i] st):wpS (model prog w) A E s (elem' arr i) Q st:=by
 rw[elem'_eq,getElem?_pos arr i h]
 exact wpS_pure q
theorem wpS_beyond (C:Cmp prog w A E s κ D less) {left:Bool} {key:Keyed} {arr:Array Keyed} {base i:Nat} {st:SortSt} {Q:Option Bool->SortSt->Prop} (hk:kindOf st=κ) (ha:AllD D arr) (kd:D key) (h:base + i < arr.size) (q:∀b,Q (some b) st):wpS (model prog w) A E s (beyond left key arr base i) Q st:=by
 unfold beyond
 refine wpS_bind (wpS_elem h ?_)
 cases left with
 | true=>
  rw[if_pos rfl]
  exact C.run st _ _ _ hk (ha.at h) kd (q _)
 | false=>
  rw[if_neg (by decide)]
  refine wpS_bind (C.run st _ _ _ hk kd (ha.at h) (wpS_pure (q _)))
theorem wpS_gallop (C:Cmp prog w A E s κ D less) {left:Bool} {key:Keyed} {arr:Array Keyed} {base n hint:Nat} {st:SortSt} {Q:Option Nat->SortSt->Prop} (hk:kindOf st=κ) (ha:AllD D arr) (kd:D key) (hn:base + n<=arr.size) (hh:hint < n) (q:∀k,k<=n->Q (some k) st):
  wpS (model prog w) A E s (gallop' left key arr base n hint) Q st:=by
 rw[gallop'_eq]
 dsimp only
 have last:∀ (l h:Nat),h<=n->wpS (model prog w) A E s (do
   let __s<-forIn [:n] ((none,l,h):Option (Option Nat) × Nat × Nat) fun x __s=>
    if __s.snd.fst ≥ __s.snd.snd then pure (ForInStep.done (none,__s.snd.fst,__s.snd.snd))
    else do
     let __x<-beyond left key arr base (__s.snd.fst + (__s.snd.snd - __s.snd.fst) / 2)
     match __x with
     | some more=>if more=true then pure (ForInStep.yield (none,__s.snd.fst + (__s.snd.snd - __s.snd.fst) / 2 + 1,__s.snd.snd))else pure (ForInStep.yield (none,__s.snd.fst,__s.snd.fst + (__s.snd.snd - __s.snd.fst) / 2))
     | x=>pure (ForInStep.done (some none,__s.snd.fst,__s.snd.snd))
   pick __s.fst (fun r=>pure r) (fun _=>pure (some __s.snd.snd))) Q st:=fun l h hl=>by
  refine wpS_bind (wpS_mono (wpS_forRange (I:=fun x c st'=>st'=st/\c.1=none/\c.2.2<=n) (Q:=fun c st'=>st'=st/\c.1=none/\c.2.2<=n) ?_ (fun _ _ hh=>hh) ⟨rfl,rfl,hl⟩) ?_)
  ·rintro x ⟨c1,c2,c3⟩ st' _ _ ⟨rfl,rfl,h3⟩
   dsimp only at h3 ⊢
   by_cases hc:c2 ≥ c3
   ·rw[if_pos hc]
    exact wpS_pure ⟨rfl,rfl,h3⟩
   ·rw[if_neg hc]
    refine wpS_bind (wpS_beyond C hk ha kd (by omega) fun b=>?_)
    dsimp only
    cases b with
    | true=>rw[if_pos rfl];exact wpS_pure ⟨rfl,rfl,h3⟩
    | false=>rw[if_neg (by decide)];exact wpS_pure ⟨rfl,rfl,by dsimp only;omega⟩
  ·rintro⟨c1,c2,c3⟩ st' ⟨rfl,h2,h3⟩
   dsimp only at h2 h3
   subst h2
   exact wpS_pure (q _ h3)
 refine wpS_bind (wpS_beyond C hk ha kd (by omega) fun right=>?_)
 dsimp only
 cases right with
 | true=>
  rw[if_pos rfl]
  refine wpS_bind (wpS_mono (wpS_forRange (I:=fun x c st'=>st'=st/\c.1=none) (Q:=fun c st'=>st'=st/\c.1=none) ?_ (fun _ _ hh=>hh) ⟨rfl,rfl⟩) ?_)
  ·rintro x ⟨c1,c2,c3⟩ st' _ _ ⟨rfl,rfl⟩
   dsimp only
   by_cases hc:c3 ≥ n - hint
   ·rw[if_pos hc]
    exact wpS_pure ⟨rfl,rfl⟩
   ·rw[if_neg hc]
    refine wpS_bind (wpS_beyond C hk ha kd (by omega) fun b=>?_)
    dsimp only
    cases b with
    | true=>exact wpS_pure ⟨rfl,rfl⟩
    | false=>exact wpS_pure ⟨rfl,rfl⟩
  ·rintro⟨c1,c2,c3⟩ st' ⟨rfl,h2⟩
   dsimp only at h2
   subst h2
   dsimp only
   exact last (hint + c2 + 1) (hint + min c3 (n - hint)) (by omega)
 | false=>
  rw[if_neg (by decide)]
  refine wpS_bind (wpS_mono (wpS_forRange (I:=fun x c st'=>st'=st/\c.1=none) (Q:=fun c st'=>st'=st/\c.1=none) ?_ (fun _ _ hh=>hh) ⟨rfl,rfl⟩) ?_)
  ·rintro x ⟨c1,c2,c3⟩ st' _ _ ⟨rfl,rfl⟩
   dsimp only
   by_cases hc:c3 ≥ hint + 1
   ·rw[if_pos hc]
    exact wpS_pure ⟨rfl,rfl⟩
   ·rw[if_neg hc]
    refine wpS_bind (wpS_beyond C hk ha kd (by omega) fun b=>?_)
    dsimp only
    cases b with
    | true=>exact wpS_pure ⟨rfl,rfl⟩
    | false=>exact wpS_pure ⟨rfl,rfl⟩
  ·rintro⟨c1,c2,c3⟩ st' ⟨rfl,h2⟩
   dsimp only at h2
   subst h2
   dsimp only
   exact last (hint + 1 - min c3 (hint + 1)) (hint - c2) (by omega)
end
end Tm
namespace Tm
open PySem PyProof.Rows
noncomputable def mergeLo':Array Keyed->Array Keyed->StateT SortSt Sem (Array Keyed):=sortPriv% PySem.Builtin.mergeLo
noncomputable def setMinGallop':Nat->StateT SortSt Sem Unit:=sortPriv% PySem.Builtin.setMinGallop
theorem setMinGallop'_eq (g:Nat):setMinGallop' g=modify fun s=>SortSt.mk' (kindOf s) (arrOf s) (pendingOf s) g (failedOf s):=rfl
@[reducible] noncomputable def G3:=Option (Array Keyed) × Array Keyed × Nat × Nat × Nat × Nat × Nat
@[reducible] noncomputable def G2:=Option (Array Keyed) × Array Keyed × Nat × Nat × Nat × Nat
@[reducible] noncomputable def G1:=Option (Array Keyed) × Array Keyed × Nat × Nat × Nat
section lo
variable (a b:Array Keyed)
noncomputable def fin (out:Array Keyed) (i j:Nat):Array Keyed:=out++a.extract i a.size++b.extract j b.size
noncomputable def fin2 (out:Array Keyed) (i j:Nat):Array Keyed:=out++b.extract j b.size++a.extract i a.size
noncomputable def lo3 (out:Array Keyed) (i j mg ca cb:Nat):StateT SortSt Sem (ForInStep G3):=do
 let x<-elem' a i
 if(i + 1 + 1 == a.size)=true then pure (.done (some (fin2 a b (out.push x) (i + 1) j),out.push x,i + 1,j,mg,ca,cb))
 else if(decide (ca < 7) && decide (cb < 7))=true then pure (.done (none,out.push x,i + 1,j,mg,ca,cb))
 else pure (.yield (none,out.push x,i + 1,j,mg,ca,cb))
noncomputable def lo2 (out:Array Keyed) (i j mg ca cb:Nat):StateT SortSt Sem (ForInStep G3):=do
 let x<-elem' b j
 if(j + 1 == b.size)=true then pure (.done (some (fin a b (out.push x) i (j + 1)),out.push x,i,j + 1,mg,ca,cb))
 else do
  let y<-elem' a i
  let r<-gallop' true y b (j + 1) (b.size - (j + 1)) 0
  match r with
  | some k=>
   if k > 0 then
    if(j + 1 + k == b.size)=true then pure (.done (some (fin a b (out.push x++b.extract (j + 1) (j + 1 + k)) i (j + 1 + k)),out.push x++b.extract (j + 1) (j + 1 + k),i,j + 1 + k,mg,ca,k))
    else lo3 a b (out.push x++b.extract (j + 1) (j + 1 + k)) i (j + 1 + k) mg ca k
   else lo3 a b (out.push x) i (j + 1) mg ca k
  | _=>pure (.done (some (fin a b (out.push x) i (j + 1)),out.push x,i,j + 1,mg,ca,cb))
noncomputable def lo1 (out:Array Keyed) (i j mg ca cb:Nat):StateT SortSt Sem (ForInStep G3):=do
 setMinGallop' mg
 let x<-elem' b j
 let r<-gallop' false x a i (a.size - i) 0
 match r with
 | some k=>
  if k > 0 then
   if(i + k + 1 == a.size)=true then pure (.done (some (fin2 a b (out++a.extract i (i + k)) (i + k) j),out++a.extract i (i + k),i + k,j,mg,k,cb))
   else if(i + k == a.size)=true then pure (.done (some (fin a b (out++a.extract i (i + k)) (i + k) j),out++a.extract i (i + k),i + k,j,mg,k,cb))
   else lo2 a b (out++a.extract i (i + k)) (i + k) j mg k cb
  else lo2 a b out i j mg k cb
 | _=>pure (.done (some (fin a b out i j),out,i,j,mg,ca,cb))
noncomputable def lo0 (mg:Nat) (out:Array Keyed) (i j ca cb:Nat):StateT SortSt Sem (ForInStep G2):=do
 let x<-elem' b j
 let y<-elem' a i
 let r<-lt' x y
 match r with
 | some bw=>
  if bw=true then do
   let x<-elem' b j
   if(j + 1 == b.size)=true then pure (.done (some (fin a b (out.push x) i (j + 1)),out.push x,i,j + 1,0,cb + 1))
   else if cb + 1 ≥ mg then pure (.done (none,out.push x,i,j + 1,0,cb + 1))
   else pure (.yield (none,out.push x,i,j + 1,0,cb + 1))
  else do
   let x<-elem' a i
   if(i + 1 + 1 == a.size)=true then pure (.done (some (fin2 a b (out.push x) (i + 1) j),out.push x,i + 1,j,ca + 1,0))
   else if ca + 1 ≥ mg then pure (.done (none,out.push x,i + 1,j,ca + 1,0))
   else pure (.yield (none,out.push x,i + 1,j,ca + 1,0))
 | _=>pure (.done (some (fin a b out i j),out,i,j,ca,cb))
noncomputable def loT (all:Nat) (c:G1):StateT SortSt Sem (ForInStep G1):=do
 let d<-forIn [0:all] ((none,c.2.1,c.2.2.1,c.2.2.2.1,0,0):G2) fun _ d=>lo0 a b c.2.2.2.2 d.2.1 d.2.2.1 d.2.2.2.1 d.2.2.2.2.1 d.2.2.2.2.2
 pick d.1 (fun r=>pure (.done (some r,d.2.1,d.2.2.1,d.2.2.2.1,c.2.2.2.2))) fun _=>do
  liftM (rule "list.sort.gallop")
  let e<-forIn [0:all] ((none,d.2.1,d.2.2.1,d.2.2.2.1,c.2.2.2.2 + 1,d.2.2.2.2.1,d.2.2.2.2.2):G3) fun _ e=>if e.2.2.2.2.1 > 1 then lo1 a b e.2.1 e.2.2.1 e.2.2.2.1 (e.2.2.2.2.1 - 1) e.2.2.2.2.2.1 e.2.2.2.2.2.2 else lo1 a b e.2.1 e.2.2.1 e.2.2.2.1 e.2.2.2.2.1 e.2.2.2.2.2.1 e.2.2.2.2.2.2
  pick e.1 (fun r=>pure (.done (some r,e.2.1,e.2.2.1,e.2.2.2.1,e.2.2.2.2.1))) fun _=>do
   setMinGallop' (e.2.2.2.2.1 + 1)
   pure (.yield (none,e.2.1,e.2.2.1,e.2.2.2.1,e.2.2.2.2.1 + 1))
theorem mergeLo'_eq:mergeLo' a b=(do
 liftM (rule "list.sort.merge-lo")
 let x<-elem' b 0
 if(1 == b.size)=true then pure (fin a b #[x] 0 1)
 else if(0 + 1 == a.size)=true then pure (fin2 a b #[x] 0 1)
 else do
  let st<-get
  let c<-forIn [0:a.size + b.size] ((none,#[x],0,1,gallopOf st):G1) fun _ c=>loT a b (a.size + b.size) c
  pick c.1 (fun r=>pure r) fun _=>liftM (unsupported "internal:list.sort.merge-bound" :Sem (Array Keyed))):=rfl
end lo
theorem pick_some {α β:Type _} {x:α} {f:α->β} {g:Unit->β}:pick (some x) f g=f x:=rfl
theorem pick_none {α β:Type _} {f:α->β} {g:Unit->β}:pick none f g=g ():=rfl
structure Same (st st':SortSt):Prop where
 kind:kindOf st'=kindOf st
 arr:arrOf st'=arrOf st
 pend:pendingOf st'=pendingOf st
 fail:failedOf st'=failedOf st
theorem Same.refl {st:SortSt}:Same st st:=⟨rfl,rfl,rfl,rfl⟩
theorem Same.trans {a b c:SortSt} (h:Same a b) (k:Same b c):Same a c:=⟨k.kind.trans h.kind,k.arr.trans h.arr,k.pend.trans h.pend,k.fail.trans h.fail⟩
section perm
variable {a b:Array Keyed}
noncomputable def Tk (a b out:Array Keyed) (i j:Nat):Prop:=out.toList.Perm (a.toList.take i++b.toList.take j)
theorem take_one {α:Type} {l:List α} {i:Nat} {x:α} (h:l[i]?=some x):l.take (i + 1)=l.take i++[x]:=by
 rw[List.take_succ,h];rfl
theorem Tk.pushA {out:Array Keyed} {i j:Nat} (h:Tk a b out i j) (hi:i < a.size):Tk a b (out.push a[i]) (i + 1) j:=by
 unfold Tk at h ⊢
 rw[Array.toList_push,take_one (x:=a[i]) (by simp[hi]),List.append_assoc]
 refine(h.append_right _).trans ?_
 rw[List.append_assoc]
 exact(List.perm_append_comm (l₁:=b.toList.take j)).append_left _
theorem Tk.pushB {out:Array Keyed} {i j:Nat} (h:Tk a b out i j) (hj:j < b.size):Tk a b (out.push b[j]) i (j + 1):=by
 unfold Tk at h ⊢
 rw[Array.toList_push,take_one (x:=b[j]) (by simp[hj]),<-List.append_assoc]
 exact h.append_right _
theorem cut_list (a:Array Keyed) (i k:Nat):(a.extract i (i + k)).toList=(a.toList.drop i).take k:=by
 rw[Array.toList_extract,List.extract_eq_take_drop]
 congr 1
 omega
theorem rest_list (a:Array Keyed) (i:Nat):(a.extract i a.size).toList=a.toList.drop i:=by
 rw[Array.toList_extract,List.extract_eq_take_drop]
 refine List.take_of_length_le ?_
 simp
theorem take_add {α:Type} (l:List α) (i k:Nat):l.take (i + k)=l.take i++(l.drop i).take k:=List.take_add
theorem Tk.extA {out:Array Keyed} {i j k:Nat} (h:Tk a b out i j):Tk a b (out++a.extract i (i + k)) (i + k) j:=by
 unfold Tk at h ⊢
 rw[Array.toList_append,cut_list,take_add,List.append_assoc]
 refine(h.append_right _).trans ?_
 rw[List.append_assoc]
 exact List.perm_append_comm.append_left _
theorem Tk.extB {out:Array Keyed} {i j k:Nat} (h:Tk a b out i j):Tk a b (out++b.extract j (j + k)) i (j + k):=by
 unfold Tk at h ⊢
 rw[Array.toList_append,cut_list,take_add,<-List.append_assoc]
 exact h.append_right _
theorem perm4 {α:Type} (p q r t:List α):((p++q)++(r++t)).Perm ((p++r)++(q++t)):=by
 rw[List.append_assoc,List.append_assoc]
 refine List.Perm.append_left _ ?_
 rw[<-List.append_assoc,<-List.append_assoc]
 exact List.perm_append_comm.append_right _
theorem Tk.fin {out:Array Keyed} {i j:Nat} (h:Tk a b out i j):(Tm.fin a b out i j).toList.Perm (a.toList++b.toList):=by
 unfold Tm.fin
 rw[Array.toList_append,Array.toList_append,rest_list,rest_list,List.append_assoc]
 refine(h.append_right _).trans ?_
 refine(perm4 _ _ _ _).trans ?_
 rw[List.take_append_drop,List.take_append_drop]
theorem Tk.fin2 {out:Array Keyed} {i j:Nat} (h:Tk a b out i j):(Tm.fin2 a b out i j).toList.Perm (a.toList++b.toList):=by
 refine List.Perm.trans ?_ h.fin
 unfold Tm.fin2 Tm.fin
 rw[Array.toList_append,Array.toList_append,Array.toList_append,Array.toList_append,List.append_assoc,List.append_assoc]
 exact List.perm_append_comm.append_left _
end perm
section
variable {prog:Program} {w:World} {A:Around} {E:Value->Shared->Prop} {s:Shared} {κ:SortKind} {D:Keyed->Prop} {less:Keyed->Keyed->Bool} {a b:Array Keyed} {st:SortSt}
theorem wpS_setMin {g:Nat} {Q:Unit->SortSt->Prop} {st:SortSt} (h:∀st',Same st st'->Q () st'):wpS (model prog w) A E s (setMinGallop' g) Q st:=by
 rw[setMinGallop'_eq]
 exact wpS_modify (h _ ⟨rfl,rfl,rfl,rfl⟩)
noncomputable def Go3 (a b:Array Keyed) (st:SortSt) (n0:Nat) (r:ForInStep G3) (st':SortSt):Prop:=Same st st'/\match r with
 | .done c=>(∃ m,c.1=some m/\m.toList.Perm (a.toList++b.toList))\/(c.1=none/\Tk a b c.2.1 c.2.2.1 c.2.2.2.1/\c.2.2.1 + 1 < a.size/\c.2.2.2.1 < b.size/\n0<=c.2.2.1 + c.2.2.2.1)
 | .yield c=>c.1=none/\Tk a b c.2.1 c.2.2.1 c.2.2.2.1/\c.2.2.1 + 1 < a.size/\c.2.2.2.1 < b.size/\n0<=c.2.2.1 + c.2.2.2.1
theorem wpS_lo3 {out:Array Keyed} {i j mg ca cb n0:Nat} {st':SortSt} (ss:Same st st') (t:Tk a b out i j) (hi:i + 1 < a.size) (hj:j < b.size) (hn:n0<=i + j):wpS (model prog w) A E s (lo3 a b out i j mg ca cb) (Go3 a b st n0) st':=by
 unfold lo3
 have hi':i < a.size:=by omega
 refine wpS_bind (wpS_elem hi' ?_)
 have t':=t.pushA hi'
 by_cases h:(i + 1 + 1 == a.size)=true
 ·rw[if_pos h]
  exact wpS_pure ⟨ss,.inl ⟨_,rfl,t'.fin2⟩⟩
 ·rw[if_neg h]
  have h':i + 1 + 1 ≠ a.size:=by simpa using h
  by_cases h2:(decide (ca < 7) && decide (cb < 7))=true
  ·rw[if_pos h2]
   exact wpS_pure ⟨ss,.inr ⟨rfl,t',by dsimp only;omega,hj,by dsimp only;omega⟩⟩
  ·rw[if_neg h2]
   exact wpS_pure ⟨ss,rfl,t',by dsimp only;omega,hj,by dsimp only;omega⟩
theorem wpS_lo2 (C:Cmp prog w A E s κ D less) (hk:kindOf st=κ) (da:AllD D a) (db:AllD D b) {out:Array Keyed} {i j mg ca cb n0:Nat} {st':SortSt} (ss:Same st st') (t:Tk a b out i j) (hi:i + 1 < a.size) (hj:j < b.size) (hn:n0<=i + j):wpS (model prog w) A E s (lo2 a b out i j mg ca cb) (Go3 a b st n0) st':=by
 unfold lo2
 have hi':i < a.size:=by omega
 refine wpS_bind (wpS_elem hj ?_)
 have t':=t.pushB hj
 by_cases h:(j + 1 == b.size)=true
 ·rw[if_pos h]
  exact wpS_pure ⟨ss,.inl ⟨_,rfl,t'.fin⟩⟩
 ·rw[if_neg h]
  have h':j + 1 ≠ b.size:=by simpa using h
  refine wpS_bind (wpS_elem hi' (wpS_bind (wpS_gallop C (ss.kind.trans hk) db (da.at hi') (by omega) (by omega) fun k kl=>?_)))
  dsimp only
  by_cases hk0:k > 0
  ·rw[if_pos hk0]
   by_cases h2:(j + 1 + k == b.size)=true
   ·rw[if_pos h2]
    exact wpS_pure ⟨ss,.inl ⟨_,rfl,t'.extB.fin⟩⟩
   ·rw[if_neg h2]
    have h2':j + 1 + k ≠ b.size:=by simpa using h2
    exact wpS_lo3 ss t'.extB hi (by omega) (by omega)
  ·rw[if_neg hk0]
   exact wpS_lo3 ss t' hi (by omega) (by omega)
theorem wpS_lo1 (C:Cmp prog w A E s κ D less) (hk:kindOf st=κ) (da:AllD D a) (db:AllD D b) {out:Array Keyed} {i j mg ca cb n0:Nat} {st':SortSt} (ss:Same st st') (t:Tk a b out i j) (hi:i + 1 < a.size) (hj:j < b.size) (hn:n0<=i + j):wpS (model prog w) A E s (lo1 a b out i j mg ca cb) (Go3 a b st n0) st':=by
 unfold lo1
 refine wpS_bind (wpS_setMin fun st2 s2=>?_)
 have ss:=ss.trans s2
 refine wpS_bind (wpS_elem hj (wpS_bind (wpS_gallop C (ss.kind.trans hk) da (db.at hj) (by omega) (by omega) fun k kl=>?_)))
 dsimp only
 by_cases hk0:k > 0
 ·rw[if_pos hk0]
  by_cases h1:(i + k + 1 == a.size)=true
  ·rw[if_pos h1]
   exact wpS_pure ⟨ss,.inl ⟨_,rfl,t.extA.fin2⟩⟩
  ·rw[if_neg h1]
   have h1':i + k + 1 ≠ a.size:=by simpa using h1
   by_cases h2:(i + k == a.size)=true
   ·rw[if_pos h2]
    exact wpS_pure ⟨ss,.inl ⟨_,rfl,t.extA.fin⟩⟩
   ·rw[if_neg h2]
    have h2':i + k ≠ a.size:=by simpa using h2
    exact wpS_lo2 C hk da db ss t.extA (by omega) hj (by omega)
 ·rw[if_neg hk0]
  exact wpS_lo2 C hk da db ss t hi hj hn
noncomputable def Go2 (a b:Array Keyed) (st:SortSt) (n0:Nat) (r:ForInStep G2) (st':SortSt):Prop:=Same st st'/\match r with
 | .done c=>(∃ m,c.1=some m/\m.toList.Perm (a.toList++b.toList))\/(c.1=none/\Tk a b c.2.1 c.2.2.1 c.2.2.2.1/\c.2.2.1 + 1 < a.size/\c.2.2.2.1 < b.size/\n0<=c.2.2.1 + c.2.2.2.1)
 | .yield c=>c.1=none/\Tk a b c.2.1 c.2.2.1 c.2.2.2.1/\c.2.2.1 + 1 < a.size/\c.2.2.2.1 < b.size/\n0<=c.2.2.1 + c.2.2.2.1
theorem wpS_lo0 (C:Cmp prog w A E s κ D less) (hk:kindOf st=κ) (da:AllD D a) (db:AllD D b) {out:Array Keyed} {i j mg ca cb n0:Nat} {st':SortSt} (ss:Same st st') (t:Tk a b out i j) (hi:i + 1 < a.size) (hj:j < b.size) (hn:n0<=i + j):wpS (model prog w) A E s (lo0 a b mg out i j ca cb) (Go2 a b st (n0 + 1)) st':=by
 unfold lo0
 have hi':i < a.size:=by omega
 refine wpS_bind (wpS_elem hj (wpS_bind (wpS_elem hi' (wpS_bind (C.run st' _ _ _ (ss.kind.trans hk) (db.at hj) (da.at hi') ?_)))))
 dsimp only
 cases less b[j] a[i]with
 | true=>
  rw[if_pos rfl]
  refine wpS_bind (wpS_elem hj ?_)
  have t':=t.pushB hj
  by_cases h:(j + 1 == b.size)=true
  ·rw[if_pos h]
   exact wpS_pure ⟨ss,.inl ⟨_,rfl,t'.fin⟩⟩
  ·rw[if_neg h]
   have h':j + 1 ≠ b.size:=by simpa using h
   by_cases h2:cb + 1 ≥ mg
   ·rw[if_pos h2]
    exact wpS_pure ⟨ss,.inr ⟨rfl,t',hi,by dsimp only;omega,by dsimp only;omega⟩⟩
   ·rw[if_neg h2]
    exact wpS_pure ⟨ss,rfl,t',hi,by dsimp only;omega,by dsimp only;omega⟩
 | false=>
  rw[if_neg (by decide)]
  refine wpS_bind (wpS_elem hi' ?_)
  have t':=t.pushA hi'
  by_cases h:(i + 1 + 1 == a.size)=true
  ·rw[if_pos h]
   exact wpS_pure ⟨ss,.inl ⟨_,rfl,t'.fin2⟩⟩
  ·rw[if_neg h]
   have h':i + 1 + 1 ≠ a.size:=by simpa using h
   by_cases h2:ca + 1 ≥ mg
   ·rw[if_pos h2]
    exact wpS_pure ⟨ss,.inr ⟨rfl,t',by dsimp only;omega,hj,by dsimp only;omega⟩⟩
   ·rw[if_neg h2]
    exact wpS_pure ⟨ss,rfl,t',by dsimp only;omega,hj,by dsimp only;omega⟩
theorem wpS_loT (C:Cmp prog w A E s κ D less) (hk:kindOf st=κ) (da:AllD D a) (db:AllD D b) {all n0:Nat} {c:G1} {st':SortSt} (h0:0 < all) (ss:Same st st') (t:Tk a b c.2.1 c.2.2.1 c.2.2.2.1) (hi:c.2.2.1 + 1 < a.size) (hj:c.2.2.2.1 < b.size) (hn:n0<=c.2.2.1 + c.2.2.2.1):
  wpS (model prog w) A E s (loT a b all c) (fun r st'=>Same st st'/\match r with
   | .done c=>∃m,c.1=some m/\m.toList.Perm (a.toList++b.toList)
   | .yield c=>c.1=none/\Tk a b c.2.1 c.2.2.1 c.2.2.2.1/\c.2.2.1 + 1 < a.size/\c.2.2.2.1 < b.size/\n0 + 1<=c.2.2.1 + c.2.2.2.1) st':=by
 unfold loT
 refine wpS_bind (wpS_mono (wpS_forRange
  (I:=fun x c st'=>Same st st'/\c.1=none/\Tk a b c.2.1 c.2.2.1 c.2.2.2.1/\c.2.2.1 + 1 < a.size/\c.2.2.2.1 < b.size/\n0 + min x 1<=c.2.2.1 + c.2.2.2.1)
  (Q:=fun c st'=>Same st st'/\((∃ m,c.1=some m/\m.toList.Perm (a.toList++b.toList))\/(c.1=none/\Tk a b c.2.1 c.2.2.1 c.2.2.2.1/\c.2.2.1 + 1 < a.size/\c.2.2.2.1 < b.size/\n0 + 1<=c.2.2.1 + c.2.2.2.1))) ?_ ?_ ⟨ss,rfl,t,hi,hj,by dsimp only;omega⟩) ?_)
 ·rintro x d st2 _ _ ⟨h1,h2,h3,h4,h5,h6⟩
  refine wpS_mono (wpS_lo0 (n0:=n0) C hk da db h1 h3 h4 h5 (by omega)) fun r st3 hr=>?_
  obtain⟨k1,k2⟩:=hr
  cases r with
  | done d=>exact⟨k1,k2⟩
  | yield d=>exact⟨k1,k2.1,k2.2.1,k2.2.2.1,k2.2.2.2.1,by have:=k2.2.2.2.2;omega⟩
 ·rintro d st2 ⟨h1,h2,h3,h4,h5,h6⟩
  exact⟨h1,.inr ⟨h2,h3,h4,h5,by omega⟩⟩
 ·rintro d st2 ⟨h1,⟨m,e,hm⟩ | ⟨e,h3,h4,h5,h6⟩⟩
  ·rw[e,pick_some]
   exact wpS_pure ⟨h1,m,rfl,hm⟩
  ·rw[e,pick_none]
   refine wpS_bind (wpS_lift (wpAny_rule ⟨rfl,?_⟩))
   refine wpS_bind (wpS_mono (wpS_forRange
    (I:=fun x c st'=>Same st st'/\c.1=none/\Tk a b c.2.1 c.2.2.1 c.2.2.2.1/\c.2.2.1 + 1 < a.size/\c.2.2.2.1 < b.size/\n0 + 1<=c.2.2.1 + c.2.2.2.1)
    (Q:=fun c st'=>Same st st'/\((∃ m,c.1=some m/\m.toList.Perm (a.toList++b.toList))\/(c.1=none/\Tk a b c.2.1 c.2.2.1 c.2.2.2.1/\c.2.2.1 + 1 < a.size/\c.2.2.2.1 < b.size/\n0 + 1<=c.2.2.1 + c.2.2.2.1))) ?_ ?_ ⟨h1,rfl,h3,h4,h5,h6⟩) ?_)
   ·rintro x e st3 _ _ ⟨g1,g2,g3,g4,g5,g6⟩
    have go:∀mg,wpS (model prog w) A E s (lo1 a b e.2.1 e.2.2.1 e.2.2.2.1 mg e.2.2.2.2.2.1 e.2.2.2.2.2.2) (Go3 a b st (n0 + 1)) st3:=fun mg=>wpS_lo1 (n0:=n0 + 1) C hk da db g1 g3 g4 g5 g6
    split
    ·refine wpS_mono (go _) fun r st4 hr=>?_
     obtain⟨k1,k2⟩:=hr
     cases r with
     | done d=>exact⟨k1,k2⟩
     | yield d=>exact⟨k1,k2⟩
    ·refine wpS_mono (go _) fun r st4 hr=>?_
     obtain⟨k1,k2⟩:=hr
     cases r with
     | done d=>exact⟨k1,k2⟩
     | yield d=>exact⟨k1,k2⟩
   ·rintro e st3 ⟨g1,g2,g3,g4,g5,g6⟩
    exact⟨g1,.inr ⟨g2,g3,g4,g5,g6⟩⟩
   ·rintro e st3 ⟨g1,⟨m,e1,hm⟩ | ⟨e1,g3,g4,g5,g6⟩⟩
    ·rw[e1,pick_some]
     exact wpS_pure ⟨g1,m,rfl,hm⟩
    ·rw[e1,pick_none]
     exact wpS_bind (wpS_setMin fun st4 s4=>wpS_pure ⟨g1.trans s4,rfl,g3,g4,g5,g6⟩)
theorem wpS_mergeLo (C:Cmp prog w A E s κ D less) (hk:kindOf st=κ) (da:AllD D a) (db:AllD D b) (ha:1<=a.size) (hb:1<=b.size) {Q:Array Keyed->SortSt->Prop} (q:∀m st',Same st st'->m.toList.Perm (a.toList++b.toList)->Q m st'):
  wpS (model prog w) A E s (mergeLo' a b) Q st:=by
 rw[mergeLo'_eq]
 refine wpS_bind (wpS_lift (wpAny_rule ⟨rfl,?_⟩))
 have hb':0 < b.size:=by omega
 refine wpS_bind (wpS_elem hb' ?_)
 have t:Tk a b #[b[0]] 0 1:=by
  unfold Tk
  have:=take_one (l:=b.toList) (i:=0) (x:=b[0]) (by simp[hb'])
  rw[this]
  simp
 by_cases h1:(1 == b.size)=true
 ·rw[if_pos h1]
  exact wpS_pure (q _ _ .refl t.fin)
 ·rw[if_neg h1]
  have h1':1 ≠ b.size:=by simpa using h1
  by_cases h2:(0 + 1 == a.size)=true
  ·rw[if_pos h2]
   exact wpS_pure (q _ _ .refl t.fin2)
  ·rw[if_neg h2]
   have h2':0 + 1 ≠ a.size:=by simpa using h2
   refine wpS_bind (wpS_get (wpS_bind (wpS_mono (wpS_forRange
    (I:=fun x c st'=>Same st st'/\c.1=none/\Tk a b c.2.1 c.2.2.1 c.2.2.2.1/\c.2.2.1 + 1 < a.size/\c.2.2.2.1 < b.size/\x + 1<=c.2.2.1 + c.2.2.2.1)
    (Q:=fun c st'=>Same st st'/\∃m,c.1=some m/\m.toList.Perm (a.toList++b.toList)) ?_ ?_ ⟨.refl,rfl,t,by dsimp only;omega,by dsimp only;omega,by dsimp only;omega⟩) ?_)))
   ·rintro x c st2 _ _ ⟨g1,g2,g3,g4,g5,g6⟩
    refine wpS_mono (wpS_loT (n0:=x + 1) C hk da db (by omega) g1 g3 g4 g5 g6) fun r st3 hr=>?_
    obtain⟨k1,k2⟩:=hr
    cases r with
    | done d=>exact⟨k1,k2⟩
    | yield d=>exact⟨k1,k2⟩
   ·rintro c st2 ⟨g1,g2,g3,g4,g5,g6⟩
    omega
   ·rintro c st2 ⟨g1,m,e,hm⟩
    rw[e,pick_some]
    exact wpS_pure (q m _ g1 hm)
end
end Tm
namespace Tm
open PySem PyProof.Rows
noncomputable def mergeHi':Array Keyed->Array Keyed->StateT SortSt Sem (Array Keyed):=sortPriv% PySem.Builtin.mergeHi
@[reducible] noncomputable def H3:=Option (Array Keyed) × Nat × Nat × Array Keyed × Nat × Nat × Nat
@[reducible] noncomputable def H2:=Option (Array Keyed) × Nat × Nat × Array Keyed × Nat × Nat
@[reducible] noncomputable def H1:=Option (Array Keyed) × Nat × Nat × Array Keyed × Nat
section hi
variable (a b:Array Keyed)
noncomputable def hin (i j:Nat) (out:Array Keyed):Array Keyed:=a.extract 0 i++b.extract 0 j++out.reverse
noncomputable def hin2 (i j:Nat) (out:Array Keyed):Array Keyed:=b.extract 0 j++a.extract 0 i++out.reverse
noncomputable def hi3 (i j:Nat) (out:Array Keyed) (mg ca cb:Nat):StateT SortSt Sem (ForInStep H3):=do
 let x<-elem' a (i - 1)
 if(i - 1 == 0)=true then pure (.done (some (hin a b (i - 1) j (out.push x)),i - 1,j,out.push x,mg,ca,cb))
 else if(decide (ca < 7) && decide (cb < 7))=true then pure (.done (none,i - 1,j,out.push x,mg,ca,cb))
 else pure (.yield (none,i - 1,j,out.push x,mg,ca,cb))
noncomputable def hi2 (i j:Nat) (out:Array Keyed) (mg ca cb:Nat):StateT SortSt Sem (ForInStep H3):=do
 let x<-elem' b (j - 1)
 if(j - 1 == 1)=true then pure (.done (some (hin2 a b i (j - 1) (out.push x)),i,j - 1,out.push x,mg,ca,cb))
 else do
  let y<-elem' a (i - 1)
  let r<-gallop' true y b 0 (j - 1) (j - 1 - 1)
  match r with
  | some k=>
   if j - 1 - k > 0 then
    if(k == 1)=true then pure (.done (some (hin2 a b i k (out.push x++(b.extract k (j - 1)).reverse)),i,k,out.push x++(b.extract k (j - 1)).reverse,mg,ca,j - 1 - k))
    else if(k == 0)=true then pure (.done (some (hin a b i k (out.push x++(b.extract k (j - 1)).reverse)),i,k,out.push x++(b.extract k (j - 1)).reverse,mg,ca,j - 1 - k))
    else hi3 a b i k (out.push x++(b.extract k (j - 1)).reverse) mg ca (j - 1 - k)
   else hi3 a b i (j - 1) (out.push x) mg ca (j - 1 - k)
  | _=>pure (.done (some (hin a b i (j - 1) (out.push x)),i,j - 1,out.push x,mg,ca,cb))
noncomputable def hi1 (i j:Nat) (out:Array Keyed) (mg ca cb:Nat):StateT SortSt Sem (ForInStep H3):=do
 setMinGallop' mg
 let x<-elem' b (j - 1)
 let r<-gallop' false x a 0 i (i - 1)
 match r with
 | some k=>
  if i - k > 0 then
   if(k == 0)=true then pure (.done (some (hin a b k j (out++(a.extract k i).reverse)),k,j,out++(a.extract k i).reverse,mg,i - k,cb))
   else hi2 a b k j (out++(a.extract k i).reverse) mg (i - k) cb
  else hi2 a b i j out mg (i - k) cb
 | _=>pure (.done (some (hin a b i j out),i,j,out,mg,ca,cb))
noncomputable def hi0 (mg:Nat) (i j:Nat) (out:Array Keyed) (ca cb:Nat):StateT SortSt Sem (ForInStep H2):=do
 let x<-elem' b (j - 1)
 let y<-elem' a (i - 1)
 let r<-lt' x y
 match r with
 | some aw=>
  if aw=true then do
   let x<-elem' a (i - 1)
   if(i - 1 == 0)=true then pure (.done (some (hin a b (i - 1) j (out.push x)),i - 1,j,out.push x,ca + 1,0))
   else if ca + 1 ≥ mg then pure (.done (none,i - 1,j,out.push x,ca + 1,0))
   else pure (.yield (none,i - 1,j,out.push x,ca + 1,0))
  else do
   let x<-elem' b (j - 1)
   if(j - 1 == 1)=true then pure (.done (some (hin2 a b i (j - 1) (out.push x)),i,j - 1,out.push x,0,cb + 1))
   else if cb + 1 ≥ mg then pure (.done (none,i,j - 1,out.push x,0,cb + 1))
   else pure (.yield (none,i,j - 1,out.push x,0,cb + 1))
 | _=>pure (.done (some (hin a b i j out),i,j,out,ca,cb))
noncomputable def hiT (all:Nat) (c:H1):StateT SortSt Sem (ForInStep H1):=do
 let d<-forIn [0:all] ((none,c.2.1,c.2.2.1,c.2.2.2.1,0,0):H2) fun _ d=>hi0 a b c.2.2.2.2 d.2.1 d.2.2.1 d.2.2.2.1 d.2.2.2.2.1 d.2.2.2.2.2
 pick d.1 (fun r=>pure (.done (some r,d.2.1,d.2.2.1,d.2.2.2.1,c.2.2.2.2))) fun _=>do
  liftM (rule "list.sort.gallop")
  let e<-forIn [0:all] ((none,d.2.1,d.2.2.1,d.2.2.2.1,c.2.2.2.2 + 1,d.2.2.2.2.1,d.2.2.2.2.2):H3) fun _ e=>if e.2.2.2.2.1 > 1 then hi1 a b e.2.1 e.2.2.1 e.2.2.2.1 (e.2.2.2.2.1 - 1) e.2.2.2.2.2.1 e.2.2.2.2.2.2 else hi1 a b e.2.1 e.2.2.1 e.2.2.2.1 e.2.2.2.2.1 e.2.2.2.2.2.1 e.2.2.2.2.2.2
  pick e.1 (fun r=>pure (.done (some r,e.2.1,e.2.2.1,e.2.2.2.1,e.2.2.2.2.1))) fun _=>do
   setMinGallop' (e.2.2.2.2.1 + 1)
   pure (.yield (none,e.2.1,e.2.2.1,e.2.2.2.1,e.2.2.2.2.1 + 1))
theorem mergeHi'_eq:mergeHi' a b=(do
 liftM (rule "list.sort.merge-hi")
 let x<-elem' a (a.size - 1)
 if(a.size - 1 == 0)=true then pure (hin a b (a.size - 1) b.size #[x])
 else if(b.size == 1)=true then pure (hin2 a b (a.size - 1) b.size #[x])
 else do
  let st<-get
  let c<-forIn [0:a.size + b.size] ((none,a.size - 1,b.size,#[x],gallopOf st):H1) fun _ c=>hiT a b (a.size + b.size) c
  pick c.1 (fun r=>pure r) fun _=>liftM (unsupported "internal:list.sort.merge-bound" :Sem (Array Keyed))):=rfl
end hi
section perm
variable {a b:Array Keyed}
noncomputable def Th (a b:Array Keyed) (i j:Nat) (out:Array Keyed):Prop:=out.toList.Perm (a.toList.drop i++b.toList.drop j)
theorem drop_one {α:Type} {l:List α} {i:Nat} {x:α} (h:l[i]?=some x):l.drop i=x::l.drop (i + 1):=by
 obtain⟨h1,h2⟩:=List.getElem?_eq_some_iff.mp h
 rw[List.drop_eq_getElem_cons h1,h2]
theorem Th.pushA {out:Array Keyed} {i j:Nat} (h:Th a b i j out) (h0:0 < i) (hi:i - 1 < a.size):Th a b (i - 1) j (out.push a[i - 1]):=by
 unfold Th at h ⊢
 rw[Array.toList_push,drop_one (l:=a.toList) (i:=i - 1) (x:=a[i - 1]) (by simp[hi])]
 have e:i - 1 + 1=i:=by omega
 rw[e]
 exact(List.perm_append_comm (l₁:=out.toList) (l₂:=[a[i - 1]])).trans (h.cons _)
theorem Th.pushB {out:Array Keyed} {i j:Nat} (h:Th a b i j out) (h0:0 < j) (hj:j - 1 < b.size):Th a b i (j - 1) (out.push b[j - 1]):=by
 unfold Th at h ⊢
 rw[Array.toList_push,drop_one (l:=b.toList) (i:=j - 1) (x:=b[j - 1]) (by simp[hj])]
 have e:j - 1 + 1=j:=by omega
 rw[e]
 exact(List.perm_append_comm (l₁:=out.toList) (l₂:=[b[j - 1]])).trans ((h.cons _).trans List.perm_middle.symm)
theorem seg_list (a:Array Keyed) {k i:Nat} (h:k<=i):(a.extract k i).toList++a.toList.drop i=a.toList.drop k:=by
 rw[Array.toList_extract,List.extract_eq_take_drop]
 have e:a.toList.drop i=(a.toList.drop k).drop (i - k):=by rw[List.drop_drop];congr 1;omega
 rw[e,List.take_append_drop]
theorem Th.extA {out:Array Keyed} {i j k:Nat} (h:Th a b i j out) (hk:k<=i):Th a b k j (out++(a.extract k i).reverse):=by
 unfold Th at h ⊢
 rw[Array.toList_append,Array.toList_reverse,<-seg_list a hk,List.append_assoc]
 exact((h.append (List.reverse_perm _)).trans List.perm_append_comm)
theorem Th.extB {out:Array Keyed} {i j k:Nat} (h:Th a b i j out) (hk:k<=j):Th a b i k (out++(b.extract k j).reverse):=by
 unfold Th at h ⊢
 rw[Array.toList_append,Array.toList_reverse,<-seg_list b hk]
 refine(h.append (List.reverse_perm _)).trans ?_
 rw[List.append_assoc]
 exact List.perm_append_comm.append_left _
theorem front_list (a:Array Keyed) (i:Nat):(a.extract 0 i).toList=a.toList.take i:=by
 rw[Array.toList_extract,List.extract_eq_take_drop]
 simp
theorem Th.fin {out:Array Keyed} {i j:Nat} (h:Th a b i j out):(hin a b i j out).toList.Perm (a.toList++b.toList):=by
 unfold hin
 rw[Array.toList_append,Array.toList_append,Array.toList_reverse,front_list,front_list]
 refine(((List.reverse_perm _).trans h).append_left _).trans ?_
 refine(perm4 _ _ _ _).trans ?_
 rw[List.take_append_drop,List.take_append_drop]
theorem Th.fin2 {out:Array Keyed} {i j:Nat} (h:Th a b i j out):(hin2 a b i j out).toList.Perm (a.toList++b.toList):=by
 refine List.Perm.trans ?_ h.fin
 unfold hin2 hin
 rw[Array.toList_append,Array.toList_append,Array.toList_append,Array.toList_append]
 exact List.perm_append_comm.append_right _
end perm
section
variable {prog:Program} {w:World} {A:Around} {E:Value->Shared->Prop} {s:Shared} {κ:SortKind} {D:Keyed->Prop} {less:Keyed->Keyed->Bool} {a b:Array Keyed} {st:SortSt}
structure In2 (a b:Array Keyed) (n0 i j:Nat) (out:Array Keyed):Prop where
 t:Th a b i j out
 i0:0 < i
 i1:i<=a.size
 j0:1 < j
 j1:j<=b.size
 n:n0 + i + j<=a.size + b.size
noncomputable def Hg3 (a b:Array Keyed) (st:SortSt) (n0:Nat) (r:ForInStep H3) (st':SortSt):Prop:=Same st st'/\match r with
 | .done c=>(∃ m,c.1=some m/\m.toList.Perm (a.toList++b.toList))\/(c.1=none/\In2 a b n0 c.2.1 c.2.2.1 c.2.2.2.1)
 | .yield c=>c.1=none/\In2 a b n0 c.2.1 c.2.2.1 c.2.2.2.1
theorem wpS_hi3 {out:Array Keyed} {i j mg ca cb n0:Nat} {st':SortSt} (ss:Same st st') (t:In2 a b n0 i j out):wpS (model prog w) A E s (hi3 a b i j out mg ca cb) (Hg3 a b st n0) st':=by
 unfold hi3
 obtain⟨t,i0,i1,j0,j1,n⟩:=t
 have hi':i - 1 < a.size:=by omega
 refine wpS_bind (wpS_elem hi' ?_)
 have t':=t.pushA i0 hi'
 by_cases h:(i - 1 == 0)=true
 ·rw[if_pos h]
  exact wpS_pure ⟨ss,.inl ⟨_,rfl,t'.fin⟩⟩
 ·rw[if_neg h]
  have h':i - 1 ≠ 0:=by simpa using h
  have I:In2 a b n0 (i - 1) j (out.push a[i - 1]):=⟨t',by omega,by omega,j0,j1,by omega⟩
  by_cases h2:(decide (ca < 7) && decide (cb < 7))=true
  ·rw[if_pos h2]
   exact wpS_pure ⟨ss,.inr ⟨rfl,I⟩⟩
  ·rw[if_neg h2]
   exact wpS_pure ⟨ss,rfl,I⟩
theorem wpS_hi2 (C:Cmp prog w A E s κ D less) (hk:kindOf st=κ) (da:AllD D a) (db:AllD D b) {out:Array Keyed} {i j mg ca cb n0:Nat} {st':SortSt} (ss:Same st st') (t:In2 a b n0 i j out):wpS (model prog w) A E s (hi2 a b i j out mg ca cb) (Hg3 a b st n0) st':=by
 unfold hi2
 obtain⟨t,i0,i1,j0,j1,n⟩:=t
 have hi':i - 1 < a.size:=by omega
 have hj':j - 1 < b.size:=by omega
 refine wpS_bind (wpS_elem hj' ?_)
 have t':=t.pushB (by omega) hj'
 by_cases h:(j - 1 == 1)=true
 ·rw[if_pos h]
  exact wpS_pure ⟨ss,.inl ⟨_,rfl,t'.fin2⟩⟩
 ·rw[if_neg h]
  have h':j - 1 ≠ 1:=by simpa using h
  refine wpS_bind (wpS_elem hi' (wpS_bind (wpS_gallop C (ss.kind.trans hk) db (da.at hi') (by omega) (by omega) fun k kl=>?_)))
  dsimp only
  by_cases hk0:j - 1 - k > 0
  ·rw[if_pos hk0]
   by_cases h2:(k == 1)=true
   ·rw[if_pos h2]
    exact wpS_pure ⟨ss,.inl ⟨_,rfl,(t'.extB kl).fin2⟩⟩
   ·rw[if_neg h2]
    by_cases h3:(k == 0)=true
    ·rw[if_pos h3]
     exact wpS_pure ⟨ss,.inl ⟨_,rfl,(t'.extB kl).fin⟩⟩
    ·rw[if_neg h3]
     have h2':k ≠ 1:=by simpa using h2
     have h3':k ≠ 0:=by simpa using h3
     exact wpS_hi3 ss ⟨t'.extB kl,i0,i1,by omega,by omega,by omega⟩
  ·rw[if_neg hk0]
   exact wpS_hi3 ss ⟨t',i0,i1,by omega,by omega,by omega⟩
theorem wpS_hi1 (C:Cmp prog w A E s κ D less) (hk:kindOf st=κ) (da:AllD D a) (db:AllD D b) {out:Array Keyed} {i j mg ca cb n0:Nat} {st':SortSt} (ss:Same st st') (t:In2 a b n0 i j out):wpS (model prog w) A E s (hi1 a b i j out mg ca cb) (Hg3 a b st n0) st':=by
 unfold hi1
 refine wpS_bind (wpS_setMin fun st2 s2=>?_)
 have ss:=ss.trans s2
 have tt:=t
 obtain⟨t,i0,i1,j0,j1,n⟩:=t
 have hj':j - 1 < b.size:=by omega
 refine wpS_bind (wpS_elem hj' (wpS_bind (wpS_gallop C (ss.kind.trans hk) da (db.at hj') (by omega) (by omega) fun k kl=>?_)))
 dsimp only
 by_cases hk0:i - k > 0
 ·rw[if_pos hk0]
  by_cases h1:(k == 0)=true
  ·rw[if_pos h1]
   exact wpS_pure ⟨ss,.inl ⟨_,rfl,(t.extA kl).fin⟩⟩
  ·rw[if_neg h1]
   have h1':k ≠ 0:=by simpa using h1
   exact wpS_hi2 C hk da db ss ⟨t.extA kl,by omega,by omega,j0,j1,by omega⟩
 ·rw[if_neg hk0]
  exact wpS_hi2 C hk da db ss tt
noncomputable def Hg2 (a b:Array Keyed) (st:SortSt) (n0:Nat) (r:ForInStep H2) (st':SortSt):Prop:=Same st st'/\match r with
 | .done c=>(∃ m,c.1=some m/\m.toList.Perm (a.toList++b.toList))\/(c.1=none/\In2 a b n0 c.2.1 c.2.2.1 c.2.2.2.1)
 | .yield c=>c.1=none/\In2 a b n0 c.2.1 c.2.2.1 c.2.2.2.1
theorem wpS_hi0 (C:Cmp prog w A E s κ D less) (hk:kindOf st=κ) (da:AllD D a) (db:AllD D b) {out:Array Keyed} {i j mg ca cb n0:Nat} {st':SortSt} (ss:Same st st') (t:In2 a b n0 i j out):wpS (model prog w) A E s (hi0 a b mg i j out ca cb) (Hg2 a b st (n0 + 1)) st':=by
 unfold hi0
 obtain⟨t,i0,i1,j0,j1,n⟩:=t
 have hi':i - 1 < a.size:=by omega
 have hj':j - 1 < b.size:=by omega
 refine wpS_bind (wpS_elem hj' (wpS_bind (wpS_elem hi' (wpS_bind (C.run st' _ _ _ (ss.kind.trans hk) (db.at hj') (da.at hi') ?_)))))
 dsimp only
 cases less b[j - 1] a[i - 1]with
 | true=>
  rw[if_pos rfl]
  refine wpS_bind (wpS_elem hi' ?_)
  have t':=t.pushA i0 hi'
  by_cases h:(i - 1 == 0)=true
  ·rw[if_pos h]
   exact wpS_pure ⟨ss,.inl ⟨_,rfl,t'.fin⟩⟩
  ·rw[if_neg h]
   have h':i - 1 ≠ 0:=by simpa using h
   have I:In2 a b (n0 + 1) (i - 1) j (out.push a[i - 1]):=⟨t',by omega,by omega,j0,j1,by omega⟩
   by_cases h2:ca + 1 ≥ mg
   ·rw[if_pos h2]
    exact wpS_pure ⟨ss,.inr ⟨rfl,I⟩⟩
   ·rw[if_neg h2]
    exact wpS_pure ⟨ss,rfl,I⟩
 | false=>
  rw[if_neg (by decide)]
  refine wpS_bind (wpS_elem hj' ?_)
  have t':=t.pushB (by omega) hj'
  by_cases h:(j - 1 == 1)=true
  ·rw[if_pos h]
   exact wpS_pure ⟨ss,.inl ⟨_,rfl,t'.fin2⟩⟩
  ·rw[if_neg h]
   have h':j - 1 ≠ 1:=by simpa using h
   have I:In2 a b (n0 + 1) i (j - 1) (out.push b[j - 1]):=⟨t',i0,i1,by omega,by omega,by omega⟩
   by_cases h2:cb + 1 ≥ mg
   ·rw[if_pos h2]
    exact wpS_pure ⟨ss,.inr ⟨rfl,I⟩⟩
   ·rw[if_neg h2]
    exact wpS_pure ⟨ss,rfl,I⟩
theorem In2.le {n0 n1 i j:Nat} {out:Array Keyed} (t:In2 a b n1 i j out) (h:n0<=n1):In2 a b n0 i j out:=⟨t.t,t.i0,t.i1,t.j0,t.j1,by have:=t.n;omega⟩
theorem wpS_hiT (C:Cmp prog w A E s κ D less) (hk:kindOf st=κ) (da:AllD D a) (db:AllD D b) {all n0:Nat} {c:H1} {st':SortSt} (h0:0 < all) (ss:Same st st') (t:In2 a b n0 c.2.1 c.2.2.1 c.2.2.2.1):
  wpS (model prog w) A E s (hiT a b all c) (fun r st'=>Same st st'/\match r with
   | .done c=>∃m,c.1=some m/\m.toList.Perm (a.toList++b.toList)
   | .yield c=>c.1=none/\In2 a b (n0 + 1) c.2.1 c.2.2.1 c.2.2.2.1) st':=by
 unfold hiT
 refine wpS_bind (wpS_mono (wpS_forRange
  (I:=fun x (c:H2) st'=>Same st st'/\c.1=none/\In2 a b (n0 + min x 1) c.2.1 c.2.2.1 c.2.2.2.1)
  (Q:=fun c st'=>Same st st'/\((∃ m,c.1=some m/\m.toList.Perm (a.toList++b.toList))\/(c.1=none/\In2 a b (n0 + 1) c.2.1 c.2.2.1 c.2.2.2.1))) ?_ ?_ ⟨ss,rfl,t.le (Nat.le_of_eq (by omega))⟩) ?_)
 ·rintro x d st2 _ _ ⟨h1,h2,h3⟩
  refine wpS_mono (wpS_hi0 (n0:=n0) C hk da db h1 (h3.le (by omega))) fun r st3 hr=>?_
  obtain⟨k1,k2⟩:=hr
  cases r with
  | done d=>exact⟨k1,k2⟩
  | yield d=>exact⟨k1,k2.1,k2.2.le (by omega)⟩
 ·rintro d st2 ⟨h1,h2,h3⟩
  exact⟨h1,.inr ⟨h2,h3.le (by omega)⟩⟩
 ·rintro d st2 ⟨h1,⟨m,e,hm⟩ | ⟨e,h3⟩⟩
  ·rw[e,pick_some]
   exact wpS_pure ⟨h1,m,rfl,hm⟩
  ·rw[e,pick_none]
   refine wpS_bind (wpS_lift (wpAny_rule ⟨rfl,?_⟩))
   refine wpS_bind (wpS_mono (wpS_forRange
    (I:=fun x c st'=>Same st st'/\c.1=none/\In2 a b (n0 + 1) c.2.1 c.2.2.1 c.2.2.2.1)
    (Q:=fun c st'=>Same st st'/\((∃ m,c.1=some m/\m.toList.Perm (a.toList++b.toList))\/(c.1=none/\In2 a b (n0 + 1) c.2.1 c.2.2.1 c.2.2.2.1))) ?_ ?_ ⟨h1,rfl,h3⟩) ?_)
   ·rintro x e st3 _ _ ⟨g1,g2,g3⟩
    have go:∀mg,wpS (model prog w) A E s (hi1 a b e.2.1 e.2.2.1 e.2.2.2.1 mg e.2.2.2.2.2.1 e.2.2.2.2.2.2) (Hg3 a b st (n0 + 1)) st3:=fun mg=>wpS_hi1 (n0:=n0 + 1) C hk da db g1 g3
    split
    ·refine wpS_mono (go _) fun r st4 hr=>?_
     obtain⟨k1,k2⟩:=hr
     cases r with
     | done d=>exact⟨k1,k2⟩
     | yield d=>exact⟨k1,k2⟩
    ·refine wpS_mono (go _) fun r st4 hr=>?_
     obtain⟨k1,k2⟩:=hr
     cases r with
     | done d=>exact⟨k1,k2⟩
     | yield d=>exact⟨k1,k2⟩
   ·rintro e st3 ⟨g1,g2,g3⟩
    exact⟨g1,.inr ⟨g2,g3⟩⟩
   ·rintro e st3 ⟨g1,⟨m,e1,hm⟩ | ⟨e1,g3⟩⟩
    ·rw[e1,pick_some]
     exact wpS_pure ⟨g1,m,rfl,hm⟩
    ·rw[e1,pick_none]
     exact wpS_bind (wpS_setMin fun st4 s4=>wpS_pure ⟨g1.trans s4,rfl,g3⟩)
theorem wpS_mergeHi (C:Cmp prog w A E s κ D less) (hk:kindOf st=κ) (da:AllD D a) (db:AllD D b) (ha:1<=a.size) (hb:1<=b.size) {Q:Array Keyed->SortSt->Prop} (q:∀m st',Same st st'->m.toList.Perm (a.toList++b.toList)->Q m st'):
  wpS (model prog w) A E s (mergeHi' a b) Q st:=by
 rw[mergeHi'_eq]
 refine wpS_bind (wpS_lift (wpAny_rule ⟨rfl,?_⟩))
 have ha':a.size - 1 < a.size:=by omega
 refine wpS_bind (wpS_elem ha' ?_)
 have t:Th a b (a.size - 1) b.size #[a[a.size - 1]]:=by
  unfold Th
  have:=drop_one (l:=a.toList) (i:=a.size - 1) (x:=a[a.size - 1]) (by simp[ha'])
  rw[this]
  have e:a.size - 1 + 1=a.size:=by omega
  rw[e]
  simp
 by_cases h1:(a.size - 1 == 0)=true
 ·rw[if_pos h1]
  exact wpS_pure (q _ _ .refl t.fin)
 ·rw[if_neg h1]
  have h1':a.size - 1 ≠ 0:=by simpa using h1
  by_cases h2:(b.size == 1)=true
  ·rw[if_pos h2]
   exact wpS_pure (q _ _ .refl t.fin2)
  ·rw[if_neg h2]
   have h2':b.size ≠ 1:=by simpa using h2
   have I0:In2 a b (0 + 1) (a.size - 1) b.size #[a[a.size - 1]]:=⟨t,by omega,by omega,by omega,Nat.le_refl _,by omega⟩
   refine wpS_bind (wpS_get (wpS_bind (wpS_mono (wpS_forRange
    (I:=fun x c st'=>Same st st'/\c.1=none/\In2 a b (x + 1) c.2.1 c.2.2.1 c.2.2.2.1)
    (Q:=fun c st'=>Same st st'/\∃m,c.1=some m/\m.toList.Perm (a.toList++b.toList)) ?_ ?_ ⟨.refl,rfl,I0⟩) ?_)))
   ·rintro x c st2 _ _ ⟨g1,g2,g3⟩
    refine wpS_mono (wpS_hiT (n0:=x + 1) C hk da db (by omega) g1 g3) fun r st3 hr=>?_
    obtain⟨k1,k2⟩:=hr
    cases r with
    | done d=>exact⟨k1,k2⟩
    | yield d=>exact⟨k1,k2⟩
   ·rintro c st2 ⟨g1,g2,g3⟩
    have:=g3.n
    have:=g3.i0
    omega
   ·rintro c st2 ⟨g1,m,e,hm⟩
    rw[e,pick_some]
    exact wpS_pure (q m _ g1 hm)
end
end Tm
namespace Tm
open PySem PyProof.Rows
noncomputable def up (lo:Nat) (c:Option (Option Nat) × Nat):StateT SortSt Sem (ForInStep (Option (Option Nat) × Nat)):=do
 let x<-ltAt' (lo + c.2) (lo + c.2 - 1)
 match x with
 | some sm=>if sm=true then pure (.done (none,c.2))else pure (.yield (none,c.2 + 1))
 | _=>pure (.done (some none,c.2))
noncomputable def cr4 (lo nrem n:Nat):StateT SortSt Sem (Option Nat):=do
 let c<-forIn [n:nrem] ((none,n):Option (Option Nat) × Nat) fun _ c=>up lo c
 pick c.1 (fun r=>pure r) fun _=>pure (some c.2)
noncomputable def cr3 (lo nrem n:Nat):StateT SortSt Sem (Option Nat):=do
 reverseSlice' lo (lo + n)
 cr4 lo nrem n
noncomputable def down (lo:Nat) (c:Option (Option Nat) × Nat × Nat):StateT SortSt Sem (ForInStep (Option (Option Nat) × Nat × Nat)):=do
 let x<-ltAt' (lo + c.2.1) (lo + c.2.1 - 1)
 match x with
 | some sm=>
  if sm=true then
   if c.2.2 > 0 then do
    reverseSlice' (lo + c.2.1 - (c.2.2 + 1)) (lo + c.2.1)
    pure (.yield (none,c.2.1 + 1,0))
   else pure (.yield (none,c.2.1 + 1,0))
  else do
   let y<-ltAt' (lo + c.2.1 - 1) (lo + c.2.1)
   match y with
   | some lg=>if lg=true then pure (.done (none,c.2.1,c.2.2))else pure (.yield (none,c.2.1 + 1,c.2.2 + 1))
   | _=>pure (.done (some none,c.2.1,c.2.2))
 | _=>pure (.done (some none,c.2.1,c.2.2))
noncomputable def cr2 (lo nrem n:Nat):StateT SortSt Sem (Option Nat):=do
 let c<-forIn [n:nrem] ((none,n,0):Option (Option Nat) × Nat × Nat) fun _ c=>down lo c
 pick c.1 (fun r=>pure r) fun _=>if c.2.2 > 0 then(do
  reverseSlice' (lo + c.2.1 - (c.2.2 + 1)) (lo + c.2.1)
  cr3 lo nrem c.2.1)else cr3 lo nrem c.2.1
noncomputable def cr1 (lo nrem n:Nat):StateT SortSt Sem (Option Nat):=do
 liftM (rule "list.sort.descending-run")
 cr2 lo nrem (n + 1)
theorem countRun_own (lo nrem:Nat):countRun' lo nrem=(do
 let c<-forIn [1:nrem] ((none,1):Option (Option Nat) × Nat) fun _ c=>up lo c
 pick c.1 (fun r=>pure r) fun _=>if(c.2 == nrem)=true then pure (some c.2)else if c.2 > 1 then(do
  let x<-ltAt' lo (lo + c.2 - 1)
  match x with
  | some rose=>if rose=true then pure (some c.2)else(do
   reverseSlice' lo (lo + c.2)
   cr1 lo nrem c.2)
  | _=>pure none)else cr1 lo nrem c.2):=rfl
noncomputable def find1 (lo k:Nat) (c:Option Bool × Nat × Nat):StateT SortSt Sem (ForInStep (Option Bool × Nat × Nat)):=
 if c.2.1 ≥ c.2.2 then pure (.done (none,c.2.1,c.2.2))else do
  let x<-ltAt' (lo + k) (lo + (c.2.1 + c.2.2) / 2)
  match x with
  | some ls=>if ls=true then pure (.yield (none,c.2.1,(c.2.1 + c.2.2) / 2))else pure (.yield (none,(c.2.1 + c.2.2) / 2 + 1,c.2.2))
  | _=>pure (.done (some false,c.2.1,c.2.2))
noncomputable def ins1 (lo k:Nat):StateT SortSt Sem (ForInStep (Option Bool × Unit)):=do
 let c<-forIn [0:k] ((none,0,k):Option Bool × Nat × Nat) fun _ c=>find1 lo k c
 pick c.1 (fun r=>pure (.done (some r,()))) fun _=>do
  moveDown' (lo + k) (lo + c.2.1)
  pure (.yield (none,()))
theorem binarySort_own (lo n ok:Nat):binarySort' lo n ok=(do
 let c<-forIn [max ok 1:n] ((none,()):Option Bool × Unit) fun k _=>ins1 lo k
 pick c.1 (fun r=>pure r) fun _=>pure true):=rfl
end Tm
namespace Tm
open PySem PyProof.Rows
theorem mergeAt_own (i:Nat):mergeAt' i=(do
 let s<-get
 let (some (sa,na,pw),some (sb,nb,_)):=((pendingOf s)[i]?,(pendingOf s)[i + 1]?) | unsupported "internal:list.sort.pending"
 set (setPending s (((pendingOf s).setIfInBounds i (sa,na + nb,pw)).eraseIdxIfInBounds (i + 1)))
 let some k<-gallop' false (<-elem' (arrOf s) sb) (arrOf s) sa na 0 | return false
 let (sa,na):=(sa + k,na - k)
 if na == 0 then return true
 let some nb<-gallop' true (<-elem' (arrOf s) (sa + na - 1)) (arrOf s) sb nb (nb - 1) | return false
 if nb == 0 then return true
 let x:=(arrOf s).extract sa sb
 let y:=(arrOf s).extract sb (sb + nb)
 let merged<-if na<=nb then mergeLo' x y else mergeHi' x y
 modify fun s=>setArr s (merged.toList.zipIdx.foldl (fun a (p,j)=>a.setIfInBounds (sa + j) p) (arrOf s))
 return (failedOf (<-get)).isNone):=rfl
noncomputable def Chain:Nat->List (Nat × Nat × Nat)->Nat->Prop
 | a,[],b=>a=b
 | a,x::r,b=>x.1=a/\1<=x.2.1/\Chain (a + x.2.1) r b
theorem Chain.le:∀ {l:List (Nat × Nat × Nat)} {a b:Nat},Chain a l b->a<=b
 | [],a,b,h=>Nat.le_of_eq h
 | x::r,a,b,h=>Nat.le_trans (Nat.le_add_right _ _) (Chain.le h.2.2)
theorem Chain.app:∀ {l m:List (Nat × Nat × Nat)} {a b:Nat},Chain a (l++m) b ↔ ∃c,Chain a l c/\Chain c m b
 | [],m,a,b=>⟨fun h=>⟨a,rfl,h⟩,fun⟨c,h1,h2⟩=>by cases (show a=c from h1);exact h2⟩
 | x::r,m,a,b=>by
  constructor
  ·intro h
   obtain⟨h1,h2,h3⟩:=(show x.1=a/\1<=x.2.1/\Chain (a + x.2.1) (r++m) b from h)
   obtain⟨c,h4,h5⟩:=Chain.app.mp h3
   exact⟨c,⟨h1,h2,h4⟩,h5⟩
  ·rintro⟨c,⟨h1,h2,h4⟩,h5⟩
   exact⟨h1,h2,Chain.app.mpr ⟨c,h4,h5⟩⟩
theorem two_of {α:Type} {l:List α} {i:Nat} (h:i + 1 < l.length):∃l1 x y l2,l=l1++x::y::l2/\l1.length=i:=by
 refine⟨l.take i,l[i],l[i + 1],l.drop (i + 2),?_,by rw[List.length_take];omega⟩
 have e1:l=l.take i++l.drop i:=(List.take_append_drop i l).symm
 have e2:l.drop i=l[i]::l.drop (i + 1):=List.drop_eq_getElem_cons (by omega)
 have e3:l.drop (i + 1)=l[i + 1]::l.drop (i + 2):=List.drop_eq_getElem_cons h
 rw[e2,e3]at e1
 exact e1
theorem put_erase {α:Type} {l2:List α} {x y v:α}:∀ {l1:List α},((l1++x::y::l2).set l1.length v).eraseIdx (l1.length + 1)=l1++v::l2
 | []=>rfl
 | a::r=>by
  show a::((r++x::y::l2).set r.length v).eraseIdx (r.length + 1)=_
  rw[put_erase]
  rfl
theorem toList_put_erase {α:Type} (p:Array α) (i:Nat) (v:α) (h:i + 1 < p.size):((p.setIfInBounds i v).eraseIdxIfInBounds (i + 1)).toList=(p.toList.set i v).eraseIdx (i + 1):=by
 rw[Array.eraseIdxIfInBounds]
 have h':i + 1 < (p.setIfInBounds i v).size:=by rw[Array.size_setIfInBounds];exact h
 rw[dif_pos h',Array.toList_eraseIdx,Array.toList_setIfInBounds]
theorem put_seg (sa:Nat):∀ (l:List Keyed) (k:Nat) (arr:Array Keyed),sa + k + l.length<=arr.size->
  ((l.zipIdx k).foldl (fun a (p,j)=>a.setIfInBounds (sa + j) p) arr).toList=arr.toList.take (sa + k)++l++arr.toList.drop (sa + k + l.length)
 | [],k,arr,_=>by simp
 | x::r,k,arr,h=>by
  rw[List.zipIdx_cons,List.foldl_cons]
  have hs:(arr.setIfInBounds (sa + k) x).size=arr.size:=Array.size_setIfInBounds
  rw[List.length_cons]at h
  rw[put_seg sa r (k + 1) _ (by rw[hs];omega),Array.toList_setIfInBounds]
  have hk:sa + k < arr.toList.length:=by rw[Array.length_toList];omega
  have e1:(arr.toList.set (sa + k) x).take (sa + (k + 1))=arr.toList.take (sa + k)++[x]:=by
   rw[<-Nat.add_assoc,take_one (x:=x) (List.getElem?_set_self hk),List.take_set_of_le (Nat.le_refl _)]
  have e2:(arr.toList.set (sa + k) x).drop (sa + (k + 1) + r.length)=arr.toList.drop (sa + k + (x::r).length):=by
   rw[List.drop_set_of_lt (by omega),List.length_cons]
   congr 1
   omega
  rw[e1,e2]
  simp
structure Ok (κ:SortKind) (a₀:Array Keyed) (lo:Nat) (st:SortSt):Prop where
 perm:(arrOf st).Perm a₀
 kind:kindOf st=κ
 fail:failedOf st=none
 ch:Chain 0 (pendingOf st).toList lo
section
variable {prog:Program} {w:World} {A:Around} {E:Value->Shared->Prop} {s:Shared} {κ:SortKind} {D:Keyed->Prop} {less:Keyed->Keyed->Bool} {a₀:Array Keyed} {st:SortSt}
theorem wpS_set {t:SortSt} {Q:PUnit->SortSt->Prop} {st:SortSt} (h:Q ⟨⟩ t):wpS (model prog w) A E s (set t:StateT SortSt Sem PUnit) Q st:=by
 unfold wpS
 rw[StateT.run_set]
 exact wpAny_pure ⟨rfl,h⟩
theorem AllD.perm {xs ys:Array Keyed} (h:AllD D ys) (p:xs.Perm ys):AllD D xs:=fun x hx=>h x ((Array.perm_iff_toList_perm.mp p).mem_iff.mp hx)
theorem AllD.cut {xs:Array Keyed} (h:AllD D xs) (i j:Nat):AllD D (xs.extract i j):=fun x hx=>by
 rw[Array.toList_extract,List.extract_eq_take_drop]at hx
 exact h x (List.mem_of_mem_drop (List.mem_of_mem_take hx))
theorem seg_two (arr:Array Keyed) {i j k:Nat} (h1:i<=j) (h2:j<=k) (h3:k<=arr.size):arr.toList.take i++((arr.extract i j).toList++(arr.extract j k).toList)++arr.toList.drop k=arr.toList:=by
 rw[List.append_assoc,List.append_assoc,seg_list arr h2,seg_list arr h1,List.take_append_drop]
theorem wpS_mergeAt (C:Cmp prog w A E s κ D less) (hd:AllD D a₀) {lo i:Nat} (ok:Ok κ a₀ lo st) (hi:i + 1 < (pendingOf st).size) (hlo:lo<=a₀.size) {Q:Bool->SortSt->Prop} (q:∀st',Ok κ a₀ lo st'->(pendingOf st').size + 1=(pendingOf st).size->Q true st'):
  wpS (model prog w) A E s (mergeAt' i) Q st:=by
 rw[mergeAt_own]
 refine wpS_bind (wpS_get ?_)
 obtain⟨l1,⟨sa,na,pw⟩,⟨sb,nb,pb⟩,l2,hl,hi1⟩:=two_of (l:=(pendingOf st).toList) (i:=i) (by rw[Array.length_toList];exact hi)
 have ch:=ok.ch
 rw[hl,Chain.app]at ch
 obtain⟨c,c1,c2,c3,c4,c5,c6⟩:=ch
 dsimp only at c2 c3 c4 c5 c6
 subst c2
 subst c4
 have p1:(pendingOf st)[i]?=some (sa,na,pw):=by rw[<-Array.getElem?_toList,hl];simp[<-hi1]
 have p2:(pendingOf st)[i + 1]?=some (sa + na,nb,pb):=by rw[<-Array.getElem?_toList,hl];simp[<-hi1]
 rw[p1,p2]
 dsimp only
 have le6:=c6.le
 have sz:(arrOf st).size=a₀.size:=ok.perm.size_eq
 have da:AllD D (arrOf st):=hd.perm ok.perm
 have np:((((pendingOf st).setIfInBounds i (sa,na + nb,pw)).eraseIdxIfInBounds (i + 1))).toList=l1++(sa,na + nb,pw)::l2:=by
  rw[toList_put_erase _ _ _ hi,hl,<-hi1]
  exact put_erase
 have nch:Chain 0 ((((pendingOf st).setIfInBounds i (sa,na + nb,pw)).eraseIdxIfInBounds (i + 1))).toList lo:=by
  rw[np,Chain.app]
  refine⟨sa,c1,rfl,by dsimp only;omega,?_⟩
  dsimp only
  rw[<-Nat.add_assoc]
  exact c6
 have nsz:((((pendingOf st).setIfInBounds i (sa,na + nb,pw)).eraseIdxIfInBounds (i + 1))).size + 1=(pendingOf st).size:=by
  rw[<-Array.length_toList,np,<-Array.length_toList,hl]
  simp
  omega
 refine wpS_bind (wpS_set ?_)
 have ok1:Ok κ a₀ lo (setPending st (((pendingOf st).setIfInBounds i (sa,na + nb,pw)).eraseIdxIfInBounds (i + 1))):=⟨ok.perm,ok.kind,ok.fail,nch⟩
 have hsb:sa + na < (arrOf st).size:=by omega
 refine wpS_bind (wpS_elem hsb (wpS_bind (wpS_gallop C ok.kind da (da.at hsb) (by omega) (by omega) fun k kl=>?_)))
 dsimp only
 by_cases h0:(na - k == 0)=true
 ·rw[if_pos h0]
  exact wpS_pure (q _ ok1 nsz)
 ·rw[if_neg h0]
  have h0':na - k ≠ 0:=by simpa using h0
  have hl2:sa + k + (na - k) - 1 < (arrOf st).size:=by omega
  refine wpS_bind (wpS_elem hl2 (wpS_bind (wpS_gallop C ok.kind da (da.at hl2) (by omega) (by omega) fun nb' nl=>?_)))
  dsimp only
  by_cases h1:(nb' == 0)=true
  ·rw[if_pos h1]
   exact wpS_pure (q _ ok1 nsz)
  ·rw[if_neg h1]
   have h1':nb' ≠ 0:=by simpa using h1
   have fin:∀ (m:Array Keyed) (st2:SortSt),Same (setPending st (((pendingOf st).setIfInBounds i (sa,na + nb,pw)).eraseIdxIfInBounds (i + 1))) st2->m.toList.Perm (((arrOf st).extract (sa + k) (sa + na)).toList++((arrOf st).extract (sa + na) (sa + na + nb')).toList)->
     wpS (model prog w) A E s (do
      modify fun s=>setArr s (m.toList.zipIdx.foldl (fun a (p,j)=>a.setIfInBounds (sa + k + j) p) (arrOf s))
      let __do_lift<-get
      pure (failedOf __do_lift).isNone) Q st2:=fun m st2 ss pm=>by
    refine wpS_bind (wpS_modify (wpS_bind (wpS_get (wpS_pure ?_))))
    have ml:=pm.length_eq
    rw[List.length_append,Array.length_toList,Array.length_toList,Array.length_toList,Array.size_extract,Array.size_extract]at ml
    have ea:arrOf st2=arrOf st:=ss.arr
    have ps:=put_seg (sa + k) m.toList 0 (arrOf st) (by rw[Array.length_toList];omega)
    have pp:(m.toList.zipIdx.foldl (fun a (p,j)=>a.setIfInBounds (sa + k + j) p) (arrOf st)).Perm a₀:=by
     refine Array.Perm.trans ?_ ok.perm
     rw[Array.perm_iff_toList_perm,ps]
     have e:=seg_two (arrOf st) (i:=sa + k) (j:=sa + na) (k:=sa + na + nb') (by omega) (by omega) (by omega)
     have e2:sa + k + 0 + m.toList.length=sa + na + nb':=by rw[Array.length_toList];omega
     rw[e2,Nat.add_zero]
     refine List.Perm.trans ?_ (List.Perm.of_eq e)
     exact(pm.append_left _).append_right _
    show Q (failedOf st2).isNone (setArr st2 _)
    rw[ss.fail,ea]
    show Q (failedOf st).isNone (setArr st2 _)
    rw[ok.fail]
    refine q _ ⟨pp,ss.kind.trans ok.kind,ss.fail.trans ok.fail,?_⟩ ?_
    ·show Chain 0 (pendingOf st2).toList lo
     rw[ss.pend]
     exact nch
    ·show(pendingOf st2).size + 1=_
     rw[ss.pend]
     exact nsz
   have s1:1<=((arrOf st).extract (sa + k) (sa + na)).size:=by rw[Array.size_extract];omega
   have s2:1<=((arrOf st).extract (sa + na) (sa + na + nb')).size:=by rw[Array.size_extract];omega
   by_cases hm:na - k<=nb'
   ·rw[if_pos hm]
    exact wpS_bind (wpS_mergeLo C ok1.kind (da.cut _ _) (da.cut _ _) s1 s2 fun m st2 ss pm=>fin m st2 ss pm)
   ·rw[if_neg hm]
    exact wpS_bind (wpS_mergeHi C ok1.kind (da.cut _ _) (da.cut _ _) s1 s2 fun m st2 ss pm=>fin m st2 ss pm)
end
end Tm
namespace Tm
open PySem PyProof.Rows
noncomputable def srPush (lo n:Nat):StateT SortSt Sem (ForInStep (Option Unit × Nat)):=do
 modify fun s=>setPending s ((pendingOf s).push (lo,n,0))
 pure (.yield (none,lo + n))
noncomputable def srOld (pw:Nat):StateT SortSt Sem (ForInStep (Option Unit × Unit)):=do
 let st<-get
 match(if(pendingOf st).size > 1 then(pendingOf st)[(pendingOf st).size - 2]? else none)with
 | some (_,_,older)=>if older<=pw then pure (.done (none,()))else(do
  let b<-mergeAt' ((pendingOf st).size - 2)
  if(!b)=true then pure (.done (some (),()))else pure (.yield (none,())))
 | _=>pure (.done (none,()))
noncomputable def srMid (size lo n:Nat):StateT SortSt Sem (ForInStep (Option Unit × Nat)):=do
 let st<-get
 match(pendingOf st).back? with
 | some (s1,n1,_)=>do
  let c<-forIn [0:size] ((none,()):Option Unit × Unit) fun _ _=>srOld (power' size (2 * s1 + n1) (2 * s1 + n1 + n1 + n) size)
  pick c.1 (fun r=>pure (.done (some r,lo))) fun _=>do
   modify fun s=>setPending s ((pendingOf s).modify ((pendingOf s).size - 1) fun(st,len,_)=>(st,len,power' size (2 * s1 + n1) (2 * s1 + n1 + n1 + n) size))
   srPush lo n
 | _=>srPush lo n
noncomputable def srTurn (size minrun lo:Nat):StateT SortSt Sem (ForInStep (Option Unit × Nat)):=if lo ≥ size then pure (.done (none,lo))else do
 let r<-countRun' lo (size - lo)
 match r with
 | some n=>if n < minrun then(do
   liftM (rule "list.sort.binary-insertion")
   let b<-binarySort' lo (min (size - lo) minrun) n
   if(!b)=true then pure (.done (some (),lo))else srMid size lo (min (size - lo) minrun))else srMid size lo n
 | _=>pure (.done (some (),lo))
noncomputable def srLast:StateT SortSt Sem (ForInStep (Option Unit × Unit)):=do
 let st<-get
 if(pendingOf st).size<=1 then pure (.done (none,()))else(do
  let p:=pendingOf st
  let i:=p.size - 2
  let before:=if i > 0 then p[i - 1]?.map (·.2.1)else none
  let b<-mergeAt' (if before.any (·< (p[i + 1]?.elim 0 (·.2.1)))then i - 1 else i)
  if(!b)=true then pure (.done (some (),()))else pure (.yield (none,())))
theorem sortRuns_own:sortRuns'=(do
 let st<-get
 let size:=(arrOf st).size
 let c<-forIn [0:size] ((none,0):Option Unit × Nat) fun _ c=>srTurn size (minRun' size size 0) c.2
 pick c.1 (fun r=>pure r) fun _=>do
  let d<-forIn [0:size] ((none,()):Option Unit × Unit) fun _ _=>srLast
  pick d.1 (fun r=>pure r) fun _=>pure ()):=rfl
section
variable {prog:Program} {w:World} {A:Around} {E:Value->Shared->Prop} {s:Shared} {κ:SortKind} {D:Keyed->Prop} {less:Keyed->Keyed->Bool} {a₀:Array Keyed} {st:SortSt} {lw:Nat}
theorem wpS_ltAtP (C:Cmp prog w A E s κ D less) (hd:AllD D a₀) (ok:Ok κ a₀ lw st) {i j:Nat} (hi:i < a₀.size) (hj:j < a₀.size) {Q:Option Bool->SortSt->Prop} (q:∀b,Q (some b) st):wpS (model prog w) A E s (ltAt' i j) Q st:=by
 rw[ltAt'_eq]
 have sz:=ok.perm.size_eq
 have da:AllD D (arrOf st):=hd.perm ok.perm
 have hi':i < (arrOf st).size:=by omega
 have hj':j < (arrOf st).size:=by omega
 refine wpS_bind (wpS_get ?_)
 exact wpS_bind (wpS_elem hi' (wpS_bind (wpS_elem hj' (C.run st _ _ _ ok.kind (da.at hi') (da.at hj') (q _)))))
theorem Ok.arr (ok:Ok κ a₀ lw st) {xs:Array Keyed} (h:xs.Perm (arrOf st)):Ok κ a₀ lw (setArr st xs):=⟨h.trans ok.perm,ok.kind,ok.fail,ok.ch⟩
theorem wpS_rev (ok:Ok κ a₀ lw st) {i j:Nat} {Q:Unit->SortSt->Prop} (q:∀st',Ok κ a₀ lw st'->Q () st'):wpS (model prog w) A E s (reverseSlice' i j) Q st:=by
 rw[reverseSlice'_eq]
 exact wpS_modify (q _ (ok.arr (mirror_perm _ _ _ _)))
theorem wpS_moveP (ok:Ok κ a₀ lw st) {i j:Nat} {Q:Unit->SortSt->Prop} (q:∀st',Ok κ a₀ lw st'->Q () st'):wpS (model prog w) A E s (moveDown' i j) Q st:=by
 rw[moveDown'_eq]
 exact wpS_modify (q _ (ok.arr (bubble_perm _ _ _)))
theorem wpS_upLoop (C:Cmp prog w A E s κ D less) (hd:AllD D a₀) (ok:Ok κ a₀ lw st) {lo nrem n:Nat} (h1:1<=n) (hn:n<=nrem) (hs:lo + nrem<=a₀.size) {Q:Option Nat->SortSt->Prop} {f:Nat->StateT SortSt Sem (Option Nat)} (q:∀m,n<=m->m<=nrem->wpS (model prog w) A E s (f m) Q st):
  wpS (model prog w) A E s (do
   let c<-forIn [n:nrem] ((none,n):Option (Option Nat) × Nat) fun _ c=>up lo c
   pick c.1 (fun r=>pure r) fun _=>f c.2) Q st:=by
 refine wpS_bind (wpS_mono (wpS_forRange (I:=fun x c st'=>st'=st/\c.1=none/\c.2=x) (Q:=fun c st'=>st'=st/\c.1=none/\n<=c.2/\c.2<=nrem) ?_ ?_ ⟨rfl,rfl,rfl⟩) ?_)
 ·rintro x ⟨c1,c2⟩ st' hx hx2 ⟨rfl,rfl,rfl⟩
  unfold up
  refine wpS_bind (wpS_ltAtP C hd ok (by dsimp only;omega) (by dsimp only;omega) fun b=>?_)
  dsimp only
  cases b with
  | true=>rw[if_pos rfl];exact wpS_pure ⟨rfl,rfl,hx,by dsimp only;omega⟩
  | false=>rw[if_neg (by decide)];exact wpS_pure ⟨rfl,rfl,rfl⟩
 ·rintro⟨c1,c2⟩ st' ⟨rfl,rfl,h⟩
  dsimp only at h
  exact⟨rfl,rfl,by dsimp only;omega,by dsimp only;omega⟩
 ·rintro⟨c1,c2⟩ st' ⟨rfl,h1,h2,h3⟩
  dsimp only at h1 h2 h3
  subst h1
  rw[pick_none]
  exact q _ h2 h3
theorem wpS_countRunP (C:Cmp prog w A E s κ D less) (hd:AllD D a₀) (ok:Ok κ a₀ lw st) {lo nrem:Nat} (hn:1<=nrem) (hs:lo + nrem<=a₀.size) {Q:Option Nat->SortSt->Prop} (q:∀m st',Ok κ a₀ lw st'->1<=m->m<=nrem->Q (some m) st'):
  wpS (model prog w) A E s (countRun' lo nrem) Q st:=by
 have r4:∀n st',Ok κ a₀ lw st'->1<=n->n<=nrem->wpS (model prog w) A E s (cr4 lo nrem n) Q st':=fun n st' ok' h1 h2=>by
  unfold cr4
  exact wpS_upLoop C hd ok' h1 h2 hs (f:=fun m=>pure (some m)) fun m hm hm2=>wpS_pure (q m st' ok' (by omega) hm2)
 have r3:∀n st',Ok κ a₀ lw st'->1<=n->n<=nrem->wpS (model prog w) A E s (cr3 lo nrem n) Q st':=fun n st' ok' h1 h2=>by
  unfold cr3
  exact wpS_bind (wpS_rev ok' fun st2 ok2=>r4 n st2 ok2 h1 h2)
 have r2:∀n st',Ok κ a₀ lw st'->1<=n->n<=nrem->wpS (model prog w) A E s (cr2 lo nrem n) Q st':=fun n st' ok' h1 h2=>by
  unfold cr2
  refine wpS_bind (wpS_mono (wpS_forRange (I:=fun x c st2=>Ok κ a₀ lw st2/\c.1=none/\c.2.1=x) (Q:=fun c st2=>Ok κ a₀ lw st2/\c.1=none/\n<=c.2.1/\c.2.1<=nrem) ?_ ?_ ⟨ok',rfl,rfl⟩) ?_)
  ·rintro x ⟨c1,c2,c3⟩ st2 hx hx2 ⟨ok2,rfl,rfl⟩
   unfold down
   dsimp only at hx hx2 ⊢
   refine wpS_bind (wpS_ltAtP C hd ok2 (by omega) (by omega) fun b=>?_)
   dsimp only
   cases b with
   | true=>
    rw[if_pos rfl]
    by_cases h3:c3 > 0
    ·rw[if_pos h3]
     exact wpS_bind (wpS_rev ok2 fun st3 ok3=>wpS_pure ⟨ok3,rfl,rfl⟩)
    ·rw[if_neg h3]
     exact wpS_pure ⟨ok2,rfl,rfl⟩
   | false=>
    rw[if_neg (by decide)]
    refine wpS_bind (wpS_ltAtP C hd ok2 (by omega) (by omega) fun b2=>?_)
    dsimp only
    cases b2 with
    | true=>rw[if_pos rfl];exact wpS_pure ⟨ok2,rfl,hx,by dsimp only;omega⟩
    | false=>rw[if_neg (by decide)];exact wpS_pure ⟨ok2,rfl,rfl⟩
  ·rintro⟨c1,c2,c3⟩ st2 ⟨ok2,rfl,h⟩
   dsimp only at h
   exact⟨ok2,rfl,by dsimp only;omega,by dsimp only;omega⟩
  ·rintro⟨c1,c2,c3⟩ st2 ⟨ok2,h3,h4,h5⟩
   dsimp only at h3 h4 h5
   subst h3
   rw[pick_none]
   dsimp only
   by_cases h6:c3 > 0
   ·rw[if_pos h6]
    exact wpS_bind (wpS_rev ok2 fun st3 ok3=>r3 c2 st3 ok3 (by omega) h5)
   ·rw[if_neg h6]
    exact r3 c2 st2 ok2 (by omega) h5
 have r1:∀n st',Ok κ a₀ lw st'->n < nrem->wpS (model prog w) A E s (cr1 lo nrem n) Q st':=fun n st' ok' h2=>by
  unfold cr1
  exact wpS_bind (wpS_lift (wpAny_rule ⟨rfl,r2 (n + 1) st' ok' (by omega) (by omega)⟩))
 rw[countRun_own]
 refine wpS_upLoop C hd ok (Nat.le_refl 1) hn hs (f:=fun m=>if(m == nrem)=true then pure (some m)else if m > 1 then(do
  let x<-ltAt' lo (lo + m - 1)
  match x with
  | some rose=>if rose=true then pure (some m)else(do
   reverseSlice' lo (lo + m)
   cr1 lo nrem m)
  | _=>pure none)else cr1 lo nrem m) fun m hm hm2=>?_
 by_cases h:(m == nrem)=true
 ·rw[if_pos h]
  exact wpS_pure (q m st ok hm hm2)
 ·rw[if_neg h]
  have h':m ≠ nrem:=by simpa using h
  by_cases h2:m > 1
  ·rw[if_pos h2]
   refine wpS_bind (wpS_ltAtP C hd ok (by omega) (by omega) fun b=>?_)
   dsimp only
   cases b with
   | true=>rw[if_pos rfl];exact wpS_pure (q m st ok hm hm2)
   | false=>
    rw[if_neg (by decide)]
    exact wpS_bind (wpS_rev ok fun st2 ok2=>r1 m st2 ok2 (by omega))
  ·rw[if_neg h2]
   exact r1 m st ok (by omega)
theorem wpS_binaryP (C:Cmp prog w A E s κ D less) (hd:AllD D a₀) (ok:Ok κ a₀ lw st) {lo n k0:Nat} (hs:lo + n<=a₀.size) {Q:Bool->SortSt->Prop} (q:∀st',Ok κ a₀ lw st'->Q true st'):
  wpS (model prog w) A E s (binarySort' lo n k0) Q st:=by
 rw[binarySort_own]
 refine wpS_bind (wpS_mono (wpS_forRange (I:=fun x c st'=>Ok κ a₀ lw st'/\c.1=none) (Q:=fun c st'=>Ok κ a₀ lw st'/\c.1=none) ?_ (fun _ _ h=>h) ⟨ok,rfl⟩) ?_)
 ·rintro k c st' hk1 hk2 ⟨ok',h⟩
  unfold ins1
  refine wpS_bind (wpS_mono (wpS_forRange (I:=fun x c st2=>st2=st'/\c.1=none/\c.2.2<=k) (Q:=fun c st2=>st2=st'/\c.1=none) ?_ (fun _ _ h=>⟨h.1,h.2.1⟩) ⟨rfl,rfl,Nat.le_refl _⟩) ?_)
  ·rintro x ⟨c1,c2,c3⟩ st2 _ _ ⟨rfl,rfl,h3⟩
   unfold find1
   dsimp only at h3 ⊢
   by_cases h4:c2 ≥ c3
   ·rw[if_pos h4]
    exact wpS_pure ⟨rfl,rfl⟩
   ·rw[if_neg h4]
    refine wpS_bind (wpS_ltAtP C hd ok' (by omega) (by omega) fun b=>?_)
    dsimp only
    cases b with
    | true=>rw[if_pos rfl];exact wpS_pure ⟨rfl,rfl,by dsimp only;omega⟩
    | false=>rw[if_neg (by decide)];exact wpS_pure ⟨rfl,rfl,h3⟩
  ·rintro⟨c1,c2,c3⟩ st2 ⟨rfl,h5⟩
   dsimp only at h5
   subst h5
   rw[pick_none]
   exact wpS_bind (wpS_moveP ok' fun st3 ok3=>wpS_pure ⟨ok3,rfl⟩)
 ·rintro⟨c1,c2⟩ st' ⟨ok',h⟩
  dsimp only at h
  subst h
  rw[pick_none]
  exact wpS_pure (q st' ok')
theorem ite_le (b:Bool) (k:Nat):(if b=true then k - 1 else k)<=k:=by cases b<;>simp
theorem Chain.mod:∀ {l:List (Nat × Nat × Nat)} {a b i pw:Nat},Chain a l b->Chain a (l.modify i fun(s,n,_)=>(s,n,pw)) b
 | [],a,b,i,pw,h=>by cases i<;>exact h
 | x::r,a,b,0,pw,h=>h
 | x::r,a,b,i + 1,pw,h=>⟨h.1,h.2.1,Chain.mod h.2.2⟩
theorem wpS_sortRunsP (C:Cmp prog w A E s κ D less) (hd:AllD D a₀) (ok:Ok κ a₀ 0 st) {Q:Unit->SortSt->Prop} (q:∀st',(arrOf st').Perm a₀->failedOf st'=none->Q () st'):wpS (model prog w) A E s sortRuns' Q st:=by
 rw[sortRuns_own]
 refine wpS_bind (wpS_get ?_)
 dsimp only
 rw[ok.perm.size_eq]
 have push:∀lo n st',Ok κ a₀ lo st'->1<=n->lo + n<=a₀.size->wpS (model prog w) A E s (srPush lo n) (fun r st2=>match r with
   | .done c=>∃l,c.1=none/\Ok κ a₀ l st2/\l<=a₀.size
   | .yield c=>c.1=none/\Ok κ a₀ c.2 st2/\c.2<=a₀.size) st':=fun lo n st' ok' h1 h2=>by
  unfold srPush
  refine wpS_bind (wpS_modify (wpS_pure ⟨rfl,⟨ok'.perm,ok'.kind,ok'.fail,?_⟩,h2⟩))
  show Chain 0 ((pendingOf st').push (lo,n,0)).toList (lo + n)
  rw[Array.toList_push,Chain.app]
  exact⟨lo,ok'.ch,rfl,h1,rfl⟩
 have mid:∀lo n st',Ok κ a₀ lo st'->1<=n->lo + n<=a₀.size->wpS (model prog w) A E s (srMid a₀.size lo n) (fun r st2=>match r with
   | .done c=>∃l,c.1=none/\Ok κ a₀ l st2/\l<=a₀.size
   | .yield c=>c.1=none/\Ok κ a₀ c.2 st2/\c.2<=a₀.size) st':=fun lo n st' ok' h1 h2=>by
  unfold srMid
  refine wpS_bind (wpS_get ?_)
  split
  ·rename_i s1 n1 p1 hb
   refine wpS_bind (wpS_mono (wpS_forRange (I:=fun x c st2=>Ok κ a₀ lo st2/\c.1=none) (Q:=fun c st2=>Ok κ a₀ lo st2/\c.1=none) ?_ (fun _ _ h=>h) ⟨ok',rfl⟩) ?_)
   ·rintro x c st2 _ _ ⟨ok2,h3⟩
    unfold srOld
    refine wpS_bind (wpS_get ?_)
    by_cases hp:(pendingOf st2).size > 1
    ·rw[if_pos hp]
     have e:(pendingOf st2)[(pendingOf st2).size - 2]?=some (pendingOf st2)[(pendingOf st2).size - 2]:=getElem?_pos _ _ (by omega)
     rw[e]
     dsimp only
     by_cases h4:(pendingOf st2)[(pendingOf st2).size - 2].2.2<=power' a₀.size (2 * s1 + n1) (2 * s1 + n1 + n1 + n) a₀.size
     ·rw[if_pos h4]
      exact wpS_pure ⟨ok2,rfl⟩
     ·rw[if_neg h4]
      exact wpS_bind (wpS_mergeAt C hd ok2 (by omega) (by omega) fun st3 ok3 _=>by
       rw[if_neg (by decide)]
       exact wpS_pure ⟨ok3,rfl⟩)
    ·rw[if_neg hp]
     exact wpS_pure ⟨ok2,rfl⟩
   ·rintro⟨c1,c2⟩ st2 ⟨ok2,h3⟩
    dsimp only at h3
    subst h3
    rw[pick_none]
    refine wpS_bind (wpS_modify (push lo n _ ⟨ok2.perm,ok2.kind,ok2.fail,?_⟩ h1 h2))
    show Chain 0 ((pendingOf st2).modify _ _).toList lo
    rw[Array.toList_modify]
    exact ok2.ch.mod
  ·exact push lo n st' ok' h1 h2
 refine wpS_bind (wpS_mono (wpS_forRange (I:=fun x c st'=>c.1=none/\Ok κ a₀ c.2 st'/\c.2<=a₀.size) (Q:=fun c st'=>∃l,c.1=none/\Ok κ a₀ l st'/\l<=a₀.size) ?_ (fun c st' h=>⟨c.2,h⟩) ⟨rfl,ok,Nat.zero_le _⟩) ?_)
 ·rintro x ⟨c1,lo⟩ st' _ _ ⟨h1,ok',h2⟩
  dsimp only at h1 ok' h2 ⊢
  unfold srTurn
  by_cases h3:lo ≥ a₀.size
  ·rw[if_pos h3]
   exact wpS_pure ⟨lo,rfl,ok',h2⟩
  ·rw[if_neg h3]
   refine wpS_bind (wpS_countRunP C hd ok' (by omega) (by omega) fun n st2 ok2 n1 n2=>?_)
   dsimp only
   by_cases h4:n < minRun' a₀.size a₀.size 0
   ·rw[if_pos h4]
    refine wpS_bind (wpS_lift (wpAny_rule ⟨rfl,?_⟩))
    refine wpS_bind (wpS_binaryP C hd ok2 (by omega) fun st3 ok3=>?_)
    rw[if_neg (by decide)]
    refine wpS_mono (mid lo _ st3 ok3 (by omega) (by omega)) fun r st4 hr=>?_
    cases r with
    | done d=>exact hr
    | yield d=>exact hr
   ·rw[if_neg h4]
    refine wpS_mono (mid lo n st2 ok2 n1 (by omega)) fun r st4 hr=>?_
    cases r with
    | done d=>exact hr
    | yield d=>exact hr
 ·rintro⟨c1,c2⟩ st' ⟨l,h1,ok',h2⟩
  dsimp only at h1
  subst h1
  rw[pick_none]
  refine wpS_bind (wpS_mono (wpS_forRange (I:=fun x c st2=>Ok κ a₀ l st2/\c.1=none) (Q:=fun c st2=>Ok κ a₀ l st2/\c.1=none) ?_ (fun _ _ h=>h) ⟨ok',rfl⟩) ?_)
  ·rintro x c st2 _ _ ⟨ok2,h3⟩
   unfold srLast
   refine wpS_bind (wpS_get ?_)
   by_cases hp:(pendingOf st2).size<=1
   ·rw[if_pos hp]
    exact wpS_pure ⟨ok2,rfl⟩
   ·rw[if_neg hp]
    dsimp only
    refine wpS_bind (wpS_mergeAt C hd ok2 ?_ h2 fun st3 ok3 _=>?_)
    ·exact Nat.lt_of_le_of_lt (Nat.succ_le_succ (ite_le _ _)) (by omega)
    ·rw[if_neg (by decide)]
     exact wpS_pure ⟨ok3,rfl⟩
  ·rintro⟨d1,d2⟩ st2 ⟨ok2,h3⟩
   dsimp only at h3
   subst h3
   rw[pick_none]
   exact wpS_pure (q st2 ok2.perm ok2.fail)
end
end Tm
namespace Tm
open PySem PyProof.Rows
structure Ord (D:Keyed->Prop) (less:Keyed->Keyed->Bool):Prop where
 asym:∀x y,D x->D y->less x y=true->less y x=false
 tr:∀x y z,D x->D y->D z->less y x=false->less z y=false->less z x=false
section
variable {D:Keyed->Prop} {less:Keyed->Keyed->Bool} {xs:Array Keyed}
noncomputable def LeA (less:Keyed->Keyed->Bool) (xs:Array Keyed) (i j:Nat):Prop:=∀x y,xs[i]?=some x->xs[j]?=some y->less y x=false
theorem AllD.get (h:AllD D xs) {i:Nat} {x:Keyed} (e:xs[i]?=some x):D x:=by
 obtain⟨h1,h2⟩:=Array.getElem?_eq_some_iff.mp e
 rw[<-h2]
 exact h.at h1
theorem LeA.refl (O:Ord D less) (d:AllD D xs) (i:Nat):LeA less xs i i:=fun x y e1 e2=>by
 rw[e1]at e2
 cases e2
 cases h:less x x with
 | false=>rfl
 | true=>exact h ▸ O.asym x x (d.get e1) (d.get e1) h
theorem LeA.trans (O:Ord D less) (d:AllD D xs) {i j k:Nat} (hj:j < xs.size) (h1:LeA less xs i j) (h2:LeA less xs j k):LeA less xs i k:=fun x z e1 e3=>by
 have e2:xs[j]?=some xs[j]:=getElem?_pos xs j hj
 exact O.tr x _ z (d.get e1) (d.get e2) (d.get e3) (h1 x _ e1 e2) (h2 _ z e2 e3)
noncomputable def Up (less:Keyed->Keyed->Bool) (xs:Array Keyed) (n:Nat):Prop:=∀i j,i<=j->j < n->LeA less xs i j
noncomputable def Dn (less:Keyed->Keyed->Bool) (xs:Array Keyed) (n:Nat):Prop:=∀i j,i<=j->j < n->LeA less xs j i
theorem Up.one (O:Ord D less) (d:AllD D xs):Up less xs 1:=fun i j h1 h2=>by
 have:i=j:=by omega
 subst this
 exact .refl O d _
theorem Up.more (O:Ord D less) (d:AllD D xs) {n:Nat} (h0:1<=n) (hn:n < xs.size) (h:Up less xs n) (hl:LeA less xs (n - 1) n):Up less xs (n + 1):=fun i j h1 h2=>by
 by_cases e:j < n
 ·exact h i j h1 e
 ·have:j=n:=by omega
  subst this
  by_cases e2:i=j
  ·subst e2;exact .refl O d _
  ·exact(h i (j - 1) (by omega) (by omega)).trans O d (by omega) hl
theorem Dn.more (O:Ord D less) (d:AllD D xs) {n:Nat} (h0:1<=n) (hn:n < xs.size) (h:Dn less xs n) (hl:LeA less xs n (n - 1)):Dn less xs (n + 1):=fun i j h1 h2=>by
 by_cases e:j < n
 ·exact h i j h1 e
 ·have:j=n:=by omega
  subst this
  by_cases e2:i=j
  ·subst e2;exact .refl O d _
  ·exact hl.trans O d (by omega) (h i (j - 1) (by omega) (by omega))
theorem LeA.congr {ys:Array Keyed} {i j i' j':Nat} (h:LeA less xs i' j') (e1:ys[i]?=xs[i']?) (e2:ys[j]?=xs[j']?):LeA less ys i j:=fun x y a b=>h x y (by rw[<-e1];exact a) (by rw[<-e2];exact b)
theorem mir_at {i j:Nat} (hj:j<=xs.size) (k:Nat):(mirror xs i j ((j - i) / 2))[k]?=if i<=k/\k < j then xs[i + j - 1 - k]? else xs[k]?:=getElem?_mirror_all hj k
theorem Dn.turn {n:Nat} (hn:n<=xs.size) (h:Dn less xs n):Up less (mirror xs 0 n ((n - 0) / 2)) n:=fun i j h1 h2=>by
 refine(h (n - 1 - j) (n - 1 - i) (by omega) (by omega)).congr ?_ ?_
 ·rw[mir_at hn,if_pos (by omega)];congr 1;omega
 ·rw[mir_at hn,if_pos (by omega)];congr 1;omega
theorem Dn.same (O:Ord D less) (d:AllD D xs) {n i:Nat} (hn:n<=xs.size) (h:Dn less xs n) (h0:1<=n) (eq:∀k,i<=k->k < n->LeA less xs k (n - 1)):Dn less (mirror xs i n ((n - i) / 2)) n:=fun a b h1 h2=>by
 have any:∀k l,i<=k->k < n->i<=l->l < n->LeA less xs k l:=fun k l k1 k2 l1 l2=>(eq k k1 k2).trans O d (by omega) (h l (n - 1) (by omega) (by omega))
 by_cases ha:i<=a
 ·refine(any (i + n - 1 - b) (i + n - 1 - a) (by omega) (by omega) (by omega) (by omega)).congr ?_ ?_
  ·rw[mir_at hn,if_pos (by omega)]
  ·rw[mir_at hn,if_pos (by omega)]
 ·by_cases hb:i<=b
  ·refine(h a (i + n - 1 - b) (by omega) (by omega)).congr ?_ ?_
   ·rw[mir_at hn,if_pos (by omega)]
   ·rw[mir_at hn,if_neg (by omega)]
  ·refine(h a b h1 h2).congr ?_ ?_
   ·rw[mir_at hn,if_neg (by omega)]
   ·rw[mir_at hn,if_neg (by omega)]
end
section
variable {prog:Program} {w:World} {A:Around} {E:Value->Shared->Prop} {s:Shared} {κ:SortKind} {D:Keyed->Prop} {less:Keyed->Keyed->Bool} {a₀:Array Keyed} {st:SortSt} {lw:Nat}
theorem wpS_ltAtS (C:Cmp prog w A E s κ D less) (hd:AllD D a₀) (ok:Ok κ a₀ lw st) {i j:Nat} (hi:i < a₀.size) (hj:j < a₀.size) {Q:Option Bool->SortSt->Prop} (q:∀x y,(arrOf st)[i]?=some x->(arrOf st)[j]?=some y->Q (some (less x y)) st):wpS (model prog w) A E s (ltAt' i j) Q st:=by
 rw[ltAt'_eq]
 have sz:=ok.perm.size_eq
 have da:AllD D (arrOf st):=hd.perm ok.perm
 have hi':i < (arrOf st).size:=by omega
 have hj':j < (arrOf st).size:=by omega
 refine wpS_bind (wpS_get ?_)
 exact wpS_bind (wpS_elem hi' (wpS_bind (wpS_elem hj' (C.run st _ _ _ ok.kind (da.at hi') (da.at hj') (q _ _ (getElem?_pos (arrOf st) i hi') (getElem?_pos (arrOf st) j hj'))))))
theorem leA_of {less:Keyed->Keyed->Bool} {xs:Array Keyed} {i j:Nat} {x y:Keyed} (e1:xs[i]?=some x) (e2:xs[j]?=some y) (h:less y x=false):LeA less xs i j:=fun a b h1 h2=>by
 rw[e1]at h1;rw[e2]at h2
 cases h1;cases h2
 exact h
theorem wpS_upS (C:Cmp prog w A E s κ D less) (O:Ord D less) (hd:AllD D a₀) (ok:Ok κ a₀ lw st) {nrem n:Nat} (h1:1<=n) (hn:n<=nrem) (hs:nrem<=a₀.size) (hu:Up less (arrOf st) n) {Q:Option Nat->SortSt->Prop} {f:Nat->StateT SortSt Sem (Option Nat)} (q:∀m,n<=m->m<=nrem->Up less (arrOf st) m->(m=nrem\/∃x y:Keyed,(arrOf st)[m]?=some x/\(arrOf st)[m - 1]?=some y/\less x y=true)->wpS (model prog w) A E s (f m) Q st):
  wpS (model prog w) A E s (do
   let c<-forIn [n:nrem] ((none,n):Option (Option Nat) × Nat) fun _ c=>up 0 c
   pick c.1 (fun r=>pure r) fun _=>f c.2) Q st:=by
 have sz:=ok.perm.size_eq
 have da:AllD D (arrOf st):=hd.perm ok.perm
 refine wpS_bind (wpS_mono (wpS_forRange (I:=fun x c st'=>st'=st/\c.1=none/\c.2=x/\Up less (arrOf st) x) (Q:=fun c st'=>st'=st/\c.1=none/\n<=c.2/\c.2<=nrem/\Up less (arrOf st) c.2/\(c.2=nrem\/∃x y,(arrOf st)[c.2]?=some x/\(arrOf st)[c.2 - 1]?=some y/\less x y=true)) ?_ ?_ ⟨rfl,rfl,rfl,hu⟩) ?_)
 ·rintro x ⟨c1,c2⟩ st' hx hx2 ⟨rfl,rfl,rfl,hu'⟩
  unfold up
  dsimp only at hx hx2 hu' ⊢
  rw[Nat.zero_add]
  refine wpS_bind (wpS_ltAtS C hd ok (by omega) (by omega) fun u v e1 e2=>?_)
  dsimp only
  cases hb:less u v with
  | true=>rw[if_pos rfl];exact wpS_pure ⟨rfl,rfl,hx,by dsimp only;omega,hu',.inr ⟨u,v,e1,e2,hb⟩⟩
  | false=>rw[if_neg (by decide)];exact wpS_pure ⟨rfl,rfl,rfl,hu'.more O da (by omega) (by omega) (leA_of e2 e1 hb)⟩
 ·rintro⟨c1,c2⟩ st' ⟨rfl,rfl,h,hu'⟩
  dsimp only at h
  have e:max n nrem=nrem:=by omega
  rw[e]at h hu'
  exact⟨rfl,rfl,by dsimp only;omega,by dsimp only;omega,by dsimp only;rw[h];exact hu',.inl h⟩
 ·rintro⟨c1,c2⟩ st' ⟨rfl,h1,h2,h3,h4,h5⟩
  dsimp only at h1 h2 h3 h4 h5
  subst h1
  rw[pick_none]
  exact q _ h2 h3 h4 h5
theorem wpS_revS (ok:Ok κ a₀ lw st) {i j:Nat} {Q:Unit->SortSt->Prop} (q:Ok κ a₀ lw (setArr st (mirror (arrOf st) i j ((j - i) / 2)))->Q () (setArr st (mirror (arrOf st) i j ((j - i) / 2)))):wpS (model prog w) A E s (reverseSlice' i j) Q st:=by
 rw[reverseSlice'_eq]
 exact wpS_modify (q (ok.arr (mirror_perm _ _ _ _)))
theorem wpS_countRunS (C:Cmp prog w A E s κ D less) (O:Ord D less) (hd:AllD D a₀) (ok:Ok κ a₀ lw st) {nrem:Nat} (hn:1<=nrem) (hs:nrem<=a₀.size) {Q:Option Nat->SortSt->Prop} (q:∀m st',Ok κ a₀ lw st'->1<=m->m<=nrem->Up less (arrOf st') m->Q (some m) st'):
  wpS (model prog w) A E s (countRun' 0 nrem) Q st:=by
 have r4:∀n st',Ok κ a₀ lw st'->1<=n->n<=nrem->Up less (arrOf st') n->wpS (model prog w) A E s (cr4 0 nrem n) Q st':=fun n st' ok' h1 h2 hu=>by
  unfold cr4
  exact wpS_upS C O hd ok' h1 h2 hs hu (f:=fun m=>pure (some m)) fun m hm hm2 hu' _=>wpS_pure (q m st' ok' (by omega) hm2 hu')
 have r3:∀n st',Ok κ a₀ lw st'->1<=n->n<=nrem->Dn less (arrOf st') n->wpS (model prog w) A E s (cr3 0 nrem n) Q st':=fun n st' ok' h1 h2 hdn=>by
  have sz:=ok'.perm.size_eq
  unfold cr3
  rw[Nat.zero_add]
  exact wpS_bind (wpS_revS ok' fun ok2=>r4 n _ ok2 h1 h2 (hdn.turn (by omega)))
 have r2:∀n st',Ok κ a₀ lw st'->1<=n->n<=nrem->Dn less (arrOf st') n->wpS (model prog w) A E s (cr2 0 nrem n) Q st':=fun n st' ok' h1 h2 hdn=>by
  unfold cr2
  have i0:∀k,n - (0 + 1)<=k->k < n->LeA less (arrOf st') k (n - 1):=fun k k1 k2=>by
   have:k=n - 1:=by omega
   subst this
   exact .refl O (hd.perm ok'.perm) _
  refine wpS_bind (wpS_mono (wpS_forRange (I:=fun x c st2=>Ok κ a₀ lw st2/\c.1=none/\c.2.1=x/\c.2.2 + 1<=x/\Dn less (arrOf st2) x/\∀k,x - (c.2.2 + 1)<=k->k < x->LeA less (arrOf st2) k (x - 1)) (Q:=fun c st2=>Ok κ a₀ lw st2/\c.1=none/\n<=c.2.1/\c.2.1<=nrem/\c.2.2 + 1<=c.2.1/\Dn less (arrOf st2) c.2.1/\∀k,c.2.1 - (c.2.2 + 1)<=k->k < c.2.1->LeA less (arrOf st2) k (c.2.1 - 1)) ?_ ?_ ⟨ok',rfl,rfl,by dsimp only;omega,hdn,i0⟩) ?_)
  ·rintro x ⟨c1,c2,c3⟩ st2 hx hx2 ⟨ok2,rfl,rfl,g1,g2,g3⟩
   have sz:=ok2.perm.size_eq
   have da:AllD D (arrOf st2):=hd.perm ok2.perm
   unfold down
   dsimp only at hx hx2 g1 g2 g3 ⊢
   rw[Nat.zero_add]
   refine wpS_bind (wpS_ltAtS C hd ok2 (by omega) (by omega) fun u v e1 e2=>?_)
   dsimp only
   cases hb:less u v with
   | true=>
    have du:D u:=da.get e1
    have dv:D v:=da.get e2
    have lt:LeA less (arrOf st2) c2 (c2 - 1):=leA_of e1 e2 (O.asym u v du dv hb)
    rw[if_pos rfl]
    by_cases h3:c3 > 0
    ·rw[if_pos h3]
     refine wpS_bind (wpS_revS ok2 fun ok3=>wpS_pure ?_)
     have d1:=g2.same O da (by omega) (by omega) g3
     have da3:AllD D (arrOf (setArr st2 (mirror (arrOf st2) (c2 - (c3 + 1)) c2 ((c2 - (c2 - (c3 + 1))) / 2)))):=hd.perm ok3.perm
     have sz3:=ok3.perm.size_eq
     have l3:LeA less (mirror (arrOf st2) (c2 - (c3 + 1)) c2 ((c2 - (c2 - (c3 + 1))) / 2)) c2 (c2 - 1):=by
      have base:LeA less (arrOf st2) c2 (c2 - (c3 + 1)):=lt.trans O da (by omega) (g2 _ _ (by omega) (by omega))
      refine base.congr ?_ ?_
      ·rw[mir_at (by omega),if_neg (by omega)]
      ·rw[mir_at (by omega),if_pos (by omega)];congr 1;omega
     refine⟨ok3,rfl,rfl,by dsimp only;omega,Dn.more O da3 (by omega) (by omega) d1 l3,fun k k1 k2=>?_⟩
     have:k=c2:=by dsimp only at k1 k2;omega
     subst this
     exact .refl O da3 _
    ·rw[if_neg h3]
     refine wpS_pure ⟨ok2,rfl,rfl,by dsimp only;omega,g2.more O da (by omega) (by omega) lt,fun k k1 k2=>?_⟩
     have:k=c2:=by dsimp only at k1 k2;omega
     subst this
     exact .refl O da _
   | false=>
    rw[if_neg (by decide)]
    refine wpS_bind (wpS_ltAtS C hd ok2 (by omega) (by omega) fun u' v' f1 f2=>?_)
    rw[e2]at f1
    rw[e1]at f2
    cases f1
    cases f2
    dsimp only
    cases hb2:less v u with
    | true=>rw[if_pos rfl];exact wpS_pure ⟨ok2,rfl,hx,by dsimp only;omega,g1,g2,g3⟩
    | false=>
     rw[if_neg (by decide)]
     have l1:LeA less (arrOf st2) c2 (c2 - 1):=leA_of e1 e2 hb2
     have l2:LeA less (arrOf st2) (c2 - 1) c2:=leA_of e2 e1 hb
     refine wpS_pure ⟨ok2,rfl,rfl,by dsimp only;omega,g2.more O da (by omega) (by omega) l1,fun k k1 k2=>?_⟩
     dsimp only at k1 k2 ⊢
     by_cases ek:k=c2
     ·subst ek;exact .refl O da _
     ·exact(g3 k (by omega) (by omega)).trans O da (by omega) l2
  ·rintro⟨c1,c2,c3⟩ st2 ⟨ok2,rfl,h,g1,g2,g3⟩
   dsimp only at h
   have e:max n nrem=nrem:=by omega
   rw[e]at h g1 g2 g3
   subst h
   exact⟨ok2,rfl,h2,Nat.le_refl _,g1,g2,g3⟩
  ·rintro⟨c1,c2,c3⟩ st2 ⟨ok2,h3,h4,h5,g1,g2,g3⟩
   dsimp only at h3 h4 h5 g1 g2 g3
   have sz:=ok2.perm.size_eq
   have da:AllD D (arrOf st2):=hd.perm ok2.perm
   subst h3
   rw[pick_none]
   dsimp only
   by_cases h6:c3 > 0
   ·rw[if_pos h6,Nat.zero_add]
    exact wpS_bind (wpS_revS ok2 fun ok3=>r3 c2 _ ok3 (by omega) h5 (g2.same O da (by omega) (by omega) g3))
   ·rw[if_neg h6]
    exact r3 c2 st2 ok2 (by omega) h5 g2
 have r1:∀n st',Ok κ a₀ lw st'->n < nrem->Dn less (arrOf st') (n + 1)->wpS (model prog w) A E s (cr1 0 nrem n) Q st':=fun n st' ok' h2 hdn=>by
  unfold cr1
  exact wpS_bind (wpS_lift (wpAny_rule ⟨rfl,r2 (n + 1) st' ok' (by omega) (by omega) hdn⟩))
 have sz:=ok.perm.size_eq
 have da:AllD D (arrOf st):=hd.perm ok.perm
 rw[countRun_own]
 refine wpS_upS C O hd ok (Nat.le_refl 1) hn hs (Up.one O da) (f:=fun m=>if(m == nrem)=true then pure (some m)else if m > 1 then(do
  let x<-ltAt' 0 (0 + m - 1)
  match x with
  | some rose=>if rose=true then pure (some m)else(do
   reverseSlice' 0 (0 + m)
   cr1 0 nrem m)
  | _=>pure none)else cr1 0 nrem m) fun m hm hm2 hu br=>?_
 by_cases h:(m == nrem)=true
 ·rw[if_pos h]
  exact wpS_pure (q m st ok hm hm2 hu)
 ·rw[if_neg h]
  have h':m ≠ nrem:=by simpa using h
  obtain⟨x,y,e1,e2,hb⟩:=br.resolve_left h'
  have lt:LeA less (arrOf st) m (m - 1):=leA_of e1 e2 (O.asym x y (da.get e1) (da.get e2) hb)
  by_cases h2:m > 1
  ·rw[if_pos h2,Nat.zero_add]
   refine wpS_bind (wpS_ltAtS C hd ok (by omega) (by omega) fun u v f1 f2=>?_)
   dsimp only
   cases hb2:less u v with
   | true=>rw[if_pos rfl];exact wpS_pure (q m st ok hm hm2 hu)
   | false=>
    rw[if_neg (by decide)]
    have le0:LeA less (arrOf st) (m - 1) 0:=leA_of f2 f1 hb2
    have dn:Dn less (arrOf st) m:=fun i j h3 h4=>((hu j (m - 1) (by omega) (by omega)).trans O da (by omega) le0).trans O da (by omega) (hu 0 i (by omega) (by omega))
    refine wpS_bind (wpS_revS ok fun ok2=>?_)
    have d1:=dn.same O da (i:=0) (by omega) (by omega) fun k _ k2=>hu k (m - 1) (by omega) (by omega)
    have da2:AllD D (arrOf (setArr st (mirror (arrOf st) 0 m ((m - 0) / 2)))):=hd.perm ok2.perm
    have sz2:=ok2.perm.size_eq
    have l2:LeA less (mirror (arrOf st) 0 m ((m - 0) / 2)) m (m - 1):=by
     have base:LeA less (arrOf st) m 0:=lt.trans O da (by omega) le0
     refine base.congr ?_ ?_
     ·rw[mir_at (by omega),if_neg (by omega)]
     ·rw[mir_at (by omega),if_pos (by omega)];congr 1;omega
    exact r1 m _ ok2 (by omega) (Dn.more O da2 (by omega) (by omega) d1 l2)
  ·rw[if_neg h2]
   have:m=1:=by omega
   subst this
   refine r1 1 st ok (by omega) (Dn.more O da (by omega) (by omega) (fun i j h3 h4=>?_) lt)
   have:i=j:=by omega
   subst this
   exact .refl O da _
end
end Tm
namespace Tm
open PySem PyProof.Rows
section
variable {prog:Program} {w:World} {A:Around} {E:Value->Shared->Prop} {s:Shared} {κ:SortKind} {D:Keyed->Prop} {less:Keyed->Keyed->Bool} {a₀:Array Keyed} {st:SortSt} {lw:Nat}
theorem Up.put (O:Ord D less) {xs:Array Keyed} (d:AllD D xs) {k l:Nat} (hk:k < xs.size) (hl:l<=k) (h:Up less xs k) (h1:∀i,i < l->LeA less xs i k) (h2:∀i,l<=i->i < k->LeA less xs k i):Up less (bubble xs k (k - l)) (k + 1):=by
 have at_:∀i,(bubble xs k (k - l))[i]?=if i=l then xs[k]? else if l < i/\i<=k then xs[i - 1]? else xs[i]?:=fun i=>by
  rw[getElem?_bubble hk (k - l) (by omega)]
  have e:k - (k - l)=l:=by omega
  rw[e]
 intro i j hij hj
 by_cases ei:i=l
 ·subst ei
  by_cases ej:j=i
  ·subst ej
   exact(LeA.refl O d k).congr (by rw[at_,if_pos rfl]) (by rw[at_,if_pos rfl])
  ·exact(h2 (j - 1) (by omega) (by omega)).congr (by rw[at_,if_pos rfl]) (by rw[at_,if_neg ej,if_pos (by omega)])
 ·by_cases il:i < l
  ·have e1:(bubble xs k (k - l))[i]?=xs[i]?:=by rw[at_,if_neg ei,if_neg (by omega)]
   by_cases ej:j=l
   ·exact(h1 i il).congr e1 (by rw[at_,if_pos ej])
   ·by_cases jl:j < l
    ·exact(h i j hij (by omega)).congr e1 (by rw[at_,if_neg ej,if_neg (by omega)])
    ·exact(h i (j - 1) (by omega) (by omega)).congr e1 (by rw[at_,if_neg ej,if_pos (by omega)])
  ·have e1:(bubble xs k (k - l))[i]?=xs[i - 1]?:=by rw[at_,if_neg ei,if_pos (by omega)]
   exact(h (i - 1) (j - 1) (by omega) (by omega)).congr e1 (by rw[at_,if_neg (by omega),if_pos (by omega)])
theorem wpS_binaryS (C:Cmp prog w A E s κ D less) (O:Ord D less) (hd:AllD D a₀) (ok:Ok κ a₀ lw st) {n k0:Nat} (hs:n<=a₀.size) (h0:1<=k0) (hkn:k0<=n) (hu:Up less (arrOf st) k0) {Q:Bool->SortSt->Prop} (q:∀st',Ok κ a₀ lw st'->Up less (arrOf st') n->Q true st'):
  wpS (model prog w) A E s (binarySort' 0 n k0) Q st:=by
 rw[binarySort_own]
 have e0:max k0 1=k0:=by omega
 rw[e0]
 refine wpS_bind (wpS_mono (wpS_forRange (I:=fun x c st'=>Ok κ a₀ lw st'/\c.1=none/\Up less (arrOf st') x) (Q:=fun c st'=>Ok κ a₀ lw st'/\c.1=none/\Up less (arrOf st') n) ?_ (fun c st' h=>⟨h.1,h.2.1,by have:=h.2.2;rw[show max k0 n=n by omega]at this;exact this⟩) ⟨ok,rfl,hu⟩) ?_)
 ·rintro k c st' hk1 hk2 ⟨ok',h,hu'⟩
  have sz:=ok'.perm.size_eq
  have da:AllD D (arrOf st'):=hd.perm ok'.perm
  unfold ins1
  refine wpS_bind (wpS_mono (wpS_forRange (I:=fun x c st2=>st2=st'/\c.1=none/\c.2.1<=c.2.2/\c.2.2<=k/\c.2.2 - c.2.1<=k - x/\(∀ i,i < c.2.1->LeA less (arrOf st') i k)/\∀i,c.2.2<=i->i < k->LeA less (arrOf st') k i)
   (Q:=fun c st2=>st2=st'/\c.1=none/\c.2.1<=k/\(∀ i,i < c.2.1->LeA less (arrOf st') i k)/\∀i,c.2.1<=i->i < k->LeA less (arrOf st') k i) ?_ ?_ ⟨rfl,rfl,Nat.zero_le _,Nat.le_refl _,by dsimp only;omega,fun i hi=>by dsimp only at hi;omega,fun i h1 h2=>by dsimp only at h1;omega⟩) ?_)
  ·rintro x ⟨c1,c2,c3⟩ st2 _ hx ⟨rfl,rfl,g1,g2,g3,g4,g5⟩
   unfold find1
   dsimp only at g1 g2 g3 g4 g5 ⊢
   by_cases h4:c2 ≥ c3
   ·rw[if_pos h4]
    have:c2=c3:=by omega
    subst this
    exact wpS_pure ⟨rfl,rfl,g2,g4,g5⟩
   ·rw[if_neg h4,Nat.zero_add,Nat.zero_add]
    have m1:(c2 + c3) / 2 < c3:=by omega
    have m2:c2<=(c2 + c3) / 2:=by omega
    generalize hm:(c2 + c3) / 2=m at m1 m2 ⊢
    refine wpS_bind (wpS_ltAtS C hd ok' (by omega) (by omega) fun u v e1 e2=>?_)
    dsimp only
    cases hb:less u v with
    | true=>
     rw[if_pos rfl]
     have lm:LeA less (arrOf st2) k m:=leA_of e1 e2 (O.asym u v (da.get e1) (da.get e2) hb)
     refine wpS_pure ⟨rfl,rfl,m2,by dsimp only;omega,by dsimp only;omega,g4,fun i h1 h2=>?_⟩
     exact lm.trans O da (by omega) (hu' m i h1 h2)
    | false=>
     rw[if_neg (by decide)]
     have lm:LeA less (arrOf st2) m k:=leA_of e2 e1 hb
     refine wpS_pure ⟨rfl,rfl,by dsimp only;omega,g2,by dsimp only;omega,fun i h1=>?_,g5⟩
     dsimp only at h1
     exact(hu' i m (by omega) (by omega)).trans O da (by omega) lm
  ·rintro⟨c1,c2,c3⟩ st2 ⟨rfl,rfl,g1,g2,g3,g4,g5⟩
   dsimp only at g1 g2 g3 g4 g5
   have:c2=c3:=by omega
   subst this
   exact⟨rfl,rfl,g2,g4,g5⟩
  ·rintro⟨c1,c2,c3⟩ st2 ⟨rfl,g1,g2,g3,g4⟩
   dsimp only at g1 g2 g3 g4
   subst g1
   rw[pick_none,Nat.zero_add,Nat.zero_add,moveDown'_eq]
   exact wpS_bind (wpS_modify (wpS_pure ⟨ok'.arr (bubble_perm _ _ _),rfl,hu'.put O da (by omega) g2 g3 g4⟩))
 ·rintro⟨c1,c2⟩ st' ⟨ok',h,hu'⟩
  dsimp only at h
  subst h
  rw[pick_none]
  exact wpS_pure (q st' ok' hu')
theorem wpS_sortRunsS (C:Cmp prog w A E s κ D less) (O:Ord D less) (hd:AllD D a₀) (ok:Ok κ a₀ 0 st) (hp:pendingOf st=#[]) (h2:1<=a₀.size) (h64:a₀.size < 64) {Q:Unit->SortSt->Prop} (q:∀st',(arrOf st').Perm a₀->failedOf st'=none->Up less (arrOf st') a₀.size->Q () st'):wpS (model prog w) A E s sortRuns' Q st:=by
 rw[sortRuns_own]
 refine wpS_bind (wpS_get ?_)
 dsimp only
 rw[ok.perm.size_eq]
 have hmr:minRun' a₀.size a₀.size 0=a₀.size:=by
  obtain⟨f,hf⟩:∃f,a₀.size=f + 1:=⟨a₀.size - 1,by omega⟩
  have:minRun' (f + 1) a₀.size 0=a₀.size:=by rw[minRun'_succ,if_pos h64];rfl
  rwa[<-hf]at this
 rw[hmr]
 have mid:∀n st',Ok κ a₀ 0 st'->n=a₀.size->Up less (arrOf st') n->wpS (model prog w) A E s (srMid a₀.size 0 n) (fun r st2=>match r with
   | .done c=>False
   | .yield c=>c=(none,a₀.size)/\(arrOf st2).Perm a₀/\failedOf st2=none/\Up less (arrOf st2) a₀.size/\(pendingOf st2).size=1) st':=fun n st' ok' hn hu=>by
  subst hn
  have pe:pendingOf st'=#[]:=by
   have:=ok'.ch
   cases e:(pendingOf st').toList with
   | nil=>exact Array.toList_eq_nil_iff.mp e
   | cons x r=>
    rw[e]at this
    obtain⟨a,b,c⟩:=this
    have:=c.le
    omega
  unfold srMid
  refine wpS_bind (wpS_get ?_)
  rw[pe]
  show wpS _ _ _ _ (srPush 0 a₀.size) _ _
  unfold srPush
  refine wpS_bind (wpS_modify (wpS_pure ⟨by rw[Nat.zero_add],ok'.perm,ok'.fail,hu,?_⟩))
  show((pendingOf st').push _).size=1
  rw[pe]
  rfl
 refine wpS_bind (wpS_mono (wpS_forRange
  (I:=fun x c st'=>(x=0/\c=(none,0)/\Ok κ a₀ 0 st')\/(1<=x/\c=(none,a₀.size)/\(arrOf st').Perm a₀/\failedOf st'=none/\Up less (arrOf st') a₀.size/\(pendingOf st').size=1))
  (Q:=fun c st'=>c=(none,a₀.size)/\(arrOf st').Perm a₀/\failedOf st'=none/\Up less (arrOf st') a₀.size/\(pendingOf st').size=1) ?_ ?_ (.inl ⟨rfl,rfl,ok⟩)) ?_)
 ·rintro x c st' _ hx (⟨rfl,rfl,ok'⟩ | ⟨hx1,rfl,h1,h2,h3,h4⟩)
  ·dsimp only
   unfold srTurn
   rw[if_neg (by omega),Nat.sub_zero]
   refine wpS_bind (wpS_countRunS C O hd ok' h2 (Nat.le_refl _) fun n st2 ok2 n1 n2 hu=>?_)
   dsimp only
   by_cases h4:n < a₀.size
   ·rw[if_pos h4,Nat.min_self]
    refine wpS_bind (wpS_lift (wpAny_rule ⟨rfl,?_⟩))
    refine wpS_bind (wpS_binaryS C O hd ok2 (Nat.le_refl _) n1 n2 hu fun st3 ok3 hu3=>?_)
    rw[if_neg (by decide)]
    refine wpS_mono (mid a₀.size st3 ok3 rfl hu3) fun r st4 hr=>?_
    cases r with
    | done d=>exact hr.elim
    | yield d=>exact .inr ⟨by omega,hr⟩
   ·rw[if_neg h4]
    refine wpS_mono (mid n st2 ok2 (by omega) hu) fun r st4 hr=>?_
    cases r with
    | done d=>exact hr.elim
    | yield d=>exact .inr ⟨by omega,hr⟩
  ·dsimp only
   unfold srTurn
   rw[if_pos (Nat.le_refl _)]
   exact wpS_pure ⟨rfl,h1,h2,h3,h4⟩
 ·rintro c st' (⟨hx,_,_⟩ | ⟨_,h⟩)
  ·omega
  ·exact h
 ·rintro c st' ⟨rfl,h1,h2,h3,h4⟩
  rw[pick_none]
  refine wpS_bind (wpS_mono (wpS_forRange (I:=fun x c st2=>st2=st'/\c.1=none) (Q:=fun c st2=>st2=st'/\c.1=none) ?_ (fun _ _ h=>h) ⟨rfl,rfl⟩) ?_)
  ·rintro x c st2 _ _ ⟨rfl,h5⟩
   unfold srLast
   refine wpS_bind (wpS_get ?_)
   rw[if_pos (by omega)]
   exact wpS_pure ⟨rfl,rfl⟩
  ·rintro⟨d1,d2⟩ st2 ⟨rfl,h5⟩
   dsimp only at h5
   subst h5
   rw[pick_none]
   exact wpS_pure (q st2 h1 h2 h3)
end
end Tm
namespace Tm
open PySem PyProof.Rows PySem.SeqAt
open PySem.AutoSeq1 (wpAny_loadPart')
open PySem.MeetsSeq PySem.MeetsSeq2 PySem.MeetsSeq3 PySem.SeqRoads2
noncomputable def LtAt (A:Around) (s:Shared) (y x:Value) (b:Bool):Prop:=
 ∀ (prog:Program) (w:World) (E:Value->Shared->Prop) (Q:Value->Shared->Prop),Q (.bool b) s->wpAny (model prog w) A (richCompare .Lt y x) Q E s
noncomputable def lexB (e f:Nat->Bool) (fin:Bool):List Nat->Bool
 | []=>fin
 | i::r=>if e i=true then lexB e f fin r else f i
theorem tuple_ltAt (l b:Addr) (xs ys:Array Value) (n n2:Nat) (dd dd2:Option Addr) (sl sl2:Array (Option Value)) (e f:Nat->Bool):
  Meets (Builtin.«tuple.__lt__» ⟨[.ref l,.ref b],[]⟩)
   (fun A R s=>s.heap.get? l=some {cls:=.type "tuple",dict:=dd,data:=.seq xs n,slots:=sl}/\s.heap.get? b=some {cls:=.type "tuple",dict:=dd2,data:=.seq ys n2,slots:=sl2}/\
    (∀ j (h1:j < xs.size) (h2:j < ys.size),EqAt A.in1 s xs[j] ys[j] (e j)/\(e j=false->LtAt A.in1 s xs[j] ys[j] (f j)))/\
    R (.ok (.ret (.bool (lexB e f (decide (xs.size < ys.size)) (List.range (min xs.size ys.size)))))) s):=
 .of_wp fun prog w A R s h=>by
  obtain⟨hp,g,d,tk,os⟩:=s;obtain⟨hl,hb,he,h⟩:=h
  have f2:=AutoSeq1.sub_tuple_tuple
  have zl:(xs.toList.zip ys.toList).length=min xs.size ys.size:=by simp
  wp_walk using wpAny_loadPart' hl,wpAny_loadPart' hb,wpAny_forIn_list _ (fun rest c st=>c.1=none/\st=⟨hp,g,d,tk,os⟩/\∃i,rest=(xs.toList.zip ys.toList).drop i/\
   R (.ok (.ret (.bool (lexB e f (decide (xs.size < ys.size)) ((List.range (min xs.size ys.size)).drop i))))) ⟨hp,g,d,tk,os⟩) _
  case turn=>
   rintro⟨y,x⟩ rest c st ⟨_,rfl,i,hz,hR⟩
   have lt:i < (xs.toList.zip ys.toList).length:=by
    by_cases q:i < (xs.toList.zip ys.toList).length
    ·exact q
    ·rw[List.drop_of_length_le (Nat.le_of_not_lt q)]at hz;cases hz
   have h1:i < xs.size:=by omega
   have h2:i < ys.size:=by omega
   rw[List.drop_eq_getElem_cons lt]at hz
   injection hz with z1 z2
   rw[List.getElem_zip]at z1
   injection z1 with z3 z4
   have z3:y=xs[i]:=by rw[z3];simp
   have z4:x=ys[i]:=by rw[z4];simp
   subst z3 z4
   have rg:(List.range (min xs.size ys.size)).drop i=i::(List.range (min xs.size ys.size)).drop (i + 1):=by
    rw[List.drop_eq_getElem_cons (by rw[List.length_range];omega),List.getElem_range]
   rw[rg]at hR
   unfold lexB at hR
   refine wpAny_bind ((he i h1 h2).1 prog w _ _ ?_)
   cases q:e i with
   | true=>
    rw[q,if_pos rfl]at hR
    wp_walk
    exact⟨rfl,rfl,i + 1,z2,hR⟩
   | false=>
    rw[q,if_neg (by decide)]at hR
    rw[if_pos (by rfl)]
    refine wpAny_bind (wpAny_rule ?_)
    refine wpAny_bind ((he i h1 h2).2 q prog w _ _ ?_)
    wp_walk
    exact⟨_,rfl,hR⟩
  case fin=>
   rintro⟨c1,c2⟩ st ⟨hc,rfl,i,hz,hR⟩
   simp only at hc
   subst hc
   have ge:min xs.size ys.size<=i:=by
    have:=congrArg List.length hz
    rw[List.length_drop,zl]at this
    simp at this
    omega
   rw[List.drop_of_length_le (by rw[List.length_range];exact ge)]at hR
   wp_walk
   exact⟨_,rfl,hR⟩
  exact⟨rfl,rfl,0,rfl,h⟩
end Tm
namespace Tm
open PySem PyProof.Rows PySem.SeqAt
section
variable {prog:Program} {w:World} {A:Around} {E:Value->Shared->Prop} {s:Shared} {κ:SortKind}
theorem sort_any {a:Addr} {vs:List Value} {n:Nat} {P:PySem.Fin->Shared->Prop} {Post:SortSt->Prop} (ho:s.heap.get? a=some (seqObj "list" vs.toArray n)) (hz:vs.length<=sizeLine)
  (h0:vs.length < 2->∀st,arrOf st=pairsOf vs->Post st)
  (hk:2<=vs.length->∀h',(∀ b o,b ≠ a->s.heap.get? b=some o->h'.get? b=some o)->∀Q:SortKind->Shared->Prop,Q κ {s with heap:=h'}->wpAny (model prog w) A (keyKind' vs.toArray) Q E {s with heap:=h'})
  (hr:2<=vs.length->∀h',(∀ b o,b ≠ a->s.heap.get? b=some o->h'.get? b=some o)->∀ (Q:Unit->SortSt->Prop) st,Ok κ (pairsOf vs) 0 st->pendingOf st=#[]->(∀ st',(arrOf st').Perm (pairsOf vs)->failedOf st'=none->Post st'->Q () st')->wpS (model prog w) A E {s with heap:=h'} sortRuns' Q st)
  (h:∀st':SortSt,(arrOf st').Perm (pairsOf vs)->Post st'->P (.done (.ret .none)) {s with heap:=sortedHeap s.heap a vs ((arrOf st').map (·.2))}):
  wpAny (model prog w) A (Builtin.«list.sort» ⟨[.ref a],[]⟩) P E s:=by
 rw[list_sort_plain]
 have sz:vs.toArray.size=vs.length:=by simp
 have al:a < s.heap.objs.size:=Heap.lt_size ho
 obtain⟨e1,o1⟩:∃e1,(s.heap.update a (Obj.mapSeq fun _=>#[])).get? a=some (seqObj "list" #[] e1):=⟨_,get?_update_seq ho _⟩
 refine wpAny_bind (listItems_at ho rfl (wpAny_bind (listUpdate_at ho rfl (wpAny_bind (seqEpoch_at o1 rfl (wpAny_bind (wpAny_newTuple (wpAny_bind (wpAny_newList (wpAny_holding ?_) (Nat.zero_le _))) (by rw[Array.length_toList,sz];exact hz))))) (by rw[sz];exact hz) (Nat.zero_le _))))
 generalize hg:((s.heap.update a (Obj.mapSeq fun _=>#[])).push (seqObj "tuple" vs.toArray 0)).push (seqObj "list" #[] 0)=h6
 have o6:h6.get? a=some (seqObj "list" #[] e1):=by
  rw[<-hg]
  exact Heap.get?_push_of_some _ (Heap.get?_push_of_some _ o1)
 have k6:∀b o,b ≠ a->s.heap.get? b=some o->h6.get? b=some o:=fun b o hb e=>by
  rw[<-hg]
  exact Heap.get?_push_of_some _ (Heap.get?_push_of_some _ ((Heap.get?_update_other _ _ (Ne.symm hb)).trans e))
 have fin:∀st':SortSt,(arrOf st').Perm (pairsOf vs)->failedOf st'=none->Post st'->wpAny (model prog w) A (do
   let touched:=(<-seqEpoch a) != e1
   Builtin.List.listUpdate (.ref a) fun _=>(arrOf st').map (·.2)
   if let some e:=failedOf st' then rule "list.sort.comparison-raised";throw e
   if touched then rule "list.sort.modified";raiseError "ValueError" "list modified during sort"
   ret .none) P E {s with heap:=h6}:=fun st' p1 p2 p3=>by
  refine wpAny_bind (seqEpoch_at o6 rfl (wpAny_bind (listUpdate_at o6 rfl ?_ (Nat.zero_le _) ?_)))
  ·rw[p2]
   simp only[bne_self_eq_false,Bool.false_eq_true,if_false]
   have:=h st' p1 p3
   unfold sortedHeap at this
   rw[hg]at this
   exact wpAny_pure this
  ·rw[Array.size_map,p1.size_eq,pairsOf_size]
   exact Nat.le_succ_of_le hz
 show wpAny (model prog w) A _ P E {s with heap:=h6}
 dsimp only
 by_cases h2:vs.toArray.size < 2
 ·rw[if_pos h2,if_pos h2]
  refine wpAny_bind (wpAny_pure ?_)
  rw[StateT.run_pure]
  refine wpAny_bind (wpAny_pure ?_)
  exact fin (SortSt.mk' general' (vs.toArray.zip vs.toArray) #[] 7 none) (Array.Perm.refl _) rfl (h0 (by omega) _ rfl)
 ·rw[if_neg h2,if_neg h2]
  refine wpAny_bind (hk (by omega) h6 k6 _ ?_)
  refine wpAny_bind (wpAny_mono (hr (by omega) h6 k6 (fun _ st'=>(arrOf st').Perm (pairsOf vs)/\failedOf st'=none/\Post st') (SortSt.mk' κ (vs.toArray.zip vs.toArray) #[] 7 none) ⟨Array.Perm.refl _,rfl,rfl,rfl⟩ rfl fun st' a1 a2 a3=>⟨a1,a2,a3⟩) ?_ fun _ _ e=>e)
  rintro⟨⟨⟩,st'⟩ s' ⟨rfl,q1,q2,q3⟩
  exact fin st' q1 q2 q3
theorem sorted_any {l:Addr} {vs:List Value} {Q:Value->Shared->Prop} {Post:SortSt->Prop} (hl:s.heap.IsList l vs.toArray) (hz:vs.length<=sizeLine)
  (h0:vs.length < 2->∀st,arrOf st=pairsOf vs->Post st)
  (hk:2<=vs.length->∀h',(∀ b o,s.heap.get? b=some o->h'.get? b=some o)->∀Q:SortKind->Shared->Prop,Q κ {s with heap:=h'}->wpAny (model prog w) A.in1.in1 (keyKind' vs.toArray) Q E {s with heap:=h'})
  (hr:2<=vs.length->∀h',(∀ b o,s.heap.get? b=some o->h'.get? b=some o)->∀ (Q:Unit->SortSt->Prop) st,Ok κ (pairsOf vs) 0 st->pendingOf st=#[]->(∀ st',(arrOf st').Perm (pairsOf vs)->failedOf st'=none->Post st'->Q () st')->wpS (model prog w) A.in1.in1 E {s with heap:=h'} sortRuns' Q st)
  (h:∀st':SortSt,(arrOf st').Perm (pairsOf vs)->Post st'->Q (.ref (s.heap.objs.size + 1)) {s with heap:=sortedAll s.heap vs ((arrOf st').map (·.2))}):
  wpAny (model prog w) A (call (.builtin "sorted") [.ref l]) Q E s:=by
 refine Calls.call_function_entry kind_sorted plain_sorted entry_sorted (args_sorted1 _) ?_
 unfold Builtin.«sorted»
 refine wpAny_bind (m:=checkCount "sorted" 1 1 _) (wpAny_pure (wpAny_bind (collect_list hl (wpAny_bind (wpAny_newList ?_ hz)))))
 have z1:((s.heap.push (seqObj "list" #[] 0)).update s.heap.objs.size (Obj.mapSeq (·++vs.toArray))).objs.size=s.heap.objs.size + 1:=by rw[Heap.size_update,size_push']
 generalize hG:((s.heap.push (seqObj "list" #[] 0)).update s.heap.objs.size (Obj.mapSeq (·++vs.toArray))).push (seqObj "list" vs.toArray 0)=G
 have oL:G.get? (s.heap.objs.size + 1)=some (seqObj "list" vs.toArray 0):=by rw[<-hG,<-z1];exact Heap.get?_push_size _ rfl
 have kG:∀b o,s.heap.get? b=some o->G.get? b=some o:=fun b o e=>by
  rw[<-hG]
  have hb:=Heap.lt_size e
  exact Heap.get?_push_of_some _ ((Heap.get?_update_other _ _ (Nat.ne_of_gt hb)).trans (Heap.get?_push_of_some _ e))
 have ne:∀b o,s.heap.get? b=some o->b ≠ s.heap.objs.size + 1:=fun b o e=>Nat.ne_of_lt (Nat.lt_succ_of_lt (Heap.lt_size e))
 show wpAny _ _ _ _ _ {s with heap:=G}
 rw[z1]
 refine wpAny_bind (wpAny_holding (wpAny_call_entry slot_list_sort ⟨_,oL,rfl⟩ entry_list_sort (sort_any (s:={s with heap:=G}) (κ:=κ) (Post:=Post) oL hz h0 (fun z h' k=>hk z h' fun b o e=>k b o (ne b o e) (kG b o e)) (fun z h' k=>hr z h' fun b o e=>k b o (ne b o e) (kG b o e)) fun st' a1 a2=>⟨_,rfl,wpAny_pure ⟨_,rfl,?_⟩⟩) (args_list_sort _)))
 have:=h st' a1 a2
 unfold sortedAll at this
 rw[hG]at this
 exact this
end
end Tm
namespace Sw
open PySem PySem.Spec PyProof.Rows L2
theorem pairK_at {M:Mo} {H:Hp} {p:Addr} {a b:Str} (h:pairK M H (.ref p)=some (a,b)):rd M H p=some (.tup [.str a,.str b]):=by
 unfold pairK at h
 dsimp only at h
 split at h
 ·rename_i e;cases h;exact e
 ·cases h
noncomputable def addrV:Value->Addr
 | .ref a=>a
 | _=>0
section
variable {X:Cx} {M:Mo} {pins:List (Addr × Obj)} {σ:L2.St} {H:Hp} {s:Shared}
theorem pair_obj (mo:ModOk X.K M) (I:Inv X pins σ H s) {p:Addr} {a b:Str} (h:rd M H p=some (.tup [.str a,.str b])):∃o n t u,s.heap.get? p=some o/\o.cls=.type "tuple" /\o.data=.seq #[.str a t,.str b u] n:=by
 obtain⟨its,rv,⟨o,ho,hc,n,hd⟩,_⟩:=I.tuple (rd_tup mo h)
 cases rv with
 | cons r1 rv=>
  cases rv with
  | cons r2 rv=>
   cases rv
   obtain⟨t,rfl⟩:=r1
   obtain⟨u,rfl⟩:=r2
   exact⟨o,n,t,u,ho,hc,hd⟩
noncomputable def kk (M:Mo) (H:Hp) (v:Value):Str × Str:=(pairK M H (.ref (addrV v))).getD (Str.empty,Str.empty)
noncomputable def PairD (M:Mo) (H:Hp) (k:Keyed):Prop:=∃p ab,k.1=.ref p/\pairK M H (.ref p)=some ab
theorem kk_at {M:Mo} {H:Hp} {p:Addr} {ab:Str × Str} (h:pairK M H (.ref p)=some ab):kk M H (.ref p)=ab:=by
 unfold kk addrV
 rw[h]
 rfl
theorem eq_str_at {A:Around} {s:Shared} {a b:Str} {t u:Tok} {prog:Program} {w:World} {E:Value->Shared->Prop} {Q:Bool->Shared->Prop} (q:Q (a == b) s):wpAny (model prog w) A (eqBool (.str a t) (.str b u)) Q E s:=SeqAt.EqAt.str_str a t b u prog w E Q q
theorem lt2_walk {prog:Program} {w:World} {A:Around} {s:Shared} {a b c d:Str} {t u t' u':Tok} {Q:Bool->Shared->Prop} (q:Q (lt2 (a,b) (c,d)) s):
  PySem.W.KatLex prog w A true false Q [(.str a t,.str c t'),(.str b u,.str d u')] 0 s:=by
 refine PySem.W.kat_cons (eq_str_at (PySem.W.kat_go (fun e=>PySem.W.kat_yes ?_) fun e=>PySem.W.kat_no ?_))
 ·have e:a=c:=by simpa using e
  unfold lt2 at q
  rw[if_pos e]at q
  refine PySem.W.kat_cons (eq_str_at (PySem.W.kat_go (fun e2=>PySem.W.kat_yes (PySem.W.kat_nil ?_)) fun e2=>PySem.W.kat_no ?_))
  ·have e2:b=d:=by simpa using e2
   subst e2
   have:decide (b.cps.toList < b.cps.toList)=false:=decide_eq_false (List.lt_irrefl _)
   dsimp only at q
   rw[this]at q
   exact q
  ·show wpAny _ _ (oneLt' false _ _) _ _ _
   exact PySem.W.kat_one _ _ (PySem.P.lt_str q)
 ·have e:a ≠ c:=by simpa using e
  unfold lt2 at q
  rw[if_neg e]at q
  show wpAny _ _ (oneLt' true _ _) _ _ _
  exact oneLt_str q
theorem cmp_pairs (mo:ModOk X.K M) (I:Inv X pins σ H s) (A':Around) (E':Value->Shared->Prop):Tm.Cmp X.prog X.w A' E' s (tuples' true) (PairD M H) (fun x y=>lt2 (kk M H x.1) (kk M H y.1)):=by
 refine⟨fun st x y Q hk dx dy q=>?_⟩
 obtain⟨p,⟨a,b⟩,ex,hp⟩:=dx
 obtain⟨r,⟨c,d⟩,ey,hr⟩:=dy
 obtain⟨o1,n1,t1,u1,g1,c1,d1⟩:=pair_obj mo I (pairK_at hp)
 obtain⟨o2,n2,t2,u2,g2,c2,d2⟩:=pair_obj mo I (pairK_at hr)
 rw[lt'_eq]
 refine wpS_bind (wpS_get ?_)
 rw[hk,ex,ey]
 rw[ex,ey,kk_at hp,kk_at hr]at q
 refine wpS_bind (wpS_lift (wpAny_attempt (PySem.W.kat_lt g1 d1 g2 d2 ?_)))
 exact lt2_walk ⟨rfl,wpS_pure q⟩
theorem lt2_irr (x:Str × Str):lt2 x x=false:=by
 unfold lt2
 rw[if_pos rfl]
 exact decide_eq_false (List.lt_irrefl _)
theorem str_tot {a b:Str} (h1:¬a.cps.toList < b.cps.toList) (h2:¬b.cps.toList < a.cps.toList):a=b:=by
 have e:a.cps.toList=b.cps.toList:=List.le_antisymm (List.not_lt.mp h2) (List.not_lt.mp h1)
 obtain⟨x⟩:=a
 obtain⟨y⟩:=b
 congr 1
 exact Array.toList_inj.mp e
theorem lt2_asym {x y:Str × Str} (h:lt2 x y=true):lt2 y x=false:=by
 unfold lt2 at h ⊢
 by_cases e:x.1=y.1
 ·rw[if_pos e]at h
  rw[if_pos e.symm]
  have h:=of_decide_eq_true h
  exact decide_eq_false fun z=>List.lt_irrefl _ (List.lt_trans h z)
 ·rw[if_neg e]at h
  rw[if_neg fun z=>e z.symm]
  have h:=of_decide_eq_true h
  exact decide_eq_false fun z=>List.lt_irrefl _ (List.lt_trans h z)
theorem lt2_tr {x y z:Str × Str} (h:lt2 y x=false) (k:lt2 z y=false):lt2 z x=false:=by
 unfold lt2 at h k ⊢
 have le:∀ {a b c:List Nat},¬b < a->¬c < b->¬c < a:=fun h1 h2=>List.not_lt.mpr (List.le_trans (List.not_lt.mp h1) (List.not_lt.mp h2))
 by_cases e1:y.1=x.1
 ·rw[if_pos e1]at h
  by_cases e2:z.1=y.1
  ·rw[if_pos e2]at k
   rw[if_pos (e2.trans e1)]
   exact decide_eq_false (le (of_decide_eq_false h) (of_decide_eq_false k))
  ·rw[if_neg e2]at k
   rw[if_neg fun q=>e2 (q.trans e1.symm),<-e1]
   exact k
 ·rw[if_neg e1]at h
  by_cases e2:z.1=y.1
  ·rw[if_neg fun q=>e1 (e2.symm.trans q),e2]
   exact h
  ·rw[if_neg e2]at k
   have h:=of_decide_eq_false h
   have k:=of_decide_eq_false k
   by_cases e3:z.1=x.1
   ·exfalso
    rw[e3]at k
    exact e1 (str_tot h k)
   ·rw[if_neg e3]
    exact decide_eq_false (le h k)
theorem ord_pairs:Tm.Ord (PairD M H) (fun x y=>lt2 (kk M H x.1) (kk M H y.1)):=⟨fun x y _ _ h=>lt2_asym h,fun x y z _ _ _ h k=>lt2_tr h k⟩
theorem refs_vals:∀ {xs:List V} {us:List Value},Vals xs us->(∀ x ∈ xs,∃p,x=.ref p)->us=xs.map (fun x=>match x with | .ref p=>Value.ref p | _=>Value.none)
 | _,_,.nil,_=>rfl
 | x::xs,_,.cons r t,h=>by
  obtain⟨p,rfl⟩:=h x List.mem_cons_self
  cases r
  rw[refs_vals t fun y hy=>h y (List.mem_cons_of_mem _ hy)]
  rfl
noncomputable def backV (v:Value):V:=.ref (addrV v)
theorem vals_back:∀ {us:List Value},(∀ u ∈ us,∃p,u=Value.ref p)->Vals (us.map backV) us
 | [],_=>.nil
 | u::us,h=>by
  obtain⟨p,rfl⟩:=h u List.mem_cons_self
  exact .cons rfl (vals_back fun y hy=>h y (List.mem_cons_of_mem _ hy))
theorem map_back {xs:List V} (h:∀x ∈ xs,∃p,x=.ref p):(xs.map (fun x=>match x with | .ref p=>Value.ref p | _=>Value.none)).map backV=xs:=by
 rw[List.map_map]
 refine(List.map_congr_left fun x hx=>?_).trans (List.map_id _)
 obtain⟨p,rfl⟩:=h x hx
 rfl
theorem refs_of {xs:List V} {us:List Value} (r:Vals xs us) (h:∀x ∈ xs,∃p,x=.ref p):(∀ u ∈ us,∃p,u=Value.ref p)/\us.map backV=xs:=by
 rw[refs_vals r h]
 refine⟨fun u hu=>?_,map_back h⟩
 obtain⟨x,hx,rfl⟩:=List.mem_map.mp hu
 obtain⟨p,rfl⟩:=h x hx
 exact⟨p,rfl⟩
theorem out_refs {us:List Value} (h:∀u ∈ us,∃p,u=Value.ref p) {arr:Array Keyed} (p:arr.Perm (pairsOf us)):(arr.map (·.2)).toList.Perm us/\∀u ∈ (arr.map (·.2)).toList,∃p,u=Value.ref p:=by
 have hl:arr.toList.Perm (us.zip us):=by rw[<-pairsOf_toList];exact Array.perm_iff_toList_perm.mp p
 have e:(arr.map (·.2)).toList.Perm us:=by
  rw[Array.toList_map]
  have z:=hl.map (·.2)
  rw[List.map_snd_zip (Nat.le_refl _)]at z
  exact z
 exact⟨e,fun u hu=>h u (e.mem_iff.mp hu)⟩
theorem katTups (mo:ModOk X.K M) (I:Inv X pins σ H s):∀ {us:List Value},(∀ u ∈ us,∃p o n xs f,u=Value.ref p/\s.heap.get? p=some o/\o.cls=.type "tuple" /\o.data=.seq xs n/\xs[0]?=some f/\∃T,f=T)->∃fs,PySem.W.KatTups s.heap us fs/\fs.length=us.length/\∀f ∈ fs,∃u ∈ us,∃p o n xs,u=Value.ref p/\s.heap.get? p=some o/\o.data=.seq xs n/\xs[0]?=some f
 | [],_=>⟨[],.nil,rfl,fun f hf=>by cases hf⟩
 | u::us,h=>by
  obtain⟨p,o,n,xs,f,rfl,h1,h2,h3,h4,_⟩:=h u List.mem_cons_self
  obtain⟨fs,k1,k2,k3⟩:=katTups mo I (us:=us) fun y hy=>h y (List.mem_cons_of_mem _ hy)
  refine⟨f::fs,.cons h1 h2 h3 h4 k1,by rw[List.length_cons,List.length_cons,k2],fun g hg=>?_⟩
  rcases List.mem_cons.mp hg with rfl | hg
  ·exact⟨_,List.mem_cons_self,p,o,n,xs,rfl,h1,h3,h4⟩
  ·obtain⟨u,hu,r⟩:=k3 g hg
   exact⟨u,List.mem_cons_of_mem _ hu,r⟩
end
end Sw
namespace Sw
open PySem PySem.Spec PyProof.Rows L2
section
variable {X:Cx} {M:Mo} {pins:List (Addr × Obj)} {σ:L2.St} {H:Hp} {s:Shared}
theorem pair_refs {xs:List V} (h:xs.all (fun x=>(pairK M H x).isSome)=true):∀x ∈ xs,∃p ab,x=.ref p/\pairK M H (.ref p)=some ab:=fun x hx=>by
 have z:=List.all_eq_true.mp h x hx
 obtain⟨ab,e⟩:=Option.isSome_iff_exists.mp z
 cases x with
 | ref p=>exact⟨p,ab,rfl,e⟩
 | _=>cases e
theorem both_same {us:List Value} {arr:Array Keyed} (p:arr.Perm (pairsOf us)) {k:Keyed} (h:k ∈ arr.toList):k.1=k.2/\k.1 ∈ us:=by
 have hl:arr.toList.Perm (us.zip us):=by rw[<-pairsOf_toList];exact Array.perm_iff_toList_perm.mp p
 exact mem_zip_self (hl.mem_iff.mp h)
theorem allD_pairs {us:List Value} {D:Keyed->Prop} (h:∀u ∈ us,∀v,D (u,v)):Tm.AllD D (pairsOf us):=fun k hk=>by
 rw[pairsOf_toList]at hk
 obtain⟨a,b⟩:=k
 exact h a (mem_zip_self hk).2 b
theorem sortT_ok (mo:ModOk X.K M) (I:Inv X pins σ H s) {p:Addr} {xs:List V} {Q:VK} (hq:SqL X.K H p xs) (all:xs.all (fun x=>(pairK M H x).isSome)=true) (h64:xs.length < 64)
  (h:∀ws l,List.Perm ws xs->ws.Pairwise (fun x y=>∀a b,pairK M H x=some a->pairK M H y=some b->lt2 b a=false)->H l=none->M l=none->Q (.ref l) (upd H l (.lst ws))):
  wpAny (model X.prog X.w) X.A (call (.builtin "sorted") [.ref p]) (EP X pins σ Q) X.xe s:=by
 obtain⟨its,rv,pl,hz⟩:=I.list hq
 have pr:=pair_refs all
 obtain⟨ru,eb⟩:=refs_of rv fun x hx=>let ⟨p,_,e,_⟩:=pr x hx;⟨p,e⟩
 have ln:its.length=xs.length:=by rw[<-eb,List.length_map]
 have us:∀u ∈ its,∃p ab,u=Value.ref p/\pairK M H (.ref p)=some ab:=fun u hu=>by
  obtain⟨q,rfl⟩:=ru u hu
  have:backV (Value.ref q) ∈ xs:=by rw[<-eb];exact List.mem_map.mpr ⟨_,hu,rfl⟩
  obtain⟨p',ab,e,k⟩:=pr _ this
  exact⟨q,ab,rfl,by rw[<-(show V.ref q=V.ref p' from e)]at k;exact k⟩
 have ad:Tm.AllD (PairD M H) (pairsOf its):=allD_pairs fun u hu v=>by
  obtain⟨q,ab,rfl,k⟩:=us u hu
  exact⟨q,ab,rfl,k⟩
 refine Tm.sorted_any (κ:=tuples' true) (Post:=fun st=>Tm.Up (fun x y=>lt2 (kk M H x.1) (kk M H y.1)) (arrOf st) (pairsOf its).size) pl.isList (by rw[ln];exact hz) (fun h2 st e=>?_) (fun _ h' k Q' q=>?_) (fun h2 h' k Q' st ok hp q=>?_) fun st pm up=>?_
 ·rw[e]
  intro i j h3 h4
  rw[pairsOf_size]at h4
  have:i=j:=by omega
  subst this
  exact Tm.LeA.refl ord_pairs ad i
 ·have I':Inv X pins σ H {s with heap:=h'}:=I.kept (t':=s.toks) k
  obtain⟨fs,k1,k2,k3⟩:=katTups mo I' (us:=its) fun u hu=>by
   obtain⟨q,⟨a,b⟩,rfl,e⟩:=us u hu
   obtain⟨o,n,t,v,g1,g2,g3⟩:=pair_obj mo I' (pairK_at e)
   exact⟨q,o,n,_,_,rfl,g1,g2,g3,rfl,_,rfl⟩
  refine PySem.W.kat_kind (T:=.type "str") k1 (by omega) (fun f hf=>?_) rfl q
  obtain⟨u,hu,q,o,n,zs,rfl,g1,g2,g3⟩:=k3 f hf
  obtain⟨q',⟨a,b⟩,e1,e2⟩:=us _ hu
  cases e1
  obtain⟨o',n',t,v,g4,g5,g6⟩:=pair_obj mo I' (pairK_at e2)
  rw[g1]at g4
  cases g4
  rw[g2]at g6
  cases g6
  have g3:some (Value.str a t)=some f:=g3
  cases g3
  exact .now
 ·have I':Inv X pins σ H {s with heap:=h'}:=I.kept (t':=s.toks) k
  exact Tm.wpS_sortRunsS (cmp_pairs mo I' _ _) ord_pairs ad ok hp (by rw[pairsOf_size];omega) (by rw[pairsOf_size];omega) q
 ·obtain⟨o1,o2⟩:=out_refs ru pm
  obtain⟨c,hc⟩:=sortedAll_at s.heap its ((arrOf st).map (·.2))
  have wp:((((arrOf st).map (·.2)).toList).map backV).Perm xs:=by rw[<-eb];exact o1.map backV
  refine new_list mo I (fun b o q=>sortedAll_old q) rfl rfl (Nat.le_succ _) hc (vals_back o2) (by rw[wp.length_eq];exact hz) (h _ _ wp ?_)
  rw[List.pairwise_iff_getElem]
  intro i j hi hj hij a b ha hb
  have hi':i < (arrOf st).size:=by simpa using hi
  have hj':j < (arrOf st).size:=by simpa using hj
  have ei:((((arrOf st).map (·.2)).toList).map backV)[i]=.ref (addrV (arrOf st)[i].2):=by simp[backV]
  have ej:((((arrOf st).map (·.2)).toList).map backV)[j]=.ref (addrV (arrOf st)[j].2):=by simp[backV]
  rw[ei]at ha
  rw[ej]at hb
  have si:=(both_same pm (k:=(arrOf st)[i]) (by simp)).1
  have sj:=(both_same pm (k:=(arrOf st)[j]) (by simp)).1
  have le:=up i j (Nat.le_of_lt hij) (by rw[<-pm.size_eq];exact hj') _ _ (getElem?_pos (arrOf st) i hi') (getElem?_pos (arrOf st) j hj')
  dsimp only at le
  unfold kk at le
  rw[si,sj,ha,hb]at le
  exact le
noncomputable def dk (M:Mo) (H:Hp) (v:Value):Int × Str × Str:=match rd M H (addrV v)with
 | some (.tup [.int i,r])=>(i,(pairK M H r).getD (Str.empty,Str.empty))
 | _=>(0,Str.empty,Str.empty)
noncomputable def DrawD (M:Mo) (H:Hp) (k:Keyed):Prop:=∃p i r ab,k.1=.ref p/\rd M H p=some (.tup [.int i,.ref r])/\pairK M H (.ref r)=some ab
theorem dk_at {p:Addr} {i:Int} {r:Addr} {ab:Str × Str} (h:rd M H p=some (.tup [.int i,.ref r])) (k:pairK M H (.ref r)=some ab):dk M H (.ref p)=(i,ab):=by
 unfold dk addrV
 dsimp only
 rw[h]
 dsimp only
 rw[k]
 rfl
noncomputable def ltD (x y:Int × Str × Str):Bool:=if x.1=y.1 then lt2 x.2 y.2 else decide (x.1 < y.1)
theorem draw_obj (mo:ModOk X.K M) (I:Inv X pins σ H s) {p r:Addr} {i:Int} (h:rd M H p=some (.tup [.int i,.ref r])):∃o n t,s.heap.get? p=some o/\o.cls=.type "tuple" /\o.data=.seq #[.int i t,.ref r] n:=by
 obtain⟨its,rv,⟨o,ho,hc,n,hd⟩,_⟩:=I.tuple (rd_tup mo h)
 cases rv with
 | cons r1 rv=>
  cases rv with
  | cons r2 rv=>
   cases rv
   obtain⟨t,rfl⟩:=r1
   cases r2
   exact⟨o,n,t,ho,hc,hd⟩
theorem lt_pair_at (mo:ModOk X.K M) (I:Inv X pins σ H s) {p r:Addr} {ab cd:Str × Str} (hp:pairK M H (.ref p)=some ab) (hr:pairK M H (.ref r)=some cd) {A:Around} (hu:A.units < cLine):Tm.LtAt A s (.ref p) (.ref r) (lt2 ab cd):=fun prog w E Q q=>by
 obtain⟨a,b⟩:=ab
 obtain⟨c,d⟩:=cd
 obtain⟨⟨c1,dd1,da1,sl1⟩,n1,t1,u1,g1,e1,d1⟩:=pair_obj mo I (pairK_at hp)
 obtain⟨⟨c2,dd2,da2,sl2⟩,n2,t2,u2,g2,e2,d2⟩:=pair_obj mo I (pairK_at hr)
 simp only at e1 d1 e2 d2
 subst e1 d1 e2 d2
 let e:Nat->Bool:=fun j=>if j=0 then a == c else b == d
 let f:Nat->Bool:=fun j=>if j=0 then decide (a.cps.toList < c.cps.toList)else decide (b.cps.toList < d.cps.toList)
 have lx:Tm.lexB e f (decide ((#[Value.str a t1,Value.str b u1]:Array Value).size < (#[Value.str c t2,Value.str d u2]:Array Value).size)) (List.range (min (#[Value.str a t1,Value.str b u1]:Array Value).size (#[Value.str c t2,Value.str d u2]:Array Value).size))=lt2 (a,b) (c,d):=by
  show Tm.lexB e f false [0,1]=_
  unfold lt2
  show(if(a == c)=true then(if(b == d)=true then false else decide (b.cps.toList < d.cps.toList))else decide (a.cps.toList < c.cps.toList))=_
  by_cases h1:a=c
  ·rw[if_pos (by simp[h1]),if_pos h1]
   by_cases h2:b=d
   ·rw[if_pos (by simp[h2])]
    subst h2
    exact(decide_eq_false (List.lt_irrefl _)).symm
   ·rw[if_neg (by simp[h2])]
  ·rw[if_neg (by simp[h1]),if_neg h1]
 refine richCompare_meets_room (op:=.Lt) ⟨_,g1,rfl⟩ ⟨_,g2,rfl⟩ F.slot_tuple_lt F.entry_tuple_lt (F.args_tuple_lt_2 _ _) (Tm.tuple_ltAt p r _ _ n1 n2 dd1 dd2 sl1 sl2 e f) ⟨g1,g2,fun j h1 h2=>?_,?_⟩ hu
 ·match j,h1,h2 with
  | 0,_,_=>exact⟨SeqAt.EqAt.str_str a t1 c t2,fun _ prog w E Q q=>PySem.P.lt_str q⟩
  | 1,_,_=>exact⟨SeqAt.EqAt.str_str b u1 d u2,fun _ prog w E Q q=>PySem.P.lt_str q⟩
  | n + 2,h1,_=>exact absurd h1 (by simp)
 ·rw[lx]
  exact⟨(fun x=>nomatch x),q⟩
theorem cmp_draws (mo:ModOk X.K M) (I:Inv X pins σ H s) (A':Around) (E':Value->Shared->Prop) (hu:A'.units + 8 < cLine):Tm.Cmp X.prog X.w A' E' s (tuples' true) (DrawD M H) (fun x y=>ltD (dk M H x.1) (dk M H y.1)):=by
 refine⟨fun st x y Q hk dx dy q=>?_⟩
 obtain⟨p,i,r,ab,ex,hp,hr⟩:=dx
 obtain⟨p',j,r',cd,ey,hp',hr'⟩:=dy
 obtain⟨o1,n1,t1,g1,c1,d1⟩:=draw_obj mo I hp
 obtain⟨o2,n2,t2,g2,c2,d2⟩:=draw_obj mo I hp'
 rw[lt'_eq]
 refine wpS_bind (wpS_get ?_)
 rw[hk,ex,ey]
 rw[ex,ey,dk_at hp hr,dk_at hp' hr']at q
 refine wpS_bind (wpS_lift (wpAny_attempt (PySem.W.kat_lt g1 d1 g2 d2 ?_)))
 show PySem.W.KatLex _ _ _ true false _ [(.int i t1,.int j t2),(.ref r,.ref r')] 0 _
 refine PySem.W.kat_cons (SeqAt.EqAt.int_int i t1 j t2 _ _ _ _ (PySem.W.kat_go (fun e=>PySem.W.kat_yes ?_) fun e=>PySem.W.kat_no ?_))
 ·have e:i=j:=by simpa using e
  unfold ltD at q
  rw[if_pos e]at q
  obtain⟨a,b⟩:=ab
  obtain⟨c,d⟩:=cd
  have da:∀ {z:Addr} {a b:Str},pairK M H (.ref z)=some (a,b)->data M H 1 (.ref z)=some (.tuple [.str a,.str b]):=fun h=>by
   unfold data
   rw[pairK_at h]
   rfl
  refine PySem.W.kat_cons (eqAt_data mo I 1 A' (.ref r) (.ref r') _ _ _ _ (by omega) rfl rfl (da hr) (da hr') _ _ _ _ (PySem.W.kat_go (fun e2=>PySem.W.kat_yes (PySem.W.kat_nil ?_)) fun e2=>PySem.W.kat_no ?_))
  ·have e2:((a == c) && ((b == d) && true))=true:=e2
   simp only[Bool.and_true,Bool.and_eq_true,beq_iff_eq]at e2
   obtain⟨rfl,rfl⟩:=e2
   dsimp only at q
   rw[lt2_irr]at q
   exact⟨rfl,wpS_pure q⟩
  ·show wpAny _ _ (oneLt' false _ _) _ _ _
   refine PySem.W.kat_one _ _ (lt_pair_at mo I hr hr' (by omega) _ _ _ _ ?_)
   exact⟨rfl,wpS_pure q⟩
 ·have e:i ≠ j:=by simpa using e
  unfold ltD at q
  rw[if_neg e]at q
  show wpAny _ _ (oneLt' true _ _) _ _ _
  exact oneLt_int ⟨rfl,wpS_pure q⟩
theorem draw_refs {xs:List V} (h:xs.all (drawK M H)=true):∀x ∈ xs,∃p i r ab,x=.ref p/\rd M H p=some (.tup [.int i,.ref r])/\pairK M H (.ref r)=some ab:=fun x hx=>by
 have z:=List.all_eq_true.mp h x hx
 cases x with
 | ref p=>
  unfold drawK at z
  dsimp only at z
  split at z
  ·rename_i i r e
   cases r with
   | ref q=>
    obtain⟨ab,k⟩:=Option.isSome_iff_exists.mp z
    exact⟨p,i,q,ab,rfl,e,k⟩
   | _=>cases z
  ·cases z
 | _=>cases z
theorem sortM_ok (mo:ModOk X.K M) (hu:X.A.units + 64 < cLine) (I:Inv X pins σ H s) {p:Addr} {xs:List V} {Q:VK} (hq:SqL X.K H p xs) (all:xs.all (drawK M H)=true)
  (h:∀ws l,List.Perm ws xs->H l=none->M l=none->Q (.ref l) (upd H l (.lst ws))):
  wpAny (model X.prog X.w) X.A (call (.builtin "sorted") [.ref p]) (EP X pins σ Q) X.xe s:=by
 obtain⟨its,rv,pl,hz⟩:=I.list hq
 have pr:=draw_refs all
 obtain⟨ru,eb⟩:=refs_of rv fun x hx=>let ⟨p,_,_,_,e,_⟩:=pr x hx;⟨p,e⟩
 have ln:its.length=xs.length:=by rw[<-eb,List.length_map]
 have us:∀u ∈ its,∃p i r ab,u=Value.ref p/\rd M H p=some (.tup [.int i,.ref r])/\pairK M H (.ref r)=some ab:=fun u hu=>by
  obtain⟨q,rfl⟩:=ru u hu
  have:backV (Value.ref q) ∈ xs:=by rw[<-eb];exact List.mem_map.mpr ⟨_,hu,rfl⟩
  obtain⟨p',i,r,ab,e,k,k2⟩:=pr _ this
  cases (show V.ref q=V.ref p' from e)
  exact⟨q,i,r,ab,rfl,k,k2⟩
 have ad:Tm.AllD (DrawD M H) (pairsOf its):=allD_pairs fun u hu v=>by
  obtain⟨q,i,r,ab,rfl,k,k2⟩:=us u hu
  exact⟨q,i,r,ab,rfl,k,k2⟩
 refine Tm.sorted_any (κ:=tuples' true) (Post:=fun st=>True) pl.isList (by rw[ln];exact hz) (fun h2 st e=>trivial) (fun _ h' k Q' q=>?_) (fun h2 h' k Q' st ok hp q=>?_) fun st pm up=>?_
 ·have I':Inv X pins σ H {s with heap:=h'}:=I.kept (t':=s.toks) k
  obtain⟨fs,k1,k2,k3⟩:=katTups mo I' (us:=its) fun u hu=>by
   obtain⟨q,i,r,ab,rfl,e,_⟩:=us u hu
   obtain⟨o,n,t,g1,g2,g3⟩:=draw_obj mo I' e
   exact⟨q,o,n,_,_,rfl,g1,g2,g3,rfl,_,rfl⟩
  refine PySem.W.kat_kind (T:=.type "int") k1 (by omega) (fun f hf=>?_) rfl q
  obtain⟨u,hu,q,o,n,zs,rfl,g1,g2,g3⟩:=k3 f hf
  obtain⟨q',i,r,ab,e1,e2,_⟩:=us _ hu
  cases e1
  obtain⟨o',n',t,g4,g5,g6⟩:=draw_obj mo I' e2
  rw[g1]at g4
  cases g4
  rw[g2]at g6
  cases g6
  have g3:some (Value.int i t)=some f:=g3
  cases g3
  exact .now
 ·have I':Inv X pins σ H {s with heap:=h'}:=I.kept (t':=s.toks) k
  exact Tm.wpS_sortRunsP (cmp_draws mo I' _ _ (by show X.A.units + 1 + 1 + 8 < cLine;omega)) ad ok fun st' a1 a2=>q st' a1 a2 trivial
 ·obtain⟨o1,o2⟩:=out_refs ru pm
  obtain⟨c,hc⟩:=sortedAll_at s.heap its ((arrOf st).map (·.2))
  have wp:((((arrOf st).map (·.2)).toList).map backV).Perm xs:=by rw[<-eb];exact o1.map backV
  exact new_list mo I (fun b o q=>sortedAll_old q) rfl rfl (Nat.le_succ _) hc (vals_back o2) (by rw[wp.length_eq];exact hz) (h _ _ wp)
end
end Sw
namespace Sw
open PySem PySem.Spec PyProof.Rows L2
section
variable {X:Cx} {M:Mo} {pins:List (Addr × Obj)} {σ:L2.St} {H:Hp} {s:Shared} {p:Addr}
noncomputable def b2Id:B2->String
 | .sortT=> "sorted" | .sortM=> "sorted"
theorem b2_ok (mo:ModOk X.K M) (hc:X.calm=true) (hu:X.A.units + 64 < cLine) (f:B2) {x:V} {v:Value} {Q:VK} (I:Inv X pins σ H s) (r:RelV x v) (h:b2V M f x H Q):
  wpAny (model X.prog X.w) X.A (call (.builtin (b2Id f)) [v]) (EP X pins σ Q) X.xe s:=by
 unfold b2V at h
 cases x with
 | ref q=>
  cases (show v=Value.ref q from r)
  dsimp only at h
  split at h
  ·rename_i e
   have hq:=rd_lst mo e
   cases f with
   | sortT=>exact sortT_ok mo I hq h.1.2 h.1.1 h.2
   | sortM=>exact sortM_ok mo hu I hq h.1 h.2
  ·exact h.elim
 | _=>exact h.elim
theorem boot_reversed:bootBuiltins ("reversed" :Str)=some (.type "reversed"):=by kernel_rfl
end
end Sw
namespace Zl
open PySem
section
variable {prog:Program} {w:World} {A:Around} {s:Shared} {R:Result->Shared->Prop} {S I:Addr} {n:Nat} {J:Nat->Array Value->Heap->Prop} {F:Array Value->Heap->Prop} {res:Value}
structure Walk (prog:Program) (w:World) (A:Around) (s:Shared) (S I:Addr) (n:Nat) (J:Nat->Array Value->Heap->Prop) (F:Array Value->Heap->Prop):Prop where
 few:n<=sizeLine
 size:∀i acc h,J i acc h->acc.size=i
 keep:∀i acc h h',J i acc h->(∀ b o,b ≠ S->h.get? b=some o->h'.get? b=some o)->J i acc h'
 item:∀i acc h tk (Q:Option Value->Shared->Prop) (E:Value->Shared->Prop),i < n->J i acc h->S < h.objs.size->
  (∀ v h',J (i + 1) (acc.push v) h'->(∀ o,h.get? S=some o->h'.get? S=some o)->Q (some v) {s with heap:=h',toks:=tk})->wpAny (model prog w) A (pyNext (.ref I)) Q E {s with heap:=h,toks:=tk}
 done:∀acc h tk (Q:Option Value->Shared->Prop) (E:Value->Shared->Prop),J n acc h->S < h.objs.size->
  (∀ h',F acc h'->(∀ o,h.get? S=some o->h'.get? S=some o)->Q none {s with heap:=h',toks:=tk})->wpAny (model prog w) A (pyNext (.ref I)) Q E {s with heap:=h,toks:=tk}
theorem ext_loop (W:Walk prog w A.in1 s S I n J F) (hR:∀h' acc c tk,F acc h'->h'.get? S=some {cls:=.type "list",dict:=none,data:=.seq acc c,slots:=#[]}->R (.ok (.ret res)) {s with heap:=h',toks:=tk}):
  ∀ (k i:Nat) (h:Heap) (tk c:Nat) (acc:Array Value),n - i=k->i<=n->J i acc h->h.get? S=some {cls:=.type "list",dict:=none,data:=.seq acc c,slots:=#[]}->
   codeAny (model prog w) A (.builtin "list.extend.loop" ⟨[.ref S,.ref I,res],[]⟩) R {s with heap:=h,toks:=tk}
 | 0,i,h,tk,c,acc,hk,hi,hj,hS=>by
  have e:i=n:=by omega
  subst e
  refine codeAny_builtin PySem.F.entry_extend_loop ?_
  rw[Around.under_plainId PySem.F.plain_extend_loop _]
  show wpAny _ A.in1 (pyNext (.ref I) >>= _) _ _ _
  exact wpAny_bind (W.done acc h tk _ _ hj (Heap.lt_size hS) fun h' f sm=>wpAny_pure (hR h' acc c tk f (sm _ hS)))
 | k + 1,i,h,tk,c,acc,hk,hi,hj,hS=>by
  have lt:i < n:=by omega
  have sz:=W.size i acc h hj
  have few:=W.few
  refine codeAny_builtin PySem.F.entry_extend_loop ?_
  rw[Around.under_plainId PySem.F.plain_extend_loop _]
  show wpAny _ A.in1 (pyNext (.ref I) >>= _) _ _ _
  refine wpAny_bind (W.item i acc h tk _ _ lt hj (Heap.lt_size hS) fun v h' hj' sm=>?_)
  have hS':=sm _ hS
  show wpAny _ A.in1 (updateSeq S (·.push v) >>= _) _ _ _
  refine wpAny_bind ?_
  refine wpAny_updateSeq hS' rfl (wpAny_pure ⟨plainId_quiet PySem.F.plain_extend_loop _,?_⟩) (by omega) (by show(acc.push v).size<=sizeLine + 1;rw[Array.size_push];omega)
  exact ext_loop W hR k (i + 1) _ tk _ (acc.push v) (by omega) lt (W.keep _ _ _ _ hj' fun b o hb e=>(Heap.get?_update_other _ _ (Ne.symm hb)).trans e) (Heap.get?_update_self _ hS' rfl)
end
section
variable {prog:Program} {w:World} {A:Around} {E:Value->Shared->Prop} {s:Shared} {I:Addr} {n:Nat} {J:Nat->Array Value->Heap->Prop} {F:Array Value->Heap->Prop} {T:String}
theorem list_iter {Q:Value->Shared->Prop} (W:Walk prog w A.in1.in1 s s.heap.objs.size I n J F) (hj:J 0 #[] s.heap) (tl:T ≠ "list") (tt:T ≠ "tuple") (hT:s.TypeIs (.ref I) T)
  (self:∀ (B:Around) (t:Shared) (K:Value->Shared->Prop) (X:Value->Shared->Prop),t.TypeIs (.ref I) T->K (.ref I) t->wpAny (model prog w) B (pyIter (.ref I)) K X t)
  (hint:∀ (B:Around) (t:Shared) (K:Bool->Shared->Prop) (X:Value->Shared->Prop),t.TypeIs (.ref I) T->(∀ b,K b t)->wpAny (model prog w) B (Builtin.List.listLengthHint (.ref I)) K X t)
  (hQ:∀h' acc c tk,F acc h'->h'.get? s.heap.objs.size=some {cls:=.type "list",dict:=none,data:=.seq acc c,slots:=#[]}->Q (.ref s.heap.objs.size) {s with heap:=h',toks:=tk}):
  wpAny (model prog w) A (call (.type "list") [.ref I]) Q E s:=by
 refine callType_codes (Q₁:=fun obj s₁=>obj=.ref s.heap.objs.size/\s₁={s with heap:=s.heap.push {cls:=.type "list",data:=.seq #[]}}) PySem.F.called_list (PySem.F.typeCall_list_1 _) PySem.F.entry_list_init
  (code_list_new _ ⟨rfl,rfl⟩) fun obj s₁ h₁=>?_
 obtain⟨rfl,rfl⟩:=h₁
 have hS:(s.heap.push {cls:=.type "list",data:=.seq #[]}).get? s.heap.objs.size=some {cls:=.type "list",data:=.seq #[]}:=Heap.get?_push_size _ rfl
 have iS:I ≠ s.heap.objs.size:=by
  obtain⟨o,ho,_⟩:=hT
  exact Nat.ne_of_lt (Heap.lt_size ho)
 have ex:∀h:Heap,(∀ b o,b ≠ s.heap.objs.size->s.heap.get? b=some o->h.get? b=some o)->Shared.TypeIs {s with heap:=h} (.ref I) T:=fun h k=>by
  obtain⟨o,ho,hc⟩:=hT
  exact⟨o,k I o iS ho,hc⟩
 refine⟨⟨_,hS,rfl⟩,PySem.F.args_list_init_2 _ _,?_⟩
 show wpAny _ _ (do let old<-Builtin.List.listItems (.ref s.heap.objs.size);Builtin.List.listUpdate (.ref s.heap.objs.size) (fun _=>#[]);letGo old.toList.reverse;Builtin.List.listExtendWith (.ref s.heap.objs.size) (.ref I) .none) _ _ _
 refine wpAny_bind ?_
 unfold Builtin.List.listItems
 refine wpAny_bind (wpAny_seqItems hS rfl (wpAny_pure ?_))
 show wpAny _ _ (updateSeq s.heap.objs.size (fun _=>#[]) >>= fun _=>letGo (#[]:Array Value).toList.reverse >>= fun _=>Builtin.List.listExtendWith (.ref s.heap.objs.size) (.ref I) .none) _ _ _
 refine wpAny_bind (wpAny_updateSeq hS rfl ?_)
 have hS2:=Heap.get?_update_self (Obj.mapSeq (fun _=>(#[]:Array Value))) hS rfl
 have k2:∀b o,b ≠ s.heap.objs.size->s.heap.get? b=some o->((s.heap.push {cls:=.type "list",data:=.seq #[]}).update s.heap.objs.size (Obj.mapSeq (fun _=>(#[]:Array Value)))).get? b=some o:=
  fun b o hb e=>(Heap.get?_update_other _ _ (Ne.symm hb)).trans (Heap.get?_push_of_some _ e)
 refine wpAny_bind (wpAny_letGo ?_)
 generalize (s.heap.push {cls:=.type "list",data:=.seq #[]}).update s.heap.objs.size (Obj.mapSeq (fun _=>(#[]:Array Value)))=h2 at hS2 k2
 have loop:∀ (h:Heap) (c:Nat) (tk:Nat),(∀ b o,b ≠ s.heap.objs.size->s.heap.get? b=some o->h.get? b=some o)->h.get? s.heap.objs.size=some {cls:=.type "list",data:=.seq #[] c}->
   codeAny (model prog w) A.in1 (.builtin "list.extend.loop" ⟨[.ref s.heap.objs.size,.ref I,.none],[]⟩) (wants (fun r s₂=>r=.none/\Q (.ref s.heap.objs.size) s₂) E) {s with heap:=h,toks:=tk}:=fun h c tk k hs=>
  ext_loop W (fun h' acc c tk f e=>⟨rfl,hQ h' acc c tk f e⟩) n 0 h tk c #[] (Nat.sub_zero _) (Nat.zero_le _) (W.keep _ _ _ _ hj k) hs
 unfold Builtin.List.listExtendWith
 refine wpAny_bind (wpAny_typeOf (T:=T) (ex h2 k2) ?_)
 have h1:Builtin.List.listSameRef (.ref s.heap.objs.size) (.ref I)=false:=by simp[Builtin.List.listSameRef,Ne.symm iS]
 have h3:(Value.type T == Value.type "list")=false:=by simp[tl]
 have h4:(Value.type T == Value.type "tuple")=false:=by simp[tt]
 simp only[h1,h3,h4,Bool.or_false,Bool.false_eq_true,if_false]
 refine wpAny_bind (self _ _ _ _ (ex h2 k2) ?_)
 refine wpAny_bind (wpAny_holding (hint _ _ _ _ (ex h2 k2) fun room=>?_))
 refine wpAny_ite_split (fun _=>?_) (fun _=>wpAny_pure ⟨plainId_quiet PySem.F.plain_extend_loop _,loop h2 _ _ k2 hS2⟩)
 refine wpAny_bind (wpAny_rule ?_)
 refine wpAny_bind ?_
 show wpAny _ _ (updateSeq s.heap.objs.size (·.push .none) >>= fun _=>updateSeq s.heap.objs.size (·.pop)) _ _ _
 refine wpAny_bind (wpAny_updateSeq hS2 rfl ?_)
 have hS3:=Heap.get?_update_self (Obj.mapSeq (·.push Value.none)) hS2 rfl
 refine wpAny_updateSeq (hz:=by seq_fits) hS3 rfl ?_
 have hS4:=Heap.get?_update_self (Obj.mapSeq (·.pop)) hS3 rfl
 exact wpAny_pure ⟨plainId_quiet PySem.F.plain_extend_loop _,loop _ _ _ (fun b o hb e=>(Heap.get?_update_other _ _ (Ne.symm hb)).trans ((Heap.get?_update_other _ _ (Ne.symm hb)).trans (k2 b o hb e))) hS4⟩
end
end Zl
namespace Zl
open PySem
@[reducible] noncomputable def ZipO (h:Heap) (z TI TO a:Addr) (f:Bool):Prop:=
 h.get? z=some {cls:=.type "zip",dict:=none,data:=.fields #[rawInt a,.bool f,.bool false,.ref TI,.ref TO],slots:=#[]}
section
variable {prog:Program} {w:World} {A:Around} {E:Value->Shared->Prop} {s:Shared}
theorem alive {a:Addr} {o:Obj} {Q:Option Obj->Shared->Prop} (ho:s.heap.get? a=some o) (q:Q (some o) s):wpAny (model prog w) A (loadIfAlive a) Q E s:=by
 have q':Q (s.heap.get? a) s:=by rw[ho];exact q
 exact fun _ _ _=>q'
theorem held {z TI TO a:Addr} {f:Bool} {o:Obj} {Q:Bool->Shared->Prop} (hz:ZipO s.heap z TI TO a f) (ha:s.heap.get? a=some o)
  (q:∀h',ZipO h' z TI TO a true->Heap.SameBut z s.heap h'->Q false {s with heap:=h'}):wpAny (model prog w) A (Builtin.SmallTypes.ownedTupleIsFree (.ref z)) Q E s:=by
 unfold Builtin.SmallTypes.ownedTupleIsFree
 refine wpAny_bind (wpAny_field hz rfl (x:=rawInt a) rfl ?_)
 show wpAny _ _ (loadIfAlive ((a:Int).toNat) >>= _) _ _ _
 rw[Int.toNat_natCast]
 refine wpAny_bind (alive ha ?_)
 simp only[Option.isNone_some,Bool.false_eq_true,if_false]
 refine wpAny_bind (wpAny_field hz rfl (x:=.bool f) rfl ?_)
 cases f with
 | true=>
  rw[if_neg (show ¬ ((Value.bool true != Value.bool true)=true)from Bool.false_ne_true)]
  exact wpAny_pure (q s.heap hz (Heap.SameBut.refl _ _))
 | false=>
  rw[if_pos (show(Value.bool false != Value.bool true)=true from rfl)]
  exact wpAny_bind (wpAny_setField_rec hz (by simp) fun h' z' sb=>wpAny_pure (q h' z' sb))
theorem next_out {z TI TO i1 i2 l1 l2 a:Addr} {f:Bool} {o:Obj} {k1 k2:Nat} {xs ys:Array Value} {x y:Value} {Q:Value->Shared->Prop} (D:ZipApart z TI TO i1 i2 l1 l2)
  (hz:ZipO s.heap z TI TO a f) (ha:s.heap.get? a=some o) (hTI:IsPair s.heap TI (.ref i1) (.ref i2))
  (h1:s.heap.IsListIter i1 l1 k1) (h2:s.heap.IsListIter i2 l2 k2) (hl1:s.heap.IsList l1 xs) (hl2:s.heap.IsList l2 ys) (hx:xs[k1]?=some x) (hy:ys[k2]?=some y)
  (q:∀h',ZipO h' z TI TO a true->h'.IsListIter i1 l1 (k1 + 1)->h'.IsListIter i2 l2 (k2 + 1)->IsPair h' s.heap.objs.size x y->h'.objs.size=s.heap.objs.size + 1->
   (∀ c o,c ≠ z->c ≠ i1->c ≠ i2->s.heap.get? c=some o->h'.get? c=some o)->Q (.ref s.heap.objs.size) {s with heap:=h'}):
  wpAny (model prog w) A (Builtin.«zip.__next__» ⟨[.ref z],[]⟩) (fun fin s'=>∃v,fin=.done (.ret v)/\Q v s') E s:=by
 show wpAny _ _ (field (.ref z) 2 >>= _) _ _ _
 refine wpAny_bind (wpAny_field hz rfl (x:=.bool false) rfl ?_)
 show wpAny _ _ (field (.ref z) 3 >>= _) _ _ _
 refine wpAny_bind (wpAny_field hz rfl (x:=.ref TI) rfl ?_)
 refine wpAny_bind (wpAny_seqItems hTI rfl ?_)
 show wpAny _ _ (Builtin.SmallTypes.ownedTupleIsFree (.ref z) >>= _) _ _ _
 refine wpAny_bind (held hz ha fun g1 z1 s1=>?_)
 simp only[Bool.false_eq_true,if_false]
 rw[<-Array.forIn_toList]
 refine wpAny_bind ?_
 simp only[List.forIn_cons,List.forIn_nil]
 refine wpAny_bind (wpAny_bind (wpAny_holding ?_))
 show wpAny _ _ (Builtin.SmallTypes.nextOf (.ref i1) >>= _) _ _ _
 refine wpAny_bind (wpAny_nextOf_list_item (h1.extBut s1.extBut D.i1z) (hl1.extBut s1.extBut D.l1z) hx fun g2 n1 s2=>wpAny_pure (wpAny_pure ?_))
 refine wpAny_bind (wpAny_bind (wpAny_holding ?_))
 show wpAny _ _ (Builtin.SmallTypes.nextOf (.ref i2) >>= _) _ _ _
 refine wpAny_bind (wpAny_nextOf_list_item ((h2.extBut s1.extBut D.i2z).extBut s2.extBut D.i12.symm) ((hl2.extBut s1.extBut D.l2z).extBut s2.extBut D.l2i1) hy fun g3 n2 s3=>wpAny_pure (wpAny_pure (wpAny_pure ?_)))
 refine wpAny_bind (wpAny_newTuple ?_ (by show 2<=sizeLine;rw[sizeLine_eq];omega))
 have hsz:g3.objs.size=s.heap.objs.size:=by rw[s3.1,s2.1,s1.1]
 have z3:ZipO g3 z TI TO a true:=s3.extBut _ _ D.i2z.symm (s2.extBut _ _ D.i1z.symm z1)
 refine wpAny_pure ⟨_,rfl,?_⟩
 show Q (.ref g3.objs.size) _
 rw[hsz]
 refine q _ (Heap.get?_push_of_some _ z3) ((n1.extBut s3.extBut D.i12).at fun o e=>Heap.get?_push_of_some _ e) (n2.at fun o e=>Heap.get?_push_of_some _ e) (by rw[<-hsz];exact Heap.get?_push_size _ rfl) (by rw[Heap.size_push,hsz]) fun c o c1 c2 c3 e=>?_
 exact Heap.get?_push_of_some _ (s3.extBut _ _ c3 (s2.extBut _ _ c2 (s1.extBut _ _ c1 e)))
theorem end_out {z TI TO i1 i2 l1 l2 a:Addr} {f:Bool} {o:Obj} {k1 k2:Nat} {xs ys:Array Value} {Q:Fin->Shared->Prop} (hh:A.handled=none) (D:ZipApart z TI TO i1 i2 l1 l2)
  (hz:ZipO s.heap z TI TO a f) (ha:s.heap.get? a=some o) (hTI:IsPair s.heap TI (.ref i1) (.ref i2)) (h1:s.heap.IsListIter i1 l1 k1) (h2:s.heap.IsListIter i2 l2 k2)
  (hl1:s.heap.IsList l1 xs) (hl2:s.heap.IsList l2 ys) (no:xs[k1]?=none\/ys[k2]?=none)
  (q:∀h' e,(∀ c o,c ≠ z->c ≠ i1->c ≠ i2->s.heap.get? c=some o->h'.get? c=some o)->(∃ o,h'.get? e=some o/\o.cls=.type "StopIteration")->E (.ref e) {s with heap:=h'}):
  wpAny (model prog w) A (Builtin.«zip.__next__» ⟨[.ref z],[]⟩) Q E s:=by
 show wpAny _ _ (field (.ref z) 2 >>= _) _ _ _
 refine wpAny_bind (wpAny_field hz rfl (x:=.bool false) rfl ?_)
 show wpAny _ _ (field (.ref z) 3 >>= _) _ _ _
 refine wpAny_bind (wpAny_field hz rfl (x:=.ref TI) rfl ?_)
 refine wpAny_bind (wpAny_seqItems hTI rfl ?_)
 show wpAny _ _ (Builtin.SmallTypes.ownedTupleIsFree (.ref z) >>= _) _ _ _
 refine wpAny_bind (held hz ha fun g1 z1 s1=>?_)
 simp only[Bool.false_eq_true,if_false]
 rw[<-Array.forIn_toList]
 refine wpAny_bind ?_
 simp only[List.forIn_cons,List.forIn_nil]
 refine wpAny_bind (wpAny_bind (wpAny_holding ?_))
 show wpAny _ _ (Builtin.SmallTypes.nextOf (.ref i1) >>= _) _ _ _
 cases hx:xs[k1]? with
 | none=>
  refine wpAny_bind (wpAny_nextOf_list_end hh (h1.extBut s1.extBut D.i1z) (hl1.extBut s1.extBut D.l1z) hx fun g2 e s2 he=>?_)
  exact q g2 e (fun c o c1 c2 _ x=>s2 c o c2 (s1.extBut _ _ c1 x)) he
 | some x=>
  have hy:ys[k2]?=none:=no.resolve_left (by rw[hx];exact fun z=>by cases z)
  refine wpAny_bind (wpAny_nextOf_list_item (h1.extBut s1.extBut D.i1z) (hl1.extBut s1.extBut D.l1z) hx fun g2 n1 s2=>wpAny_pure (wpAny_pure ?_))
  refine wpAny_bind (wpAny_bind (wpAny_holding ?_))
  show wpAny _ _ (Builtin.SmallTypes.nextOf (.ref i2) >>= _) _ _ _
  refine wpAny_bind (wpAny_nextOf_list_end hh ((h2.extBut s1.extBut D.i2z).extBut s2.extBut D.i12.symm) ((hl2.extBut s1.extBut D.l2z).extBut s2.extBut D.l2i1) hy fun g3 e s3 he=>?_)
  exact q g3 e (fun c o c1 c2 c3 x=>s3 c o c3 (s2.extBut _ _ c2 (s1.extBut _ _ c1 x))) he
theorem pyNext_out {z TI TO i1 i2 l1 l2 a:Addr} {f:Bool} {o:Obj} {k1 k2:Nat} {xs ys:Array Value} {x y:Value} {Q:Option Value->Shared->Prop} (D:ZipApart z TI TO i1 i2 l1 l2)
  (hz:ZipO s.heap z TI TO a f) (ha:s.heap.get? a=some o) (hTI:IsPair s.heap TI (.ref i1) (.ref i2))
  (h1:s.heap.IsListIter i1 l1 k1) (h2:s.heap.IsListIter i2 l2 k2) (hl1:s.heap.IsList l1 xs) (hl2:s.heap.IsList l2 ys) (hx:xs[k1]?=some x) (hy:ys[k2]?=some y)
  (q:∀h',ZipO h' z TI TO a true->h'.IsListIter i1 l1 (k1 + 1)->h'.IsListIter i2 l2 (k2 + 1)->IsPair h' s.heap.objs.size x y->h'.objs.size=s.heap.objs.size + 1->
   (∀ c o,c ≠ z->c ≠ i1->c ≠ i2->s.heap.get? c=some o->h'.get? c=some o)->Q (some (.ref s.heap.objs.size)) {s with heap:=h'}):wpAny (model prog w) A (pyNext (.ref z)) Q E s:=by
 have hT:s.TypeIs (.ref z) "zip" :=⟨_,hz,rfl⟩
 unfold pyNext
 exact wpAny_bind (wpAny_attempt (wpAny_callSpecial?_slot (name:=Str.ofString "__next__") hT PySem.F.slot_zip_next
  (wpAny_call_entry PySem.F.slot_zip_next hT PySem.F.entry_zip_next (next_out D hz ha hTI h1 h2 hl1 hl2 hx hy fun h' a1 a2 a3 a4 a5 a6=>wpAny_pure (q h' a1 a2 a3 a4 a5 a6)) (PySem.F.args_zip_next_1 _))))
theorem pyNext_gone {z TI TO i1 i2 l1 l2 a:Addr} {f:Bool} {o:Obj} {k1 k2:Nat} {xs ys:Array Value} {Q:Option Value->Shared->Prop} (hh:A.handled=none) (D:ZipApart z TI TO i1 i2 l1 l2)
  (hz:ZipO s.heap z TI TO a f) (ha:s.heap.get? a=some o) (hTI:IsPair s.heap TI (.ref i1) (.ref i2)) (h1:s.heap.IsListIter i1 l1 k1) (h2:s.heap.IsListIter i2 l2 k2)
  (hl1:s.heap.IsList l1 xs) (hl2:s.heap.IsList l2 ys) (no:xs[k1]?=none\/ys[k2]?=none)
  (q:∀h',(∀ c o,c ≠ z->c ≠ i1->c ≠ i2->s.heap.get? c=some o->h'.get? c=some o)->Q none {s with heap:=h'}):wpAny (model prog w) A (pyNext (.ref z)) Q E s:=by
 have hT:s.TypeIs (.ref z) "zip" :=⟨_,hz,rfl⟩
 unfold pyNext
 refine wpAny_bind (wpAny_attempt (wpAny_callSpecial?_slot (name:=Str.ofString "__next__") hT PySem.F.slot_zip_next
  (wpAny_call_entry PySem.F.slot_zip_next hT PySem.F.entry_zip_next (end_out hh D hz ha hTI h1 h2 hl1 hl2 no fun h' e hk he=>?_) (PySem.F.args_zip_next_1 _))))
 obtain⟨o,ho,hc⟩:=he
 refine wpAny_bind (wpAny_isInstance (T:= "StopIteration") (b:=true) ⟨o,ho,hc⟩ isSubtype_stop ?_)
 exact wpAny_pure (q _ hk)
end
end Zl
namespace Zl
open PySem
theorem nd {a b:Nat} (h:a < b\/b < a):@Ne Addr a b:=fun e=>by
 have e:(a:Nat)=b:=e
 omega
theorem zip_len:typeLookup (.type "zip") "__len__" =pure none:=by rw[typeLookup_type,builtinLookup_eq_fast];kernel_rfl
theorem zip_hint:typeLookup (.type "zip") "__length_hint__" =pure none:=by rw[typeLookup_type,builtinLookup_eq_fast];kernel_rfl
structure Laid (h₀:Heap) (z TO i1 i2 S:Nat) (xs ys:Array Value) (as:List Nat) (acc:Array Value) (h:Heap):Prop where
 acc:acc.toList=as.map Value.ref
 rise:as.Pairwise (·< ·)
 above:∀a ∈ as,S < a
 tup:∀ (j:Nat) a,as[j]?=some a->∃x y,xs[j]?=some x/\ys[j]?=some y/\IsPair h a x y
 old:∀b o,b ≠ z->b ≠ TO->b ≠ i1->b ≠ i2->b ≠ S->h₀.get? b=some o->h.get? b=some o
structure ZSt (h₀:Heap) (z TI TO i1 i2 l1 l2 S:Nat) (xs ys:Array Value) (i:Nat) (acc:Array Value) (h:Heap):Prop where
 laid:∃as:List Nat,as.length=i/\Laid h₀ z TO i1 i2 S xs ys as acc h
 ti:IsPair h TI (.ref i1) (.ref i2)
 h1:h.IsListIter i1 l1 i
 h2:h.IsListIter i2 l2 i
 l1:h.IsList l1 xs
 l2:h.IsList l2 ys
 zp:(i=0/\IsZip h z TI TO .none/\∃a b,IsPair h TO a b)\/∃a f o,ZipO h z TI TO a f/\h.get? a=some o/\a ≠ z/\a ≠ i1/\a ≠ i2/\a ≠ S
section
variable {prog:Program} {w:World} {A:Around} {E:Value->Shared->Prop} {s:Shared}
theorem Laid.step {h₀ h h':Heap} {z TO i1 i2 S:Nat} {xs ys:Array Value} {as:List Nat} {acc:Array Value} {x y:Value} (L:Laid h₀ z TO i1 i2 S xs ys as acc h) (zs:z < S) (os:TO < S) (s1:i1 < S) (s2:i2 < S) (hS:S < h.objs.size)
  (hx:xs[as.length]?=some x) (hy:ys[as.length]?=some y) (p:IsPair h' h.objs.size x y) (k:∀c o,c ≠ z->c ≠ TO->c ≠ i1->c ≠ i2->h.get? c=some o->h'.get? c=some o):
  Laid h₀ z TO i1 i2 S xs ys (as++[h.objs.size]) (acc.push (.ref h.objs.size)) h':=by
 have lt:∀a ∈ as,a < h.objs.size:=fun a ha=>by
  obtain⟨j,hj⟩:=List.mem_iff_getElem?.mp ha
  obtain⟨_,_,_,_,e⟩:=L.tup j a hj
  exact Heap.lt_size e
 refine⟨by rw[Array.toList_push,L.acc,List.map_append];rfl,List.pairwise_append.mpr ⟨L.rise,List.pairwise_singleton _ _,fun a ha b hb=>by rw[List.mem_singleton.mp hb];exact lt a ha⟩,fun a ha=>?_,fun j a hj=>?_,fun b o b1 b2 b3 b4 b5 e=>k b o b1 b2 b3 b4 (L.old b o b1 b2 b3 b4 b5 e)⟩
 ·rcases List.mem_append.mp ha with q | q
  ·exact L.above a q
  ·rw[List.mem_singleton.mp q];exact hS
 ·rcases Nat.lt_trichotomy j as.length with q | q | q
  ·rw[List.getElem?_append_left q]at hj
   obtain⟨x',y',e1,e2,e3⟩:=L.tup j a hj
   have ab:=L.above a (List.mem_of_getElem? hj)
   exact⟨x',y',e1,e2,k a _ (nd (by omega)) (nd (by omega)) (nd (by omega)) (nd (by omega)) e3⟩
  ·subst q
   have e:h.objs.size=a:=by simpa using hj
   subst e
   exact⟨x,y,hx,hy,p⟩
  ·rw[List.getElem?_eq_none (by rw[List.length_append,List.length_singleton];omega)]at hj
   cases hj
theorem zip_walk {z TI TO i1 i2 l1 l2 S:Nat} {xs ys:Array Value} (D:ZipApart z TI TO i1 i2 l1 l2) (hh:A.handled=none) (few:xs.size<=sizeLine) (zs:z < S) (ts:TI < S) (os:TO < S) (s1:i1 < S) (s2:i2 < S) (ls1:l1 < S) (ls2:l2 < S):
  Walk prog w A s S z (min xs.size ys.size) (ZSt s.heap z TI TO i1 i2 l1 l2 S xs ys) (fun acc h=>∃as:List Nat,as.length=min xs.size ys.size/\Laid s.heap z TO i1 i2 S xs ys as acc h) where
 few:=Nat.le_trans (Nat.min_le_left _ _) few
 size:=fun i acc h j=>by
  obtain⟨as,hl,L⟩:=j.laid
  rw[<-hl,<-Array.length_toList,L.acc,List.length_map]
 keep:=fun i acc h h' j k=>by
  obtain⟨as,hl,L⟩:=j.laid
  refine⟨⟨as,hl,L.acc,L.rise,L.above,fun n a hn=>?_,fun b o b1 b2 b3 b4 b5 e=>k b o b5 (L.old b o b1 b2 b3 b4 b5 e)⟩,k _ _ (nd (by omega)) j.ti,j.h1.at fun o e=>k _ o (nd (by omega)) e,j.h2.at fun o e=>k _ o (nd (by omega)) e,j.l1.at fun o e=>k _ o (nd (by omega)) e,j.l2.at fun o e=>k _ o (nd (by omega)) e,?_⟩
  ·obtain⟨x,y,e1,e2,e3⟩:=L.tup n a hn
   have:=L.above a (List.mem_of_getElem? hn)
   exact⟨x,y,e1,e2,k a _ (nd (by omega)) e3⟩
  ·rcases j.zp with ⟨e,q1,a,b,q2⟩ | ⟨a,f,o,q1,q2,q3,q4,q5,q6⟩
   ·exact .inl ⟨e,k _ _ (nd (by omega)) q1,a,b,k _ _ (nd (by omega)) q2⟩
   ·exact .inr ⟨a,f,o,k _ _ (nd (by omega)) q1,k _ _ q6 q2,q3,q4,q5,q6⟩
 item:=fun i acc h tk Q E lt j hS q=>by
  have hS:S < h.objs.size:=hS
  obtain⟨as,hl,L⟩:=j.laid
  subst hl
  have hx:=Array.getElem?_eq_getElem (Nat.lt_of_lt_of_le lt (Nat.min_le_left _ _))
  have hy:=Array.getElem?_eq_getElem (Nat.lt_of_lt_of_le lt (Nat.min_le_right _ _))
  rcases j.zp with ⟨e,q1,a,b,q2⟩ | ⟨a,f,o,q1,q2,q3,q4,q5,q6⟩
  ·refine wpAny_pyNext_zip_item (s:={s with heap:=h,toks:=tk}) D q1 j.ti q2 j.h1 j.h2 j.l1 j.l2 hx hy fun h' a1 a2 a3 a4 a5 a6 k=>?_
   refine q _ h' ⟨⟨_,by simp,L.step zs os s1 s2 hS hx hy a5 fun c o c1 c2 c3 c4 e=>k c o c1 c2 c3 c4 e⟩,k _ _ D.TIz D.TITO D.TIi1 D.TIi2 j.ti,a3,a4,j.l1.at fun o e=>k _ o D.l1z D.l1TO D.l1i1 D.l1i2 e,j.l2.at fun o e=>k _ o D.l2z D.l2TO D.l2i1 D.l2i2 e,.inr ⟨h.objs.size,false,_,a1,a5,nd (by omega),nd (by omega),nd (by omega),nd (by omega)⟩⟩ fun o e=>k _ o (nd (by omega)) (nd (by omega)) (nd (by omega)) (nd (by omega)) e
  ·refine pyNext_out (s:={s with heap:=h,toks:=tk}) D q1 q2 j.ti j.h1 j.h2 j.l1 j.l2 hx hy fun h' a1 a3 a4 a5 a6 k=>?_
   refine q _ h' ⟨⟨_,by simp,L.step zs os s1 s2 hS hx hy a5 fun c o c1 _ c3 c4 e=>k c o c1 c3 c4 e⟩,k _ _ D.TIz D.TIi1 D.TIi2 j.ti,a3,a4,j.l1.at fun o e=>k _ o D.l1z D.l1i1 D.l1i2 e,j.l2.at fun o e=>k _ o D.l2z D.l2i1 D.l2i2 e,.inr ⟨a,true,o,a1,k a o q3 q4 q5 q2,q3,q4,q5,q6⟩⟩ fun o e=>k _ o (nd (by omega)) (nd (by omega)) (nd (by omega)) e
 done:=fun acc h tk Q E j hS q=>by
  have hS:S < h.objs.size:=hS
  obtain⟨as,hl,L⟩:=j.laid
  have no:xs[min xs.size ys.size]?=none\/ys[min xs.size ys.size]?=none:=by
   rcases Nat.le_total xs.size ys.size with c | c
   ·exact .inl (by rw[Nat.min_eq_left c];exact Array.getElem?_eq_none (Nat.le_refl _))
   ·exact .inr (by rw[Nat.min_eq_right c];exact Array.getElem?_eq_none (Nat.le_refl _))
  have fin:∀h':Heap,(∀ c o,c ≠ z->c ≠ TO->c ≠ i1->c ≠ i2->h.get? c=some o->h'.get? c=some o)->Laid s.heap z TO i1 i2 S xs ys as acc h':=fun h' k=>
   ⟨L.acc,L.rise,L.above,fun n a hn=>by
    obtain⟨x,y,e1,e2,e3⟩:=L.tup n a hn
    have:=L.above a (List.mem_of_getElem? hn)
    exact⟨x,y,e1,e2,k a _ (nd (by omega)) (nd (by omega)) (nd (by omega)) (nd (by omega)) e3⟩,fun b o b1 b2 b3 b4 b5 e=>k b o b1 b2 b3 b4 (L.old b o b1 b2 b3 b4 b5 e)⟩
  rcases j.zp with ⟨e,q1,a,b,q2⟩ | ⟨a,f,o,q1,q2,q3,q4,q5,q6⟩
  ·exact wpAny_pyNext_zip_end (s:={s with heap:=h,toks:=tk}) hh D q1 j.ti q2 j.h1 j.h2 j.l1 j.l2 no fun h' k=>q h' ⟨as,hl,fin h' k⟩ fun o e=>k _ o (nd (by omega)) (nd (by omega)) (nd (by omega)) (nd (by omega)) e
  ·exact pyNext_gone (s:={s with heap:=h,toks:=tk}) hh D q1 q2 j.ti j.h1 j.h2 j.l1 j.l2 no fun h' k=>q h' ⟨as,hl,fin h' fun c o c1 _ c3 c4 e=>k c o c1 c3 c4 e⟩ fun o e=>k _ o (nd (by omega)) (nd (by omega)) (nd (by omega)) e
theorem list_zip {l1 l2:Nat} {xs ys:Array Value} {Q:Value->Shared->Prop} (hh:A.handled=none) (hl1:s.heap.IsList l1 xs) (hl2:s.heap.IsList l2 ys) (few:xs.size<=sizeLine)
  (q:∀h' acc c tk (as:List Nat),as.length=min xs.size ys.size->acc.toList=as.map Value.ref->as.Pairwise (·< ·)->(∀ a ∈ as,s.heap.objs.size + 5 < a)->(∀ (j:Nat) a,as[j]?=some a->∃x y,xs[j]?=some x/\ys[j]?=some y/\IsPair h' a x y)->
   (∀ b o,s.heap.get? b=some o->h'.get? b=some o)->h'.get? (s.heap.objs.size + 5)=some {cls:=.type "list",dict:=none,data:=.seq acc c,slots:=#[]}->Q (.ref (s.heap.objs.size + 5)) {s with heap:=h',toks:=tk}):
  wpAny (model prog w) A (call (.type "zip") [.ref l1,.ref l2]) (fun v s'=>wpAny (model prog w) A (call (.type "list") [v]) Q E s') E s:=by
 have lt1:l1 < s.heap.objs.size:=by obtain⟨o,e,_⟩:=id hl1;exact Heap.lt_size e
 have lt2:l2 < s.heap.objs.size:=by obtain⟨o,e,_⟩:=id hl2;exact Heap.lt_size e
 refine call_zip_2 hl1 hl2 fun h' hz hTI hTO hi1 hi2 hs k=>?_
 have D:ZipApart (s.heap.objs.size + 4) (s.heap.objs.size + 2) (s.heap.objs.size + 3) s.heap.objs.size (s.heap.objs.size + 1) l1 l2:=by constructor<;>exact nd (by omega)
 have W:=zip_walk (prog:=prog) (w:=w) (A:=A.in1.in1) (s:={s with heap:=h'}) (S:=h'.objs.size) (xs:=xs) (ys:=ys) D hh few (by omega) (by omega) (by omega) (by omega) (by omega) (by omega) (by omega)
 refine list_iter (T:= "zip") (s:={s with heap:=h'}) W ⟨⟨[],rfl,rfl,.nil,fun a ha=>by (cases ha),fun j a hj=>by simp at hj,fun b o _ _ _ _ _ e=>e⟩,hTI,hi1,hi2,hl1.at fun o e=>k _ o e,hl2.at fun o e=>k _ o e,.inl ⟨rfl,hz,_,_,hTO⟩⟩ (by decide) (by decide) ⟨_,hz,rfl⟩ (fun B t K X hT hK=>?_) (fun B t K X hT hK=>?_) (fun h2 acc c tk f e=>?_)
 ·refine wpAny_pyIter_slot hT PySem.F.slot_zip_iter (wpAny_call_entry PySem.F.slot_zip_iter hT PySem.F.entry_zip_iter ?_ (PySem.F.args_zip_iter_1 _))
  show wpAny _ _ (ret (.ref _)) _ _ t
  exact wpAny_pure ⟨_,rfl,"zip",_,hT,PySem.F.slot_zip_next.lookup,hK⟩
 ·unfold Builtin.List.listLengthHint
  refine wpAny_bind (wpAny_specialOf hT zip_len ?_)
  show wpAny _ _ (specialOf (Value.ref _) (Str.ofString "__length_hint__") >>= _) _ _ _
  exact wpAny_bind (wpAny_specialOf hT zip_hint (wpAny_pure (hK true)))
 ·obtain⟨as,hl,L⟩:=f
  have e5:h'.objs.size=s.heap.objs.size + 5:=hs
  show Q (.ref h'.objs.size) _
  have e':h2.get? h'.objs.size=some {cls:=.type "list",dict:=none,data:=.seq acc c,slots:=#[]}:=e
  have ab:∀a ∈ as,h'.objs.size < a:=L.above
  have old:=L.old
  dsimp only at old
  rw[e5]at e' ab ⊢
  exact q h2 acc c tk as hl L.acc L.rise ab L.tup (fun b o x=>by
   have:@LT.lt Nat _ b s.heap.objs.size:=Heap.lt_size x
   exact old b o (nd (by omega)) (nd (by omega)) (nd (by omega)) (nd (by omega)) (nd (by omega)) (k b o x)) e'
end
end Zl
namespace Zl
open PySem
theorem rev_len:typeLookup (.type "list_reverseiterator") "__len__" =pure none:=by rw[typeLookup_type,builtinLookup_eq_fast];kernel_rfl
theorem rev_hint:typeLookup (.type "list_reverseiterator") "__length_hint__" =pure (some (.builtin "list_reverseiterator.__length_hint__")):=by rw[typeLookup_type,builtinLookup_eq_fast];kernel_rfl
structure RSt (h₀:Heap) (r l S:Nat) (xs:Array Value) (i:Nat) (acc:Array Value) (h:Heap):Prop where
 acc:acc.toList=xs.toList.reverse.take i
 le:i<=xs.size
 it:h.IsRevIter r l ((xs.size:Int) - 1 - (i:Int))
 lst:h.IsList l xs
 old:∀b o,b ≠ r->b ≠ S->h₀.get? b=some o->h.get? b=some o
section
variable {prog:Program} {w:World} {A:Around} {E:Value->Shared->Prop} {s:Shared}
theorem rev_walk {r l S:Nat} {xs:Array Value} (hh:A.handled=none) (few:xs.size<=sizeLine) (rl:r ≠ l) (rs:r < S) (ls:l < S):
  Walk prog w A s S r xs.size (RSt s.heap r l S xs) (fun acc h=>acc.toList=xs.toList.reverse/\∀b o,b ≠ r->b ≠ S->s.heap.get? b=some o->h.get? b=some o) where
 few:=few
 size:=fun i acc h j=>by
  rw[<-Array.length_toList,j.acc,List.length_take,List.length_reverse,Array.length_toList]
  have:=j.le
  omega
 keep:=fun i acc h h' j k=>⟨j.acc,j.le,j.it.at fun o e=>k _ o (nd (by omega)) e,j.lst.at fun o e=>k _ o (nd (by omega)) e,fun b o b1 b2 e=>k b o b2 (j.old b o b1 b2 e)⟩
 item:=fun i acc h tk Q E lt j hS q=>by
  have en:(xs.size:Int) - 1 - (i:Int)=((xs.size - 1 - i:Nat):Int):=by omega
  have it:=j.it
  rw[en]at it
  have hx:=Array.getElem?_eq_getElem (xs:=xs) (i:=xs.size - 1 - i) (by omega)
  refine wpAny_pyNext_rev_item (s:={s with heap:=h,toks:=tk}) it j.lst hx fun h' it' sb=>?_
  have en2:((xs.size - 1 - i:Nat):Int) - 1=(xs.size:Int) - 1 - ((i + 1:Nat):Int):=by omega
  rw[en2]at it'
  refine q _ h' ⟨?_,lt,it',j.lst.at fun o e=>sb.extBut _ _ (Ne.symm rl) e,fun b o b1 b2 e=>sb.extBut _ _ b1 (j.old b o b1 b2 e)⟩ fun o e=>sb.extBut _ _ (nd (by omega)) e
  rw[Array.toList_push,j.acc,List.take_succ,List.getElem?_reverse (by simpa using lt)]
  congr 1
  have e2:xs.toList[xs.toList.length - 1 - i]?=some xs[xs.size - 1 - i]:=by
   rw[Array.length_toList,Array.getElem?_toList]
   exact hx
  rw[e2]
  rfl
 done:=fun acc h tk Q E j hS q=>by
  have it:=j.it
  rw[show(xs.size:Int) - 1 - ((xs.size:Nat):Int)= -1 by omega]at it
  refine wpAny_pyNext_rev_end (s:={s with heap:=h,toks:=tk}) hh it fun h' eb=>?_
  refine q h' ⟨?_,fun b o b1 b2 e=>eb b o b1 (j.old b o b1 b2 e)⟩ fun o e=>eb _ _ (nd (by omega)) e
  rw[j.acc,List.take_of_length_le (by simp)]
theorem list_rev {l:Nat} {xs:Array Value} {Q:Value->Shared->Prop} (hh:A.handled=none) (hl:s.heap.IsList l xs) (few:xs.size<=sizeLine)
  (q:∀h' acc c tk,acc.toList=xs.toList.reverse->(∀ b o,s.heap.get? b=some o->h'.get? b=some o)->h'.get? (s.heap.objs.size + 1)=some {cls:=.type "list",dict:=none,data:=.seq acc c,slots:=#[]}->Q (.ref (s.heap.objs.size + 1)) {s with heap:=h',toks:=tk}):
  wpAny (model prog w) A (call (.type "reversed") [.ref l]) (fun v s'=>wpAny (model prog w) A (call (.type "list") [v]) Q E s') E s:=by
 have lt:l < s.heap.objs.size:=by obtain⟨o,e,_⟩:=id hl;exact Heap.lt_size e
 refine call_reversed_list hl ?_
 have st:Heap.IsRevIter (s.heap.push (revObj l ((xs.size:Int) - 1))) s.heap.objs.size l ((xs.size:Int) - 1 - ((0:Nat):Int)):=⟨_,Heap.get?_push_size _ rfl,rfl,by unfold revObj;simp⟩
 have hs:(s.heap.push (revObj l ((xs.size:Int) - 1))).objs.size=s.heap.objs.size + 1:=Heap.size_push ..
 have k:∀b o,s.heap.get? b=some o->(s.heap.push (revObj l ((xs.size:Int) - 1))).get? b=some o:=fun b o e=>Heap.get?_push_of_some _ e
 generalize s.heap.push (revObj l ((xs.size:Int) - 1))=h' at st hs k
 have W:=rev_walk (prog:=prog) (w:=w) (A:=A.in1.in1) (s:={s with heap:=h'}) (r:=s.heap.objs.size) (l:=l) (S:=h'.objs.size) (xs:=xs) hh few (by omega) (by omega) (by omega)
 refine list_iter (T:= "list_reverseiterator") (s:={s with heap:=h'}) W ⟨rfl,Nat.zero_le _,st,hl.at fun o e=>k _ o e,fun b o _ _ e=>e⟩ (by decide) (by decide) (Heap.IsRevIter.typeIs (s:={s with heap:=h'}) st) (fun B t K X hT hK=>?_) (fun B t K X hT hK=>?_) (fun h2 acc c tk f e=>?_)
 ·refine wpAny_pyIter_slot hT PySem.F.slot_lri_iter (wpAny_call_entry PySem.F.slot_lri_iter hT PySem.F.entry_lri_iter ?_ (PySem.F.args_lri_iter_1 _))
  show wpAny _ _ (ret (.ref _)) _ _ t
  exact wpAny_pure ⟨_,rfl,"list_reverseiterator",_,hT,PySem.F.slot_lri_next.lookup,hK⟩
 ·unfold Builtin.List.listLengthHint
  refine wpAny_bind (wpAny_specialOf hT rev_len ?_)
  show wpAny _ _ (specialOf (Value.ref _) (Str.ofString "__length_hint__") >>= _) _ _ _
  refine wpAny_bind (wpAny_specialOf hT rev_hint ?_)
  generalize hid:("list_reverseiterator.__length_hint__" :String)=id0
  wp_delta
  rw[show splitId id0=some ("list_reverseiterator","__length_hint__")from by subst hid;decide +kernel]
  subst hid
  refine wpAny_bind (wpAny_isInstance (b:=true) hT (by rw[isSubtype_type];kernel_rfl) ?_)
  refine wpAny_pure ?_
  exact hK _
 ·obtain⟨f1,f2⟩:=f
  show Q (.ref h'.objs.size) _
  have e':h2.get? h'.objs.size=some {cls:=.type "list",dict:=none,data:=.seq acc c,slots:=#[]}:=e
  dsimp only at f2
  rw[hs]at e' f2 ⊢
  exact q h2 acc c tk f1 (fun b o x=>by
   have:@LT.lt Nat _ b s.heap.objs.size:=Heap.lt_size x
   exact f2 b o (nd (by omega)) (nd (by omega)) (k b o x)) e'
end
end Zl
namespace Zl
open PySem PySem.SeqAt
open AutoSeq1 (wpAny_loadPart')
open MeetsSeq MeetsSeq2 MeetsSeq3 SeqRoads2
theorem rm_loop (l:Addr) (its:Array Value) (c:Nat) (x:Value) (e:Value->Bool) (j:Nat) (hj:j < its.size) (hit:e its[j]=true) (few:its.size<=sizeLine):
  ∀ (k i:Nat),j - i=k->i<=j->(∀ m (hm:m < its.size),i<=m->m < j->e its[m]=false)->Meets (Builtin.«list.remove.loop» ⟨[.ref l,x,rawInt i],[]⟩)
   (fun A R s=>s.heap.get? l=some {cls:=.type "list",dict:=none,data:=.seq its c,slots:=#[]}/\(∀ y,y ∈ its->EqAt A.in1 s y x (e y))/\
    R (.ok (.ret .none)) {s with heap:=s.heap.update l (Obj.mapSeq fun xs=>xs.eraseIdxIfInBounds j)})
 | 0,i,hk,hij,hno=>by
  intro prog w A R s h
  obtain⟨hp,g,d,tk,os⟩:=s
  obtain⟨hl,he,h⟩:=h
  have q:i=j:=by omega
  subst q
  wp_walk using wpAny_loadPart' hl
  have hi:its[((i:Nat):Int).toNat]?=some its[i]:=by simp[hj]
  rw[hi]
  refine wpAny_bind (he _ (Array.getElem_mem hj) prog w _ _ ?_)
  rw[hit]
  have hz':(its.eraseIdxIfInBounds i).size<=sizeLine + 1:=Nat.le_trans (size_erased its _) (Nat.le_succ_of_le few)
  wp_walk using (wpAny_updateSeq hl rfl (hz:=few) (_hz':=hz')),wpAny_loadPart' hl
  simpa using h
 | k + 1,i,hk,hij,hno=>by
  intro prog w A R s h
  obtain⟨hp,g,d,tk,os⟩:=s
  obtain⟨hl,he,h⟩:=h
  have lt:i < its.size:=by omega
  wp_walk using wpAny_loadPart' hl
  have hi:its[((i:Nat):Int).toNat]?=some its[i]:=by simp[lt]
  have hc:((i:Int) + 1)=((i + 1:Nat):Int):=by push_cast;rfl
  rw[hi]
  refine wpAny_bind (he _ (Array.getElem_mem lt) prog w _ _ ?_)
  rw[hno i lt (Nat.le_refl _) (by omega)]
  wp_walk
  rw[hc]
  refine⟨plainId_quiet plain_remove_loop _,codeAny_builtin entry_remove_loop ?_⟩
  rw[Around.under_plainId plain_remove_loop _]
  exact rm_loop l its c x e j hj hit few k (i + 1) (by omega) (by omega) (fun m hm h1 h2=>hno m hm (by omega) h2) prog w A R _ ⟨hl,he,h⟩
theorem list_rm (l:Addr) (its:Array Value) (c:Nat) (x:Value) (e:Value->Bool) (j:Nat) (hj:j < its.size) (hit:e its[j]=true) (hno:∀m (hm:m < its.size),m < j->e its[m]=false) (few:its.size<=sizeLine):
  Meets (Builtin.«list.remove» ⟨[.ref l,x],[]⟩)
   (fun A R s=>s.heap.get? l=some {cls:=.type "list",dict:=none,data:=.seq its c,slots:=#[]}/\(∀ y,y ∈ its->EqAt A.in1 s y x (e y))/\
    R (.ok (.ret .none)) {s with heap:=s.heap.update l (Obj.mapSeq fun xs=>xs.eraseIdxIfInBounds j)}):=by
 intro prog w A R s h
 obtain⟨hp,g,d,tk,os⟩:=s
 obtain⟨hl,he,h⟩:=h
 wp_walk using wpAny_loadPart' hl
 refine⟨plainId_quiet plain_remove_loop _,codeAny_builtin entry_remove_loop ?_⟩
 rw[Around.under_plainId plain_remove_loop _]
 exact rm_loop l its c x e j hj hit few j 0 (by omega) (Nat.zero_le _) (fun m hm _ h2=>hno m hm h2) prog w A R _ ⟨hl,he,h⟩
end Zl
namespace Sw
open PySem PySem.Spec PyProof.Rows L2
noncomputable def unV:Value->V
 | .none=>.non
 | .bool b=>.bl b
 | .int i _=>.int i
 | .str x _=>.str x
 | .ref a=>.ref a
 | _=>.non
theorem unV_of {M:Mo} {H:Hp} {n:Nat} {x:V} {u:Value} {d:PyData} (r:RelV x u) (h:data M H n x=some d):unV u=x:=by
 cases x with
 | non=>rw[show u=Value.none from r];rfl
 | bl b=>rw[show u=Value.bool b from r];rfl
 | int i=>obtain⟨t,rfl⟩:=r;rfl
 | str y=>obtain⟨t,rfl⟩:=r;rfl
 | ref a=>rw[show u=Value.ref a from r];rfl
 | byt b=>cases n<;>cases h
 | flt b=>cases n<;>cases h
 | ty b=>cases n<;>cases h
noncomputable def eqD (M:Mo) (H:Hp) (d:PyData) (u:Value):Bool:=match data M H 8 (unV u)with
 | some e=>PyData.eqv e d
 | none=>false
section
variable {X:Cx} {M:Mo} {pins:List (Addr × Obj)} {σ:L2.St} {H:Hp} {s:Shared}
theorem eqD_at (mo:ModOk X.K M) (I:Inv X pins σ H s) {A:Around} (hu:A.units + 8 < cLine) {x:V} {v:Value} {d:PyData} (rx:RelV x v) (hx:data M H 8 x=some d):
  ∀ {ys:List V} {us:List Value} {ds:List PyData},Vals ys us->allM (data M H 8) ys=some ds->∀u ∈ us,SeqAt.EqAt A s u v (eqD M H d u)
 | _,_,_,.nil,_=>fun u hu=>by cases hu
 | y::ys,u::us,ds,.cons r t,h=>fun u' hm=>by
  obtain⟨e,es,h1,h2,rfl⟩:=allM_cons h
  rcases List.mem_cons.mp hm with rfl | hm
  ·have q:eqD M H d u'=PyData.eqv e d:=by
    unfold eqD
    rw[unV_of r h1,h1]
   rw[q]
   exact eqAt_data mo I 8 A y x u' v e d hu r rx h1 hx
  ·exact eqD_at mo I hu rx hx t h2 u' hm
theorem eqD_any {d:PyData}:∀ {ys:List V} {us:List Value} {ds:List PyData},Vals ys us->allM (data M H 8) ys=some ds->us.map (eqD M H d)=ds.map (fun e=>PyData.eqv e d)
 | _,_,ds,.nil,h=>by rw[allM_nil h];rfl
 | y::ys,u::us,ds,.cons r t,h=>by
  obtain⟨e,es,h1,h2,rfl⟩:=allM_cons h
  rw[List.map_cons,List.map_cons,eqD_any t h2]
  congr 1
  unfold eqD
  rw[unV_of r h1,h1]
end
end Sw
namespace Tm
open PySem PyProof.Rows PySem.SeqAt
open PySem.AutoSeq1 (wpAny_loadPart')
open PySem.MeetsSeq PySem.MeetsSeq2 PySem.MeetsSeq3 PySem.SeqRoads2
noncomputable def GeAt (A:Around) (s:Shared) (y x:Value) (b:Bool):Prop:=
 ∀ (prog:Program) (w:World) (E:Value->Shared->Prop) (Q:Value->Shared->Prop),Q (.bool b) s->wpAny (model prog w) A (richCompare .GtE y x) Q E s
theorem tuple_geAt (l b:Addr) (xs ys:Array Value) (n n2:Nat) (dd dd2:Option Addr) (sl sl2:Array (Option Value)) (e f:Nat->Bool):
  Meets (Builtin.«tuple.__ge__» ⟨[.ref l,.ref b],[]⟩)
   (fun A R s=>s.heap.get? l=some {cls:=.type "tuple",dict:=dd,data:=.seq xs n,slots:=sl}/\s.heap.get? b=some {cls:=.type "tuple",dict:=dd2,data:=.seq ys n2,slots:=sl2}/\
    (∀ j (h1:j < xs.size) (h2:j < ys.size),EqAt A.in1 s xs[j] ys[j] (e j)/\(e j=false->GeAt A.in1 s xs[j] ys[j] (f j)))/\
    R (.ok (.ret (.bool (lexB e f (decide (ys.size<=xs.size)) (List.range (min xs.size ys.size)))))) s):=
 .of_wp fun prog w A R s h=>by
  obtain⟨hp,g,d,tk,os⟩:=s;obtain⟨hl,hb,he,h⟩:=h
  have f2:=AutoSeq1.sub_tuple_tuple
  have zl:(xs.toList.zip ys.toList).length=min xs.size ys.size:=by simp
  wp_walk using wpAny_loadPart' hl,wpAny_loadPart' hb,wpAny_forIn_list _ (fun rest c st=>c.1=none/\st=⟨hp,g,d,tk,os⟩/\∃i,rest=(xs.toList.zip ys.toList).drop i/\
   R (.ok (.ret (.bool (lexB e f (decide (ys.size<=xs.size)) ((List.range (min xs.size ys.size)).drop i))))) ⟨hp,g,d,tk,os⟩) _
  case turn=>
   rintro⟨y,x⟩ rest c st ⟨_,rfl,i,hz,hR⟩
   have lt:i < (xs.toList.zip ys.toList).length:=by
    by_cases q:i < (xs.toList.zip ys.toList).length
    ·exact q
    ·rw[List.drop_of_length_le (Nat.le_of_not_lt q)]at hz;cases hz
   have h1:i < xs.size:=by omega
   have h2:i < ys.size:=by omega
   rw[List.drop_eq_getElem_cons lt]at hz
   injection hz with z1 z2
   rw[List.getElem_zip]at z1
   injection z1 with z3 z4
   have z3:y=xs[i]:=by rw[z3];simp
   have z4:x=ys[i]:=by rw[z4];simp
   subst z3 z4
   have rg:(List.range (min xs.size ys.size)).drop i=i::(List.range (min xs.size ys.size)).drop (i + 1):=by
    rw[List.drop_eq_getElem_cons (by rw[List.length_range];omega),List.getElem_range]
   rw[rg]at hR
   unfold lexB at hR
   refine wpAny_bind ((he i h1 h2).1 prog w _ _ ?_)
   cases q:e i with
   | true=>
    rw[q,if_pos rfl]at hR
    wp_walk
    exact⟨rfl,rfl,i + 1,z2,hR⟩
   | false=>
    rw[q,if_neg (by decide)]at hR
    rw[if_pos (by rfl)]
    refine wpAny_bind (wpAny_rule ?_)
    refine wpAny_bind ((he i h1 h2).2 q prog w _ _ ?_)
    wp_walk
    exact⟨_,rfl,hR⟩
  case fin=>
   rintro⟨c1,c2⟩ st ⟨hc,rfl,i,hz,hR⟩
   simp only at hc
   subst hc
   have ge:min xs.size ys.size<=i:=by
    have:=congrArg List.length hz
    rw[List.length_drop,zl]at this
    simp at this
    omega
   rw[List.drop_of_length_le (by rw[List.length_range];exact ge)]at hR
   wp_walk
   exact⟨_,rfl,hR⟩
  exact⟨rfl,rfl,0,rfl,h⟩
end Tm
namespace PySem.Sg
open PySem PySem.Spec PyProof.Rows L2
section
variable {prog:Program} {w:World} {A:Around} {E:Value->Shared->Prop} {s:Shared}
theorem cmp_strsG {P:Nat->Value->Prop} (val:Nat->Str) (hval:∀i v,P i v->∃t,v=.str (val i) t):
  CmpOf prog w A .Gt P (fun i j=>decide ((val j).cps.toList < (val i).cps.toList)):=fun i j vi vj s Q E hi hj h=>by
 obtain⟨t,rfl⟩:=hval i vi hi
 obtain⟨u,rfl⟩:=hval j vj hj
 exact PySem.P.gt_str h
theorem max_two_strs {a b:Str} {t u:Tok} {Q:Value->Shared->Prop} (hh:A.handled=none)
  (h:∀h' tk,(∀ c o,s.heap.get? c=some o->h'.get? c=some o)->Q (if a.cps.toList < b.cps.toList then .str b u else .str a t) {s with heap:=h',toks:=tk}):
  wpAny (model prog w) A (call (.builtin "max") [.str a t,.str b u]) Q E s:=by
 have hT:(s.heap.push {cls:=.type "tuple",data:=.seq #[.str a t,.str b u]}).IsTuple s.heap.objs.size (strItems #[(a,t),(b,u)]):=⟨_,Heap.get?_push_size _ rfl,rfl,0,by simp[strItems]⟩
 refine call_max_two (wpAny_pyIter_tuple hT ?_)
 have hsz:(s.heap.push {cls:=.type "tuple",data:=.seq #[.str a t,.str b u]}).objs.size=s.heap.objs.size + 1:=Heap.size_push ..
 refine⟨_,[_,s.heap.objs.size],[_],_,_,_,_,rfl,Walks.tuple (A:=A.in1) hh _ s.heap.objs.size (by rw[hsz];exact Nat.ne_of_lt (Nat.lt_succ_self _)) (strItems #[(a,t),(b,u)]),
  ⟨⟨_,Heap.get?_push_size _ rfl,rfl,rfl⟩,hT.push _⟩,fun c hc=>?_,by simp[strItems],cmp_strsG (textAt #[(a,t),(b,u)]) (fun _ _=>strItems_at),fun v h' tk hP hk=>?_⟩
 ·show c < ((s.heap.push _).push _).objs.size
  rw[Heap.size_push,hsz]
  rcases List.mem_cons.mp hc with rfl | hc
  ·rw[hsz];exact Nat.lt_succ_self _
  ·rcases List.mem_cons.mp hc with rfl | hc
   ·exact Nat.lt_succ_of_lt (Nat.lt_succ_self _)
   ·cases hc
 ·have hold:∀c o,s.heap.get? c=some o->h'.get? c=some o:=fun c o e=>by
   refine hk c o (fun hm=>?_) (Heap.get?_push_of_some _ (Heap.get?_push_of_some _ e))
   rcases List.mem_cons.mp hm with e1 | hm
   ·have:=Heap.lt_size e;rw[e1,hsz]at this;exact Nat.lt_irrefl _ (Nat.lt_of_succ_lt this)
   ·cases hm
  have:=h h' tk hold
  have hv:v=if a.cps.toList < b.cps.toList then Value.str b u else Value.str a t:=by
   have hP':(strItems #[(a,t),(b,u)])[argBest (fun i j=>decide ((textAt #[(a,t),(b,u)] j).cps.toList < (textAt #[(a,t),(b,u)] i).cps.toList)) 1]?=some v:=by
    have hsz2:(strItems #[(a,t),(b,u)]).size - 1=1:=by simp[strItems]
    rw[<-hsz2];exact hP
   by_cases hba:a.cps.toList < b.cps.toList
   ·have e:argBest (fun i j=>decide ((textAt #[(a,t),(b,u)] j).cps.toList < (textAt #[(a,t),(b,u)] i).cps.toList)) 1=1:=by simp[argBest,textAt,hba]
    rw[e]at hP'
    simpa[strItems,hba]using hP'.symm
   ·have e:argBest (fun i j=>decide ((textAt #[(a,t),(b,u)] j).cps.toList < (textAt #[(a,t),(b,u)] i).cps.toList)) 1=0:=by simp[argBest,textAt,hba]
    rw[e]at hP'
    simpa[strItems,hba]using hP'.symm
  rw[hv];exact this
end
end PySem.Sg
namespace Sw
open PySem PySem.Spec PyProof.Rows L2
section
variable {X:Cx} {M:Mo} {pins:List (Addr × Obj)} {σ:L2.St} {H:Hp} {s:Shared}
theorem smax_ok (hc:X.calm=true) {x y:V} {v u:Value} {Q:VK} (I:Inv X pins σ H s) (rx:RelV x v) (ry:RelV y u) (h:smaxV x y H Q):
  wpAny (model X.prog X.w) X.A (call (.builtin "max") [v,u]) (EP X pins σ Q) X.xe s:=by
 unfold smaxV at h
 cases x with
 | str a=>
  cases y with
  | str b=>
   obtain⟨t,rfl⟩:=rx
   obtain⟨t',rfl⟩:=ry
   refine PySem.Sg.max_two_strs (I.ok.hd hc) fun h' tk k=>⟨_,H,I.kept k,?_,h⟩
   split
   ·exact⟨_,rfl⟩
   ·exact⟨_,rfl⟩
  | _=>exact h.elim
 | _=>exact h.elim
theorem ge_pair_at (mo:ModOk X.K M) (I:Inv X pins σ H s) {p r:Addr} {ab cd:Str × Str} (hp:pairK M H (.ref p)=some ab) (hr:pairK M H (.ref r)=some cd) {A:Around} (hu:A.units < cLine):Tm.GeAt A s (.ref p) (.ref r) (!lt2 ab cd):=fun prog w E Q q=>by
 obtain⟨a,b⟩:=ab
 obtain⟨c,d⟩:=cd
 obtain⟨⟨c1,dd1,da1,sl1⟩,n1,t1,u1,g1,e1,d1⟩:=pair_obj mo I (pairK_at hp)
 obtain⟨⟨c2,dd2,da2,sl2⟩,n2,t2,u2,g2,e2,d2⟩:=pair_obj mo I (pairK_at hr)
 simp only at e1 d1 e2 d2
 subst e1 d1 e2 d2
 let e:Nat->Bool:=fun j=>if j=0 then a == c else b == d
 let f:Nat->Bool:=fun j=>if j=0 then !decide (a.cps.toList < c.cps.toList)else !decide (b.cps.toList < d.cps.toList)
 have lx:Tm.lexB e f (decide ((#[Value.str c t2,Value.str d u2]:Array Value).size<=(#[Value.str a t1,Value.str b u1]:Array Value).size)) (List.range (min (#[Value.str a t1,Value.str b u1]:Array Value).size (#[Value.str c t2,Value.str d u2]:Array Value).size))=!lt2 (a,b) (c,d):=by
  show Tm.lexB e f true [0,1]=_
  unfold lt2
  show(if(a == c)=true then(if(b == d)=true then true else !decide (b.cps.toList < d.cps.toList))else !decide (a.cps.toList < c.cps.toList))=_
  by_cases h1:a=c
  ·rw[if_pos (by simp[h1]),if_pos h1]
   by_cases h2:b=d
   ·rw[if_pos (by simp[h2])]
    subst h2
    rw[decide_eq_false (List.lt_irrefl _)]
    rfl
   ·rw[if_neg (by simp[h2])]
  ·rw[if_neg (by simp[h1]),if_neg h1]
 refine richCompare_meets_room (op:=.GtE) ⟨_,g1,rfl⟩ ⟨_,g2,rfl⟩ F.slot_tuple_ge F.entry_tuple_ge (F.args_tuple_ge_2 _ _) (Tm.tuple_geAt p r _ _ n1 n2 dd1 dd2 sl1 sl2 e f) ⟨g1,g2,fun j h1 h2=>?_,?_⟩ hu
 ·match j,h1,h2 with
  | 0,_,_=>exact⟨SeqAt.EqAt.str_str a t1 c t2,fun _ prog w E Q q=>PySem.P.ge_str q⟩
  | 1,_,_=>exact⟨SeqAt.EqAt.str_str b u1 d u2,fun _ prog w E Q q=>PySem.P.ge_str q⟩
  | n + 2,h1,_=>exact absurd h1 (by simp)
 ·rw[lx]
  exact⟨(fun x=>nomatch x),q⟩
theorem cmpP_ok (hu:X.A.units + 64 < cLine) (mo:ModOk X.K M):OpR X (compareOp .GtE) (cmpPV M):=by
 intro pins s σ H x y v u Q I rx ry h
 unfold cmpPV at h
 split at h
 ·rename_i a b ea eb
  cases x with
  | ref p=>
   cases y with
   | ref r=>
    cases (show v=Value.ref p from rx)
    cases (show u=Value.ref r from ry)
    exact ge_pair_at mo I ea eb (by omega) X.prog X.w X.xe _ ⟨.bl _,H,I,rfl,h⟩
   | _=>cases eb
  | _=>cases ea
 ·exact h.elim
noncomputable def m2T:M2->String
 | .remove=> "list"
noncomputable def m2Id:M2->String
 | .remove=> "list.remove"
theorem m2_ok (hu:X.A.units + 64 < cLine) (mo:ModOk X.K M) (m:M2):MtR X (m2Id m) (m2V M m):=by
 intro pins s σ H x xs v us Q I rx r h
 cases m with
 | remove=>
  cases x with
  | ref p=>
   match xs,r,h with
   | [y],r,h=>
    cases (show v=Value.ref p from rx)
    dsimp only[m2V]at h
    split at h
    ·rename_i zs hH
     split at h
     ·rename_i d ds hd hds
      split at h
      ·rename_i j hj
       obtain⟨w,rfl,rw'⟩:=r.one
       obtain⟨z,its,n,r',hl,e⟩:=I.lstM hH
       have em:=eqD_any (M:=M) (H:=H) (d:=d) r' hds
       have jl:j < its.length:=by
        have:=(List.findIdx?_eq_some_iff_getElem.mp hj).1
        have q:=congrArg List.length em
        rw[List.length_map,List.length_map]at q
        omega
       have ej:∀ (m:Nat) (hm:m < its.length) (hm':m < ds.length),eqD M H d its[m]=PyData.eqv ds[m] d:=fun m hm hm'=>by
        have q:=congrArg (fun l=>l[m]?) em
        simp only[List.getElem?_map,List.getElem?_eq_getElem hm,List.getElem?_eq_getElem hm',Option.map_some]at q
        exact Option.some.inj q
       have dl:ds.length=its.length:=by
        have q:=congrArg List.length em
        rw[List.length_map,List.length_map]at q
        exact q.symm
       obtain⟨f1,f2,f3⟩:=List.findIdx?_eq_some_iff_getElem.mp hj
       have he:=fun A' (hA:A'.units + 8 < cLine)=>eqD_at mo I (A:=A') hA rw' hd r' hds
       refine call_meets F.slot_list_remove ⟨_,e,rfl⟩ F.entry_list_remove (F.args_list_remove_2 _ _) (Zl.list_rm p its.toArray n w (eqD M H d) j (by simpa using jl) (by rw[List.getElem_toArray,ej j jl f1];exact f2) (fun m hm lt=>by rw[List.getElem_toArray,ej m (by simpa using hm) (by omega)];simpa using f3 m lt) (by rw[List.size_toArray];omega)) ⟨e,fun y' hy'=>he _ (by show X.A.units + 1 + 8 < cLine;omega) y' (by simpa using hy'),?_⟩
       refine⟨.non,_,I.lset (its':=its.eraseIdx j) hH e ?_ (Vals.eraseIdx j r') ?_,rfl,h⟩
       ·apply Array.toList_inj.mp
        simp[Array.toList_eraseIdxIfInBounds]
       ·exact Nat.le_trans (List.length_eraseIdx_le _ _) z
      ·exact h.elim
     ·exact h.elim
    ·exact h.elim
  | _=>exact False.elim (by revert h;cases xs<;>simp[m2V])
theorem m2_ty {K:PySem.W.Frag} (mo:ModOk K M) {m:M2} {x:V} {H:Hp} (h:m2ty M m x H=true):tyV K (m2T m) x H:=by
 cases m with
 | remove=>exact isl_ty mo h
end
end Sw
namespace Sw
open PySem PySem.Spec PyProof.Rows L2
section
variable {X:Cx} {M:Mo} {pins:List (Addr × Obj)} {σ:L2.St} {H:Hp} {s:Shared}
theorem any_map {α:Type} (f:α->Bool) (l:List α):l.any f=(l.map f).any id:=by
 induction l with
 | nil=>rfl
 | cons a r ih=>rw[List.any_cons,List.map_cons,List.any_cons,ih];rfl
theorem cmpI_ok (hu:X.A.units + 64 < cLine) (mo:ModOk X.K M) (op:CmpOp):OpR X (compareOp op) (cmpIV M op):=by
 intro pins s σ H x y v u Q I rx ry h
 unfold cmpIV at h
 cases y with
 | ref p=>
  cases (show u=Value.ref p from ry)
  dsimp only at h
  split at h
  ·rename_i xs e
   split at h
   ·rename_i d ds hd hds
    obtain⟨its,r,pl,hz⟩:=I.list (rd_lst mo e)
    have he:=eqD_at mo I (A:=X.A.in1) (show X.A.in1.units + 8 < cLine by have:X.A.in1.units=X.A.units + 1:=rfl;omega) rx hd r hds
    have ea:its.toArray.any (eqD M H d)=ds.any (fun e=>PyData.eqv e d):=by
     rw[List.any_toArray,any_map,any_map (fun e=>PyData.eqv e d),eqD_any r hds]
    split at h
    ·refine SeqAt.in_listAt (eqD M H d) pl.isList (fun w hw=>he w (by simpa using hw)) ⟨.bl _,H,I,rfl,?_⟩
     rw[ea];exact h
    ·refine SeqAt.notIn_listAt (eqD M H d) pl.isList (fun w hw=>he w (by simpa using hw)) ⟨.bl _,H,I,rfl,?_⟩
     rw[ea];exact h
    ·exact h.elim
   ·exact h.elim
  ·exact h.elim
 | _=>exact h.elim
theorem _root_.L2.Inv.lays {H':Hp} {h':Heap} {t':Nat} (I:Inv X pins σ H s) (k:∀b u,s.heap.get? b=some u->h'.get? b=some u) (old:∀b u,H b=some u->H' b=some u) (fr:∀b,b < s.heap.objs.size->H b=none->H' b=none)
  (new:∀b u,H b=none->H' b=some u->ObjOk X.prog X.w H' h' b u):Inv X pins σ H' {s with heap:=h',toks:=t'}:=by
 refine I.un ⟨fun b u q _ _ _=>k b u q,fun b u q _ _ _=>⟨u.slots,k b u q⟩,fun b u q n _=>fr b (Heap.lt_size q) n,fun b u q _=>⟨u,k b u q⟩,fun b xs q=>old b _ q,fun b u xs q=>old b _ q,fun b ps q=>⟨#[],by rw[old b _ q];simp⟩⟩ (fun b u e=>?_)
 by_cases hb:H b=none
 ·exact new b u hb e
 ·obtain⟨o,ho⟩:=Option.ne_none_iff_exists'.mp hb
  have q:=old b o ho
  rw[q]at e
  cases e
  exact(I.hok b _ ho).stay (fun c w _ q=>k c w q) (fun c q=>old c _ q) fun c xs q=>old c _ q
theorem lrev_ok (mo:ModOk X.K M) (hc:X.calm=true) {x:V} {u:Value} {Q:VK} (I:Inv X pins σ H s) (r:RelV x u) (h:lrevV M x H Q):
  wpAny (model X.prog X.w) X.A (call (.type "reversed") [u]) (fun v s1=>wpAny (model X.prog X.w) X.A (call (.type "list") [v]) (EP X pins σ Q) X.xe s1) X.xe s:=by
 unfold lrevV at h
 cases x with
 | ref p=>
  cases (show u=Value.ref p from r)
  dsimp only at h
  split at h
  ·rename_i xs e
   obtain⟨its,rv,pl,hz⟩:=I.list (rd_lst mo e)
   refine Zl.list_rev (I.ok.hd hc) pl.isList (by rw[List.size_toArray,<-rv.length];exact hz) fun h' acc c tk ea k el=>?_
   have hv:Vals xs.reverse its.reverse:=rv.reverse
   have ea':acc=its.reverse.toArray:=by
    apply Array.toList_inj.mp
    rw[ea]
   subst ea'
   have I1:Inv X pins σ (upd H (s.heap.objs.size + 1) (.lst xs.reverse)) {s with heap:=h',toks:=tk}:=I.laid k (Nat.le_succ _) ⟨by rw[List.length_reverse];exact hz,its.reverse,c,hv,el⟩
   exact⟨.ref _,_,I1,rfl,h _ (I.hok.fresh (Nat.le_succ _)) (OffM.new (Inv.offM mo I1))⟩
  ·exact h.elim
 | _=>exact h.elim
end
end Sw
namespace Sw
open PySem PySem.Spec PyProof.Rows L2
theorem look_zip {β:Type}:∀ {as:List Nat} {ps:List β} {j:Nat} {a:Nat} {p:β},as.Pairwise (·< ·)->as[j]?=some a->ps[j]?=some p->(as.zip ps).lookup a=some p
 | [],_,_,_,_,_,h,_=>by simp at h
 | _::_,[],_,_,_,_,_,h=>by simp at h
 | b::as,q::ps,0,a,p,_,h,g=>by
  cases h
  cases g
  simp[List.lookup]
 | b::as,q::ps,j + 1,a,p,pw,h,g=>by
  have lt:=(List.pairwise_cons.mp pw).1 a (List.mem_of_getElem? (by simpa using h))
  have ne:(a == b)=false:=by simp;omega
  rw[List.zip_cons_cons,List.lookup,ne]
  exact look_zip (List.pairwise_cons.mp pw).2 (by simpa using h) (by simpa using g)
theorem look_mem {β:Type}:∀ {as:List Nat} {ps:List β} {a:Nat} {p:β},(as.zip ps).lookup a=some p->∃j:Nat,as[j]?=some a/\ps[j]?=some p
 | [],_,_,_,h=>by simp at h
 | _::_,[],_,_,h=>by simp at h
 | b::as,q::ps,a,p,h=>by
  rw[List.zip_cons_cons,List.lookup]at h
  by_cases e:a=b
  ·subst e
   simp at h
   exact⟨0,rfl,by rw[h];rfl⟩
  ·rw[show(a == b)=false by simp[e]]at h
   obtain⟨j,h1,h2⟩:=look_mem h
   exact⟨j + 1,h1,h2⟩
noncomputable def layL (H:Hp) (L:Addr) (as:List Nat) (ps:List (V × V)):Hp:=fun b=>if b=L then some (.lst (as.map V.ref))else match(as.zip ps).lookup b with
 | some p=>some (.tup [p.1,p.2])
 | none=>H b
section
variable {X:Cx} {M:Mo} {pins:List (Addr × Obj)} {σ:L2.St} {H:Hp} {s:Shared}
theorem zip_get {xs ys:List V} {us ws:List Value} {j:Nat} {u w:Value} (r1:Vals xs us) (r2:Vals ys ws) (e1:us[j]?=some u) (e2:ws[j]?=some w):∃x y,(xs.zip ys)[j]?=some (x,y)/\RelV x u/\RelV y w:=by
 obtain⟨x,ex,rx⟩:=Vals.back r1 e1
 obtain⟨y,ey,ry⟩:=Vals.back r2 e2
 exact⟨x,y,by rw[List.getElem?_zip_eq_some];exact⟨ex,ey⟩,rx,ry⟩
theorem vals_refs:∀as:List Nat,Vals (as.map V.ref) (as.map Value.ref)
 | []=>.nil
 | a::r=>.cons (show RelV (.ref a) (.ref a)from rfl) (vals_refs r)
theorem lzip_ok (mo:ModOk X.K M) (hc:X.calm=true) {x y:V} {u w:Value} {Q:VK} (I:Inv X pins σ H s) (rx:RelV x u) (ry:RelV y w) (h:zipV M x y H fun ps _=>pairsV M ps H Q):
  wpAny (model X.prog X.w) X.A (call (.type "zip") [u,w]) (fun v s1=>wpAny (model X.prog X.w) X.A (call (.type "list") [v]) (EP X pins σ Q) X.xe s1) X.xe s:=by
 unfold zipV at h
 cases x with
 | ref p=>
  cases y with
  | ref q=>
   cases (show u=Value.ref p from rx)
   cases (show w=Value.ref q from ry)
   dsimp only at h
   split at h
   ·rename_i xs ys e1 e2
    obtain⟨us,r1,l1,z1⟩:=I.list (rd_lst mo e1)
    obtain⟨ws,r2,l2,z2⟩:=I.list (rd_lst mo e2)
    refine Zl.list_zip (I.ok.hd hc) l1.isList l2.isList (by rw[List.size_toArray,<-r1.length];exact z1) fun h' acc c tk as hl ea pw ab tp k el=>?_
    have ea':acc=(as.map Value.ref).toArray:=by
     apply Array.toList_inj.mp
     rw[ea]
    subst ea'
    have ln:as.length=(xs.zip ys).length:=by rw[hl,List.length_zip,List.size_toArray,List.size_toArray,r1.length,r2.length]
    have fresh:∀a ∈ as,H a=none:=fun a ha=>I.hok.fresh (by have:=ab a ha;show s.heap.objs.size<=a;omega)
    have ne:∀a ∈ as,a ≠ s.heap.objs.size + 5:=fun a ha e=>by have:=ab a ha;omega
    have at_:∀ (j:Nat) a,as[j]?=some a->∃x y,(xs.zip ys)[j]?=some (x,y)/\layL H (s.heap.objs.size + 5) as (xs.zip ys) a=some (.tup [x,y])/\∃xv yv,RelV x xv/\RelV y yv/\IsPair h' a xv yv:=fun j a hj=>by
     obtain⟨xv,yv,t1,t2,t3⟩:=tp j a hj
     obtain⟨x,y,g,rx,ry⟩:=zip_get r1 r2 (by simpa using t1) (by simpa using t2)
     refine⟨x,y,g,?_,xv,yv,rx,ry,t3⟩
     unfold layL
     rw[if_neg (ne a (List.mem_of_getElem? hj)),look_zip pw hj g]
    have old:∀b o,H b=some o->layL H (s.heap.objs.size + 5) as (xs.zip ys) b=some o:=fun b o hb=>by
     unfold layL
     rw[if_neg (fun z=>by rw[z,I.hok.fresh (by show s.heap.objs.size<=s.heap.objs.size + 5;omega)]at hb;cases hb)]
     split
     ·rename_i p' hp
      obtain⟨j,g1,_⟩:=look_mem hp
      rw[fresh b (List.mem_of_getElem? g1)]at hb
      cases hb
     ·exact hb
    have I1:Inv X pins σ (layL H (s.heap.objs.size + 5) as (xs.zip ys)) {s with heap:=h',toks:=tk}:=by
     refine I.lays k old (fun b lt hb=>?_) fun b o hb ho=>?_
     ·unfold layL
      have lt':@LT.lt Nat _ b s.heap.objs.size:=lt
      rw[if_neg (fun z=>by rw[z]at lt';omega)]
      split
      ·rename_i p' hp
       obtain⟨j,g1,_⟩:=look_mem hp
       have:=ab b (List.mem_of_getElem? g1)
       omega
      ·exact hb
     ·have ho':=ho
      unfold layL at ho'
      by_cases eb:b=s.heap.objs.size + 5
      ·rw[if_pos eb]at ho'
       cases ho'
       rw[eb]
       refine⟨?_,as.map Value.ref,c,vals_refs as,el⟩
       rw[List.length_map,ln,List.length_zip]
       exact Nat.le_trans (Nat.min_le_left _ _) z1
      ·rw[if_neg eb]at ho'
       split at ho'
       ·rename_i p' hp
        obtain⟨j,g1,g2⟩:=look_mem hp
        obtain⟨x,y,g3,g4,xv,yv,rx,ry,ip⟩:=at_ j b g1
        rw[g4]at ho
        cases ho
        exact⟨by rw[sizeLine_eq];simp,[xv,yv],.cons rx (.cons ry .nil),⟨_,ip,rfl,_,rfl⟩⟩
       ·rw[hb]at ho'
        cases ho'
    have off:=Inv.offM mo I1
    have offn:∀b o,layL H (s.heap.objs.size + 5) as (xs.zip ys) b=some o->M b=none:=fun b o hb=>by
     cases em:M b with
     | none=>rfl
     | some v=>
      have:=off b (by rw[em];exact fun z=>by cases z)
      rw[this]at hb
      cases hb
    have lst:layL H (s.heap.objs.size + 5) as (xs.zip ys) (s.heap.objs.size + 5)=some (.lst (as.map V.ref)):=by
     unfold layL
     rw[if_pos rfl]
    refine⟨.ref _,_,I1,rfl,h _ _ as ln (fun j t hj=>?_) old (fun a ha _=>off a ha) (I.hok.fresh (by show s.heap.objs.size<=s.heap.objs.size + 5;omega)) (offn _ _ lst) lst⟩
    obtain⟨x,y,g3,g4,_⟩:=at_ j t hj
    exact⟨fresh t (List.mem_of_getElem? hj),offn _ _ g4,x,y,g3,g4⟩
   ·exact h.elim
  | _=>exact h.elim
 | _=>exact h.elim
theorem _root_.L2.Inv.turnedL {h':Heap} {t':Nat} {fp:List Addr} (I:Inv X pins σ H s) (f:∀b ∈ fp,FpOk X pins H b) (k:∀b o,b ∉ fp->s.heap.get? b=some o->h'.get? b=some o):Inv X pins σ H {s with heap:=h',toks:=t'}:=by
 have nf:∀b u,H b=some u->b ∉ fp:=fun b u e m=>by rw[(f b m).1]at e;cases e
 refine I.step (g':=s.gens) (d':=s.drawn) (ch:=fp) (fun b hb=>⟨(f b hb).2.2.2.1,(f b hb).2.1,(f b hb).2.2.2.2.1,(f b hb).2.2.2.2.2⟩) (fun b o _ _ m e _=>k b o m e) (fun b o _ _ m e _=>⟨o.slots,k b o m e⟩) (fun _ _ _ _ n=>n)
  (fun b o m e=>⟨o,k b o m e⟩) (fun _ _ e=>e) (fun _ _ _ e=>e) (fun b ps e=>⟨#[],by rw[e];simp⟩) (fun m hm=>?_) (fun b u e=>?_) I.bare
 ·obtain⟨o,es,ep,ho,r⟩:=hm
  exact⟨o,es,ep,k _ o (fun z=>(f _ z).2.1 rfl) ho,r⟩
 ·refine(I.hok b u e).stay (fun c v q r=>k c v ?_ r) (fun _ q=>q) fun _ _ q=>q
  rcases q with z | z
  ·rw[z];exact nf b u e
  ·exact nf c _ z
noncomputable def Itz (M:Mo) (p q:Addr) (xs ys:List V):It:=
 ⟨fun i H=>(rd M H p=some (.lst xs)/\rd M H q=some (.lst ys))/\i < (xs.zip ys).length,fun i H x H'=>∃t a,H t=none/\M t=none/\(xs.zip ys)[i]?=some a/\x=.ref t/\H'=upd H t (.tup [a.1,a.2]),
  fun i H=>(rd M H p=some (.lst xs)/\rd M H q=some (.lst ys))/\(xs.zip ys).length<=i⟩
theorem turn_zip {P:Program} {w:World} {K:PySem.W.Frag} (mo:ModOk K M) {ts:List Expr} {kt} {pt:Pos} {z TI TO i1 i2 p q:Addr} {xs ys:List V} (D:ZipApart z TI TO i1 i2 p q):
  Turn P w K (.Tuple ts kt pt) (Itz M p q xs ys) [z,TI,TO,i1,i2] z (fun i h=>IsZip h z TI TO .none/\IsPair h TI (.ref i1) (.ref i2)/\(∃ a b,IsPair h TO a b)/\h.IsListIter i1 p i/\h.IsListIter i2 q i) where
 mem:=by simp
 obj:=fun i h st b hb=>by
  obtain⟨hz,hTI,⟨a,b',hTO⟩,⟨o1,e1,c1,d1⟩,o2,e2,c2,d2⟩:=st
  simp only[List.mem_cons,List.not_mem_nil,or_false]at hb
  rcases hb with rfl | rfl | rfl | rfl | rfl
  ·exact⟨_,hz,fun v z=>by cases z⟩
  ·exact⟨_,hTI,fun v z=>by cases z⟩
  ·exact⟨_,hTO,fun v z=>by cases z⟩
  ·exact⟨_,e1,fun v z=>by rw[d1]at z;cases z⟩
  ·exact⟨_,e2,fun v z=>by rw[d2]at z;cases z⟩
 keep:=fun i h h' st k=>by
  obtain⟨hz,hTI,⟨a,b,hTO⟩,h1,h2⟩:=st
  exact⟨k _ (by simp) _ hz,k _ (by simp) _ hTI,⟨a,b,k _ (by simp) _ hTO⟩,h1.at fun o e=>k _ (by simp) o e,h2.at fun o e=>k _ (by simp) o e⟩
 item:=by
  intro X hP hw hK hc i pins s σ H E I hf st hg
  subst hP hw hK
  obtain⟨⟨g1,g2⟩,lt⟩:=hg
  obtain⟨hz,hTI,⟨a,b,hTO⟩,h1,h2⟩:=st
  obtain⟨us,r1,l1,z1⟩:=I.list (rd_lst mo g1)
  obtain⟨ws,r2,l2,z2⟩:=I.list (rd_lst mo g2)
  have ln:=List.length_zip (l₁:=xs) (l₂:=ys)
  have le1:=r1.length
  have le2:=r2.length
  obtain⟨xv,hxv⟩:∃v,us[i]?=some v:=⟨_,List.getElem?_eq_getElem (by omega)⟩
  obtain⟨yv,hyv⟩:∃v,ws[i]?=some v:=⟨_,List.getElem?_eq_getElem (by omega)⟩
  have hx:us.toArray[i]?=some xv:=by simpa using hxv
  have hy:ws.toArray[i]?=some yv:=by simpa using hyv
  obtain⟨x,y,gz,rx,ry⟩:=zip_get r1 r2 hxv hyv
  refine wpAny_pyNext_zip_item D hz hTI hTO h1 h2 l1.isList l2.isList hx hy fun h' a1 a2 a3 a4 a5 a6 k=>?_
  refine⟨_,rfl,wpAny_letOwnedTupleGo_zip (s:={s with heap:=h'}) a1 fun h3 hz3 sb=>?_⟩
  have there:∀b ∈ [z,TI,TO,i1,i2],b < s.heap.objs.size:=fun b hb=>by
   simp only[List.mem_cons,List.not_mem_nil,or_false]at hb
   obtain⟨o1,e1,_⟩:=id h1
   obtain⟨o2,e2,_⟩:=id h2
   rcases hb with rfl | rfl | rfl | rfl | rfl
   ·exact Heap.lt_size hz
   ·exact Heap.lt_size hTI
   ·exact Heap.lt_size hTO
   ·exact Heap.lt_size e1
   ·exact Heap.lt_size e2
  have up:∀b ∈ [z,TI,TO,i1,i2],upd H s.heap.objs.size (.tup [x,y]) b=none:=fun b hb=>by rw[upd_ne (Nat.ne_of_lt (there b hb))];exact(hf b hb).1
  have I0:Inv X pins σ (upd H s.heap.objs.size (.tup [x,y])) {s with heap:=s.heap.push {cls:=.type "tuple",data:=.seq #[xv,yv]},toks:=s.toks}:=
   I.laid (fun b o e=>Heap.get?_push_of_some _ e) (Nat.le_refl _) ⟨by rw[sizeLine_eq];simp,_,.cons rx (.cons ry .nil),IsTup.new _ _⟩
  have I1:Inv X pins σ (upd H s.heap.objs.size (.tup [x,y])) {s with heap:=h3,toks:=s.toks}:=by
   refine L2.Inv.turnedL (s:={s with heap:=s.heap.push {cls:=.type "tuple",data:=.seq #[xv,yv]},toks:=s.toks}) (h':=h3) (fp:=[z,TI,TO,i1,i2]) I0 (fun b hb=>⟨up b hb,(hf b hb).2⟩) fun b o hb e=>?_
   simp only[List.mem_cons,List.not_mem_nil,or_false,not_or]at hb
   rcases Heap.get?_push_cases e with ⟨rfl,rfl⟩ | e'
   ·exact(sb.2 _ hb.1).trans a5
   ·exact(sb.2 b hb.1).trans (k b _ hb.1 hb.2.2.1 hb.2.2.2.1 hb.2.2.2.2 e')
  refine⟨.ref s.heap.objs.size,_,I1,rfl,⟨s.heap.objs.size,(x,y),I.hok.fresh (Nat.le_refl _),OffM.new (Inv.offM mo I1),gz,rfl,rfl⟩,⟨hz3,sb.extBut _ _ D.TIz (k _ _ D.TIz D.TITO D.TIi1 D.TIi2 hTI),⟨_,_,sb.extBut _ _ D.TOz a2⟩,a3.extBut sb.extBut D.i1z,a4.extBut sb.extBut D.i2z⟩,up⟩
 done:=by
  intro X hP hw hK hc i pins s σ H E I hf st hg
  subst hP hw hK
  obtain⟨⟨g1,g2⟩,le⟩:=hg
  obtain⟨hz,hTI,⟨a,b,hTO⟩,h1,h2⟩:=st
  obtain⟨us,r1,l1,z1⟩:=I.list (rd_lst mo g1)
  obtain⟨ws,r2,l2,z2⟩:=I.list (rd_lst mo g2)
  have ln:=List.length_zip (l₁:=xs) (l₂:=ys)
  have le1:=r1.length
  have le2:=r2.length
  have no:us.toArray[i]?=none\/ws.toArray[i]?=none:=by
   rcases Nat.le_total us.length ws.length with c | c
   ·exact .inl (by simp;omega)
   ·exact .inr (by simp;omega)
  refine wpAny_pyNext_zip_end (I.ok.hd hc) D hz hTI hTO h1 h2 l1.isList l2.isList no fun h' k=>⟨rfl,I.turnedL (t':=s.toks) hf fun b o hb e=>?_⟩
  simp only[List.mem_cons,List.not_mem_nil,or_false,not_or]at hb
  exact k b o hb.1 hb.2.2.1 hb.2.2.2.1 hb.2.2.2.2 e
 self:=fun _ _ _ _ _ st h=>wpAny_pyIter_zip st.1 h
end
end Sw
namespace Sw
open PySem PySem.Spec PyProof.Rows L2
open PySem.W (Frag keepIn ktsIn mroIn kitOne)
theorem mfS (m:Mf):PlainAttrs (mfT m)/\Slot (mfT m) m.name (mfId m)/\typeOf (.builtin (mfId m))=pure (.type "method_descriptor"):=by
 cases m
 ·exact⟨F.plainAttrs_str,F.slot_str_startswith,F.type_str_startswith⟩
 ·exact⟨F.plainAttrs_str,F.slot_str_endswith,F.type_str_endswith⟩
 ·exact⟨F.plainAttrs_str,F.slot_str_split,F.type_str_split⟩
 ·exact⟨F.plainAttrs_str,F.slot_str_join,F.type_str_join⟩
 ·exact⟨F.plainAttrs_list,F.slot_list_append,F.type_list_append⟩
 ·exact⟨F.plainAttrs_list,F.slot_list_pop,F.type_list_pop⟩
 ·exact⟨F.plainAttrs_list,F.slot_list_extend,F.type_list_extend⟩
 ·exact⟨F.plainAttrs_list,F.slot_list_clear,F.type_list_clear⟩
 ·exact⟨F.plainAttrs_dict,F.slot_dict_pop,F.type_dict_pop⟩
 ·exact⟨F.plainAttrs_dict,F.slot_dict_clear,F.type_dict_clear⟩
 ·exact⟨F.plainAttrs_dict,F.slot_dict_copy,F.type_dict_copy⟩
 ·exact⟨F.plainAttrs_dict,F.slot_dict_setdefault,F.type_dict_setdefault⟩
theorem m2S (m:M2):PlainAttrs (m2T m)/\Slot (m2T m) m.name (m2Id m)/\typeOf (.builtin (m2Id m))=pure (.type "method_descriptor"):=by
 cases m
 ·exact⟨F.plainAttrs_list,F.slot_list_remove,F.type_list_remove⟩
theorem base_of {o:Expr} {m:Str} {env:Env} {t:Sem Value} (h:noCall0 o=true):attributeBase o m env t=t:=by
 cases o with
 | Call f args kws pos=>
  cases f with
  | Name x p=>
   cases args with
   | nil=>
    cases kws with
    | nil=>cases h
    | cons _ _=>rfl
   | cons _ _=>rfl
  | _=>rfl
 | _=>rfl
section
variable {X:Cx}
theorem pe_mth0 {M:Mo} (mo:ModOk X.K M) {m:Mf} {o:Expr} {apos cpos:Pos} {to:TE} (ho:PE X o to) (hn:noCall0 o=true) (hl:(apos.endLine == cpos.line)=true):
  PE X (.Call (.Attribute o m.name apos) [] [] cpos) (fun σ H Q=>to σ H fun x H1=>mty M m x H1=true/\mthV M m x [] H1 Q):=by
 obtain⟨pa,slot,hty⟩:=mfS m
 intro pins s σ H Q I h
 refine wpAny_Call_method0_late (base_of hn) hl (thn (ho pins s σ H _ I h) fun v s1 ⟨x,H1,I1,r1,ty,q1⟩=>?_)
 obtain⟨h1,h2⟩:=tyV_is I1 r1 (mth_ty mo ty)
 exact⟨_,_,pa,slot,hty,h1,h2,Calls.callWith_builtin rfl (PySem.evalArgs_none (mth_ok mo m pins s1 σ H1 x [] v [] Q I1 r1 .nil q1))⟩
theorem pe_mth {M:Mo} (mo:ModOk X.K M) {m:Mf} {o e:Expr} {es:List Expr} {apos cpos:Pos} {to:TE} {t:TA} (ho:PE X o to) (ha:PA X (e::es) t) (hp:∀e' ∈ e::es,plainE e'=true) (hn:noCall0 o=true) (hl:(apos.endLine == cpos.line)=true) (hf:(e::es).length < 20):
  PE X (.Call (.Attribute o m.name apos) (e::es) [] cpos) (fun σ H Q=>to σ H fun x H1=>mty M m x H1=true/\t σ H1 fun vs H2=>mthV M m x vs H2 Q):=by
 obtain⟨pa,slot,hty⟩:=mfS m
 have hfew:((backTo cpos (starEach (e::es) X.env)).all (fun x=>!x.1) && (backToKw cpos (keywordEach [] X.env)).all (fun x=>x.1.isSome)
   && decide ((e::es).length + ([]:List Keyword).length + (if([]:List Keyword).isEmpty then 0 else 1) < 30))=true:=by
  rw[plain_all hp]
  simp only[Bool.true_and]
  rw[Bool.and_eq_true]
  refine⟨rfl,decide_eq_true ?_⟩
  simp at hf ⊢
  omega
 intro pins s σ H Q I h
 refine wpAny_Call_method_late (base_of hn) hfew hl rfl (thn (ho pins s σ H _ I h) fun v s1 ⟨x,H1,I1,r1,ty,q1⟩=>?_)
 obtain⟨h1,h2⟩:=tyV_is I1 r1 (mth_ty mo ty)
 refine⟨_,_,pa,slot,hty,h1,h2,?_⟩
 have hA:=ha cpos pins s1 σ H1 _ I1 q1
 have hs:=star_cons (env:=X.env) (es:=es) (hp e List.mem_cons_self)
 rw[hs]at hA ⊢
 refine Calls.callWith_builtin (by show(false || (backTo cpos (starEach es X.env)).any (·.1))=false;rw[plain_any fun e he=>hp e (List.mem_cons_of_mem _ he)];rfl) (Calls.evalArgs_plain ?_)
 exact thn hA fun us s2 ⟨vs,H2,I2,r2,q2⟩=>mth_ok mo m pins s2 σ H2 x vs v us Q I2 r1 r2 q2
theorem pe_mth20 {M:Mo} (hu:X.A.units + 64 < cLine) (mo:ModOk X.K M) {m:M2} {o:Expr} {apos cpos:Pos} {to:TE} (ho:PE X o to) (hn:noCall0 o=true) (hl:(apos.endLine == cpos.line)=true):
  PE X (.Call (.Attribute o m.name apos) [] [] cpos) (fun σ H Q=>to σ H fun x H1=>m2ty M m x H1=true/\m2V M m x [] H1 Q):=by
 obtain⟨pa,slot,hty⟩:=m2S m
 intro pins s σ H Q I h
 refine wpAny_Call_method0_late (base_of hn) hl (thn (ho pins s σ H _ I h) fun v s1 ⟨x,H1,I1,r1,ty,q1⟩=>?_)
 obtain⟨h1,h2⟩:=tyV_is I1 r1 (m2_ty mo ty)
 exact⟨_,_,pa,slot,hty,h1,h2,Calls.callWith_builtin rfl (PySem.evalArgs_none (m2_ok hu mo m pins s1 σ H1 x [] v [] Q I1 r1 .nil q1))⟩
theorem pe_mth2 {M:Mo} (hu:X.A.units + 64 < cLine) (mo:ModOk X.K M) {m:M2} {o e:Expr} {es:List Expr} {apos cpos:Pos} {to:TE} {t:TA} (ho:PE X o to) (ha:PA X (e::es) t) (hp:∀e' ∈ e::es,plainE e'=true) (hn:noCall0 o=true) (hl:(apos.endLine == cpos.line)=true) (hf:(e::es).length < 20):
  PE X (.Call (.Attribute o m.name apos) (e::es) [] cpos) (fun σ H Q=>to σ H fun x H1=>m2ty M m x H1=true/\t σ H1 fun vs H2=>m2V M m x vs H2 Q):=by
 obtain⟨pa,slot,hty⟩:=m2S m
 have hfew:((backTo cpos (starEach (e::es) X.env)).all (fun x=>!x.1) && (backToKw cpos (keywordEach [] X.env)).all (fun x=>x.1.isSome)
   && decide ((e::es).length + ([]:List Keyword).length + (if([]:List Keyword).isEmpty then 0 else 1) < 30))=true:=by
  rw[plain_all hp]
  simp only[Bool.true_and]
  rw[Bool.and_eq_true]
  refine⟨rfl,decide_eq_true ?_⟩
  simp at hf ⊢
  omega
 intro pins s σ H Q I h
 refine wpAny_Call_method_late (base_of hn) hfew hl rfl (thn (ho pins s σ H _ I h) fun v s1 ⟨x,H1,I1,r1,ty,q1⟩=>?_)
 obtain⟨h1,h2⟩:=tyV_is I1 r1 (m2_ty mo ty)
 refine⟨_,_,pa,slot,hty,h1,h2,?_⟩
 have hA:=ha cpos pins s1 σ H1 _ I1 q1
 have hs:=star_cons (env:=X.env) (es:=es) (hp e List.mem_cons_self)
 rw[hs]at hA ⊢
 refine Calls.callWith_builtin (by show(false || (backTo cpos (starEach es X.env)).any (·.1))=false;rw[plain_any fun e he=>hp e (List.mem_cons_of_mem _ he)];rfl) (Calls.evalArgs_plain ?_)
 exact thn hA fun us s2 ⟨vs,H2,I2,r2,q2⟩=>m2_ok hu mo m pins s2 σ H2 x vs v us Q I2 r1 r2 q2
end
section
variable (Γ:Gam) (k:Nat)
theorem one_marks {op:CmpOp} {b:Expr} (h:plainE b=true):behindInMarks op b=false:=by
 cases b<;>first | rfl | cases h
theorem un_negV {X:Cx}:UnR X (unaryOp .USub) (fun x H Q=>match x with | .int i=>Q (.int (-i)) H | _=>False):=by
 intro pins s σ H x v Q I r h
 split at h
 ·exact un_neg pins s σ H _ v Q I r ⟨_,rfl,h⟩
 ·exact h.elim
theorem pe_callG {X:Cx} {Γ:Gam} {sc:Scope} {k:Nat} {Ξ:XS} {f:Str} {es:List Expr} {t:TA} {p pos:Pos} (C:Ctx X Γ sc k) (xo:XOk X Ξ) (hg:Gl X f) (ho:okName f=true) (ha:PA X es t) (hp:∀e ∈ es,plainE e=true) (h0:es=[]->t=fun _ H Q=>Q [] H):
  PE X (.Call (.Name f p) es [] pos) (fun σ H Q=>(Γ.cm=true/\Γ.has f=true)/\t σ H fun vs H1=>Γ.fn f vs H1 Q fun C d H'=>Ξ C d σ H'):=by
 intro pins s σ H Q I ⟨⟨hc,hh⟩,h⟩
 obtain⟨fa,fd,ps,hm,hk,F,hb⟩:=C.g.fn f hh
 refine wpAny_Call_Name_kw (ld_glob I hg hm ?_ (okName_of ho).1)
 cases es with
 | nil=>
  rw[h0 rfl]at h
  exact PySem.W.callWith_K0 I.kIn hk (run_fnX (us:=[]) F ((C.room hc).mono (Nat.le_succ _)) hb xo I .nil h)
 | cons e es=>
  refine PySem.W.callWith_K (h₀:=X.base) I.ok.mod.kin hk (thn (ha pos pins s σ H _ I h) fun us s1 ⟨vs,H1,I1,r,q⟩=>⟨I1.kIn,?_⟩) (star_cons (hp e List.mem_cons_self)) (plain_any fun e he=>hp e (List.mem_cons_of_mem _ he))
  exact run_fnX F ((C.room hc).mono (Nat.le_succ _)) hb xo I1 r q
theorem pe_bltG {X:Cx} {M:Mo} {e:Expr} {es:List Expr} {t:TA} {p pos:Pos} {x:Str} (hc:X.calm=true) (mo:ModOk X.K M) (f:Bf) (hx:f.name=x) (hg:Gl X x) (hm:X.mg x=none) (ho:okName x=true) (ha:PA X (e::es) t) (hp:∀e' ∈ e::es,plainE e'=true):
  PE X (.Call (.Name x p) (e::es) [] pos) (tCB (bltV M f) t):=by
 subst hx
 have hb:=blt_ok hc mo f
 have hv:=boot_bf f
 have he:=star_cons (env:=X.env) (es:=es) (hp e List.mem_cons_self)
 have hpl:=plain_any (env:=X.env) (pos:=pos) (es:=es) fun e he=>hp e (List.mem_cons_of_mem _ he)
 obtain⟨o1,o2,o3⟩:=okName_of ho
 cases f with
 | str=>exact pe_callTy hb hg hm hv ha o3 o1 he hpl
 | int=>exact pe_callTy hb hg hm hv ha o3 o1 he hpl
 | list=>exact pe_callTy hb hg hm hv ha o3 o1 he hpl
 | tuple=>exact pe_callTy hb hg hm hv ha o3 o1 he hpl
 | _=>exact pe_callB hb hg hm hv ha o3 o1 he hpl
theorem plain_ix {b:Expr} (h:plainE b=true):PlainIx b:=by
 intro o i
 cases b<;>first | rfl | cases h
theorem plain_fold {e:Expr} {env:Env} (h:plainE e=true) (v:Value):foldedSetIterable e env v=pure v:=by
 cases e<;>first | rfl | cases h
theorem pe_compW {X:Cx} {M:Mo} {sc csc:Scope} {elt iter:Expr} {ifs:List Expr} {x:Str} {px pos:Pos} {fv:List (Str × Nat)} {tt:TT} {wi:L2.St->Hp->(List V->(Hp->Prop)->Hp->Prop)->Prop} {Ξ:XS} {Γ:Gam} {el:Ex} (mo:ModOk X.K M) (hc:X.calm=true) (top:TopFr X) (xo:XOk X Ξ)
  (hcf:∀y,(sc.names.lookup y=some .cell\/sc.names.lookup y=some .free)->X.env.kindOf y=some .cell\/X.env.kindOf y=some .free)
  (ok:compOkN sc csc X.N [x] fv=true) (hi:PI X (.Name x px) iter (iSeq wi))
  (he:∀σ X',CompOf X X' csc (x::fv.map (·.1))->XOk X' (fun C d _ H'=>Ξ C d σ H')->PE X' elt (wE Γ el fun C d _ H'=>Ξ C d σ H')) (ht:∀X',CompOf X X' csc (x::fv.map (·.1))->PTs X' ifs tt)
  (hs:∀v,foldedSetIterable iter X.env v=pure v):
  PE X (.ListComp elt [⟨.Name x px,iter,ifs,0⟩] csc pos) (fun σ H Q=>wi σ H fun xs stay H1=>∀D,H1 D=none->M D=none->compW (wE Γ el fun C d _ H'=>Ξ C d σ H') tt (vars σ fv) D stay xs [] (upd H1 D (.lst [])) fun H'=>Q (.ref D) H'):=
 pe_comp (te:=fun σ=>wE Γ el fun C d _ H'=>Ξ C d σ H') mo hc top xo hcf ok hi he ht hs
theorem b2_boot (f:B2):bootBuiltins f.name=some (.builtin (b2Id f)):=by cases f<;>kernel_rfl
theorem pe_b2 {X:Cx} {M:Mo} {e:Expr} {te:TE} {p pos:Pos} (hc:X.calm=true) (mo:ModOk X.K M) (hu:X.A.units + 64 < cLine) (f:B2) (hg:Gl X f.name) (hm:X.mg f.name=none) (ha:PE X e te) (hp:plainE e=true):
  PE X (.Call (.Name f.name p) [e] [] pos) (fun σ H Q=>te σ H fun x H1=>b2V M f x H1 Q):=by
 intro pins s σ H Q I h
 have hs:=star_cons (env:=X.env) (es:=[]) hp
 refine wpAny_Call_Name_kw (ld_blt I hg hm (b2_boot f) ?_ (by cases f<;>decide) (by cases f<;>decide))
 refine PyProof.Rows.callWith_builtin1 ?_ hs rfl
 rw[hs]
 refine Calls.spliced_cons (thn (ha pins s σ H _ I h) fun u s1 ⟨x,H1,I1,r1,q1⟩=>Calls.spliced_nil ?_)
 exact b2_ok mo hc hu f I1 r1 q1
theorem boot_max:bootBuiltins ("max" :Str)=some (.builtin "max"):=by kernel_rfl
theorem pe_smax {X:Cx} {a b:Expr} {ta tb:TE} {p pos:Pos} (hc:X.calm=true) (hg:Gl X "max") (hm:X.mg "max" =none) (ha:PE X a ta) (hb:PE X b tb) (hp:plainE a=true) (hp2:plainE b=true):
  PE X (.Call (.Name "max" p) [a,b] [] pos) (fun σ H Q=>ta σ H fun x H1=>tb σ H1 fun y H2=>smaxV x y H2 Q):=by
 intro pins s σ H Q I h
 have hs:=star_cons (env:=X.env) (es:=[b]) hp
 have hs2:=star_cons (env:=X.env) (es:=[]) hp2
 refine wpAny_Call_Name_kw (ld_blt I hg hm boot_max ?_)
 refine PyProof.Rows.callWith_builtin1 ?_ hs (by rw[hs2];rfl)
 rw[hs,hs2]
 refine Calls.spliced_cons (thn (ha pins s σ H _ I h) fun v s1 ⟨x,H1,I1,r1,q1⟩=>Calls.spliced_cons (thn (hb pins s1 σ H1 _ I1 q1) fun u s2 ⟨y,H2,I2,r2,q2⟩=>Calls.spliced_nil ?_))
 exact smax_ok hc I2 r1 r2 q2
theorem boot_zip:bootBuiltins ("zip" :Str)=some (.type "zip"):=by kernel_rfl
theorem boot_list:bootBuiltins ("list" :Str)=some (.type "list"):=by kernel_rfl
theorem pe_lzip {X:Cx} {M:Mo} {a b:Expr} {ta tb:TE} {p p2 pos pos2:Pos} (hc:X.calm=true) (mo:ModOk X.K M) (g1:Gl X "list") (m1:X.mg "list" =none) (g2:Gl X "zip") (m2:X.mg "zip" =none) (ha:PE X a ta) (hb:PE X b tb) (hp:plainE a=true) (hp2:plainE b=true):
  PE X (.Call (.Name "list" p) [.Call (.Name "zip" p2) [a,b] [] pos2] [] pos) (fun σ H Q=>ta σ H fun x H1=>tb σ H1 fun y H2=>zipV M x y H2 fun ps _=>pairsV M ps H2 Q):=by
 intro pins s σ H Q I h
 have hs:=star_cons (env:=X.env) (es:=[b]) hp
 have hs2:=star_cons (env:=X.env) (es:=[]) hp2
 refine wpAny_Call_Name_kw (ld_blt I g1 m1 boot_list ?_)
 refine PyProof.Rows.callWith_type1 ?_ rfl rfl
 refine Calls.spliced_cons (wpAny_Call_Name_kw (ld_blt I g2 m2 boot_zip ?_))
 refine PyProof.Rows.callWith_type1 ?_ hs (by rw[hs2];rfl)
 rw[hs,hs2]
 refine Calls.spliced_cons (thn (ha pins s σ H _ I h) fun v s1 ⟨x,H1,I1,r1,q1⟩=>Calls.spliced_cons (thn (hb pins s1 σ H1 _ I1 q1) fun u s2 ⟨y,H2,I2,r2,q2⟩=>Calls.spliced_nil ?_))
 exact thn (lzip_ok mo hc I2 r1 r2 q2) fun v s2 z=>Calls.spliced_nil z
theorem pe_lrev {X:Cx} {M:Mo} {e:Expr} {te:TE} {p p2 pos pos2:Pos} (hc:X.calm=true) (mo:ModOk X.K M) (g1:Gl X "list") (m1:X.mg "list" =none) (g2:Gl X "reversed") (m2:X.mg "reversed" =none) (ha:PE X e te) (hp:plainE e=true):
  PE X (.Call (.Name "list" p) [.Call (.Name "reversed" p2) [e] [] pos2] [] pos) (fun σ H Q=>te σ H fun x H1=>lrevV M x H1 Q):=by
 intro pins s σ H Q I h
 have hs:=star_cons (env:=X.env) (es:=[]) hp
 refine wpAny_Call_Name_kw (ld_blt I g1 m1 boot_list ?_)
 refine PyProof.Rows.callWith_type1 ?_ rfl rfl
 refine Calls.spliced_cons (wpAny_Call_Name_kw (ld_blt I g2 m2 boot_reversed ?_))
 refine PyProof.Rows.callWith_type1 ?_ hs rfl
 rw[hs]
 refine Calls.spliced_cons (thn (ha pins s σ H _ I h) fun u s1 ⟨x,H1,I1,r1,q1⟩=>Calls.spliced_nil ?_)
 exact thn (lrev_ok mo hc I1 r1 q1) fun v s2 z=>Calls.spliced_nil z
noncomputable def wiZ (M:Mo) (ta tb:TE):TI:=fun σ H R=>∃Q0:V->V->Hp->Prop,(ta σ H fun x H1=>tb σ H1 fun y H2=>Q0 x y H2)/\∀x y H2,Q0 x y H2->∃p q xs ys,x=.ref p/\y=.ref q/\rd M H2 p=some (.lst xs)/\rd M H2 q=some (.lst ys)/\R (Itz M p q xs ys) H2
theorem pi_zip {X:Cx} {M:Mo} {a b:Expr} {ta tb:TE} {ts:List Expr} {kt} {pt p pos:Pos} (mo:ModOk X.K M) (hg:Gl X "zip") (hm:X.mg "zip" =none) (ha:PE X a ta) (hb:PE X b tb) (hp:plainE a=true) (hp2:plainE b=true):
  PI X (.Tuple ts kt pt) (.Call (.Name "zip" p) [a,b] [] pos) (wiZ M ta tb):=by
 intro pins s σ H R I ⟨Q0,hw,hq⟩
 have hs:=star_cons (env:=X.env) (es:=[b]) hp
 have hs2:=star_cons (env:=X.env) (es:=[]) hp2
 refine Call_ (ld_blt I hg hm boot_zip (PyProof.Rows.callWith_type1 ?_ hs (by rw[hs2];rfl)))
 rw[hs,hs2]
 refine Calls.spliced_cons (thn (ha pins s σ H _ I hw) fun v s1 ⟨x,H1,I1,r1,q1⟩=>Calls.spliced_cons (thn (hb pins s1 σ H1 _ I1 q1) fun u s2 ⟨y,H2,I2,r2,q2⟩=>Calls.spliced_nil ?_))
 obtain⟨p1,p2,xs,ys,rfl,rfl,e1,e2,hR⟩:=hq x y H2 q2
 cases (show v=Value.ref p1 from r1)
 cases (show u=Value.ref p2 from r2)
 obtain⟨us,_,l1,_⟩:=I2.list (rd_lst mo e1)
 obtain⟨ws,_,l2,_⟩:=I2.list (rd_lst mo e2)
 have lt1:@LT.lt Nat _ p1 s2.heap.objs.size:=by obtain⟨o,e,_⟩:=id l1.isList;exact Heap.lt_size e
 have lt2:@LT.lt Nat _ p2 s2.heap.objs.size:=by obtain⟨o,e,_⟩:=id l2.isList;exact Heap.lt_size e
 refine call_zip_2 l1.isList l2.isList fun h' hz hTI hTO h1 h2 hsz k=>?_
 have D:ZipApart (s2.heap.objs.size + 4) (s2.heap.objs.size + 2) (s2.heap.objs.size + 3) s2.heap.objs.size (s2.heap.objs.size + 1) p1 p2:=by constructor<;>exact Zl.nd (by omega)
 refine wpAny_pyIter_zip (s:={s2 with heap:=h'}) hz ⟨_,_,_,_,H2,rfl,I2.kept (t':=s2.toks) k,turn_zip mo D,⟨hz,hTI,⟨_,_,hTO⟩,h1,h2⟩,fun b hb=>?_,hR⟩
 have ge:s2.heap.objs.size<=b:=by
  simp only[List.mem_cons,List.not_mem_nil,or_false]at hb
  rcases hb with rfl | rfl | rfl | rfl | rfl<;>first | exact Nat.le_refl _ | exact Nat.le_add_right _ _
 exact I2.fpOk ge (I2.hok.fresh ge)
theorem compZ_core {X:Cx} {M:Mo} {sc csc:Scope} {elt a b:Expr} {xs:List Str} {ts:List Expr} {kt} {pt p p2 pos:Pos} {fv:List (Str × Nat)} {ta tb:TE} {te:L2.St->TE} {Ξ:XS} (mo:ModOk X.K M) (hc:X.calm=true) (top:TopFr X) (xo:XOk X Ξ)
  (hcf:∀y,(sc.names.lookup y=some .cell\/sc.names.lookup y=some .free)->X.env.kindOf y=some .cell\/X.env.kindOf y=some .free)
  (ok:compOkN sc csc X.N xs fv=true) (h2:xs.length=2) (hg:Gl X "zip") (hm:X.mg "zip" =none) (ha:PE X a ta) (hb:PE X b tb) (hp:plainE a=true) (hp2:plainE b=true)
  (he:∀σ X',CompOf X X' csc (inT fv xs)->XOk X' (fun C d _ H'=>Ξ C d σ H')->PE X' elt (te σ))
  {use:Option (Value->Sem Unit)} {R:Value->Shared->Prop} {pins:List (Addr × Obj)} {s:Shared} {σ:L2.St} {H:Hp} {Q:V->Hp->Prop} (I:Inv X pins σ H s)
  (h:ta σ H fun x H1=>tb σ H1 fun y H2=>zipV M x y H2 fun ps stay=>∀D,H2 D=none->M D=none->
   compWG (nxtZ M) (te σ) (fun _ H Q=>Q true H) (vars σ fv) D stay ps [] (upd H2 D (.lst [])) fun H'=>Q (.ref D) H')
  (hfin:∀D C s' H',Inv X pins σ H' s'->FpOk X pins H' C->(∃ m,s'.heap.Ns C m)->Q (.ref D) H'->compPost (model X.prog X.w) X.A X.xe use R (.ref D) C (.ok .next) s'):
  wpAny (model X.prog X.w) X.A (comprehension (.ListComp elt [⟨.Tuple (bN (inT fv xs) (List.range xs.length) ts) kt pt,.Call (.Name "zip" p) [a,b] [] p2,[],0⟩] csc pos) csc X.env (firstIterPos [⟨.Tuple (bN (inT fv xs) (List.range xs.length) ts) kt pt,.Call (.Name "zip" p) [a,b] [] p2,[],0⟩] pos) (newList []) (firstAsync [⟨.Tuple (bN (inT fv xs) (List.range xs.length) ts) kt pt,.Call (.Name "zip" p) [a,b] [] p2,[],0⟩]) (firstIter [⟨.Tuple (bN (inT fv xs) (List.range xs.length) ts) kt pt,.Call (.Name "zip" p) [a,b] [] p2,[],0⟩] X.env) use) R X.xe s:=by
 refine comp_coreG (nxt:=nxtZ M) (g:=gTup X.K xs.length (gNames (List.range xs.length))) mo hc hcf ok (pi_zip mo hg hm ha hb hp hp2) (fun X' c nd hl=>?_) top xo (he σ) (fun X' c=>pts_nil0) (plain_fold rfl) (use:=use) (R:=R) (Q:=Q) I ⟨_,h,fun x y H2 q=>?_⟩ hfin
 ·have cN:X'.N=inT fv xs:=c.N
  rw[<-c.K,<-cN]
  have ln:xs.length<=X'.N.length:=by rw[cN];unfold inT;rw[List.length_append];omega
  refine pg_tup c.calm (pgs_local (by rw[cN];exact nd) fun i hi=>?_) (by rw[bN_len,List.length_range]) bN_star
  have hi':=List.mem_range.mp hi
  refine⟨Nat.lt_of_lt_of_le hi' ln,hl _ ?_⟩
  have:nx X'.N i=xs[i]:=by
   unfold nx
   rw[cN,List.getD_eq_getElem?_getD]
   unfold inT
   rw[List.getElem?_append_left hi',List.getElem?_eq_getElem hi']
   rfl
  rw[this]
  exact List.getElem_mem hi'
 ·unfold zipV at q
  split at q
  ·rename_i p1 p2
   split at q
   ·rename_i us ws e1 e2
    refine⟨p1,p2,us,ws,rfl,rfl,e1,e2,us.zip ws,_,⟨fun i H st lt=>⟨st,lt⟩,fun i a H y H' R e y1 st nx=>?_,fun i H st le=>⟨st,le⟩⟩,fun D H'=>Q (.ref D) H',fun _ _ z=>z,q⟩
    obtain⟨t,a',t1,t2,t3,rfl,rfl⟩:=y1
    rw[e]at t3
    cases t3
    refine⟨[some a.1,some a.2],h2.symm,nx t t1 t2,fun w0 f Q hw q=>?_⟩
    rw[h2]at hw ⊢
    match w0,hw with
    | [b1,b2],_=>exact⟨t,[a.1,a.2],rfl,SqT.of upd_same,rfl,gNames_all rfl q⟩
   ·exact q.elim
  ·exact q.elim
theorem pe_compZ {X:Cx} {M:Mo} {sc csc:Scope} {elt a b:Expr} {xs:List Str} {ts:List Expr} {kt} {pt p p2 pos:Pos} {fv:List (Str × Nat)} {ta tb:TE} {te:L2.St->TE} {Ξ:XS} (mo:ModOk X.K M) (hc:X.calm=true) (top:TopFr X) (xo:XOk X Ξ)
  (hcf:∀y,(sc.names.lookup y=some .cell\/sc.names.lookup y=some .free)->X.env.kindOf y=some .cell\/X.env.kindOf y=some .free)
  (ok:compOkN sc csc X.N xs fv=true) (h2:xs.length=2) (hg:Gl X "zip") (hm:X.mg "zip" =none) (ha:PE X a ta) (hb:PE X b tb) (hp:plainE a=true) (hp2:plainE b=true)
  (he:∀σ X',CompOf X X' csc (inT fv xs)->XOk X' (fun C d _ H'=>Ξ C d σ H')->PE X' elt (te σ)):
  PE X (.ListComp elt [⟨.Tuple (bN (inT fv xs) (List.range xs.length) ts) kt pt,.Call (.Name "zip" p) [a,b] [] p2,[],0⟩] csc pos) (fun σ H Q=>ta σ H fun x H1=>tb σ H1 fun y H2=>zipV M x y H2 fun ps stay=>∀D,H2 D=none->M D=none->
   compWG (nxtZ M) (te σ) (fun _ H Q=>Q true H) (vars σ fv) D stay ps [] (upd H2 D (.lst [])) fun H'=>Q (.ref D) H'):=by
 intro pins s σ H Q I h
 rw[eval_ListComp]
 refine compZ_core mo hc top xo hcf ok h2 hg hm ha hb hp hp2 he (use:=none) (R:=EP X pins σ Q) (Q:=Q) I h fun D C s' H' I' f ⟨m,hm⟩ q=>?_
 refine⟨m,hm,fun h' sb=>⟨.ref D,H',?_,rfl,q⟩⟩
 exact Inv.letgo I' f sb
theorem ps_setZ {X:Cx} {M:Mo} {sc csc:Scope} {elt a b:Expr} {xs:List Str} {ts:List Expr} {kt} {pt p p2 pos:Pos} {fv:List (Str × Nat)} {ta tb:TE} {te:L2.St->TE} {Ξ:XS} (mo:ModOk X.K M) (hc:X.calm=true) (top:TopFr X) (xo:XOk X Ξ)
  (hcf:∀y,(sc.names.lookup y=some .cell\/sc.names.lookup y=some .free)->X.env.kindOf y=some .cell\/X.env.kindOf y=some .free)
  (ok:compOkN sc csc X.N xs fv=true) (h2:xs.length=2) (hg:Gl X "zip") (hm:X.mg "zip" =none) (ha:PE X a ta) (hb:PE X b tb) (hp:plainE a=true) (hp2:plainE b=true)
  (he:∀σ X',CompOf X X' csc (inT fv xs)->XOk X' (fun C d _ H'=>Ξ C d σ H')->PE X' elt (te σ))
  {i:Nat} {t:Str} {tp spos:Pos} (hN:X.N.Nodup) (hit:X.N[i]?=some t) (hx:Loc X.env.scope t) (hf:X.fn t=true\/X.env.scope.names.lookup t=some .local)
  (hsw:swapsWith (.ListComp elt [⟨.Tuple (bN (inT fv xs) (List.range xs.length) ts) kt pt,.Call (.Name "zip" p) [a,b] [] p2,[],0⟩] csc pos) (some (.Name t tp)) spos.line X.env=pure true):
  PS X (.Assign [.Name t tp] (.ListComp elt [⟨.Tuple (bN (inT fv xs) (List.range xs.length) ts) kt pt,.Call (.Name "zip" p) [a,b] [] p2,[],0⟩] csc pos) spos) (fun D σ H=>ta σ H fun x H1=>tb σ H1 fun y H2=>zipV M x y H2 fun ps stay=>∀B,H2 B=none->M B=none->
   compWG (nxtZ M) (te σ) (fun _ H Q=>Q true H) (vars σ fv) B stay ps [] (upd H2 B (.lst [])) fun H'=>D.nx (σ.set i (some (.ref B))) H'):=by
 intro pins s σ H D I h
 rw[exec_Assign_Name_used _ _ _ _ hsw]
 refine wpAny_bind (wpAny_standAt (wpAny_bind ?_))
 show wpAny _ _ (do let _<-comprehension _ _ _ _ _ _ _ (some _)) _ _ _
 refine wpAny_bind ?_
 refine compZ_core mo hc top xo hcf ok h2 hg hm ha hb hp hp2 he (Q:=fun v H'=>D.nx (σ.set i (some v)) H') I h fun B C s' H' I' f ⟨m,hm⟩ q=>?_
 show wpAny _ _ (assign (.Name t tp) X.env (.ref B)) _ _ _
 refine wpAny_bind (wpAny_standAt ?_)
 unfold bindName
 refine wpAny_bind (wpAny_holding (wpAny_point ?_))
 refine wpAny_bind (store_ok2 I' hN hit hx (v:=.ref B) rfl (fun s2 I2 ⟨a,sb,ha⟩=>?_) hf)
 refine wpAny_point ?_
 have hne:C ≠ a:=fun z=>by
  subst z
  rcases ha with z | z
  ·exact f.2.1 z
  ·exact f.2.2.2.2.1 _ _ z rfl
 obtain⟨o,es,ep,ho,r⟩:=hm
 have ho2:s2.heap.get? C=some o:=(sb.2 C hne).trans ho
 refine⟨m,⟨o,es,ep,ho2,r⟩,fun h' sb2=>?_⟩
 exact wpAny_pure (wpAny_pure ⟨_,H',Inv.letgo I2 f sb2,q⟩)
theorem pe_compZW {X:Cx} {M:Mo} {sc csc:Scope} {elt a b:Expr} {xs:List Str} {ts:List Expr} {kt} {pt p p2 pos:Pos} {fv:List (Str × Nat)} {ta tb:TE} {Γ:Gam} {el:Ex} {Ξ:XS} (mo:ModOk X.K M) (hc:X.calm=true) (top:TopFr X) (xo:XOk X Ξ)
  (hcf:∀y,(sc.names.lookup y=some .cell\/sc.names.lookup y=some .free)->X.env.kindOf y=some .cell\/X.env.kindOf y=some .free)
  (ok:compOkN sc csc X.N xs fv=true) (h2:xs.length=2) (hg:Gl X "zip") (hm:X.mg "zip" =none) (ha:PE X a ta) (hb:PE X b tb) (hp:plainE a=true) (hp2:plainE b=true)
  (he:∀σ X',CompOf X X' csc (inT fv xs)->XOk X' (fun C d _ H'=>Ξ C d σ H')->PE X' elt (wE Γ el fun C d _ H'=>Ξ C d σ H')):
  PE X (.ListComp elt [⟨.Tuple (bN (inT fv xs) (List.range xs.length) ts) kt pt,.Call (.Name "zip" p) [a,b] [] p2,[],0⟩] csc pos) (fun σ H Q=>ta σ H fun x H1=>tb σ H1 fun y H2=>zipV M x y H2 fun ps stay=>∀D,H2 D=none->M D=none->
   compWG (nxtZ M) (wE Γ el fun C d _ H'=>Ξ C d σ H') (fun _ H Q=>Q true H) (vars σ fv) D stay ps [] (upd H2 D (.lst [])) fun H'=>Q (.ref D) H'):=
 pe_compZ (te:=fun σ=>wE Γ el fun C d _ H'=>Ξ C d σ H') mo hc top xo hcf ok h2 hg hm ha hb hp hp2 he
theorem pts_nil {X:Cx}:PTs X [] (fun _ H Q=>Q true H):=fun pins s σ H Q I q=>by
 show wpAny _ _ (pure true) _ _ _
 exact wpAny_pure ⟨H,I,q⟩
theorem pts_one {X:Cx} {c:Expr} {t:TT} (h:PT X c t):PTs X [c] t:=fun pins s σ H Q I q=>by
 show wpAny _ _ (forIn [c] true fun c r=>if r=true then do let ok<-isTrue c X.env (eval c X.env);pure (ForInStep.yield ok)else pure (ForInStep.yield r)) _ _ _
 rw[List.forIn_cons]
 simp only[if_true,List.forIn_nil]
 refine wpAny_bind (wpAny_bind (thn (h pins s σ H Q I q) fun b s1 z=>wpAny_pure ?_))
 exact wpAny_pure z
theorem po_int {X:Cx} {e:Expr} {te:TE} (h:PE X e te):PO X (some e) (fun σ H Q=>te σ H fun x H1=>match x with | .int i=>Q (some i) H1 | _=>False):=by
 intro pins s σ H Q I hw
 rw[evalPart_some]
 refine thn (h pins s σ H _ I hw) fun u s1 ⟨x,H1,I1,r1,q1⟩=>?_
 cases x with
 | int i=>
  obtain⟨t,e⟩:=(show ∃t,u=Value.int i t from r1)
  subst e
  exact⟨some i,H1,I1,.int i t,q1⟩
 | _=>exact q1.elim
theorem pi_rng1 {X:Cx} {tg a:Expr} {ta:TE} {p pos:Pos} (hg:Gl X "range") (hm:X.mg "range" =none) (ha:PE X a ta) (hp:plainE a=true):
  PI X tg (.Call (.Name "range" p) [a] [] pos) (iSeq fun σ H k=>ta σ H fun x H1=>match x with | .int j=>-(2 ^ 62)<=j/\j < 2 ^ 62/\k ((List.range j.toNat).map fun i:Nat=>.int i) (fun _=>True) H1 | _=>False):=by
 intro pins s σ H R I ⟨kk,hw,hk⟩
 have hs:=star_cons (env:=X.env) (es:=[]) hp
 refine Call_ (ld_blt I hg hm boot_range (PyProof.Rows.callWith_type1 ?_ hs rfl))
 rw[hs]
 refine Calls.spliced_cons (thn (ha pins s σ H _ I hw) fun v s1 ⟨x,H1,I1,r1,q1⟩=>Calls.spliced_nil ?_)
 cases x with
 | int j=>
  obtain⟨t,e⟩:=(show ∃t,v=Value.int j t from r1)
  subst e
  obtain⟨q1,q2,q⟩:=q1
  refine call_range_1 (range_it I1 (by omega) (by omega) q1 q2 ?_)
  have hq:=seq_range 0 j.toNat
  simp only[Int.zero_add]at hq
  rw[Int.sub_zero]
  exact hk _ _ _ _ hq q
 | _=>exact q1.elim
theorem keyOf_kV {x:V} {k:Key} (h:keyOf x=some k):x=kV k:=by
 cases x<;>first | (cases h;rfl) | cases h
theorem pe_tupM {X:Cx} {M:Mo} (mo:ModOk X.K M) {es:List Expr} {t:TA} {x1} {pos:Pos} (h:PA X es t):PE X (.Tuple es x1 pos) (fun σ H Q=>t σ H fun xs H1=>xs.length<=sizeLine/\∀p,H1 p=none->M p=none->Q (.ref p) (upd H1 p (.tup xs))):=by
 intro pins s σ H Q I hq
 refine wpAny_Tuple_spliced (thn (h pos pins s σ H _ I hq) fun us s1 ⟨xs,H1,I1,r,z,q⟩=>⟨by rw[<-r.length];exact z,?_⟩)
 have hf:H1 s1.heap.objs.size=none:=I1.hok.fresh (Nat.le_refl _)
 have I2:Inv X pins σ (upd H1 s1.heap.objs.size (.tup xs)) {s1 with heap:=s1.heap.push {cls:=.type "tuple",data:=.seq us.toArray}}:=I1.laid (t':=s1.toks) (fun b u e=>Heap.get?_push_of_some _ e) (Nat.le_refl _) ⟨z,us,r,⟨_,Heap.get?_push_size _ rfl,rfl,_,rfl⟩⟩
 exact⟨.ref s1.heap.objs.size,_,I2,rfl,q _ hf (OffM.new (Inv.offM mo I2))⟩
theorem pe_lstM {X:Cx} {M:Mo} (mo:ModOk X.K M) {es:List Expr} {t:TA} {pos:Pos} (h:PA X es t):PE X (.List es pos) (fun σ H Q=>t σ H fun xs H1=>xs.length<=sizeLine/\∀p,H1 p=none->M p=none->Q (.ref p) (upd H1 p (.lst xs))):=by
 intro pins s σ H Q I hq
 refine wpAny_List_spliced (thn (h pos pins s σ H _ I hq) fun us s1 ⟨xs,H1,I1,r,z,q⟩=>⟨by rw[<-r.length];exact z,?_⟩)
 have hf:H1 s1.heap.objs.size=none:=I1.hok.fresh (Nat.le_refl _)
 have I2:Inv X pins σ (upd H1 s1.heap.objs.size (.lst xs)) {s1 with heap:=s1.heap.push {cls:=.type "list",data:=.seq us.toArray}}:=I1.laid (t':=s1.toks) (fun b u e=>Heap.get?_push_of_some _ e) (Nat.le_refl _) ⟨z,us,0,r,Heap.get?_push_size _ rfl⟩
 exact⟨.ref s1.heap.objs.size,_,I2,rfl,q _ hf (OffM.new (Inv.offM mo I2))⟩
theorem isin_ty {X:Cx} {Γ:Gam} {sc:Scope} {k:Nat} {pins:List (Addr × Obj)} {s:Shared} {σ:L2.St} {H:Hp} {x:V} {v:Value} {T:Ty} {n:String} {Q:VK} (C:Ctx X Γ sc k) (I:Inv X pins σ H s) (rx:RelV x v) (ht:tyN T=some n)
  (q:known Γ.mod H x=true/\Q (.bl (isTy T H x)) H):∃u,NameVal X.mg T.name u/\wpAny (model X.prog X.w) X.A (call (.builtin "isinstance") [v,u]) (EP X pins σ Q) X.xe s:=by
 obtain⟨b1,b2⟩:=boot_ty ht
 obtain⟨t,ty,kt⟩:=kit_ty (K:=X.K) q.1 ht
 exact⟨_,.inr ⟨C.g.no _ b2,b1⟩,isinst_ok I rx ty kt fun tk=>⟨.bl _,H,I.tok _,rfl,q.2⟩⟩
theorem isin_own {X:Cx} {Γ:Gam} {sc:Scope} {k:Nat} {pins:List (Addr × Obj)} {s:Shared} {σ:L2.St} {H:Hp} {x:V} {v:Value} {c:Str} {Q:VK} (C:Ctx X Γ sc k) (I:Inv X pins σ H s)
  (q:match x with | .ref p=>(match H p with | some (.exo C d)=>hasXd H d=true/\(match Γ.sub C c with | some b=>Q (.bl b) H | none=>False) | _=>False) | _=>False) (rx:RelV x v):
  ∃u,NameVal X.mg c u/\wpAny (model X.prog X.w) X.A (call (.builtin "isinstance") [v,u]) (EP X pins σ Q) X.xe s:=by
 cases x with
 | ref p=>
  cases (show v=Value.ref p from rx)
  dsimp only at q
  split at q
  ·rename_i Ca d he
   obtain⟨qx,q⟩:=q
   split at q
   ·rename_i b hs
    obtain⟨xr,u,hv,kt⟩:=C.g.sub _ _ _ hs
    refine⟨u,hv,isexc_ok I he (fun dx e=>?_) xr kt fun tk=>⟨.bl b,H,I.tok _,rfl,q⟩⟩
    subst e
    unfold hasXd at qx
    dsimp only at qx
    split at qx
    ·rename_i fs e;exact⟨fs,e⟩
    ·cases qx
   ·exact q.elim
  ·exact q.elim
 | _=>exact q.elim
theorem pe_conV {X:Cx} {v:V} {n:Nat} {p:Pos} (h:isC v=true):PE X (.Constant (cOf v) n p) (fun _ H Q=>Q v H):=by
 cases v
 case int i=>exact pe_int
 case str x=>exact pe_str
 case bl b=>exact pe_bl
 case non=>exact pe_non
 all_goals cases h
theorem pe_globG {X:Cx} {Γ:Gam} {sc:Scope} {k:Nat} {x:Str} {p:Pos} (C:Ctx X Γ sc k) (hg:isGl sc x=true) (ho:okName x=true):
  PE X (.Name x p) (fun _ H Q=>match Γ.con x with | some v=>Q v H | none=>False):=by
 intro pins s σ H Q I q
 cases e:Γ.con x with
 | none=>rw[e]at q;exact q.elim
 | some v=>
  rw[e]at q
  obtain⟨u,hu,ru⟩:=C.g.con _ _ e
  exact ld_glob I (C.gl _ hg) hu ⟨v,H,I,ru,q⟩ (okName_of ho).1
theorem pe_varG {X:Cx} {Γ:Gam} {sc:Scope} {k:Nat} {i:Nat} {p:Pos} (C:Ctx X Γ sc k) (hi:decide (i < X.N.length)=true) (h:isVis sc (nx X.N i)=true/\okName (nx X.N i)=true):
  PE X (.Name (nx X.N i) p) (fun σ H Q=>match σ[i]? with | some (some v)=>Q v H | _=>False):=by
 obtain⟨o1,o2,o3⟩:=okName_of h.2
 refine PE.of (pe_var (nx_get hi) (C.vis _ h.1) o1 o2) fun σ H Q q=>?_
 match e:σ[i]?,q with
 | some (some v),q=>exact⟨v,e,q⟩
theorem pe_isinG {X:Cx} {Γ:Gam} {sc:Scope} {k:Nat} {a:Expr} {ta:TE} {T:Ty} {p py pos:Pos} (C:Ctx X Γ sc k) (hg:Gl X "isinstance") (ha:PE X a ta) (hp:plainE a=true) (hy:Gl X T.name) (ho:okName T.name=true):
  PE X (.Call (.Name "isinstance" p) [a,.Name T.name py] [] pos) (fun σ H Q=>ta σ H fun x H1=>match(generalizing:=false) T with
   | .own c=>(match x with | .ref p=>(match H1 p with | some (.exo C d)=>hasXd H1 d=true/\(match Γ.sub C c with | some b=>Q (.bl b) H1 | none=>False) | _=>False) | _=>False)
   | T=>known Γ.mod H1 x=true/\Q (.bl (isTy T H1 x)) H1):=by
 refine pe_isin C hg ha hp hy ho fun pins s σ H x v Q I rx q=>?_
 cases T with
 | own c=>exact isin_own C I q rx
 | str=>exact isin_ty (T:=.str) (n:= "str") C I rx rfl q
 | int=>exact isin_ty (T:=.int) (n:= "int") C I rx rfl q
 | bool=>exact isin_ty (T:=.bool) (n:= "bool") C I rx rfl q
 | list=>exact isin_ty (T:=.list) (n:= "list") C I rx rfl q
 | tuple=>exact isin_ty (T:=.tuple) (n:= "tuple") C I rx rfl q
 | dict=>exact isin_ty (T:=.dict) (n:= "dict") C I rx rfl q
theorem and_b {N:List Str} {b:Ex} {tl:List Expr} {p:Pos} (h:isAnd b=true):∃x r,bE N b (.BoolOp .And tl p)=.BoolOp .And (x::r) p:=by
 cases b<;>first | exact⟨_,_,rfl⟩ | cases h
theorem or_b {N:List Str} {b:Ex} {tl:List Expr} {p:Pos} (h:isOr b=true):∃x r,bE N b (.BoolOp .Or tl p)=.BoolOp .Or (x::r) p:=by
 cases b<;>first | exact⟨_,_,rfl⟩ | cases h
theorem row_and {N:List Str} {b:Ex} {a:Expr} {l:Bool} {e1:Expr} {tl:List Expr} {p:Pos} {o1 o2:Bool} {P:Expr->Prop} (h:cond l o1 (isAnd b && o2)=true)
  (h1:o1=true->P (.BoolOp .And [a,bE N b e1] p)) (h2:o2=true->∀x r,bE N b (.BoolOp .And tl p)=.BoolOp .And (x::r) p->P (.BoolOp .And (a::x::r) p)):
  P (.BoolOp .And (a::cond l [bE N b e1] (ek (bE N b (.BoolOp .And tl p)))) p):=by
 cases l with
 | true=>exact h1 h
 | false=>
  obtain⟨h,ho⟩:=a2 h
  obtain⟨x,r,e⟩:=and_b (N:=N) (tl:=tl) (p:=p) h
  rw[e]
  exact h2 ho x r e
theorem row_or {N:List Str} {b:Ex} {a:Expr} {l:Bool} {e1:Expr} {tl:List Expr} {p:Pos} {o1 o2:Bool} {P:Expr->Prop} (h:cond l o1 (isOr b && o2)=true)
  (h1:o1=true->P (.BoolOp .Or [a,bE N b e1] p)) (h2:o2=true->∀x r,bE N b (.BoolOp .Or tl p)=.BoolOp .Or (x::r) p->P (.BoolOp .Or (a::x::r) p)):
  P (.BoolOp .Or (a::cond l [bE N b e1] (ek (bE N b (.BoolOp .Or tl p)))) p):=by
 cases l with
 | true=>exact h1 h
 | false=>
  obtain⟨h,ho⟩:=a2 h
  obtain⟨x,r,e⟩:=or_b (N:=N) (tl:=tl) (p:=p) h
  rw[e]
  exact h2 ho x r e
theorem pe_bltN {X:Cx} {Γ:Gam} {sc:Scope} {k:Nat} {f:Bf} {es:List Expr} {t:TA} {p pos:Pos} (C:Ctx X Γ sc k) (hg:isGl sc f.name=true) (ho:okName f.name=true) (h0:es.length ≠ 0) (ha:PA X es t) (hp:∀e' ∈ es,plainE e'=true):
  PE X (.Call (.Name f.name p) es [] pos) (fun σ H Q=>Γ.cm=true/\t σ H fun vs H1=>bltV Γ.mod f vs H1 Q):=by
 intro pins s σ H Q I ⟨hc,q⟩
 cases es with
 | nil=>exact absurd rfl h0
 | cons e es=>exact pe_bltG (C.calm hc) C.g.mod f rfl (C.gl _ hg) (C.g.no _ (bf_in f)) ho ha hp pins s σ H Q I q
theorem pe_mthN {X:Cx} {Γ:Gam} {m:Mf} {o:Expr} {es:List Expr} {apos cpos:Pos} {to:TE} {t:TA} (mo:ModOk X.K Γ.mod) (ho:PE X o to) (hn:noCall0 o=true) (hl:(apos.endLine == cpos.line)=true) (hf:es.length < 20) (ha:PA X es t) (hp:∀e' ∈ es,plainE e'=true) (h0:es=[]->t=fun _ H Q=>Q [] H):
  PE X (.Call (.Attribute o m.name apos) es [] cpos) (fun σ H Q=>to σ H fun x H1=>mty Γ.mod m x H1=true/\t σ H1 fun vs H2=>mthV Γ.mod m x vs H2 Q):=by
 cases es with
 | nil=>rw[h0 rfl];exact pe_mth0 mo ho hn hl
 | cons e es=>exact pe_mth mo ho ha hp hn hl hf
theorem pe_mth2N {X:Cx} {Γ:Gam} {m:M2} {o:Expr} {es:List Expr} {apos cpos:Pos} {to:TE} {t:TA} (hu:X.A.units + 64 < cLine) (mo:ModOk X.K Γ.mod) (ho:PE X o to) (hn:noCall0 o=true) (hl:(apos.endLine == cpos.line)=true) (hf:es.length < 20) (ha:PA X es t) (hp:∀e' ∈ es,plainE e'=true) (h0:es=[]->t=fun _ H Q=>Q [] H):
  PE X (.Call (.Attribute o m.name apos) es [] cpos) (fun σ H Q=>to σ H fun x H1=>m2ty Γ.mod m x H1=true/\t σ H1 fun vs H2=>m2V Γ.mod m x vs H2 Q):=by
 cases es with
 | nil=>rw[h0 rfl];exact pe_mth20 hu mo ho hn hl
 | cons e es=>exact pe_mth2 hu mo ho ha hp hn hl hf
theorem nil_of {N:List Str} {Γ:Gam} {Ξ:XS} {es:List Expr}:∀ (args:Exs),bEs N args es=[]->wEs Γ args Ξ=fun _ H Q=>Q [] H
 | .nil,_=>rfl
 | .cons _ _,h=>nomatch (show _::_=[]from h)
theorem pe_dnewM {X:Cx} {M:Mo} (mo:ModOk X.K M) {pos:Pos}:PE X (.Dict [] [] pos) (fun _ H Q=>∀p,H p=none->M p=none->Q (.ref p) (upd H p (.dK []))):=by
 intro pins s σ H Q I h
 exact thn (pe_dnewK pins s σ H (fun v H'=>OffM M H'->Q v H') I fun p hp of=>h p hp of.new) fun _ _=>ep_off mo
theorem cN {P:List Str->Prop} {a b:List Str} (e:a=b) (h:P a):P b:=e ▸ h
theorem pt_val {X:Cx} {Γ:Gam} {sc:Scope} {k:Nat} {e:Expr} {te:TE} {t:TT} (C:Ctx X Γ sc k) (h:PE X e te) (hl:∀whole,isTrue e X.env whole=(do let v<-whole;standAt e.pos;holding [v] (truthy v))) (i:∀σ H Q,t σ H Q->te σ H fun x H1=>truV Γ.mod x H1 fun k=>Q k H1):PT X e t:=
 PT.of (pt_tru C.g.mod h hl) i
mutual
theorem sE:(e:Ex)->∀ {X:Cx} {sc:Scope} {Ξ:XS} {ast:Expr},Ctx X Γ sc k->XOk X Ξ->oE sc X.N e ast=true->PE X (bE X.N e ast) (wE Γ e Ξ)
 | .var i=>fun C xo h=>pe_varG C (a2 h).1 (a2 (a2 h).2)
 | .con v=>fun C xo h=>pe_conV h
 | .glob x=>fun C xo h=>pe_globG C (a2 h).1 (a2 h).2
 | .bin op a b=>fun C xo h=>pe_op (bin_ok C.g.mod op) (sE a C xo (a2 h).1) (sE b C xo (a2 h).2)
 | .neg a=>fun C xo h=>pe_un un_negV (sE a C xo h)
 | .cmp op a b=>fun C xo h=>pe_cmpR (cmp_ok C.un C.g.mod op) (sE a C xo (a2 h).1) (sE b C xo (a2 h).2) (one_marks (bE_plain b))
 | .and a b=>fun C xo h=>row_and (P:=fun e=>PE _ e (wE Γ (.and a b) _)) (a2 h).2
   (fun h2=>pe_andV C.g.mod (sE a C xo (a2 h).1) (pe_one (sE b C xo h2)))
   (fun h2 x r e=>pe_andV C.g.mod (sE a C xo (a2 h).1) (e ▸ sE b C xo h2))
 | .or a b=>fun C xo h=>row_or (P:=fun e=>PE _ e (wE Γ (.or a b) _)) (a2 h).2
   (fun h2=>pe_orV C.g.mod (sE a C xo (a2 h).1) (pe_one (sE b C xo h2)))
   (fun h2 x r e=>pe_orV C.g.mod (sE a C xo (a2 h).1) (e ▸ sE b C xo h2))
 | .not a=>fun C xo h=>pe_notV C.g.mod (sE a C xo h)
 | .call f args=>fun C xo h=>pe_callG C xo (C.gl _ (a2 (a2 h).1).1) (a2 (a2 h).1).2 (sEs args C xo (a2 h).2) (bEs_plain args) (nil_of args)
 | .blt f args=>fun C xo h=>pe_bltN C (a2 (a2 h).1).1 (a2 (a2 h).1).2 (by rw[bEs_len];exact of_decide_eq_true (a2 (a2 (a2 h).2).1).2) (sEs args C xo (a2 (a2 h).2).2) (bEs_plain args)
 | .mth m o args=>fun C xo h=>pe_mthN C.g.mod (sE o C xo (a2 (a2 (a2 h).2).2).1) (a2 (a2 h).1).1 (a2 (a2 h).1).2 (by rw[bEs_len];exact of_decide_eq_true (a2 (a2 h).2).1) (sEs args C xo (a2 (a2 (a2 h).2).2).2) (bEs_plain args) (nil_of args)
 | .isin a T=>fun C xo h=>pe_isinG C (C.gl _ (a2 (a2 h).1).1) (sE a C xo (a2 h).2) (bE_plain a) (C.gl _ (a2 (a2 (a2 h).1).2).1) (a2 (a2 (a2 h).1).2).2
 | .idx a b=>fun C xo h=>pe_ix (idx_ok C.g.mod) (sE a C xo (a2 h).1) (sE b C xo (a2 h).2) (plain_ix (bE_plain b))
 | .slc a lo hi=>fun C xo h=>pe_slice (slc_ok C.g.mod) (sE a C xo (a2 h).1) (sP lo C xo (a2 (a2 h).2).1) (sP hi C xo (a2 (a2 h).2).2)
 | .tup es=>fun C xo h=>pe_tupM C.g.mod (sEs es C xo h)
 | .lst es=>fun C xo h=>pe_lstM C.g.mod (sEs es C xo h)
 | .comp x fv it elt ifs=>fun C xo h pins s σ H Q I q=>
  pe_compW (Γ:=Γ) (el:=elt) C.g.mod (C.calm q.1) C.top xo C.cf (a2 (a2 h).1).1 (sI it C xo (a2 (a2 h).2).1)
   (fun σ X' c xc=>cN (P:=fun N=>PE X' (bE N elt _) _) c.N (sE elt (C.comp c q.1) xc (cN (P:=fun N=>oE _ N elt _=true) c.N.symm (a2 (a2 (a2 h).2).2).1)))
   (fun X' c=>cN (P:=fun N=>PTs X' (bEs N ifs _) _) c.N (sTs ifs (C.comp c q.1) XOk.no (cN (P:=fun N=>oEs _ N ifs _=true) c.N.symm (a2 (a2 (a2 h).2).2).2) (of_decide_eq_true (a2 (a2 h).1).2)))
   (plain_fold (bI_plain it)) pins s σ H Q I q.2
 | .cmpD op a b=>fun C xo h=>pe_cmpR (cmpD_ok C.un C.g.mod op) (sE a C xo (a2 h).1) (sE b C xo (a2 h).2) (one_marks (bE_plain b))
 | .idxD a b=>fun C xo h=>pe_ix (idxD_ok C.g.mod) (sE a C xo (a2 h).1) (sE b C xo (a2 h).2) (plain_ix (bE_plain b))
 | .dnew=>fun C xo h=>pe_dnewM C.g.mod
 | .blt2 f a=>fun C xo h pins s σ H Q I q=>pe_b2 (C.calm q.1) C.g.mod C.un f (C.gl _ (a2 h).1) (C.g.no _ (b2_in f)) (sE a C xo (a2 h).2) (bE_plain a) pins s σ H Q I q.2
 | .mth2 m o args=>fun C xo h=>pe_mth2N C.un C.g.mod (sE o C xo (a2 (a2 (a2 h).2).2).1) (a2 (a2 h).1).1 (a2 (a2 h).1).2 (by rw[bEs_len];exact of_decide_eq_true (a2 (a2 h).2).1) (sEs args C xo (a2 (a2 (a2 h).2).2).2) (bEs_plain args) (nil_of args)
 | .smax a b=>fun C xo h pins s σ H Q I q=>pe_smax (C.calm q.1) (C.gl _ (a2 h).1) (C.g.no _ (by decide +kernel)) (sE a C xo (a2 (a2 h).2).1) (sE b C xo (a2 (a2 h).2).2) (bE_plain a) (bE_plain b) pins s σ H Q I q.2
 | .cmpP a b=>fun C xo h=>pe_cmpR (cmpP_ok C.un C.g.mod) (sE a C xo (a2 h).1) (sE b C xo (a2 h).2) (one_marks (bE_plain b))
 | .cmpI op a b=>fun C xo h=>pe_cmpR (cmpI_ok C.un C.g.mod op) (sE a C xo (a2 h).1) (sE b C xo (a2 h).2) (one_marks (bE_plain b))
 | .lzip a b=>fun C xo h pins s σ H Q I q=>pe_lzip (C.calm q.1) C.g.mod (C.gl _ (a2 (a2 h).1).1) (C.g.no _ (by decide +kernel)) (C.gl _ (a2 (a2 h).1).2) (C.g.no _ in_zip) (sE a C xo (a2 (a2 h).2).1) (sE b C xo (a2 (a2 h).2).2) (bE_plain a) (bE_plain b) pins s σ H Q I q.2
 | .lrev a=>fun C xo h pins s σ H Q I q=>pe_lrev (C.calm q.1) C.g.mod (C.gl _ (a2 (a2 h).1).1) (C.g.no _ (by decide +kernel)) (C.gl _ (a2 (a2 h).1).2) (C.g.no _ in_reversed) (sE a C xo (a2 h).2) (bE_plain a) pins s σ H Q I q.2
 | .compZ xs fv a b elt=>fun C xo h pins s σ H Q I q=>
  pe_compZW (Γ:=Γ) (el:=elt) C.g.mod (C.calm q.1) C.top xo C.cf (a2 (a2 h).1).1 (of_decide_eq_true (a2 (a2 h).1).2) (C.gl _ (a2 (a2 h).2).1) (C.g.no _ in_zip) (sE a C xo (a2 (a2 (a2 h).2).2).1) (sE b C xo (a2 (a2 (a2 (a2 h).2).2).2).1) (bE_plain a) (bE_plain b)
   (fun σ X' c xc=>cN (P:=fun N=>PE X' (bE N elt _) _) c.N (sE elt (C.comp c q.1) xc (cN (P:=fun N=>oE _ N elt _=true) c.N.symm (a2 (a2 (a2 (a2 h).2).2).2).2))) pins s σ H Q I q.2
theorem sT:(e:Ex)->∀ {X:Cx} {sc:Scope} {Ξ:XS} {ast:Expr},Ctx X Γ sc k->XOk X Ξ->oE sc X.N e ast=true->PT X (bE X.N e ast) (wT Γ e Ξ)
 | .and a b=>fun C xo h=>row_and (P:=fun e=>PT _ e (wT Γ (.and a b) _)) (a2 h).2
   (fun h2=>PW.pt (pw_and (sT a C xo (a2 h).1) (pw_and1 (sT b C xo h2))))
   (fun h2 x r e=>PW.pt (pw_and (sT a C xo (a2 h).1) fun _=>(show PT _ (.BoolOp .And (x::r) _) (wT Γ b _)from e ▸ sT b C xo h2)))
 | .or a b=>fun C xo h=>row_or (P:=fun e=>PT _ e (wT Γ (.or a b) _)) (a2 h).2
   (fun h2=>PW.pt (pw_or (sT a C xo (a2 h).1) (pw_or1 (sT b C xo h2))))
   (fun h2 x r e=>PW.pt (pw_or (sT a C xo (a2 h).1) fun _=>(show PT _ (.BoolOp .Or (x::r) _) (wT Γ b _)from e ▸ sT b C xo h2)))
 | .not a=>fun C xo h=>pt_not (sT a C xo h)
 | .cmp op a b=>fun C xo h=>pt_cmpR (cmp_ok C.un C.g.mod op) (sE a C xo (a2 h).1) (sE b C xo (a2 h).2) (one_marks (bE_plain b))
 | .var i=>fun C xo h=>pt_val C (sE (.var i) C xo h) (fun _=>rfl) fun σ H Q q=>q
 | .call f args=>fun C xo h=>pt_val C (sE (.call f args) C xo h) (fun _=>rfl) fun σ H Q q=>q
 | .blt f args=>fun C xo h=>pt_val C (sE (.blt f args) C xo h) (fun _=>rfl) fun σ H Q q=>q
 | .mth m o args=>fun C xo h=>pt_val C (sE (.mth m o args) C xo h) (fun _=>rfl) fun σ H Q q=>q
 | .isin a T=>fun C xo h=>pt_val C (sE (.isin a T) C xo h) (fun _=>rfl) fun σ H Q q=>by cases T<;>exact q
 | .idx a b=>fun C xo h=>pt_val C (sE (.idx a b) C xo h) (fun _=>rfl) fun σ H Q q=>q
 | .con v=>fun C xo h=>pt_val C (sE (.con v) C xo h) (fun _=>rfl) fun σ H Q q=>q
 | .glob x=>fun C xo h=>PT.never fun σ H Q q=>q
 | .bin op a b=>fun C xo h=>PT.never fun σ H Q q=>q
 | .neg a=>fun C xo h=>PT.never fun σ H Q q=>q
 | .slc a lo hi=>fun C xo h=>PT.never fun σ H Q q=>q
 | .tup es=>fun C xo h=>PT.never fun σ H Q q=>q
 | .lst es=>fun C xo h=>PT.never fun σ H Q q=>q
 | .comp x fv it elt ifs=>fun C xo h=>PT.never fun σ H Q q=>q
 | .cmpD op a b=>fun C xo h=>pt_cmpR (cmpD_ok C.un C.g.mod op) (sE a C xo (a2 h).1) (sE b C xo (a2 h).2) (one_marks (bE_plain b))
 | .idxD a b=>fun C xo h=>PT.never fun σ H Q q=>q
 | .dnew=>fun C xo h=>PT.never fun σ H Q q=>q
 | .blt2 f a=>fun C xo h=>PT.never fun σ H Q q=>q
 | .mth2 m o args=>fun C xo h=>PT.never fun σ H Q q=>q
 | .smax a b=>fun C xo h=>PT.never fun σ H Q q=>q
 | .cmpP a b=>fun C xo h=>pt_cmpR (cmpP_ok C.un C.g.mod) (sE a C xo (a2 h).1) (sE b C xo (a2 h).2) (one_marks (bE_plain b))
 | .cmpI op a b=>fun C xo h=>pt_cmpR (cmpI_ok C.un C.g.mod op) (sE a C xo (a2 h).1) (sE b C xo (a2 h).2) (one_marks (bE_plain b))
 | .lzip a b=>fun C xo h=>PT.never fun σ H Q q=>q
 | .lrev a=>fun C xo h=>PT.never fun σ H Q q=>q
 | .compZ xs fv a b elt=>fun C xo h=>PT.never fun σ H Q q=>q
theorem sP:(es:Exs)->∀ {X:Cx} {sc:Scope} {Ξ:XS} {ast:Expr},Ctx X Γ sc k->XOk X Ξ->oEs sc X.N es [ast]=true->PO X (bEs X.N es [ast]).head? (wP Γ es Ξ)
 | .nil=>fun C xo h=>po_none
 | .cons e .nil=>fun C xo h=>po_int (sE e C xo (a2 h).1)
 | .cons e (.cons f r)=>fun C xo h pins s σ H Q I q=>False.elim q
theorem sTs:(es:Exs)->∀ {X:Cx} {sc:Scope} {Ξ:XS} {asts:List Expr},Ctx X Γ sc k->XOk X Ξ->oEs sc X.N es asts=true->es.len<=1->PTs X (bEs X.N es asts) (wTs Γ es Ξ)
 | .nil=>fun C xo h hl=>pts_nil
 | .cons e .nil=>fun C xo h hl=>pts_one (sT e C xo (a2 h).1)
 | .cons e (.cons _ r)=>fun C xo h hl=>absurd (Nat.le_of_succ_le_succ hl) (Nat.not_succ_le_zero _)
theorem sI:(it:Ix)->∀ {X:Cx} {sc:Scope} {Ξ:XS} {tg ast:Expr},Ctx X Γ sc k->XOk X Ξ->oI sc X.N it ast=true->PI X tg (bI X.N it ast) (iSeq (wI Γ it Ξ))
 | .ex e=>fun C xo h pins s σ H R I ⟨kk,hw,hk⟩=>
  thn (sE e C xo h pins s σ H _ I hw) fun v s1 ⟨x,H1,I1,r1,q1⟩=>pi_val C.g.mod I1 r1 (iterV_mono q1 fun xs stay q J sq=>hk J xs stay H1 sq q)
 | .rng1 a=>fun C xo h=>pi_rng1 (C.gl _ (a2 h).1) (C.g.no _ in_range) (sE a C xo (a2 h).2) (bE_plain a)
theorem sEs:(es:Exs)->∀ {X:Cx} {sc:Scope} {Ξ:XS} {asts:List Expr},Ctx X Γ sc k->XOk X Ξ->oEs sc X.N es asts=true->PA X (bEs X.N es asts) (wEs Γ es Ξ)
 | .nil=>fun C xo h=>pa_nil
 | .cons e r=>fun C xo h=>pa_cons (sE e C xo (a2 h).1) (sEs r C xo (a2 h).2) (star_cons (bE_plain e))
end
end
end Sw
namespace Sw
open PySem PySem.Spec PyProof.Rows L2
open PySem.W (Frag keepIn ktsIn mroIn kitOne)
structure SCtx (X:Cx) (Γ:Gam) (sc:Scope) (k:Nat):Prop extends Ctx X Γ sc k where
 nd:X.N.Nodup
 loc:∀x,isLoc sc x=true->Loc X.env.scope x/\(X.fn x=true\/X.env.scope.names.lookup x=some .local)
 lcl:∀x,sc.names.lookup x=some .local->X.env.scope.names.lookup x=some .local
 stk:X.stack=X.env::X.outer/\X.env.frame=some X.env.locals
 ru:RoomU (k + 1) X.A
 ih:Γ.hd=true->InHand X
section
variable {X:Cx} {Γ:Gam} {sc:Scope} {k:Nat}
theorem SCtx.nox (C:SCtx X Γ sc k):SCtx X.nox Γ sc k:=⟨⟨C.g,C.room,C.calm,C.un,C.vis,C.gl,C.cf,C.top⟩,C.nd,C.loc,C.lcl,C.stk,C.ru,C.ih⟩
theorem SCtx.held (C:SCtx X Γ sc k) (e:Addr):SCtx (Cx.held X e) Γ.hush sc k:=
 ⟨⟨C.g.hush,fun h=>absurd (show false=true from h) Bool.false_ne_true,fun h=>absurd (show false=true from h) Bool.false_ne_true,by show(X.A.mark _).units + 64 < cLine;rw[mark_units];exact C.un,C.vis,C.gl,C.cf,C.top⟩,C.nd,C.loc,C.lcl,C.stk,C.ru.mark,fun h=>absurd (show false=true from h) Bool.false_ne_true⟩
theorem SCtx.hold (C:SCtx X Γ sc k) (e:Addr) (o:Obj) {vs:Array Value} (h1:o.data=.fields vs) (h2:vs[2]?=some .none):SCtx (Cx.hold X e o) Γ.grip sc k:=
 ⟨⟨C.g.grip,fun h=>absurd (show false=true from h) Bool.false_ne_true,fun h=>absurd (show false=true from h) Bool.false_ne_true,by show(X.A.mark _).units + 64 < cLine;rw[mark_units];exact C.un,C.vis,C.gl,C.cf,C.top⟩,C.nd,C.loc,C.lcl,C.stk,C.ru.mark,
  fun _=>⟨e,o,vs,by first | rfl | (unfold Around.mark;rfl),List.mem_append_right _ (by simp),h1,h2⟩⟩
theorem PS.nox {st:Stmt} {t:TS} (h:PS X.nox st t):PS X st t:=fun pins s σ H D I hw=>
 wpAny_mono (h pins s σ H D (I.wish _) hw) (fun _ _ q=>q.unwish) fun _ _ z=>False.elim z
theorem no_swap {e:Expr} {t:Option Expr} {n:Nat} {env:Env} (h:notComp e=true):swapsWith e t n env=pure false:=by
 cases e<;>first | rfl | cases h
theorem for_seq {i:Nat} {tb:TS} {J:It} {xs:List V} {stay:Hp->Prop} {D:Ends} {σ:L2.St} {H:Hp} (sq:SeqIt J xs stay) (h:forW i tb stay xs D σ H):
  ∃W:Nat->Nat->L2.St->Hp->Prop,(∃ m,W 0 m σ H)/\∀n m σ H,W n m σ H->
   (J.stop n H/\D.nx σ H)\/(J.go n H/\∃N:L2.St->Hp->Prop,(∀ σ' H',N σ' H'->∃m',m' < m/\W (n + 1) m' σ' H')/\∀x H',J.yld n H x H'->gName i x σ H' fun σ2 H2=>tb {D with nx:=N,ct:=N,bk:=D.nx} σ2 H2):=by
 refine⟨fun n m σ H=>m=xs.length - n/\n<=xs.length/\forW i tb stay (xs.drop n) D σ H,⟨xs.length,by simp,Nat.zero_le _,by simpa using h⟩,?_⟩
 rintro n m σ H ⟨rfl,hn,hw⟩
 cases e:xs.drop n with
 | nil=>
  rw[e]at hw
  have hle:xs.length<=n:=by simpa using e
  exact .inl ⟨sq.stop n H hw.1 hle,hw.2⟩
 | cons v r=>
  rw[e]at hw
  have hlt:n < xs.length:=by
   have:=congrArg List.length e
   simp at this
   omega
  have hvi:xs[n]?=some v:=by
   have:=congrArg (fun l=>l[0]?) e
   simpa using this
  have hdr:xs.drop (n + 1)=r:=by
   have:=congrArg List.tail e
   simpa[List.tail_drop]using this
  refine .inr ⟨sq.go n H hw.1 hlt,forW i tb stay r D,fun σ' H' z=>⟨xs.length - (n + 1),by omega,rfl,hlt,by rw[hdr];exact z⟩,fun x H' y=>?_⟩
  obtain⟨eH,ev⟩:=sq.yld n H x H' hlt y hw.1
  subst eH
  rw[hvi]at ev
  obtain rfl:v=x:=Option.some.inj ev
  exact hw.2
end
section
variable {X:Cx} {Γ:Gam} {sc:Scope} {k:Nat} {M:Mo}
theorem stoV_ok (hu:X.A.units + 64 < cLine):PSet X (fun x k v H Q=>stoV x k v H Q):=by
 intro pins s σ H o i v ov iv u Q I ro ri rv h
 unfold stoV at h
 cases o with
 | ref p=>
  dsimp only at h
  split at h
  ·rename_i xs e
   cases i with
   | int j=>
    dsimp only at h
    split at h
    ·rename_i n en
     exact set_list pins s σ H _ _ v ov iv u Q I ro ri rv ⟨_,_,_,_,rfl,rfl,e,en,h⟩
    ·exact h.elim
   | _=>exact h.elim
  ·rename_i kvs e
   split at h
   ·rename_i kk ek
    cases (show ov=Value.ref p from ro)
    have ei:=keyOf_kV ek
    subst ei
    exact d_setItem (by omega) I (DPut.k e h.1) ri rv fun s' I'=>⟨_,I',h.2⟩
   ·exact h.elim
  ·exact h.elim
 | _=>exact h.elim
theorem ps_sto {o i value:Expr} {to ti tv:TE} {pos pos':Pos} (hu:X.A.units + 64 < cLine) (ho:PE X o to) (hi:PE X i ti) (hv:PE X value tv) (hs:swapsWith value (some (.Subscript o i pos')) pos.line X.env=pure false):
  PS X (.Assign [.Subscript o i pos'] value pos) (fun D σ H=>tv σ H fun v H1=>to σ H1 fun x H2=>ti σ H2 fun k H3=>stoV x k v H3 (D.nx σ)):=by
 intro pins s σ H D I h
 refine wpAny_Assign_Subscript (thn (hv pins s σ H _ I h) fun r s1 ⟨v,H1,I1,rv,q1⟩=>thn (ho pins s1 σ H1 _ I1 q1) fun u s2 ⟨x,H2,I2,rx,q2⟩=>thn (hi pins s2 σ H2 _ I2 q2) fun iv s3 ⟨y,H3,I3,ry,q3⟩=>?_) hs
 exact thn (stoV_ok hu pins s3 σ H3 x y v u iv r _ I3 rx ry rv q3) fun _ s4 ⟨H4,I4,q4⟩=>⟨σ,H4,I4,q4⟩
theorem pgs_names (C:SCtx X Γ sc k):∀ {is:List Nat} {ts:List Expr},oN sc X.N is=true->PGs X (bN X.N is ts) (gNames is)
 | [],_,_=>pgs_nil
 | i::is,_,h=>pgs_cons (pg_name C.nd (nx_get (a2 (a2 h).1).1) (C.loc _ (a2 (a2 h).1).2).1 (C.loc _ (a2 (a2 h).1).2).2) (pgs_names C (a2 h).2) rfl
theorem ps_asgT (mo:ModOk X.K M) (hc:X.calm=true) {is:List Nat} {ts:List Expr} {e:Expr} {te:TE} {kt} {pt pos:Pos} (hp:PGs X ts (gNames is)) (hn:(assignEach ts X.env).length=is.length) (hst:(assignEach ts X.env).findIdx? (·.1)=none) (he:PE X e te) (h1:notComp e=true) (h2:notTup e=true):
  PS X (.Assign [.Tuple ts kt pt] e pos) (fun D σ H=>te σ H fun x H1=>match x with | .ref p=>(match rd M H1 p with | some (.tup xs)=>xs.length=is.length/\D.nx (setAll σ is xs) H1 | _=>False) | _=>False):=by
 intro pins s σ H D I h
 refine wpAny_Assign_stores (thn (he pins s σ H _ I h) fun v s1 ⟨x,H1,I1,r1,q1⟩=>?_) (show swapsWith e (some (.Tuple ts kt pt)) pos.line X.env=pure false from no_swap h1) (by cases e<;>first | rfl | cases h2)
 cases x with
 | ref p=>
  dsimp only at q1
  split at q1
  ·rename_i xs ex
   exact thn (pg_tup (k:=kt) hc hp hn hst pins s1 σ H1 (.ref p) v D.nx I1 r1 ⟨p,xs,rfl,rd_tup mo ex,q1.1,gNames_all q1.1 q1.2⟩) fun _ s2 q=>q
  ·exact q1.elim
 | _=>exact q1.elim
theorem for_seqT (mo:ModOk X.K M) {is:List Nat} {tb:TS} {J:It} {xs:List V} {stay:Hp->Prop} {D:Ends} {σ:L2.St} {H:Hp} (sq:SeqIt J xs stay) (h:forWT M is tb stay xs D σ H):
  ∃W:Nat->Nat->L2.St->Hp->Prop,(∃ m,W 0 m σ H)/\∀n m σ H,W n m σ H->
   (J.stop n H/\D.nx σ H)\/(J.go n H/\∃N:L2.St->Hp->Prop,(∀ σ' H',N σ' H'->∃m',m' < m/\W (n + 1) m' σ' H')/\∀x H',J.yld n H x H'->gTup X.K is.length (gNames is) x σ H' fun σ2 H2=>tb {D with nx:=N,ct:=N,bk:=D.nx} σ2 H2):=by
 refine⟨fun n m σ H=>m=xs.length - n/\n<=xs.length/\forWT M is tb stay (xs.drop n) D σ H,⟨xs.length,by simp,Nat.zero_le _,by simpa using h⟩,?_⟩
 rintro n m σ H ⟨rfl,hn,hw⟩
 cases e:xs.drop n with
 | nil=>
  rw[e]at hw
  have hle:xs.length<=n:=by simpa using e
  exact .inl ⟨sq.stop n H hw.1 hle,hw.2⟩
 | cons v r=>
  rw[e]at hw
  have hlt:n < xs.length:=by
   have:=congrArg List.length e
   simp at this
   omega
  have hvi:xs[n]?=some v:=by
   have:=congrArg (fun l=>l[0]?) e
   simpa using this
  have hdr:xs.drop (n + 1)=r:=by
   have:=congrArg List.tail e
   simpa[List.tail_drop]using this
  refine .inr ⟨sq.go n H hw.1 hlt,forWT M is tb stay r D,fun σ' H' z=>⟨xs.length - (n + 1),by omega,rfl,hlt,by rw[hdr];exact z⟩,fun x H' y=>?_⟩
  obtain⟨eH,ev⟩:=sq.yld n H x H' hlt y hw.1
  subst eH
  rw[hvi]at ev
  obtain rfl:v=x:=Option.some.inj ev
  obtain⟨_,hw⟩:=hw
  cases v with
  | ref p=>
   dsimp only at hw
   split at hw
   ·rename_i ys ex
    exact⟨p,ys,rfl,rd_tup mo ex,hw.1,gNames_all hw.1 hw.2⟩
   ·exact hw.elim
  | _=>exact hw.elim
end
section
variable {X:Cx} {Γ:Gam} {sc:Scope} {k:Nat} {M:Mo}
end
theorem comp_b {N:List Str} {e:Ex} {a:Expr} (h:(!isComp e)=true):notComp (bE N e a)=true:=by
 cases e<;>first | rfl | cases h
theorem tup_b {N:List Str} {e:Ex} {a:Expr} (h:(!isTup e)=true):notTup (bE N e a)=true:=by
 cases e<;>first | rfl | cases h
section
variable {X:Cx} {Γ:Gam} {sc:Scope} {k:Nat} {Ξ:XS}
theorem ps_asgC {i:Nat} {x:Str} {fv:List (Str × Nat)} {it:Ix} {el:Ex} {ifs:Exs} {tp pos:Pos} {a:Expr} (C:SCtx X Γ sc k) (xo:XOk X Ξ) (h1:X.N[i]?=some (nx X.N i)) (h2:isLoc sc (nx X.N i)=true) (h3:usedOk sc (csc a) (nx X.N i) tp a.pos=true) (h:oE sc X.N (.comp x fv it el ifs) a=true):
  PS X (.Assign [.Name (nx X.N i) tp] (bE X.N (.comp x fv it el ifs) a) pos) (wS (.asg i (.comp x fv it el ifs)) Γ Ξ):=by
 obtain⟨k1,k0⟩:=a2 h3
 obtain⟨k2,k3⟩:=a2 k0
 have k1:=of_decide_eq_true k1
 have k3:=(Bool.not_eq_true' _).mp k3
 intro pins s σ H D I ⟨hc,q⟩
 refine ps_setC (te:=fun σ=>wE Γ el fun C d _ H'=>Ξ C d σ H') C.g.mod (C.calm hc) C.toCtx.top xo C.cf (a2 (a2 h).1).1 (sI _ _ it C.toCtx xo (a2 (a2 h).2).1)
   (fun σ X' c xc=>cN (P:=fun N=>PE X' (bE N el _) _) c.N (sE _ _ el (C.toCtx.comp c hc) xc (cN (P:=fun N=>oE _ N el _=true) c.N.symm (a2 (a2 (a2 h).2).2).1)))
   (fun X' c=>cN (P:=fun N=>PTs X' (bEs N ifs _) _) c.N (sTs _ _ ifs (C.toCtx.comp c hc) XOk.no (cN (P:=fun N=>oEs _ N ifs _=true) c.N.symm (a2 (a2 (a2 h).2).2).2) (of_decide_eq_true (a2 (a2 h).1).2)))
   (plain_fold (bI_plain it)) C.nd h1 (C.loc _ h2).1 (C.loc _ h2).2 ?_ pins s σ H D I q
 have e1:(X.env.kindOf (nx X.N i) == some .local)=true:=by
  have:=C.lcl _ k1
  show(X.env.scope.names.lookup (nx X.N i) == some .local)=true
  rw[this];rfl
 have e2:(X.env.blockKind == .function)=true:=by
  unfold Env.blockKind
  rw[I.ok.kind];rfl
 show(pure (X.env.blockKind == .function && X.env.kindOf (nx X.N i) == some .local && tp.line == a.pos.line && !((csc a).names.any fun(n,k)=>n == nx X.N i && (k == .local || k == .cell))):Sem Bool)=_
 rw[e1,e2,k2,k3]
 rfl
theorem ps_asgZ {i:Nat} {xs:List Str} {fv:List (Str × Nat)} {ea eb el:Ex} {tp pos:Pos} {a:Expr} (C:SCtx X Γ sc k) (xo:XOk X Ξ) (h1:X.N[i]?=some (nx X.N i)) (h2:isLoc sc (nx X.N i)=true) (h3:usedOk sc (csc a) (nx X.N i) tp a.pos=true) (h:oE sc X.N (.compZ xs fv ea eb el) a=true):
  PS X (.Assign [.Name (nx X.N i) tp] (bE X.N (.compZ xs fv ea eb el) a) pos) (wS (.asg i (.compZ xs fv ea eb el)) Γ Ξ):=by
 obtain⟨k1,k0⟩:=a2 h3
 obtain⟨k2,k3⟩:=a2 k0
 have k1:=of_decide_eq_true k1
 have k3:=(Bool.not_eq_true' _).mp k3
 intro pins s σ H D I ⟨hc,q⟩
 refine ps_setZ (te:=fun σ=>wE Γ el fun C d _ H'=>Ξ C d σ H') C.g.mod (C.calm hc) C.toCtx.top xo C.cf (a2 (a2 h).1).1 (of_decide_eq_true (a2 (a2 h).1).2) (C.toCtx.gl _ (a2 (a2 h).2).1) (C.g.no _ in_zip) (sE _ _ ea C.toCtx xo (a2 (a2 (a2 h).2).2).1) (sE _ _ eb C.toCtx xo (a2 (a2 (a2 (a2 h).2).2).2).1) (bE_plain ea) (bE_plain eb)
   (fun σ X' c xc=>cN (P:=fun N=>PE X' (bE N el _) _) c.N (sE _ _ el (C.toCtx.comp c hc) xc (cN (P:=fun N=>oE _ N el _=true) c.N.symm (a2 (a2 (a2 (a2 h).2).2).2).2)))
   C.nd h1 (C.loc _ h2).1 (C.loc _ h2).2 ?_ pins s σ H D I q
 have e1:(X.env.kindOf (nx X.N i) == some .local)=true:=by
  have:=C.lcl _ k1
  show(X.env.scope.names.lookup (nx X.N i) == some .local)=true
  rw[this];rfl
 have e2:(X.env.blockKind == .function)=true:=by
  unfold Env.blockKind
  rw[I.ok.kind];rfl
 show(pure (X.env.blockKind == .function && X.env.kindOf (nx X.N i) == some .local && tp.line == a.pos.line && !((csc a).names.any fun(n,k)=>n == nx X.N i && (k == .local || k == .cell))):Sem Bool)=_
 rw[e1,e2,k2,k3]
 rfl
theorem ps_asgE {i:Nat} {e:Ex} {tp pos:Pos} {a:Expr} (C:SCtx X Γ sc k) (xo:XOk X Ξ) (hi:decide (i < X.N.length)=true) (hl:isLoc sc (nx X.N i)=true) (hu:(!isComp e || (!isCompX e && usedOk sc (csc a) (nx X.N i) tp a.pos))=true) (he:oE sc X.N e a=true):
  PS X (.Assign [.Name (nx X.N i) tp] (bE X.N e a) pos) (wS (.asg i e) Γ Ξ):=by
 rcases Bool.or_eq_true_iff.mp hu with hu | hu
 ·exact ps_set C.nd (nx_get hi) (C.loc _ hl).1 (sE _ _ e C.toCtx xo he) (no_swap (comp_b hu)) (C.loc _ hl).2
 ·obtain⟨hx,hu⟩:=a2 hu
  cases hq:isComp e with
  | false=>exact ps_set C.nd (nx_get hi) (C.loc _ hl).1 (sE _ _ e C.toCtx xo he) (no_swap (comp_b (by rw[hq];rfl))) (C.loc _ hl).2
  | true=>cases e<;>first | exact ps_asgC C xo (nx_get hi) hl (by assumption) he | exact ps_asgZ C xo (nx_get hi) hl (by assumption) he | (cases hx;done) | (cases hq;done)
end
mutual
theorem sS:(st:Sx)->∀ {X:Cx} {Γ:Gam} {sc:Scope} {k:Nat} {Ξ:XS} {ast:Stmt},SCtx X Γ sc k->XOk X Ξ->oS sc X.N st ast=true->PS X (bS X.N st ast) (wS st Γ Ξ)
 | .asg i e=>fun C xo h=>ps_asgE C xo (a2 (a2 h).1).1 (a2 (a2 h).1).2 (a2 (a2 h).2).1 (a2 (a2 h).2).2
 | .exp e=>fun C xo h=>ps_expr (sE _ _ e C.toCtx xo (a2 h).2) (no_swap (comp_b (a2 h).1))
 | .ret e=>fun C xo h=>ps_ret (sE _ _ e C.toCtx xo h)
 | .iff c a b=>fun C xo h=>ps_if (sT _ _ c C.toCtx xo (a2 h).1) (sSs a C xo (a2 (a2 h).2).1) (sSs b C xo (a2 (a2 h).2).2)
 | .fr i it b=>fun C xo h pins s σ H D I q=>
  PS.nox (ps_for PassesOwn.never (C.calm q.1) (sI _ _ it C.nox.toCtx XOk.no (a2 (a2 h).2).1) (pg_name C.nd (nx_get (a2 (a2 h).1).1) (C.loc _ (a2 (a2 h).1).2).1 (C.loc _ (a2 (a2 h).1).2).2) (sSs b C.nox XOk.no (a2 (a2 h).2).2) (plain_fold (bI_plain it))) pins s σ H D I
   ⟨_,q.2,fun J xs stay H1 sq z=>for_seq sq z⟩
 | .sto o i e=>fun C xo h=>ps_sto C.un (sE _ _ o C.toCtx xo (a2 (a2 h).1).2) (sE _ _ i C.toCtx xo (a2 (a2 h).2).1) (sE _ _ e C.toCtx xo (a2 (a2 h).2).2) (no_swap (comp_b (a2 (a2 h).1).1))
 | .asgT is e=>fun C xo h pins s σ H D I q=>ps_asgT C.g.mod (C.calm q.1) (pgs_names C (a2 (a2 h).1).2) bN_len bN_star (sE _ _ e C.toCtx xo (a2 h).2) (comp_b (a2 (a2 (a2 h).1).1).1) (tup_b (a2 (a2 (a2 h).1).1).2) pins s σ H D I q.2
 | .frT is it b=>fun C xo h pins s σ H D I q=>
  PS.nox (ps_for PassesOwn.never (C.calm q.1) (sI _ _ it C.nox.toCtx XOk.no (a2 (a2 h).2).1) (pg_tup (X:=Cx.nox _) (C.calm q.1) (pgs_names C.nox (a2 h).1) bN_len bN_star) (sSs b C.nox XOk.no (a2 (a2 h).2).2) (plain_fold (bI_plain it))) pins s σ H D I
   ⟨_,q.2,fun J xs stay H1 sq z=>for_seqT C.g.mod sq z⟩
theorem sSs:(ss:Sxs)->∀ {X:Cx} {Γ:Gam} {sc:Scope} {k:Nat} {Ξ:XS} {asts:List Stmt},SCtx X Γ sc k->XOk X Ξ->oSs sc X.N ss asts=true->PSs X (bSs X.N ss asts) (wSs ss Γ Ξ)
 | .nil=>fun C xo h=>pss_nil
 | .cons s r=>fun C xo h=>pss_cons (sS s C xo (a2 h).1) (sSs r C xo (a2 h).2)
end
theorem sB {X:Cx} {Γ:Gam} {sc:Scope} {k:Nat} {Ξ:XS} {ss:Sxs} {asts:List Stmt} (C:SCtx X Γ sc k) (xo:XOk X Ξ) (h:mSs sc X.N ss asts):PSs X asts (wSs ss Γ Ξ):=h.1 ▸ sSs ss C xo h.2
end Sw
namespace Sw
open PySem PySem.Spec PyProof.Rows L2
open PySem.W (Frag keepIn ktsIn mroIn kitOne)
noncomputable def spOf (Γ:Gam) (N:List Str) (n:Nat) (body:Sxs):Sp:=fun vs H Q E=>vs.length=n/\wSs body Γ (fun C d _ H'=>E C d H') {nx:=fun _ H'=>Q .non H',rt:=Q} (start N vs) H
section
variable {P:Program} {w:World} {K:Frag} {mg:Str->Option Value} {base:Heap} {Γ:Gam} {k:Nat}
theorem fn_spOf {x qual:Str} {st:Stmt} {f:Addr} {fd:FuncData} {N ps:List Str} {body:Sxs} (F:Fun K x qual st f fd) (S:FnScope N ps (defScope st)) (g:GOk P w K mg base Γ k) (hm:mSs (defScope st) N body (defBody st)) (hhd:Γ.hd=false):
  FnOk P w K mg base (CXW P w) (k + 2) f fd ps (spOf Γ N ps.length body):=by
 obtain⟨oc,od,kV,doc,pm,an,cdv,ct,osl,rfl,lk,hcd⟩:=F.ex
 refine fn_of lk hcd S (fun vs H Q E h=>h.1) fun A outer s H vs Q E hr hsp=>?_
 have C:SCtx (cxOf (CXW P w) P w K mg base N qual (defScope st) f cdv A outer s H E) Γ (defScope st) k:=by
  refine⟨⟨g,fun _=>hr,fun _=>rfl,hr.units,fun x h=>?_,fun x h=>?_,fun y h=>h,⟨_,_,_,rfl,rfl,rfl⟩⟩,S.nd,fun x h=>⟨?_,.inl rfl⟩,fun x h=>h,⟨rfl,rfl⟩,RoomU.of hr,fun h=>absurd (hhd.symm.trans h) Bool.false_ne_true⟩
  ·unfold isVis at h
   unfold Vis
   split at h<;>first | (rename_i e;first | exact .inl e | exact .inr (.inl e) | exact .inr (.inr e)) | cases h
  ·unfold isGl at h
   split at h<;>first | (rename_i e;exact e) | cases h
  ·unfold isLoc at h
   unfold L2.Loc
   split at h<;>first | (rename_i e;first | exact .inl e | exact .inr e) | cases h
 exact⟨_,sB C xok_def hm,hsp.2⟩
theorem GOk.mono {j:Nat} (g:GOk P w K mg base Γ j) (h:j<=k):GOk P w K mg base Γ k:=
 ⟨g.mod,g.con,fun f hf=>let ⟨fa,fd,ps,h1,h2,h3,h4⟩:=g.fn f hf;⟨fa,fd,ps,h1,h2,h3.mono h,h4⟩,
  fun C c fs e=>let ⟨fI,f,fd,ps,h1,h2,h3,h4,h5,h6⟩:=g.exc C c fs e;⟨fI,f,fd,ps,h1,h2,h3,h4,h5.mono h,h6⟩,g.no,g.sub,g.cat,g.fo,g.vc.mono h,g.gd⟩
noncomputable def Off (K:Frag) (H:Hp):Prop:=∀b o,K.lookup b=some o->H b=none
theorem FnOk.off {CX:CXT} {f:Addr} {fd:FuncData} {ps:List Str} {sp sp':Sp} (F:FnOk P w K mg base CX k f fd ps sp) (len:∀vs H Q E,sp' vs H Q E->vs.length=ps.length) (h:∀vs H Q E,Off K H->sp' vs H Q E->sp vs H Q E):
  FnOk P w K mg base CX k f fd ps sp':=
 ⟨len,fun A outer s H args us vs Q E hr he hb hv hs=>F.run A outer s H args us vs Q E hr he hb hv (h _ _ _ _ (fun b o e=>(he.bs b o (he.mod.kin b o e)).2) hs)⟩
end
noncomputable def LstK (K:Frag) (a:Addr) (xs:List V):Prop:=∃ (o:Obj) (its:Array Value) (n:Nat),K.lookup a=some o/\o.cls=.type "list" /\o.dict=none/\o.data=.seq its n/\its.size<=sizeLine/\Vals xs its.toList
noncomputable def TupK (K:Frag) (a:Addr) (xs:List V):Prop:=∃ (o:Obj) (its:Array Value) (n:Nat),K.lookup a=some o/\o.cls=.type "tuple" /\o.data=.seq its n/\its.size<=sizeLine/\Vals xs its.toList
open Classical in
noncomputable def modK (K:Frag):Mo:=fun a=>if h:∃xs,LstK K a xs then some (.lst h.choose)else if h:∃xs,TupK K a xs then some (.tup h.choose)else none
theorem modK_ok (K:Frag):ModOk K (modK K):=by
 intro a o h
 unfold modK at h
 split at h
 ·rename_i z;cases h;exact z.choose_spec
 ·split at h
  ·rename_i z;cases h;exact z.choose_spec
  ·cases h
theorem modK_lst {K:Frag} {a:Addr} {xs:List V} (h:LstK K a xs):modK K a=some (.lst xs):=by
 have z:∃xs,LstK K a xs:=⟨xs,h⟩
 unfold modK
 rw[dif_pos z]
 obtain⟨o,its,n,h1,h2,h3,h4,h5,h6⟩:=h
 obtain⟨o',its',n',k1,k2,k3,k4,k5,k6⟩:=z.choose_spec
 rw[h1]at k1;cases k1
 rw[h4]at k4;cases k4
 rw[Vals.inj k6 h6]
theorem script_rd {K:Frag} {H:Hp} {a:Addr} {xs:List V} (off:Off K H) (h:SqL K H a xs):rd (modK K) H a=some (.lst xs):=by
 unfold rd
 rcases h with (h | ⟨o,h⟩) | h
 ·rw[h]
 ·rw[h]
 ·have z:LstK K a xs:=h
  obtain⟨o,_,_,h1,_⟩:=h
  rw[off a o h1]
  exact modK_lst z
end Sw
namespace Sw
open PySem PySem.Spec PyProof.Rows L2
open PySem.W (Frag keepIn)
noncomputable def Gam.wit (Γ:Gam) (l:List (Str × Sp)):Gam:={Γ with has:=fun x=>(l.lookup x).isSome || Γ.has x,fn:=fun x=>(l.lookup x).getD (Γ.fn x)}
section
variable {P:Program} {w:World} {K:Frag} {mg:Str->Option Value} {base:Heap} {Γ:Gam} {k:Nat}
theorem GOk.wit0 (g:GOk P w K mg base Γ k):GOk P w K mg base (Γ.wit []) k:=⟨g.mod,g.con,g.fn,g.exc,g.no,g.sub,g.cat,g.fo,g.vc,g.gd⟩
theorem GOk.wit1 {l:List (Str × Sp)} {f:Str} {fa:Addr} {fd:FuncData} {ps:List Str} {sp:Sp} {j:Nat} (g:GOk P w K mg base (Γ.wit l) k) (hm:mg f=some (.ref fa)) (hk:keepIn K (.ref fa)=true) (F:FnOk P w K mg base (CXW P w) j fa fd ps sp) (hb:Binds K fd ps []) (h1:j<=k):
  GOk P w K mg base (Γ.wit ((f,sp)::l)) k:=by
 refine⟨g.mod,g.con,fun x hx=>?_,g.exc,g.no,g.sub,g.cat,g.fo,g.vc,g.gd⟩
 have e:∀x,((f,sp)::l).lookup x=if x == f then some sp else l.lookup x:=fun x=>by
  rw[List.lookup_cons]
  cases x == f<;>rfl
 have hx:((((f,sp)::l).lookup x).isSome || Γ.has x)=true:=hx
 show ∃fa fd ps,_/\_/\FnOk P w K mg base (CXW P w) k fa fd ps ((((f,sp)::l).lookup x).getD (Γ.fn x))/\_
 rw[e]at hx ⊢
 by_cases q:x=f
 ·subst q
  rw[beq_self_eq_true,if_pos rfl]
  exact⟨fa,fd,ps,hm,hk,F.mono h1,hb⟩
 ·have q':(x == f)=false:=by simpa using q
  rw[q']at hx ⊢
  rw[if_neg Bool.false_ne_true]at hx ⊢
  exact g.fn x hx
end
section
variable {K:Frag} {x qual:Str} {st:Stmt} {f:Addr} {fd:FuncData}
@[reducible] noncomputable def bindsAs (x qual:Str) (st:Stmt) (ps:List Str) (us:List Value):Prop:=∀ (kV doc pm:Value) (an:Option Addr) (cdv ct:Value),bindArgs (PySem.W.fnOf x qual (defArgs st) (defBody st) (defScope st) .none kV doc pm an cdv ct) ⟨us,[]⟩=pure (ps.zip us)
theorem len_one {α:Type}:∀ {us:List α},us.length=1->∃a,us=[a]
 | [a],_=>⟨a,rfl⟩
theorem len_two {α:Type}:∀ {us:List α},us.length=2->∃a b,us=[a,b]
 | [a,b],_=>⟨a,b,rfl⟩
theorem len_three {α:Type}:∀ {us:List α},us.length=3->∃a b c,us=[a,b,c]
 | [a,b,c],_=>⟨a,b,c,rfl⟩
theorem len_four {α:Type}:∀ {us:List α},us.length=4->∃a b c d,us=[a,b,c,d]
 | [a,b,c,d],_=>⟨a,b,c,d,rfl⟩
theorem binds_1 {p:Str} (F:Fun K x qual st f fd) (h:∀a,bindsAs x qual st [p] [a]):Binds K fd [p] []:=F.binds fun kV doc pm an cdv ct us hl=>by
 obtain⟨a,rfl⟩:=len_one hl
 exact h a kV doc pm an cdv ct
theorem binds_2 {p q:Str} (F:Fun K x qual st f fd) (h:∀a b,bindsAs x qual st [p,q] [a,b]):Binds K fd [p,q] []:=F.binds fun kV doc pm an cdv ct us hl=>by
 obtain⟨a,b,rfl⟩:=len_two hl
 exact h a b kV doc pm an cdv ct
theorem binds_3 {p q r:Str} (F:Fun K x qual st f fd) (h:∀a b c,bindsAs x qual st [p,q,r] [a,b,c]):Binds K fd [p,q,r] []:=F.binds fun kV doc pm an cdv ct us hl=>by
 obtain⟨a,b,c,rfl⟩:=len_three hl
 exact h a b c kV doc pm an cdv ct
theorem binds_4 {p q r t:Str} (F:Fun K x qual st f fd) (h:∀a b c d,bindsAs x qual st [p,q,r,t] [a,b,c,d]):Binds K fd [p,q,r,t] []:=F.binds fun kV doc pm an cdv ct us hl=>by
 obtain⟨a,b,c,d,rfl⟩:=len_four hl
 exact h a b c d kV doc pm an cdv ct
end
end Sw
namespace Sw
open PySem PySem.Spec PyProof.Rows L2
theorem for_inv {i:Nat} {tb:TS} {stay:Hp->Prop} {D:Ends} {xs:List V} (Pv:Nat->L2.St->Hp->Prop) (st:∀n σ H,Pv n σ H->stay H)
  (step:∀n v σ H (D':Ends),xs[n]?=some v->Pv n σ H->(∀ σ' H',Pv (n + 1) σ' H'->D'.nx σ' H')->(∀ σ' H',Pv (n + 1) σ' H'->D'.ct σ' H')->D'.rt=D.rt->D'.bk=D.nx->tb D' (σ.set i (some v)) H)
  (fin:∀σ H,Pv xs.length σ H->D.nx σ H) {σ:L2.St} {H:Hp} (h0:Pv 0 σ H):forW i tb stay xs D σ H:=by
 have go:∀ (r:List V) (n:Nat),xs.drop n=r->n<=xs.length->∀σ H,Pv n σ H->forW i tb stay r D σ H:=by
  intro r
  induction r with
  | nil=>
   intro n e hn σ H p
   have:xs.length<=n:=by simpa using e
   have hn':n=xs.length:=by omega
   subst hn'
   exact⟨st _ σ H p,fin σ H p⟩
  | cons v r ih=>
   intro n e hn σ H p
   have hlt:n < xs.length:=by
    have:=congrArg List.length e
    simp at this
    omega
   have hv:xs[n]?=some v:=by
    have:=congrArg (fun l=>l[0]?) e
    simpa using this
   have hr:xs.drop (n + 1)=r:=by
    have:=congrArg List.tail e
    simpa[List.tail_drop]using this
   exact⟨st _ σ H p,step n v σ H _ hv p (fun σ' H' q=>ih (n + 1) hr hlt σ' H' q) (fun σ' H' q=>ih (n + 1) hr hlt σ' H' q) rfl rfl⟩
 exact go xs 0 (by simp) (Nat.zero_le _) σ H h0
structure Ext (M:Mo) (H H':Hp):Prop where
 same:∀a o,H a=some o->H' a=some o
 off:∀a,M a ≠ none->H a=none->H' a=none
theorem Ext.refl {M:Mo} {H:Hp}:Ext M H H:=⟨fun _ _ h=>h,fun _ _ h=>h⟩
theorem Ext.trans {M:Mo} {H H1 H2:Hp} (a:Ext M H H1) (b:Ext M H1 H2):Ext M H H2:=⟨fun c o h=>b.same c o (a.same c o h),fun c m h=>b.off c m (a.off c m h)⟩
theorem Ext.upd {M:Mo} {H:Hp} {p:Addr} {o:HO} (h:H p=none) (m:M p=none):Ext M H (upd H p o):=
 ⟨fun b u e=>by rw[upd_ne (ne_of_none e h)];exact e,fun b mb e=>by rw[upd_ne (fun z=>mb (by rw[z];exact m))];exact e⟩
theorem Ext.rd {M:Mo} {H H':Hp} {a:Addr} {u:HO} (s:Ext M H H') (e:rd M H a=some u):rd M H' a=some u:=by
 unfold Sw.rd at e ⊢
 cases q:H a with
 | none=>
  rw[q]at e
  rw[s.off a (by intro z;rw[z]at e;cases e) q]
  exact e
 | some o=>rw[s.same a o q];rw[q]at e;exact e
section
variable {M:Mo} {H:Hp} {Q:VK}
theorem v_add (i j:Int):binV M .Add (.int i) (.int j) H Q=Q (.int (i + j)) H:=rfl
theorem v_adds (x y:Str):binV M .Add (.str x) (.str y) H Q=(x.length + y.length<=sizeLine/\Q (.str (x++y)) H):=rfl
theorem v_sub (i j:Int):binV M .Sub (.int i) (.int j) H Q=Q (.int (i - j)) H:=rfl
theorem v_mul (i j:Int):binV M .Mult (.int i) (.int j) H Q=((bnd i || bnd j)=true/\Q (.int (i * j)) H):=rfl
theorem v_div (i j:Int):binV M .FloorDiv (.int i) (.int j) H Q=(0 < j/\j < 1073741824/\Q (.int (i / j)) H):=rfl
theorem v_mod (i j:Int):binV M .Mod (.int i) (.int j) H Q=(0 < j/\Q (.int (i % j)) H):=rfl
theorem v_pow (i j:Int):binV M .Pow (.int i) (.int j) H Q=(CPow i j/\Q (.int (i ^ j.toNat)) H):=rfl
theorem v_lt (i j:Int):cmpV M .Lt (.int i) (.int j) H Q=Q (.bl (decide (i < j))) H:=rfl
theorem v_gt (i j:Int):cmpV M .Gt (.int i) (.int j) H Q=Q (.bl (decide (j < i))) H:=rfl
theorem v_ge (i j:Int):cmpV M .GtE (.int i) (.int j) H Q=Q (.bl (decide (j<=i))) H:=rfl
theorem v_ins (x y:Str):cmpV M .In (.str x) (.str y) H Q=Q (.bl (!(Builtin.Str.occurrences y x 0 y.length 1).isEmpty)) H:=rfl
theorem v_eqi (i j:Int):cmpV M .Eq (.int i) (.int j) H Q=Q (.bl (decide (i=j))) H:=by
 show Q (.bl (decide (V.int i=V.int j))) H=_
 simp only[V.int.injEq]
theorem v_nei (i j:Int):cmpV M .NotEq (.int i) (.int j) H Q=Q (.bl (!decide (i=j))) H:=by
 show Q (.bl (!decide (V.int i=V.int j))) H=_
 simp only[V.int.injEq]
theorem v_eqs (x y:Str):cmpV M .Eq (.str x) (.str y) H Q=Q (.bl (decide (x=y))) H:=by
 show Q (.bl (decide (V.str x=V.str y))) H=_
 simp only[V.str.injEq]
theorem v_nes (x y:Str):cmpV M .NotEq (.str x) (.str y) H Q=Q (.bl (!decide (x=y))) H:=by
 show Q (.bl (!decide (V.str x=V.str y))) H=_
 simp only[V.str.injEq]
theorem v_neb (x y:Bool):cmpV M .NotEq (.bl x) (.bl y) H Q=Q (.bl (!decide (x=y))) H:=by
 show Q (.bl (!decide (V.bl x=V.bl y))) H=_
 simp only[V.bl.injEq]
theorem v_eqb (x y:Bool):cmpV M .Eq (.bl x) (.bl y) H Q=Q (.bl (decide (x=y))) H:=by
 show Q (.bl (decide (V.bl x=V.bl y))) H=_
 simp only[V.bl.injEq]
theorem s_rr (a b:Addr):scal (.ref a) (.ref b)=false:=rfl
theorem v_cat (a b:Addr):binV M .Add (.ref a) (.ref b) H Q=(match rd M H a,rd M H b with
  | some (.lst xs),some (.lst ys)=>xs.length + ys.length<=sizeLine/\∀p,H p=none->M p=none->Q (.ref p) (upd H p (.lst (xs++ys)))
  | some (.tup xs),some (.tup ys)=>xs ≠ []/\ys ≠ []/\xs.length + ys.length<=sizeLine/\∀p,H p=none->M p=none->Q (.ref p) (upd H p (.tup (xs++ys)))
  | _,_=>False):=rfl
theorem m_join (x:Str) (p:Addr):mthV M .join (.str x) [.ref p] H Q=(match rd M H p with | some (.lst xs)=>(match allM asS xs with | some ts=>JoinOk x ts=true/\Q (.str (Txt.join x ts)) H | none=>False) | _=>False):=rfl
theorem m_append (p:Addr) (v:V):mthV M .append (.ref p) [v] H Q=(match H p with | some (.lst xs)=>xs.length < sizeLine/\Q .non (upd H p (.lst (xs++[v]))) | _=>False):=rfl
theorem t_bl (b:Bool) {R:Bool->Prop}:truV M (.bl b) H R=R b:=rfl
theorem t_non {R:Bool->Prop}:truV M .non H R=R false:=rfl
theorem t_int (i:Int) {R:Bool->Prop}:truV M (.int i) H R=R (i != 0):=rfl
theorem b_lens (x:Str):bltV M .len [.str x] H Q=(x.length<=sizeLine/\Q (.int x.length) H):=rfl
theorem b_lenr (p:Addr):bltV M .len [.ref p] H Q=(match rd M H p with | some (.lst xs)=>Q (.int xs.length) H | some (.tup xs)=>Q (.int xs.length) H | _=>False):=rfl
theorem i_str (z:Str) (i:Int):idxV M (.str z) (.int i) H Q=(z.length<=sizeLine/\match atI z.cps.toList i with | some c=>Q (.str ⟨#[c]⟩) H | none=>False):=rfl
theorem i_ref (p:Addr) (i:Int):idxV M (.ref p) (.int i) H Q=(match rd M H p with | some (.lst xs)=>(match atI xs i with | some v=>Q v H | none=>False) | some (.tup xs)=>(match atI xs i with | some v=>Q v H | none=>False) | _=>False):=rfl
theorem s_str (z:Str) (lo hi:Option Int):slcV M (.str z) lo hi H Q=(z.length<=sizeLine/\Q (.str (Txt.slice z lo hi)) H):=rfl
theorem s_ref (p:Addr) (lo hi:Option Int):slcV M (.ref p) lo hi H Q=(match rd M H p with
  | some (.lst xs)=>∀l,H l=none->M l=none->Q (.ref l) (upd H l (.lst (cutV xs lo hi)))
  | some (.tup xs)=>¬ (HT.sIx xs.length 0 lo=0/\HT.sIx xs.length xs.length hi=xs.length)/\∀l,H l=none->M l=none->Q (.ref l) (upd H l (.tup (cutV xs lo hi)))
  | _=>False):=rfl
end
@[reducible] noncomputable def cps (x:Str):List Nat:=x.cps.toList
theorem seq {s:Sx} {r:Sxs} {Γ:Gam} {Ξ:XS} {D:Ends} {σ:L2.St} {H:Hp} (h:wS s Γ Ξ {D with nx:=wSs r Γ Ξ D} σ H):wSs (.cons s r) Γ Ξ D σ H:=by
 rw[wSs]
 exact h
theorem seq0 {Γ:Gam} {Ξ:XS} {D:Ends} {σ:L2.St} {H:Hp} (h:D.nx σ H):wSs .nil Γ Ξ D σ H:=by
 rw[wSs]
 exact h
end Sw
namespace Sw
theorem r_get0 {α:Type} (a:α) (l:List α):(a::l)[0]?=some a:=rfl
theorem r_getS {α:Type} (a:α) (l:List α) (n:Nat):(a::l)[n + 1]?=l[n]?:=rfl
theorem r_set0 {α:Type} (a b:α) (l:List α):(a::l).set 0 b=b::l:=rfl
theorem r_setS {α:Type} (a b:α) (l:List α) (n:Nat):(a::l).set (n + 1) b=a::l.set n b:=rfl
theorem r_map0 {α β:Type} (f:α->β):List.map f []=[]:=rfl
theorem r_mapS {α β:Type} (f:α->β) (a:α) (l:List α):List.map f (a::l)=f a::List.map f l:=rfl
theorem r_app0 {α:Type} (l:List α):[]++l=l:=rfl
theorem r_appS {α:Type} (a:α) (l m:List α):(a::l)++m=a::(l++m):=rfl
theorem r_len0 {α:Type}:([]:List α).length=0:=rfl
theorem r_lenS {α:Type} (a:α) (l:List α):(a::l).length=l.length + 1:=rfl
theorem r_rep0 {α:Type} (a:α):List.replicate 0 a=[]:=rfl
theorem r_repS {α:Type} (a:α) (n:Nat):List.replicate (n + 1) a=a::List.replicate n a:=rfl
theorem r_join {α:Type} (a:Option α):(some a).join=a:=rfl
end Sw
local macro_rules | `(tactic| walk_at "sw")=>`(tactic| dsimp only[Sw.wSs,Sw.wS,Sw.wE,Sw.wT,Sw.wEs,Sw.wTs,Sw.wI,Sw.wP,Sw.keyOf,Sw.vars,L2.start,Sw.r_get0,Sw.r_getS,Sw.r_set0,Sw.r_setS,Sw.r_map0,Sw.r_mapS,Sw.r_app0,Sw.r_appS,Sw.r_len0,Sw.r_lenS,Sw.r_rep0,Sw.r_repS,Sw.r_join,Nat.reduceAdd,Nat.reduceSub])
local macro_rules | `(tactic| walk_at "s1")=>`(tactic| dsimp only[Sw.wS,Sw.wE,Sw.wT,Sw.wEs,Sw.wTs,Sw.wI,Sw.wP,Sw.keyOf,Sw.vars,L2.start,Sw.r_get0,Sw.r_getS,Sw.r_set0,Sw.r_setS,Sw.r_map0,Sw.r_mapS,Sw.r_app0,Sw.r_appS,Sw.r_len0,Sw.r_lenS,Sw.r_rep0,Sw.r_repS,Sw.r_join,Nat.reduceAdd,Nat.reduceSub])
local macro_rules | `(tactic| walk_at "sv")=>`(tactic| simp (config:={maxSteps:=10000000,failIfUnchanged:=false}) only[Sw.v_add,Sw.v_adds,Sw.v_sub,Sw.v_mul,Sw.v_div,Sw.v_mod,Sw.v_pow,Sw.v_lt,Sw.v_gt,Sw.v_ge,Sw.v_ins,Sw.v_eqi,Sw.v_nei,Sw.v_eqs,Sw.v_nes,Sw.v_neb,Sw.v_eqb,Sw.t_bl,Sw.t_non,Sw.t_int,Sw.b_lens,Sw.b_lenr,Sw.i_str,Sw.i_ref,Sw.s_str,Sw.s_ref])
namespace Gr
variable {α:Type} [DecidableEq α]
section reach
variable (adj:α->List α)
inductive Reach:α->α->Prop where
 | refl (a:α):Reach a a
 | head {a p b:α}:p ∈ adj a->Reach p b->Reach a b
noncomputable def Within:Nat->α->α->Prop
 | 0,a,b=>a=b
 | t + 1,a,b=>Within t a b\/∃p ∈ adj a,Within t p b
variable {adj}
theorem Reach.trans {a b c:α} (h:Reach adj a b) (k:Reach adj b c):Reach adj a c:=by
 induction h with
 | refl=>exact k
 | head hp _ ih=>exact .head hp (ih k)
theorem Reach.one {a p:α} (h:p ∈ adj a):Reach adj a p:=.head h (.refl p)
theorem Reach.symm (sy:∀a b,b ∈ adj a->a ∈ adj b) {a b:α} (h:Reach adj a b):Reach adj b a:=by
 induction h with
 | refl=>exact .refl _
 | head hp _ ih=>exact ih.trans (.one (sy _ _ hp))
theorem Within.up {t:Nat} {a b:α} (h:Within adj t a b):Within adj (t + 1) a b:=.inl h
theorem Within.le {t u:Nat} (hl:t<=u) {a b:α} (h:Within adj t a b):Within adj u a b:=by
 induction hl with
 | refl=>exact h
 | step _ ih=>exact ih.up
inductive Path (adj:α->List α):α->List α->α->Prop where
 | nil (a:α):Path adj a [] a
 | cons {a p b:α} {l:List α}:p ∈ adj a->Path adj p l b->Path adj a (p::l) b
theorem Path.from {a p b:α} {l:List α} (h:Path adj p l b) (ha:a ∈ p::l):∃l',Path adj a l' b/\(a::l').Sublist (p::l):=by
 induction h with
 | nil q=>cases List.mem_singleton.mp ha;exact⟨[],.nil _,List.Sublist.refl _⟩
 | @cons q r b l hp hr ih=>
  rcases List.mem_cons.mp ha with rfl | ha
  ·exact⟨r::l,.cons hp hr,List.Sublist.refl _⟩
  ·obtain⟨l',h1,h2⟩:=ih ha
   exact⟨l',h1,.cons _ h2⟩
end reach
structure Tot (r:α->α->Prop):Prop where
 irr:∀a,¬r a a
 tr:∀a b c,r a b->r b c->r a c
 tri:∀a b,a ≠ b->r a b\/r b a
section order
variable {r:α->α->Prop} [DecidableRel r]
noncomputable def mn (r:α->α->Prop) [DecidableRel r] (a b:α):α:=if r b a then b else a
theorem Tot.asym (T:Tot r) {a b:α} (h:r a b) (k:r b a):False:=T.irr a (T.tr _ _ _ h k)
theorem Tot.anti (T:Tot r) {a b:α} (h:¬r b a) (k:¬r a b):a=b:=by
 by_cases e:a=b
 ·exact e
 ·rcases T.tri a b e with q | q
  ·exact(k q).elim
  ·exact(h q).elim
theorem Tot.ext (T:Tot r):∀ {l l':List α},l.Pairwise r->l'.Pairwise r->(∀ x,x ∈ l ↔ x ∈ l')->l=l'
 | [],[],_,_,_=>rfl
 | [],y::m,_,_,h=>by have:=(h y).mpr List.mem_cons_self;cases this
 | x::l,[],_,_,h=>by have:=(h x).mp List.mem_cons_self;cases this
 | x::l,y::m,p,q,h=>by
  rw[List.pairwise_cons]at p q
  have e:x=y:=by
   have h1:=(h x).mp List.mem_cons_self
   have h2:=(h y).mpr List.mem_cons_self
   rcases List.mem_cons.mp h1 with e | h1
   ·exact e
   ·rcases List.mem_cons.mp h2 with e | h2
    ·exact e.symm
    ·exact(T.asym (p.1 y h2) (q.1 x h1)).elim
  subst e
  rw[T.ext p.2 q.2 fun z=>?_]
  constructor
  ·intro hz
   rcases List.mem_cons.mp ((h z).mp (List.mem_cons_of_mem _ hz))with e | k
   ·subst e;exact(T.irr _ (p.1 _ hz)).elim
   ·exact k
  ·intro hz
   rcases List.mem_cons.mp ((h z).mpr (List.mem_cons_of_mem _ hz))with e | k
   ·subst e;exact(T.irr _ (q.1 _ hz)).elim
   ·exact k
end order
section marks
variable (adj:α->List α) (r:α->α->Prop) [DecidableRel r]
variable {adj r}
structure Least (adj:α->List α) (r:α->α->Prop) (ks:List α) (m:α->α):Prop where
 at_:∀x,Reach adj x (m x)
 le:∀c ∈ ks,∀d,Reach adj c d->¬r d (m c)
theorem Least.same (T:Tot r) {ks:List α} {m:α->α} (L:Least adj r ks m) (sy:∀a b,b ∈ adj a->a ∈ adj b) {c d:α} (hc:c ∈ ks) (hd:d ∈ ks) (h:Reach adj c d):m c=m d:=
 T.anti (L.le c hc _ (h.trans (L.at_ d))) (L.le d hd _ ((h.symm sy).trans (L.at_ c)))
end marks
section groups
variable {adj:α->List α} {r:α->α->Prop} [DecidableRel r]
noncomputable def byMark (m:α->α) (L:List α):List (List α):=(L.filter fun c=>decide (m c=c)).map fun c=>L.filter fun x=>decide (m x=c)
end groups
section walk
variable {adj:α->List α}
structure Dfs (adj:α->List α) (c:α) (R W:List α):Prop where
 nd:R.Nodup
 has:c ∈ R
 rch:∀x ∈ R,Reach adj c x
 sub:∀x ∈ W,x ∈ R
 cl:∀x ∈ R,x ∉ W->∀p ∈ adj x,p ∈ R
theorem Dfs.start (adj:α->List α) (c:α):Dfs adj c [c] [c]:=
 ⟨by simp,by simp,fun x hx=>by cases List.mem_singleton.mp hx;exact .refl _,fun x hx=>hx,fun x hx hn=>absurd hx hn⟩
end walk
section all
variable {adj:α->List α} {r:α->α->Prop} [DecidableRel r]
end all
end Gr
namespace Sw
open PySem PySem.Spec PyProof.Rows L2
theorem seq00 {Γ Γ':Gam} {Ξ Ξ':XS} {D:Ends} {σ:L2.St} {H:Hp} (h:D.nx σ H):wSs .nil Γ Ξ {D with nx:=wSs .nil Γ' Ξ' D} σ H:=seq0 (seq0 (Γ:=Γ') (Ξ:=Ξ') h)
section
variable {M:Mo} {H H':Hp} {p l:Addr}
theorem rd_of {o:HO} (h:H p=some o) (nf:∀b u,o ≠ .frz b u):rd M H p=some o:=by
 unfold rd
 rw[h]
 cases o<;>first | rfl | exact absurd rfl (nf _ _)
theorem rd_same {a:Addr} (h:H' a=H a):rd M H' a=rd M H a:=by
 unfold rd
 rw[h]
theorem ne_new {a:Addr} {u:HO} (h:rd M H a=some u) (hl:H l=none) (ml:M l=none):a ≠ l:=by
 intro e
 subst e
 unfold rd at h
 rw[hl,ml]at h
 cases h
theorem idxD_at {kvs:List (Key × V)} {x:Str} {v:V} {Q:VK} (h:rd M H p=some (.dK kvs)) (hv:valV kvs (.inr x)=some v) (q:Q v H):idxDV M (.ref p) (.str x) H Q:=by
 show(match rd M H p with | some (.dK kvs)=>(match keyOf (V.str x)with | some k=>(match valV kvs k with | some v=>Q v H | none=>False) | none=>False) | _=>False)
 rw[h]
 show(match valV kvs (.inr x)with | some v=>Q v H | none=>False)
 rw[hv]
 exact q
theorem sto_at {kvs:List (Key × V)} {x:Str} {v:V} {Q:Hp->Prop} (h:H p=some (.dK kvs)) (hl:kvs.length < sizeLine) (q:Q (upd H p (.dK (putK kvs (.inr x) v)))):stoV (.ref p) (.str x) v H Q:=by
 show(match H p with
  | some (.lst xs)=>(match V.str x with | .int j=>(match ixN xs.length j with | some n=>Q (upd H p (.lst (xs.set n v))) | none=>False) | _=>False)
  | some (.dK kvs)=>(match keyOf (V.str x)with | some kk=>kvs.length < sizeLine/\Q (upd H p (.dK (putK kvs kk v))) | none=>False)
  | _=>False)
 rw[h]
 exact⟨hl,q⟩
theorem inD_at {kvs:List (Key × V)} {x:Str} {Q:VK} (h:rd M H p=some (.dK kvs)) (q:Q (.bl (!(valV kvs (.inr x)).isSome)) H):cmpDV M .NotIn (.str x) (.ref p) H Q:=by
 show(match dOf M H (.ref p),keyOf (V.str x)with | some kvs,some k=>Q (.bl (!(valV kvs k).isSome)) H | _,_=>False)
 have e:dOf M H (.ref p)=some kvs:=by
  show(match rd M H p with | some (.dK kvs)=>some kvs | _=>none)=some kvs
  rw[h]
 rw[e]
 exact q
theorem inD_yes {kvs:List (Key × V)} {x:Str} {Q:VK} (h:rd M H p=some (.dK kvs)) (q:Q (.bl (valV kvs (.inr x)).isSome) H):cmpDV M .In (.str x) (.ref p) H Q:=by
 show(match dOf M H (.ref p),keyOf (V.str x)with | some kvs,some k=>Q (.bl (valV kvs k).isSome) H | _,_=>False)
 have e:dOf M H (.ref p)=some kvs:=by
  show(match rd M H p with | some (.dK kvs)=>some kvs | _=>none)=some kvs
  rw[h]
 rw[e]
 exact q
theorem inV_strs (x:Str) (ns:List Str):inV (.str x) (ns.map V.str)=decide (x ∈ ns):=by
 induction ns with
 | nil=>rfl
 | cons y r ih=>
  have e:inV (.str x) ((y::r).map V.str)=(eqV (.str y) (.str x) || inV (.str x) (r.map V.str)):=rfl
  rw[e,ih]
  have e2:eqV (.str y) (.str x)=decide (y=x):=by
   show(y == x)=decide (y=x)
   by_cases z:y=x
   ·rw[z];simp
   ·simp[z]
  rw[e2]
  by_cases z:y=x
  ·subst z;simp
  ·have z2:x ≠ y:=fun q=>z q.symm
   simp[z,z2]
theorem flat_strs (ns:List Str):(ns.map V.str).all flatV=true:=by
 rw[List.all_eq_true]
 intro v hv
 obtain⟨x,_,rfl⟩:=List.mem_map.mp hv
 rfl
theorem notin_at {ns:List Str} {x:Str} {Q:VK} (h:rd M H p=some (.lst (ns.map V.str))) (q:Q (.bl (!decide (x ∈ ns))) H):cmpV M .NotIn (.str x) (.ref p) H Q:=by
 show(match rd M H p with
  | some (.lst xs)=>flatV (V.str x)=true/\xs.all flatV=true/\Q (.bl (!inV (.str x) xs)) H
  | some (.tup xs)=>flatV (V.str x)=true/\xs.all flatV=true/\Q (.bl (!inV (.str x) xs)) H
  | _=>False)
 rw[h]
 exact⟨rfl,flat_strs ns,by rw[inV_strs];exact q⟩
end
end Sw
namespace Gw
open PySem PySem.Spec PyProof.Rows L2 Sw
@[reducible] noncomputable def Row:=List (Str × Int)
@[reducible] noncomputable def Ent:=Str × Addr × Row
noncomputable def rowK (r:Row):List (Key × V):=r.map fun y=>(Sum.inr y.1,V.int y.2)
noncomputable def topK (E:List Ent):List (Key × V):=E.map fun e=>(Sum.inr e.1,V.ref e.2.1)
theorem rowK_len (r:Row):(rowK r).length=r.length:=List.length_map _
theorem topK_len (E:List Ent):(topK E).length=E.length:=List.length_map _
theorem val_map {β:Type} (f:β->V):∀ (l:List (Str × β)) (x:Str),valV (l.map fun y=>((Sum.inr y.1:Key),f y.2)) (.inr x)=(l.lookup x).map f
 | [],x=>rfl
 | y::r,x=>by
  obtain⟨n,b⟩:=y
  rw[List.map_cons,List.lookup_cons]
  by_cases e:n=x
  ·subst e
   rw[valV_pos rfl]
   simp
  ·have e2:(x == n)=false:=by simp;exact fun z=>e z.symm
   rw[e2]
   have h:=val_map f r x
   show valV (((Sum.inr n:Key),f b)::_) (.inr x)=_
   unfold valV at h ⊢
   rw[List.find?_cons]
   have e3:decide ((Sum.inr n:Key)=Sum.inr x)=false:=decide_eq_false fun z=>e (Sum.inr.inj z)
   rw[e3]
   exact h
theorem lookup_mem {β:Type}:∀ {l:List (Str × β)} {x:Str} {b:β},(l.map (·.1)).Nodup->(x,b) ∈ l->l.lookup x=some b
 | y::r,x,b,nd,h=>by
  obtain⟨n,c⟩:=y
  rw[List.lookup_cons]
  rw[List.map_cons,List.nodup_cons]at nd
  rcases List.mem_cons.mp h with e | h'
  ·cases e;simp
  ·have e:(x == n)=false:=by
    simp
    intro z
    subst z
    exact nd.1 (List.mem_map.mpr ⟨_,h',rfl⟩)
   rw[e]
   exact lookup_mem nd.2 h'
theorem lookup_none {β:Type}:∀ {l:List (Str × β)} {x:Str},x ∉ l.map (·.1)->l.lookup x=none
 | [],_,_=>rfl
 | y::r,x,h=>by
  obtain⟨n,c⟩:=y
  rw[List.map_cons,List.mem_cons,not_or]at h
  rw[List.lookup_cons]
  have e:(x == n)=false:=by simp;exact h.1
  rw[e]
  exact lookup_none h.2
theorem lookup_some {β:Type}:∀ {l:List (Str × β)} {x:Str} {b:β},l.lookup x=some b->(x,b) ∈ l
 | y::r,x,b,h=>by
  obtain⟨n,c⟩:=y
  rw[List.lookup_cons]at h
  cases e:(x == n)with
  | true=>rw[e]at h;cases h;rw[eq_of_beq e];exact List.mem_cons_self
  | false=>rw[e]at h;exact List.mem_cons_of_mem _ (lookup_some h)
theorem put_new {β:Type} (f:β->V) (l:List (Str × β)) (x:Str) (b:β) (h:x ∉ l.map (·.1)):putK (l.map fun y=>((Sum.inr y.1:Key),f y.2)) (.inr x) (f b)=(l++[(x,b)]).map fun y=>((Sum.inr y.1:Key),f y.2):=by
 unfold putK
 rw[if_neg]
 ·rw[List.map_append];rfl
 ·intro z
  rw[List.any_eq_true]at z
  obtain⟨y,hy,e⟩:=z
  obtain⟨c,hc,rfl⟩:=List.mem_map.mp hy
  have e:=of_decide_eq_true e
  have e':c.1=x:=Sum.inr.inj e
  exact h (List.mem_map.mpr ⟨c,hc,e'⟩)
theorem put_old {β:Type} (f:β->V) (l:List (Str × β)) (x:Str) (b:β) (h:x ∈ l.map (·.1)):putK (l.map fun y=>((Sum.inr y.1:Key),f y.2)) (.inr x) (f b)=(l.map fun y=>if y.1=x then(y.1,b)else y).map fun y=>((Sum.inr y.1:Key),f y.2):=by
 unfold putK
 rw[if_pos]
 ·rw[List.map_map,List.map_map]
  refine List.map_congr_left fun y _=>?_
  show(if(Sum.inr y.1:Key)=Sum.inr x then((Sum.inr y.1:Key),f b)else(Sum.inr y.1,f y.2))=_
  by_cases e:y.1=x
  ·rw[if_pos (by rw[e])]
   show _=((Sum.inr (if y.1=x then(y.1,b)else y).1:Key),f (if y.1=x then(y.1,b)else y).2)
   rw[if_pos e]
  ·rw[if_neg fun z=>e (Sum.inr.inj z)]
   show _=((Sum.inr (if y.1=x then(y.1,b)else y).1:Key),f (if y.1=x then(y.1,b)else y).2)
   rw[if_neg e]
 ·rw[List.any_eq_true]
  obtain⟨c,hc,e⟩:=List.mem_map.mp h
  exact⟨_,List.mem_map.mpr ⟨c,hc,rfl⟩,decide_eq_true (by rw[<-e])⟩
theorem drop_key {β:Type} (f:β->V) (l:List (Str × β)) (x:Str):dropK (l.map fun y=>((Sum.inr y.1:Key),f y.2)) (.inr x)=(l.filter fun y=>decide (y.1 ≠ x)).map fun y=>((Sum.inr y.1:Key),f y.2):=by
 unfold dropK
 rw[List.filter_map]
 refine congrArg _ (List.filter_congr fun y _=>?_)
 show decide ((Sum.inr y.1:Key) ≠ Sum.inr x)=decide (y.1 ≠ x)
 by_cases e:y.1=x
 ·simp[e]
 ·have:(Sum.inr y.1:Key) ≠ Sum.inr x:=fun z=>e (Sum.inr.inj z)
  simp[e,this]
structure WebAt (H:Hp) (w:Addr) (E:List Ent):Prop where
 top:H w=some (.dK (topK E))
 row:∀e ∈ E,H e.2.1=some (.dK (rowK e.2.2))
 nd:(w::E.map (·.2.1)).Nodup
 keys:(E.map (·.1)).Nodup
 rk:∀e ∈ E,(e.2.2.map (·.1)).Nodup
 few:E.length<=20
 rfew:∀e ∈ E,e.2.2.length<=20
end Gw
namespace Gw
open PySem PySem.Spec PyProof.Rows L2 Sw
noncomputable def keep (ns:List Str) (r:Row):Row:=r.filter fun y=>!decide (y.1 ∈ ns)
theorem take_snoc {α:Type} {l:List α} {n:Nat} {a:α} (h:l[n]?=some a):l.take (n + 1)=l.take n++[a]:=by
 rw[List.take_succ,h]
 rfl
@[reducible] noncomputable def Web:=List (Str × Row)
noncomputable def cont (E:List Ent):Web:=E.map fun e=>(e.1,e.2.2)
theorem cont_keys (E:List Ent):(cont E).map (·.1)=E.map (·.1):=by
 unfold cont
 rw[List.map_map]
 rfl
structure ExtB (M:Mo) (w:Addr) (H H':Hp):Prop where
 same:∀a o,a ≠ w->H a=some o->H' a=some o
 off:∀a,M a ≠ none->H a=none->H' a=none
theorem ExtB.rd {M:Mo} {w:Addr} {H H':Hp} {a:Addr} {u:HO} (x:ExtB M w H H') (hn:a ≠ w) (h:rd M H a=some u):rd M H' a=some u:=by
 unfold Sw.rd at h ⊢
 cases e:H a with
 | none=>
  rw[e]at h
  rw[x.off a (by intro z;rw[z]at h;cases h) e]
  exact h
 | some o=>rw[x.same a o hn e];rw[e]at h;exact h
theorem ExtB.upd {M:Mo} {w:Addr} {H H':Hp} {l:Addr} {o:HO} (x:ExtB M w H H') (hl:H l=none) (ml:M l=none):ExtB M w H (L2.upd H' l o):=
 ⟨fun a u hn e=>by rw[upd_ne (ne_of_none e hl)];exact x.same a u hn e,fun a m e=>by rw[upd_ne (fun z=>m (by rw[z];exact ml))];exact x.off a m e⟩
theorem OffM.at {M:Mo} {H:Hp} (o:OffM M H) {a:Addr} {u:HO} (h:H a=some u):M a=none:=by
 cases e:M a with
 | none=>rfl
 | some x=>rw[o a (by rw[e];exact Option.some_ne_none x)]at h;cases h
end Gw
namespace Gw
open PySem PySem.Spec PyProof.Rows L2 Sw
@[reducible] noncomputable def slt (a b:Str):Prop:=a.cps.toList < b.cps.toList
theorem tot_slt:Gr.Tot slt where
 irr:=fun a=>List.lt_irrefl _
 tr:=fun a b c h k=>List.lt_trans h k
 tri:=fun a b h=>by
  by_cases h1:a.cps.toList < b.cps.toList
  ·exact .inl h1
  ·by_cases h2:b.cps.toList < a.cps.toList
   ·exact .inr h2
   ·exfalso
    have e:a.cps.toList=b.cps.toList:=List.le_antisymm (List.not_lt.mp h2) (List.not_lt.mp h1)
    apply h
    obtain⟨x⟩:=a
    obtain⟨y⟩:=b
    congr 1
    exact Array.toList_inj.mp e
noncomputable def adj (E:List Ent) (x:Str):List Str:=match E.lookup x with
 | some y=>y.2.map (·.1)
 | none=>[]
theorem adj_of {E:List Ent} {x:Str} {y:Addr × Row} (h:E.lookup x=some y):adj E x=y.2.map (·.1):=by
 unfold adj
 rw[h]
theorem look_at {E:List Ent} {x:Str} (h:x ∈ E.map (·.1)):∃y,E.lookup x=some y/\(x,y) ∈ E:=by
 cases e:E.lookup x with
 | some y=>exact⟨y,rfl,lookup_some e⟩
 | none=>
  exfalso
  induction E with
  | nil=>cases h
  | cons z r ih=>
   obtain⟨n,b⟩:=z
   rw[List.lookup_cons]at e
   cases q:(x == n)with
   | true=>rw[q]at e;cases e
   | false=>
    rw[q]at e
    rw[List.map_cons,List.mem_cons]at h
    rcases h with h | h
    ·exact absurd h (by simpa using q)
    ·exact ih h e
theorem app_at {M:Mo} {H:Hp} {p:Addr} {ws:List Str} {x:Str} {Q:VK} (h:H p=some (.lst (ws.map V.str))) (hl:ws.length < sizeLine) (q:Q .non (upd H p (.lst ((ws++[x]).map V.str)))):mthV M .append (.ref p) [.str x] H Q:=by
 rw[Sw.m_append,h]
 dsimp only
 refine⟨by rw[List.length_map];exact hl,?_⟩
 rw[List.map_append]at q
 exact q
theorem mty_l {M:Mo} {H:Hp} {p:Addr} {xs:List V} (h:H p=some (.lst xs)):(match V.ref p with | .ref p=>(match rd M H p with | some (.lst _)=>true | _=>false) | _=>false)=true:=by
 dsimp only
 rw[rd_of h (by intro _ _ z;cases z)]
theorem few_of {E:List Ent} {R:List Str} (nd:R.Nodup) (sub:∀x ∈ R,x ∈ E.map (·.1)):R.length<=E.length:=by
 have:=List.Nodup.length_le_of_subset nd sub
 rw[List.length_map]at this
 exact this
end Gw
namespace Gw
open PySem PySem.Spec PyProof.Rows L2 Sw
noncomputable def adjW (W:Web) (x:Str):List Str:=match W.lookup x with
 | some r=>r.map (·.1)
 | none=>[]
theorem lookup_cont (x:Str):∀E:List Ent,(cont E).lookup x=(E.lookup x).map (·.2)
 | []=>rfl
 | e::r=>by
  obtain⟨n,a,row⟩:=e
  show List.lookup x ((n,row)::cont r)=_
  rw[List.lookup_cons,List.lookup_cons]
  cases (x == n)with
  | true=>rfl
  | false=>exact lookup_cont x r
theorem adj_cont (E:List Ent):adj E=adjW (cont E):=by
 funext x
 unfold adj adjW
 rw[lookup_cont]
 cases E.lookup x<;>rfl
structure WebOk (W:Web):Prop where
 keys:(W.map (·.1)).Nodup
 sy:∀a b,b ∈ adjW W a->a ∈ adjW W b
 cl:∀a b,b ∈ adjW W a->b ∈ W.map (·.1)
noncomputable def IsGroups (W:Web) (G:List (List Str)):Prop:=∃ (L:List Str) (m:Str->Str),L.Pairwise slt/\(∀ x,x ∈ L ↔ x ∈ W.map (·.1))/\Gr.Least (adjW W) slt L m/\G=Gr.byMark m L
theorem IsGroups.nil {G:List (List Str)} (h:IsGroups [] G):G=[]:=by
 obtain⟨L,m,h1,h2,h3,rfl⟩:=h
 have e:L=[]:=List.eq_nil_iff_forall_not_mem.mpr fun x hx=>by
  have:=(h2 x).mp hx
  cases this
 rw[e]
 rfl
structure GrpAt (H:Hp) (l:Addr) (P:List (Addr × List Str)):Prop where
 top:H l=some (.lst (P.map fun y=>V.ref y.1))
 at_:∀y ∈ P,H y.1=some (.lst (y.2.map V.str))
 nd:(l::P.map (·.1)).Nodup
theorem allM_map {α β:Type} {f:V->Option β} {g:α->V} {k:α->β}:∀ {l:List α},(∀ x ∈ l,f (g x)=some (k x))->allM f (l.map g)=some (l.map k)
 | [],_=>rfl
 | x::r,h=>by
  rw[List.map_cons,List.map_cons]
  unfold allM
  rw[h x List.mem_cons_self,allM_map fun y hy=>h y (List.mem_cons_of_mem _ hy)]
theorem data_str {M:Mo} {H:Hp} (n:Nat) (x:Str):data M H n (.str x)=some (.str x):=by cases n<;>rfl
theorem nofrz_l {xs:List V}:∀b u,(HO.lst xs) ≠ .frz b u:=by intro _ _ z;cases z
theorem nofrz_d {kvs:List (Key × V)}:∀b u,(HO.dK kvs) ≠ .frz b u:=by intro _ _ z;cases z
end Gw
namespace Sw
open PySem PySem.Spec PyProof.Rows L2 Gw
theorem Ext.web {M:Mo} {H H':Hp} {w:Addr} {E:List Ent} (x:Ext M H H') (W:WebAt H w E):WebAt H' w E:=
 ⟨x.same _ _ W.top,fun e he=>x.same _ _ (W.row e he),W.nd,W.keys,W.rk,W.few,W.rfew⟩
theorem Ext.non {M:Mo} {H H':Hp} {a:Addr} (x:Ext M H H') (h:H' a=none):H a=none:=by
 cases e:H a with
 | none=>rfl
 | some u=>rw[x.same a u e]at h;cases h
theorem Ext.upd3 {M:Mo} {H H':Hp} {p:Addr} {o:HO} (x:Ext M H H') (h:H p=none) (m:M p=none):Ext M H (L2.upd H' p o):=
 ⟨fun b u e=>by rw[upd_ne (ne_of_none e h)];exact x.same b u e,fun b mb e=>by rw[upd_ne (fun z=>mb (by rw[z];exact m))];exact x.off b mb e⟩
end Sw
namespace Gw
open PySem PySem.Spec PyProof.Rows L2 Sw
theorem top_keys:∀E:List Ent,allM asS ((topK E).map fun y=>kV y.1)=some (E.map (·.1))
 | []=>rfl
 | e::r=>by
  have ih:=top_keys r
  have q:((topK (e::r)).map fun y=>kV y.1)=V.str e.1::((topK r).map fun y=>kV y.1):=rfl
  rw[q]
  unfold allM
  rw[ih]
  rfl
theorem srt_top {M:Mo} {H:Hp} {p:Addr} {E:List Ent} {Q:VK} (h:H p=some (.dK (topK E))) (q:newSorted M (E.map (·.1)) H Q):bltV M .dsorted [.ref p] H Q:=by
 show(match H p with | some (.dK kvs)=>(match allM asS (kvs.map fun y=>kV y.1)with | some ts=>newSorted M ts H Q | none=>False) | _=>False)
 rw[h]
 dsimp only
 rw[top_keys]
 exact q
theorem iter_l {M:Mo} {H:Hp} {p:Addr} {xs:List V} {k:List V->(Hp->Prop)->Prop} (h:rd M H p=some (.lst xs)) (q:k xs (fun H'=>rd M H' p=some (.lst xs))):iterV M (.ref p) H k:=by
 show(match rd M H p with
  | some (.lst xs)=>k xs (fun H'=>rd M H' p=some (.lst xs))
  | some (.tup xs)=>k xs (fun H'=>rd M H' p=some (.tup xs))
  | _=>False)
 rw[h]
 exact q
end Gw
namespace Gw
open PySem PySem.Spec PyProof.Rows L2 Sw
theorem web_pw {H:Hp} {w:Addr} {E:List Ent} (W:WebAt H w E) {c:Str} {p:Addr} {row:Row} (hm:(c,p,row) ∈ E):p ≠ w:=by
 intro z
 have:=W.nd
 rw[List.nodup_cons]at this
 exact this.1 (List.mem_map.mpr ⟨_,hm,z⟩)
end Gw
namespace Gw
open PySem PySem.Spec PyProof.Rows L2 Sw
end Gw
namespace Gw
open PySem PySem.Spec PyProof.Rows L2 Sw
theorem atI_at {α:Type} {xs:List α} {i:Int} (h0:0<=i) (h1:i < xs.length):∃x,atI xs i=some x/\x ∈ xs:=by
 have hlt:i.toNat < xs.length:=by omega
 refine⟨xs[i.toNat],?_,List.getElem_mem hlt⟩
 unfold atI ixN
 rw[if_pos h0,if_pos h1,Option.bind_some,List.getElem?_eq_getElem hlt]
theorem ix_at {M:Mo} {H:Hp} {p:Addr} {xs:List V} {i:Int} {v:V} {Q:VK} (h:rd M H p=some (.lst xs)) (e:atI xs i=some v) (q:Q v H):idxV M (.ref p) (.int i) H Q:=by
 rw[i_ref,h]
 dsimp only
 rw[e]
 exact q
theorem ix_str {M:Mo} {H:Hp} {p:Addr} {ns:List Str} {i:Int} {Q:VK} (h:rd M H p=some (.lst (ns.map V.str))) (h0:0<=i) (h1:i < ns.length) (q:∀x ∈ ns,Q (.str x) H):idxV M (.ref p) (.int i) H Q:=by
 obtain⟨v,e,hv⟩:=atI_at (xs:=ns.map V.str) h0 (by rw[List.length_map];exact h1)
 obtain⟨x,hx,rfl⟩:=List.mem_map.mp hv
 exact ix_at h e (q x hx)
theorem len_at {M:Mo} {H:Hp} {p:Addr} {xs:List V} {Q:VK} (h:rd M H p=some (.lst xs)) (q:Q (.int xs.length) H):bltV M .len [.ref p] H Q:=by
 rw[Sw.b_lenr,h]
 exact q
noncomputable def spCell (M:Mo):Sp:=fun vs H Q _=>∃a i,∃ns:List Int,vs=[.ref a,.int i]/\0<=i/\rd M H a=some (.lst (ns.map V.int))/\∀c,Q (.int c) H
theorem bnd_of {i:Int} (h0: -4294967296<=i) (h1:i<=4294967296):bnd i=true:=by
 unfold bnd
 simp only[Bool.and_eq_true,decide_eq_true_eq]
 omega
theorem bnd_r {i j:Int} (h0: -4294967296<=j) (h1:j<=4294967296):(bnd i || bnd j)=true:=by rw[bnd_of h0 h1,Bool.or_true]
theorem bnd_l {i j:Int} (h0: -4294967296<=i) (h1:i<=4294967296):(bnd i || bnd j)=true:=by rw[bnd_of h0 h1,Bool.true_or]
end Gw
namespace Gw
open PySem PySem.Spec PyProof.Rows L2 Sw
theorem inj_of_nodup {α β:Type} {f:α->β}:∀ {l:List α},(l.map f).Nodup->∀ {a b:α},a ∈ l->b ∈ l->f a=f b->a=b
 | x::r,nd,a,b,ha,hb,e=>by
  rw[List.map_cons,List.nodup_cons]at nd
  rcases List.mem_cons.mp ha with h1 | h1
  ·rcases List.mem_cons.mp hb with h2 | h2
   ·rw[h1,h2]
   ·exact(nd.1 (List.mem_map.mpr ⟨b,h2,by rw[<-e,h1]⟩)).elim
  ·rcases List.mem_cons.mp hb with h2 | h2
   ·exact(nd.1 (List.mem_map.mpr ⟨a,h1,by rw[e,h2]⟩)).elim
   ·exact inj_of_nodup nd.2 h1 h2 e
noncomputable def setRow (x:Str) (row':Row) (E:List Ent):List Ent:=E.map fun e=>if e.1=x then(e.1,e.2.1,row')else e
theorem setRow_keys (x:Str) (row':Row) (E:List Ent):(setRow x row' E).map (·.1)=E.map (·.1):=by
 unfold setRow
 rw[List.map_map]
 refine List.map_congr_left fun e _=>?_
 show(if e.1=x then(e.1,e.2.1,row')else e).1=e.1
 split<;>rfl
theorem setRow_adrs (x:Str) (row':Row) (E:List Ent):(setRow x row' E).map (·.2.1)=E.map (·.2.1):=by
 unfold setRow
 rw[List.map_map]
 refine List.map_congr_left fun e _=>?_
 show(if e.1=x then(e.1,e.2.1,row')else e).2.1=e.2.1
 split<;>rfl
theorem setRow_top (x:Str) (row':Row) (E:List Ent):topK (setRow x row' E)=topK E:=by
 unfold topK setRow
 rw[List.map_map]
 refine List.map_congr_left fun e _=>?_
 show((Sum.inr (if e.1=x then(e.1,e.2.1,row')else e).1:Key),V.ref (if e.1=x then(e.1,e.2.1,row')else e).2.1)=_
 split<;>rfl
theorem setRow_mem {x:Str} {row':Row} {E:List Ent} {e:Ent} (h:e ∈ setRow x row' E):(e ∈ E/\e.1 ≠ x)\/(e.1=x/\e.2.2=row'/\∃r,(x,e.2.1,r) ∈ E):=by
 obtain⟨f,hf,q⟩:=List.mem_map.mp h
 by_cases z:f.1=x
 ·rw[if_pos z]at q
  subst q
  exact .inr ⟨z,rfl,f.2.2,by rw[<-z];exact hf⟩
 ·rw[if_neg z]at q
  subst q
  exact .inl ⟨hf,z⟩
theorem setRow_other {x:Str} {row':Row} {E:List Ent} {e:Ent} (h:e ∈ E) (hn:e.1 ≠ x):e ∈ setRow x row' E:=List.mem_map.mpr ⟨_,h,if_neg hn⟩
theorem setRow_lookup (x:Str) (row':Row) (y:Str):∀E:List Ent,(setRow x row' E).lookup y=(E.lookup y).map fun b=>if y=x then(b.1,row')else b
 | []=>rfl
 | e::r=>by
  obtain⟨n,a,row⟩:=e
  have ih:=setRow_lookup x row' y r
  have q:setRow x row' ((n,a,row)::r)=(if n=x then(n,a,row')else(n,a,row))::setRow x row' r:=rfl
  rw[q]
  by_cases z:n=x
  ·rw[if_pos z,List.lookup_cons,List.lookup_cons]
   cases w:(y == n)with
   | true=>
    show some (a,row')=some (if y=x then(a,row')else(a,row))
    rw[if_pos ((eq_of_beq w).trans z)]
   | false=>exact ih
  ·rw[if_neg z,List.lookup_cons,List.lookup_cons]
   cases w:(y == n)with
   | true=>
    show some (a,row)=some (if y=x then(a,row')else(a,row))
    rw[if_neg (fun u=>z ((eq_of_beq w).symm.trans u))]
   | false=>exact ih
theorem setRow_adj {x:Str} {row':Row} {E:List Ent} (hx:x ∈ E.map (·.1)) (y:Str):adjW (cont (setRow x row' E)) y=if y=x then row'.map (·.1)else adjW (cont E) y:=by
 rw[<-adj_cont,<-adj_cont]
 unfold adj
 rw[setRow_lookup]
 by_cases q:y=x
 ·subst q
  obtain⟨b,hb,_⟩:=look_at hx
  rw[hb,if_pos rfl,Option.map_some,if_pos rfl]
 ·rw[if_neg q]
  cases E.lookup y with
  | none=>rfl
  | some b=>rw[Option.map_some,if_neg q]
theorem WebAt.set {H:Hp} {w p:Addr} {E:List Ent} {x:Str} {row row':Row} (W:WebAt H w E) (h:(x,p,row) ∈ E) (rk:(row'.map (·.1)).Nodup) (few:row'.length<=20):WebAt (upd H p (.dK (rowK row'))) w (setRow x row' E):=by
 have pw:=web_pw W h
 have one:∀e ∈ E,e.2.1=p->e.1=x:=fun e he z=>by
  have nd:=(List.nodup_cons.mp W.nd).2
  exact congrArg Prod.fst (inj_of_nodup nd he h z)
 refine⟨by rw[upd_ne pw.symm,setRow_top];exact W.top,fun e he=>?_,by rw[setRow_adrs];exact W.nd,by rw[setRow_keys];exact W.keys,fun e he=>?_,by unfold setRow;rw[List.length_map];exact W.few,fun e he=>?_⟩
 ·rcases setRow_mem he with ⟨h1,h2⟩ | ⟨h1,h2,r,h3⟩
  ·rw[upd_ne (fun z=>h2 (one e h1 z))]
   exact W.row e h1
  ·have e1:=lookup_mem W.keys h
   have e2:=lookup_mem W.keys h3
   rw[e1]at e2
   have:p=e.2.1:=congrArg Prod.fst (Option.some.inj e2)
   rw[<-this,upd_same,h2]
 ·rcases setRow_mem he with ⟨h1,h2⟩ | ⟨h1,h2,r,h3⟩
  ·exact W.rk e h1
  ·rw[h2];exact rk
 ·rcases setRow_mem he with ⟨h1,h2⟩ | ⟨h1,h2,r,h3⟩
  ·exact W.rfew e h1
  ·rw[h2];exact few
theorem idx_web {M:Mo} {H:Hp} {w p:Addr} {E:List Ent} {x:Str} {row:Row} {Q:VK} (W:WebAt H w E) (h:(x,p,row) ∈ E) (q:Q (.ref p) H):idxDV M (.ref w) (.str x) H Q:=by
 refine idxD_at (x:=x) (v:=.ref p) (kvs:=topK E) (rd_of W.top nofrz_d) ?_ q
 have z:=val_map (fun y:Addr × Row=>V.ref y.1) E x
 rw[lookup_mem W.keys h]at z
 exact z
theorem row_isSome (row:Row) (x:Str):(valV (rowK row) (.inr x)).isSome=decide (x ∈ row.map (·.1)):=by
 have z:=val_map (fun i=>V.int i) row x
 show(valV (row.map fun y=>((Sum.inr y.1:Key),V.int y.2)) (.inr x)).isSome=_
 rw[z]
 by_cases h:x ∈ row.map (·.1)
 ·obtain⟨y,hy,e⟩:=List.mem_map.mp h
  cases q:row.lookup x with
  | some b=>simp[h]
  | none=>
   exfalso
   clear z
   induction row with
   | nil=>cases hy
   | cons u r ih=>
    obtain⟨n,b⟩:=u
    rw[List.lookup_cons]at q
    cases w:(x == n)with
    | true=>rw[w]at q;cases q
    | false=>
     rw[w]at q
     rcases List.mem_cons.mp hy with hy | hy
     ·subst hy
      exact absurd e.symm (by simpa using w)
     ·exact ih (List.mem_map.mpr ⟨y,hy,e⟩) hy q
 ·rw[lookup_none h]
  simp[h]
theorem dpop_at {M:Mo} {H:Hp} {p:Addr} {row:Row} {x:Str} {Q:VK} (h:H p=some (.dK (rowK row))) (hx:x ∈ row.map (·.1)) (q:∀v,Q v (upd H p (.dK (rowK (row.filter fun y=>decide (y.1 ≠ x)))))):mty M .dpop (.ref p) H=true/\mthV M .dpop (.ref p) [.str x] H Q:=by
 constructor
 ·show(match H p with | some (.dK _)=>true | _=>false)=true
  rw[h]
 ·show(match H p with
   | some (.dK kvs)=>(match keyOf (V.str x)with | some k=>(match valV kvs k with | some v=>Q v (upd H p (.dK (dropK kvs k))) | none=>False) | none=>False)
   | _=>False)
  rw[h]
  show(match valV (rowK row) (.inr x)with | some v=>Q v (upd H p (.dK (dropK (rowK row) (.inr x)))) | none=>False)
  have z:=row_isSome row x
  rw[decide_eq_true hx]at z
  obtain⟨v,hv⟩:=Option.isSome_iff_exists.mp z
  rw[hv]
  have d:dropK (rowK row) (.inr x)=rowK (row.filter fun y=>decide (y.1 ≠ x)):=drop_key (fun i=>V.int i) row x
  dsimp only
  rw[d]
  exact q v
theorem adj_in {E:List Ent} {x:Str} {p:Addr} {row:Row} (keys:(E.map (·.1)).Nodup) (h:(x,p,row) ∈ E):adjW (cont E) x=row.map (·.1):=by
 rw[<-adj_cont]
 exact adj_of (lookup_mem keys h)
theorem filt_keys (row:Row) (b y:Str):y ∈ (row.filter fun z=>decide (z.1 ≠ b)).map (·.1) ↔ y ∈ row.map (·.1)/\y ≠ b:=by
 constructor
 ·intro h
  obtain⟨z,hz,e⟩:=List.mem_map.mp h
  obtain⟨h1,h2⟩:=List.mem_filter.mp hz
  exact⟨List.mem_map.mpr ⟨z,h1,e⟩,by rw[<-e];simpa using h2⟩
 ·rintro⟨h1,h2⟩
  obtain⟨z,hz,e⟩:=List.mem_map.mp h1
  have e:z.1=y:=e
  exact List.mem_map.mpr ⟨z,List.mem_filter.mpr ⟨hz,by rw[e];simpa using h2⟩,e⟩
theorem row_few {W:Web} {E:List Ent} {row:Row} (nd:(row.map (·.1)).Nodup) (sub:∀x ∈ row.map (·.1),x ∈ E.map (·.1)) (few:E.length<=20):row.length<=20:=by
 have:=few_of nd sub
 rw[List.length_map]at this
 omega
end Gw
namespace Gw
open PySem PySem.Spec PyProof.Rows L2 Sw
theorem adrs_nodup {x:Str} {l:Addr}:∀ {E:List Ent},(E.map (·.1)).Nodup->(E.map (·.2.1)).Nodup->l ∉ E.map (·.2.1)->(E.map fun e=>if e.1=x then l else e.2.1).Nodup
 | [],_,_,_=>by simp
 | e::r,k,n,h=>by
  rw[List.map_cons,List.nodup_cons]at k n ⊢
  rw[List.map_cons,List.mem_cons,not_or]at h
  refine⟨fun z=>?_,adrs_nodup k.2 n.2 h.2⟩
  obtain⟨f,hf,q⟩:=List.mem_map.mp z
  by_cases e1:e.1=x
  ·rw[if_pos e1]at q
   by_cases f1:f.1=x
   ·exact k.1 (List.mem_map.mpr ⟨f,hf,by rw[f1,e1]⟩)
   ·rw[if_neg f1]at q
    exact h.2 (List.mem_map.mpr ⟨f,hf,q⟩)
  ·rw[if_neg e1]at q
   by_cases f1:f.1=x
   ·rw[if_pos f1]at q
    exact h.1 q
   ·rw[if_neg f1]at q
    exact n.1 (List.mem_map.mpr ⟨f,hf,q⟩)
theorem web_put {H:Hp} {w l:Addr} {E:List Ent} {x:Str} {ns:List Str} (W:WebAt H w E) (hl:H l=none) (emp:∀e ∈ E,e.2.2=[]) (sub:∀y ∈ E.map (·.1),y ∈ ns) (hx:x ∈ ns) (few:ns.length<=20):
  ∃E',putK (topK E) (.inr x) (.ref l)=topK E'/\WebAt (upd (upd H l (.dK [])) w (.dK (topK E'))) w E'/\(∀ e ∈ E',e.2.2=[])/\(∀ e ∈ E',e.2.1=l\/∃e0 ∈ E,e0.2.1=e.2.1)/\∀y,y ∈ E'.map (·.1) ↔ y ∈ E.map (·.1)\/y=x:=by
 have wl:w ≠ l:=ne_of_none W.top hl
 have nl:l ∉ E.map (·.2.1):=fun z=>by
  obtain⟨e,he,q⟩:=List.mem_map.mp z
  have:=W.row e he
  rw[q,hl]at this
  cases this
 have nw:=(List.nodup_cons.mp W.nd).1
 by_cases h:x ∈ E.map (·.1)
 ·refine⟨E.map fun y:Ent=>if y.1=x then(y.1,(l,[]))else y,put_old (fun y:Addr × Row=>V.ref y.1) E x (l,[]) h,?_⟩
  have ke:(E.map fun y:Ent=>if y.1=x then(y.1,((l,[]):Addr × Row))else y).map (·.1)=E.map (·.1):=by
   rw[List.map_map]
   refine List.map_congr_left fun e _=>?_
   show(if e.1=x then(e.1,((l,[]):Addr × Row))else e).1=e.1
   split<;>rfl
  have ad:(E.map fun y:Ent=>if y.1=x then(y.1,((l,[]):Addr × Row))else y).map (·.2.1)=E.map fun e=>if e.1=x then l else e.2.1:=by
   rw[List.map_map]
   refine List.map_congr_left fun e _=>?_
   show(if e.1=x then(e.1,((l,[]):Addr × Row))else e).2.1=_
   split<;>rfl
  have cs:∀e ∈ (E.map fun y:Ent=>if y.1=x then(y.1,((l,[]):Addr × Row))else y),(e.2.1=l/\e.2.2=[])\/e ∈ E:=fun e he=>by
   obtain⟨f,hf,q⟩:=List.mem_map.mp he
   by_cases z:f.1=x
   ·rw[if_pos z]at q;subst q;exact .inl ⟨rfl,rfl⟩
   ·rw[if_neg z]at q;subst q;exact .inr hf
  refine⟨⟨upd_same,fun e he=>?_,?_,by rw[ke];exact W.keys,fun e he=>?_,by rw[List.length_map];exact W.few,fun e he=>?_⟩,fun e he=>?_,fun e he=>?_,fun y=>?_⟩
  ·rcases cs e he with ⟨h1,h2⟩ | h1
   ·rw[h1,h2,upd_ne wl.symm,upd_same];rfl
   ·have n1:e.2.1 ≠ w:=fun z=>nw (List.mem_map.mpr ⟨e,h1,z⟩)
    have n2:e.2.1 ≠ l:=fun z=>nl (List.mem_map.mpr ⟨e,h1,z⟩)
    rw[upd_ne n1,upd_ne n2]
    exact W.row e h1
  ·rw[List.nodup_cons,ad]
   refine⟨fun z=>?_,adrs_nodup W.keys (List.nodup_cons.mp W.nd).2 nl⟩
   obtain⟨f,hf,q⟩:=List.mem_map.mp z
   by_cases f1:f.1=x
   ·rw[if_pos f1]at q;exact wl q.symm
   ·rw[if_neg f1]at q;exact nw (List.mem_map.mpr ⟨f,hf,q⟩)
  ·rcases cs e he with ⟨h1,h2⟩ | h1
   ·rw[h2];simp
   ·exact W.rk e h1
  ·rcases cs e he with ⟨h1,h2⟩ | h1
   ·rw[h2];simp
   ·exact W.rfew e h1
  ·rcases cs e he with ⟨h1,h2⟩ | h1
   ·exact h2
   ·exact emp e h1
  ·rcases cs e he with ⟨h1,h2⟩ | h1
   ·exact .inl h1
   ·exact .inr ⟨e,h1,rfl⟩
  ·rw[ke]
   constructor
   ·exact .inl
   ·rintro(z | z)
    ·exact z
    ·rw[z];exact h
 ·have ke:∀y,y ∈ (E++[((x,l,[]):Ent)]).map (·.1) ↔ y ∈ E.map (·.1)\/y=x:=fun y=>by
   rw[List.map_append,List.mem_append]
   simp
  have nd:((E++[((x,l,[]):Ent)]).map (·.1)).Nodup:=by
   rw[List.map_append,List.nodup_append]
   exact⟨W.keys,by simp,fun a ha b hb z=>h (by rw[<-(show b=x by simpa using hb),<-z];exact ha)⟩
  have ln:(E++[((x,l,[]):Ent)]).length<=20:=by
   have z:=List.Nodup.length_le_of_subset nd (l₂:=ns) fun y hy=>((ke y).mp hy).elim (sub y) fun z=>by rw[z];exact hx
   rw[List.length_map]at z
   omega
  refine⟨E++[((x,l,[]):Ent)],put_new (fun y:Addr × Row=>V.ref y.1) E x (l,[]) h,⟨upd_same,fun e he=>?_,?_,nd,fun e he=>?_,ln,fun e he=>?_⟩,fun e he=>?_,fun e he=>?_,ke⟩
  ·rcases List.mem_append.mp he with h1 | h1
   ·have n1:e.2.1 ≠ w:=fun z=>nw (List.mem_map.mpr ⟨e,h1,z⟩)
    have n2:e.2.1 ≠ l:=fun z=>nl (List.mem_map.mpr ⟨e,h1,z⟩)
    rw[upd_ne n1,upd_ne n2]
    exact W.row e h1
   ·rw[List.mem_singleton.mp h1]
    show upd _ w _ l=_
    rw[upd_ne wl.symm,upd_same];rfl
  ·rw[List.map_append,<-List.cons_append,List.nodup_append]
   refine⟨W.nd,by simp,fun a ha b hb z=>?_⟩
   have hb':b=l:=by simpa using hb
   rcases List.mem_cons.mp ha with ha | ha
   ·exact wl (by rw[<-hb',<-z,ha])
   ·exact nl (by rw[<-hb',<-z];exact ha)
  ·rcases List.mem_append.mp he with h1 | h1
   ·exact W.rk e h1
   ·rw[List.mem_singleton.mp h1];simp
  ·rcases List.mem_append.mp he with h1 | h1
   ·exact W.rfew e h1
   ·rw[List.mem_singleton.mp h1];simp
  ·rcases List.mem_append.mp he with h1 | h1
   ·exact emp e h1
   ·rw[List.mem_singleton.mp h1]
  ·rcases List.mem_append.mp he with h1 | h1
   ·exact .inr ⟨e,h1,rfl⟩
   ·rw[List.mem_singleton.mp h1];exact .inl rfl
structure Tied (H2:Hp) (w:Addr) (E0:List Ent) (H:Hp) (E:List Ent):Prop where
 web:WebAt H w E
 ok:WebOk (cont E)
 keys:E.map (·.1)=E0.map (·.1)
 adrs:E.map (·.2.1)=E0.map (·.2.1)
 rest:∀x,x ∉ E0.map (·.2.1)->H x=H2 x
theorem Tied.rd {M:Mo} {H2 H:Hp} {w q:Addr} {E0 E:List Ent} {xs:List V} (t:Tied H2 w E0 H E) (W:WebAt H2 w E0) (h:rd M H2 q=some (.lst xs)):rd M H q=some (.lst xs):=by
 rw[rd_same (t.rest q fun z=>?_)]
 ·exact h
 ·obtain⟨e,he,e1⟩:=List.mem_map.mp z
  rw[<-e1,rd_of (W.row e he) nofrz_d]at h
  cases h
theorem Tied.ext {M:Mo} {H0 H2 H:Hp} {w:Addr} {E0 E:List Ent} (t:Tied H2 w E0 H E) (W:WebAt H2 w E0) (x:Ext M H0 H2) (fr:∀e ∈ E0,H0 e.2.1=none):Ext M H0 H:=by
 constructor
 ·intro a o e
  rw[t.rest a fun z=>?_]
  ·exact x.same a o e
  ·obtain⟨f,hf,q⟩:=List.mem_map.mp z
   have:=fr f hf
   rw[q,e]at this
   cases this
 ·intro a m e
  have e2:=x.off a m e
  rw[t.rest a fun z=>?_]
  ·exact e2
  ·obtain⟨f,hf,q⟩:=List.mem_map.mp z
   have:=W.row f hf
   rw[q,e2]at this
   cases this
theorem range_get {n k:Nat} {f:Nat->V} {v:V} (h:((List.range n).map f)[k]?=some v):k < n/\v=f k:=by
 rw[List.getElem?_map]at h
 obtain⟨k',hk,rfl⟩:=Option.map_eq_some_iff.mp h
 obtain⟨hk1,hk2⟩:=List.getElem?_eq_some_iff.mp hk
 rw[List.getElem_range]at hk2
 subst hk2
 rw[List.length_range]at hk1
 exact⟨hk1,rfl⟩
end Gw
namespace Gw
open PySem PySem.Spec PyProof.Rows L2 Sw
theorem smin_at {M:Mo} {H:Hp} {a b:Str} {Q:VK} (q:Q (.str (Gr.mn slt a b)) H):bltV M .smin [.str a,.str b] H Q:=q
end Gw
namespace Gw
open PySem PySem.Spec PyProof.Rows L2 Sw
theorem comp_at {te:TE} {fvs:L2.St} {D:Addr} {stay:Hp->Prop} {H0:Hp} {k:Hp->Prop} (f:V->V):∀ (xs acc:List V),(∀ v ∈ xs,∀acc Q,Q (f v) (upd H0 D (.lst acc))->te (some v::fvs) (upd H0 D (.lst acc)) Q)->(∀ l,stay (upd H0 D (.lst l)))->acc.length + xs.length<=sizeLine->
  k (upd H0 D (.lst (acc++xs.map f)))->compW te (fun _ H Q=>Q true H) fvs D stay xs acc (upd H0 D (.lst acc)) k:=by
 intro xs
 induction xs with
 | nil=>
  intro acc h1 h2 h3 h4
  exact⟨h2 _,upd_same,by simpa using h4⟩
 | cons v r ih=>
  intro acc h1 h2 h3 h4
  refine⟨h2 _,?_⟩
  show if true=true then _ else _
  rw[if_pos rfl]
  refine h1 v List.mem_cons_self _ _ ⟨upd_same,by rw[List.length_cons]at h3;omega,?_⟩
  rw[upd_upd]
  refine ih (acc++[f v]) (fun v hv=>h1 v (List.mem_cons_of_mem _ hv)) h2 (by rw[List.length_append];simp at h3 ⊢;omega) ?_
  simpa using h4
end Gw
namespace Gw
open PySem PySem.Spec PyProof.Rows L2 Sw
theorem GrpAt.nil {H:Hp} {p:Addr} (h:H p=some (.lst [])):GrpAt H p []:=⟨h,fun y hy=>by (cases hy),by simp⟩
theorem WebAt.nil {H:Hp} {p:Addr} (h:H p=some (.dK [])):WebAt H p []:=⟨h,fun e he=>by (cases he),by simp,by simp,fun e he=>by (cases he),by simp,fun e he=>by (cases he)⟩
theorem WebOk.nil:WebOk []:=⟨by simp,fun a b h=>by (cases h),fun a b h=>by (cases h)⟩
theorem known_l {M:Mo} {H:Hp} {p:Addr} {xs:List V} (h:H p=some (.lst xs)):known M H (.ref p)=true:=by
 show(match H p with | some (.lst _)=>true | some (.tup _)=>true | some (.dK _)=>true | some (.frz _ (.lst _))=>true | _=>false)=true
 rw[h]
theorem isTy_l {H:Hp} {p:Addr} {xs:List V} (h:H p=some (.lst xs)):isTy .list H (.ref p)=true:=by
 show(match H p with | some (.lst _)=>decide (Ty.list=.list) | some (.frz _ (.lst _))=>decide (Ty.list=.list) | some (.tup _)=>decide (Ty.list=.tuple) | some (.dK _)=>decide (Ty.list=.dict) | _=>false)=true
 rw[h]
 rfl
end Gw
namespace Gk
open PySem PySem.Spec PyProof.Rows L2 Sw Gw
@[reducible] noncomputable def Pr:=Addr × Str × Str
noncomputable def refs (P:List Pr):List V:=P.map fun x=>.ref x.1
noncomputable def txs (P:List Pr):List (Str × Str):=P.map (·.2)
noncomputable def ends (L:List (Str × Str)):List Str:=(L.map fun x=>[x.1,x.2]).flatten
noncomputable def mt (L:List (Str × Str)):List (Str × Str):=(L.map fun x=>[(x.1,x.2),(x.2,x.1)]).flatten
noncomputable def sK (l:List (Str × Str)):List (Key × V):=l.map fun y=>((Sum.inr y.1:Key),V.str y.2)
theorem refs_len (P:List Pr):(refs P).length=P.length:=List.length_map _
theorem sK_len (l:List (Str × Str)):(sK l).length=l.length:=List.length_map _
theorem mt_keys:∀L:List (Str × Str),(mt L).map (·.1)=ends L
 | []=>rfl
 | x::r=>congrArg (fun l=>x.1::x.2::l) (mt_keys r)
theorem mt_snoc (L:List (Str × Str)) (a b:Str):mt (L++[(a,b)])=mt L++[(a,b)]++[(b,a)]:=by
 unfold mt
 rw[List.map_append,List.flatten_append]
 simp
theorem ends_snoc (L:List (Str × Str)) (a b:Str):ends (L++[(a,b)])=ends L++[a]++[b]:=by
 unfold ends
 rw[List.map_append,List.flatten_append]
 simp
theorem ends_len:∀L:List (Str × Str),(ends L).length=2 * L.length
 | []=>rfl
 | x::r=>by
  show(ends r).length + 1 + 1=2 * (r.length + 1)
  rw[ends_len r]
  omega
theorem mt_len (L:List (Str × Str)):(mt L).length=2 * L.length:=by
 have:=congrArg List.length (mt_keys L)
 rw[List.length_map,ends_len]at this
 exact this
theorem ends_take {L:List (Str × Str)} {n:Nat} (h:(ends L).Nodup):(ends (L.take n)).Nodup:=by
 have e:ends L=ends (L.take n)++ends (L.drop n):=by
  unfold ends
  rw[<-List.flatten_append,<-List.map_append,List.take_append_drop]
 rw[e,List.nodup_append]at h
 exact h.1
noncomputable def PrsAt (H:Hp) (P:List Pr):Prop:=∀x ∈ P,H x.1=some (.tup [.str x.2.1,.str x.2.2])
structure PlanAt (H:Hp) (p:Addr) (P:List Pr):Prop where
 at_:H p=some (.lst (refs P))
 prs:PrsAt H P
theorem nofrz_t {xs:List V}:∀b u,(HO.tup xs) ≠ .frz b u:=by intro _ _ z;cases z
theorem Ext.prs {M:Mo} {H H':Hp} {P:List Pr} (x:Ext M H H') (h:PrsAt H P):PrsAt H' P:=fun y hy=>x.same _ _ (h y hy)
theorem Ext.plan {M:Mo} {H H':Hp} {p:Addr} {P:List Pr} (x:Ext M H H') (h:PlanAt H p P):PlanAt H' p P:=⟨x.same _ _ h.at_,Ext.prs x h.prs⟩
theorem for_pairs {M:Mo} {i j:Nat} {tb:TS} {stay:Hp->Prop} {D:Ends} {P:List Pr} (Pv:Nat->L2.St->Hp->Prop) (st:∀n σ H,Pv n σ H->stay H/\PrsAt H P)
  (step:∀n x σ H (D':Ends),P[n]?=some x->Pv n σ H->(∀ σ' H',Pv (n + 1) σ' H'->D'.nx σ' H')->tb D' ((σ.set i (some (.str x.2.1))).set j (some (.str x.2.2))) H)
  (fin:∀σ H,Pv P.length σ H->D.nx σ H) {σ:L2.St} {H:Hp} (h0:Pv 0 σ H):forWT M [i,j] tb stay (refs P) D σ H:=by
 have go:∀ (r:List Pr) (n:Nat),P.drop n=r->n<=P.length->∀σ H,Pv n σ H->forWT M [i,j] tb stay (refs r) D σ H:=by
  intro r
  induction r with
  | nil=>
   intro n e hn σ H p
   have:P.length<=n:=by simpa using e
   have hn':n=P.length:=by omega
   subst hn'
   exact⟨(st _ σ H p).1,fin σ H p⟩
  | cons v r ih=>
   intro n e hn σ H p
   have hlt:n < P.length:=by
    have:=congrArg List.length e
    simp at this
    omega
   have hv:P[n]?=some v:=by
    have:=congrArg (fun l=>l[0]?) e
    simpa using this
   have hr:P.drop (n + 1)=r:=by
    have:=congrArg List.tail e
    simpa[List.tail_drop]using this
   obtain⟨s1,s2⟩:=st _ σ H p
   refine⟨s1,?_⟩
   show(match rd M H v.1 with | some (.tup xs)=>xs.length=[i,j].length/\tb _ (setAll σ [i,j] xs) H | _=>False)
   rw[rd_of (s2 v (List.mem_of_getElem? hv)) nofrz_t]
   exact⟨rfl,step n v σ H _ hv p fun σ' H' q=>ih (n + 1) hr hlt σ' H' q⟩
 exact go P 0 (by simp) (Nat.zero_le _) σ H h0
theorem txs_take {P:List Pr} {n:Nat} {x:Pr} (h:P[n]?=some x):txs (P.take (n + 1))=txs (P.take n)++[(x.2.1,x.2.2)]:=by
 unfold txs
 rw[take_snoc h,List.map_append]
 rfl
theorem sK_put {l:List (Str × Str)} {x:Str} (y:Str) (h:x ∉ l.map (·.1)):putK (sK l) (.inr x) (.str y)=sK (l++[(x,y)]):=put_new (fun s=>V.str s) l x y h
theorem mates_put {P:List Pr} {n:Nat} {x:Pr} (nd:(ends (txs P)).Nodup) (h:P[n]?=some x):
  putK (sK (mt (txs (P.take n)))) (.inr x.2.1) (.str x.2.2)=sK (mt (txs (P.take n))++[(x.2.1,x.2.2)])/\putK (sK (mt (txs (P.take n))++[(x.2.1,x.2.2)])) (.inr x.2.2) (.str x.2.1)=sK (mt (txs (P.take (n + 1)))):=by
 have e:=txs_take h
 have nd1:(ends (txs (P.take (n + 1)))).Nodup:=by
  have:txs (P.take (n + 1))=(txs P).take (n + 1):=List.map_take
  rw[this]
  exact ends_take nd
 rw[e,ends_snoc,<-mt_keys]at nd1
 rw[e,mt_snoc]
 have n1:x.2.1 ∉ (mt (txs (P.take n))).map (·.1):=fun z=>by
  have:=(List.nodup_append.mp (List.nodup_append.mp nd1).1).2.2 _ z x.2.1 (by simp)
  exact this rfl
 have n2:x.2.2 ∉ (mt (txs (P.take n))++[(x.2.1,x.2.2)]).map (·.1):=fun z=>by
  rw[List.map_append]at z
  have:=(List.nodup_append.mp nd1).2.2 _ z x.2.2 (by simp)
  exact this rfl
 exact⟨sK_put _ n1,sK_put _ n2⟩
theorem mt_few {P:List Pr} {n:Nat} (h:P.length<=20):(mt (txs (P.take n))).length<=40:=by
 rw[mt_len]
 unfold txs
 rw[List.length_map,List.length_take]
 omega
end Gk
namespace Gk
open PySem PySem.Spec PyProof.Rows L2 Sw Gw
theorem comp_inv {te:TE} {tt:TT} {fvs:L2.St} {D:Addr} {stay:Hp->Prop} {k:Hp->Prop} {xs:List V} (Pv:Nat->List V->Hp->Prop) (st:∀n acc H,Pv n acc H->stay H/\H D=some (.lst acc))
  (step:∀n v acc H (K:List V->Hp->Prop),xs[n]?=some v->Pv n acc H->(∀ acc' H',Pv (n + 1) acc' H'->K acc' H')->tt (some v::fvs) H fun ok H1=>if ok=true then te (some v::fvs) H1 fun y H2=>H2 D=some (.lst acc)/\acc.length < sizeLine/\K (acc++[y]) (upd H2 D (.lst (acc++[y])))else K acc H1)
  (fin:∀acc H,Pv xs.length acc H->k H) {acc:List V} {H:Hp} (h0:Pv 0 acc H):compW te tt fvs D stay xs acc H k:=by
 have go:∀ (r:List V) (n:Nat),xs.drop n=r->n<=xs.length->∀acc H,Pv n acc H->compW te tt fvs D stay r acc H k:=by
  intro r
  induction r with
  | nil=>
   intro n e hn acc H p
   have:xs.length<=n:=by simpa using e
   have hn':n=xs.length:=by omega
   subst hn'
   exact⟨(st _ _ _ p).1,(st _ _ _ p).2,fin acc H p⟩
  | cons v r ih=>
   intro n e hn acc H p
   have hlt:n < xs.length:=by
    have:=congrArg List.length e
    simp at this
    omega
   have hv:xs[n]?=some v:=by
    have:=congrArg (fun l=>l[0]?) e
    simpa using this
   have hr:xs.drop (n + 1)=r:=by
    have:=congrArg List.tail e
    simpa[List.tail_drop]using this
   exact⟨(st _ _ _ p).1,step n v acc H (fun acc' H'=>compW te tt fvs D stay r acc' H' k) hv p fun acc' H' q=>ih (n + 1) hr hlt acc' H' q⟩
 exact go xs 0 (by simp) (Nat.zero_le _) acc H h0
end Gk
namespace Gk
open PySem PySem.Spec PyProof.Rows L2 Sw Gw
theorem lt2_iff (x y:Str × Str):lt2 x y=true ↔ slt x.1 y.1\/(x.1=y.1/\slt x.2 y.2):=by
 unfold lt2
 by_cases e:x.1=y.1
 ·rw[if_pos e]
  constructor
  ·intro h
   exact .inr ⟨e,of_decide_eq_true h⟩
  ·rintro(h | ⟨_,h⟩)
   ·rw[e]at h
    exact(tot_slt.irr _ h).elim
   ·exact decide_eq_true h
 ·rw[if_neg e]
  constructor
  ·intro h
   exact .inl (of_decide_eq_true h)
  ·rintro(h | ⟨h,_⟩)
   ·exact decide_eq_true h
   ·exact(e h).elim
theorem tot2:Gr.Tot (fun x y:Str × Str=>lt2 x y=true) where
 irr:=fun a h=>by
  rcases(lt2_iff _ _).mp h with h | ⟨_,h⟩
  ·exact tot_slt.irr _ h
  ·exact tot_slt.irr _ h
 tr:=fun a b c h k=>by
  rw[lt2_iff]at h k ⊢
  rcases h with h | ⟨e,h⟩
  ·rcases k with k | ⟨f,k⟩
   ·exact .inl (tot_slt.tr _ _ _ h k)
   ·rw[<-f];exact .inl h
  ·rcases k with k | ⟨f,k⟩
   ·rw[e];exact .inl k
   ·exact .inr ⟨e.trans f,tot_slt.tr _ _ _ h k⟩
 tri:=fun a b ne=>by
  rw[lt2_iff,lt2_iff]
  by_cases e:a.1=b.1
  ·rcases tot_slt.tri a.2 b.2 (fun z=>ne (Prod.ext e z))with k | k
   ·exact .inl (.inr ⟨e,k⟩)
   ·exact .inr (.inr ⟨e.symm,k⟩)
  ·rcases tot_slt.tri _ _ e with k | k
   ·exact .inl (.inl k)
   ·exact .inr (.inl k)
noncomputable def Rising (L:List (Str × Str)):Prop:=L.Pairwise fun x y=>lt2 x y=true
theorem rising_of:∀ {L:List (Str × Str)},L.Pairwise (fun x y=>lt2 y x=false)->L.Nodup->Rising L
 | [],_,_=>.nil
 | x::r,h,nd=>by
  rw[List.pairwise_cons]at h
  rw[List.nodup_cons]at nd
  refine List.pairwise_cons.mpr ⟨fun y hy=>?_,rising_of h.2 nd.2⟩
  rcases tot2.tri x y (fun z=>nd.1 (by rw[z];exact hy))with z | z
  ·exact z
  ·rw[h.1 y hy]at z
   cases z
theorem rising_same {L L':List (Str × Str)} (h:Rising L) (h':Rising L') (m:∀x,x ∈ L ↔ x ∈ L'):L=L':=tot2.ext h h' m
theorem lookup_keys {l:List (Str × Str)} {x:Str} (h:x ∈ l.map (·.1)):∃y,l.lookup x=some y/\(x,y) ∈ l:=by
 obtain⟨z,hz,e⟩:=List.mem_map.mp h
 cases q:l.lookup x with
 | some y=>exact⟨y,rfl,lookup_some q⟩
 | none=>
  exfalso
  induction l with
  | nil=>cases hz
  | cons u r ih=>
   obtain⟨n,b⟩:=u
   rw[List.lookup_cons]at q
   cases w:(x == n)with
   | true=>rw[w]at q;cases q
   | false=>
    rw[w]at q
    rcases List.mem_cons.mp hz with hz | hz
    ·subst hz
     exact absurd e.symm (by simpa using w)
    ·exact ih (List.mem_map.mpr ⟨z,hz,e⟩) hz q
end Gk
namespace Gk
open PySem PySem.Spec PyProof.Rows L2 Sw Gw
theorem perm_map_inv {α β:Type} {f:α->β}:∀ {l:List α} {ws:List β},ws.Perm (l.map f)->∃l':List α,l'.Perm l/\ws=l'.map f
 | [],ws,h=>⟨[],.nil,by rw[List.map_nil]at h;rw[h.eq_nil];rfl⟩
 | x::r,ws,h=>by
  have hm:f x ∈ ws:=h.mem_iff.mpr (by simp)
  obtain⟨s,t,rfl⟩:=List.append_of_mem hm
  have h2:(s++t).Perm (r.map f):=by
   have:=(List.perm_middle (a:=f x) (l₁:=s) (l₂:=t)).symm.trans h
   exact List.Perm.cons_inv this
  obtain⟨l',p,e⟩:=perm_map_inv h2
  obtain⟨A,B,rfl,e1,e2⟩:=List.map_eq_append_iff.mp e.symm
  exact⟨A++x::B,List.perm_middle.trans (p.cons x),by rw[List.map_append,List.map_cons,e1,e2]⟩
theorem pairK_of {M:Mo} {H:Hp} {P:List Pr} (h:PrsAt H P) {x:Pr} (hx:x ∈ P):pairK M H (.ref x.1)=some x.2:=by
 show(match rd M H x.1 with
  | some (.tup [.str a,.str b])=>some (a,b)
  | _=>none)=_
 rw[rd_of (h x hx) nofrz_t]
theorem sort_pairs {M:Mo} {H:Hp} {p:Addr} {P:List Pr} {Q:VK} (hp:PlanAt H p P) (nd:(txs P).Nodup) (few:P.length < 64)
  (h:∀P' q,P'.Perm P->Rising (txs P')->H q=none->M q=none->Q (.ref q) (upd H q (.lst (refs P')))):b2V M .sortT (.ref p) H Q:=by
 show(match rd M H p with
  | some (.lst xs)=>(xs.length < 64/\xs.all (fun x=>(pairK M H x).isSome)=true)/\∀ws l,List.Perm ws xs->ws.Pairwise (fun x y=>∀a b,pairK M H x=some a->pairK M H y=some b->lt2 b a=false)->H l=none->M l=none->Q (.ref l) (upd H l (.lst ws))
  | _=>False)
 rw[rd_of hp.at_ nofrz_l]
 refine⟨⟨by rw[refs_len];exact few,?_⟩,fun ws q pm pw hq mq=>?_⟩
 ·rw[List.all_eq_true]
  intro v hv
  obtain⟨x,hx,rfl⟩:=List.mem_map.mp hv
  rw[pairK_of hp.prs hx]
  rfl
 ·obtain⟨P',p1,rfl⟩:=perm_map_inv (f:=fun x:Pr=>V.ref x.1) pm
  have sub:∀x ∈ P',x ∈ P:=fun x hx=>p1.mem_iff.mp hx
  refine h P' q p1 (rising_of ?_ ((p1.map _).nodup_iff.mpr nd)) hq mq
  rw[List.pairwise_map]at pw
  unfold txs
  rw[List.pairwise_map]
  exact pw.imp_of_mem fun{x y} hx hy z=>z x.2 y.2 (pairK_of hp.prs (sub x hx)) (pairK_of hp.prs (sub y hy))
theorem v_lts {M:Mo} {H:Hp} {Q:VK} (x y:Str):cmpV M .Lt (.str x) (.str y) H Q=Q (.bl (decide (slt x y))) H:=rfl
end Gk
namespace Gk
open PySem PySem.Spec PyProof.Rows L2 Sw Gw
@[reducible] noncomputable def N__law_cell:List Str:=["_law_script","_law_k"]
noncomputable def b__law_cell:Sxs:=(.cons (.iff (.cmp .Lt (.var 1) (.blt .len (.cons (.var 0) .nil))) (.cons (.ret (.idx (.var 0) (.var 1)))
 .nil) .nil)
 (.cons (.ret (.con (.int 0)))
 .nil))
@[reducible] noncomputable def N__law_mix:List Str:=["_law_cell_here","_law_k","_law_number"]
noncomputable def b__law_mix:Sxs:=(.cons (.asg 2 (.bin .Mod (.bin .Add (.bin .Add (.bin .Mult (.bin .Mod (.var 0) (.con (.int 2147483629))) (.con (.int 48271))) (.bin .Mult (.con (.int 7919)) (.var 1))) (.con (.int 104729))) (.con (.int 2147483629))))
 (.cons (.asg 2 (.bin .Mod (.bin .Mult (.var 2) (.var 2)) (.con (.int 2147483629))))
 (.cons (.ret (.bin .Mod (.bin .Mult (.bin .Add (.var 2) (.var 1)) (.bin .Add (.var 2) (.var 1))) (.con (.int 2147483587))))
 .nil)))
@[reducible] noncomputable def N__law_join:List Str:=["_law_web_here","_law_one","_law_other","_law_draw","_law_worth"]
noncomputable def b__law_join:Sxs:=(.cons (.asg 4 (.bin .Add (.con (.int 1)) (.bin .Mod (.bin .Mult (.var 3) (.con (.int 982451653))) (.bin .Pow (.con (.int 10)) (.con (.int 12))))))
 (.cons (.sto (.idxD (.var 0) (.var 1)) (.var 2) (.var 4))
 (.cons (.sto (.idxD (.var 0) (.var 2)) (.var 1) (.var 4))
 .nil)))
theorem ok_cell {M:Mo} {Γ:Gam} (hM:Γ.mod=M) (hc:Γ.cm=true) (vs:List V) (H:Hp) (Q:VK) (E:XK) (h:spCell M vs H Q E):spOf Γ N__law_cell 2 b__law_cell vs H Q E:=by
 subst hM
 obtain⟨a,i,ns,rfl,h0,ha,h⟩:=h
 refine⟨rfl,?_⟩
 unfold b__law_cell
 walk_at "sw"
 refine⟨hc,?_⟩
 rw[Sw.b_lenr,ha]
 dsimp only
 rw[Sw.v_lt]
 refine⟨_,rfl,?_⟩
 by_cases q:i < (ns.map V.int).length
 ·rw[if_pos (by simpa using q)]
  obtain⟨x,e1,e2⟩:=atI_at h0 q
  obtain⟨n,_,rfl⟩:=List.mem_map.mp e2
  exact ix_at ha e1 (h n)
 ·rw[if_neg (by simpa using q)]
  exact h 0
noncomputable def mixF (c k:Int):Int:=
 let n1:=(c % 2147483629 * 48271 + 7919 * k + 104729) % 2147483629
 let n2:=n1 * n1 % 2147483629
 (n2 + k) * (n2 + k) % 2147483587
noncomputable def spMix:Sp:=fun vs H Q _=>∃c k,vs=[.int c,.int k]/\0<=k/\k<=1000/\∀z,z=mixF c k->0<=z->z < 2147483587->Q (.int z) H
theorem ok_mix {Γ:Gam} (vs:List V) (H:Hp) (Q:VK) (E:XK) (h:spMix vs H Q E):spOf Γ N__law_mix 2 b__law_mix vs H Q E:=by
 obtain⟨c,k,rfl,h0,h1,h⟩:=h
 refine⟨rfl,?_⟩
 unfold b__law_mix
 walk_at "sw"
 walk_at "sv"
 have r1:∀x:Int,0<=x % 2147483629/\x % 2147483629 < 2147483629:=fun x=>⟨Int.emod_nonneg _ (by decide),Int.emod_lt_of_pos _ (by decide)⟩
 have b1:∀x:Int,bnd (x % 2147483629)=true:=fun x=>bnd_of (by have:=r1 x;omega) (by have:=r1 x;omega)
 have b2:∀x:Int,bnd (x % 2147483629 + k)=true:=fun x=>bnd_of (by have:=r1 x;omega) (by have:=r1 x;omega)
 have bk:bnd k=true:=bnd_of (by omega) (by omega)
 refine⟨by decide,by rw[b1];simp,by rw[bk];simp,by decide,by rw[b1];simp,by decide,by rw[b2];simp,by decide,?_⟩
 exact h _ (by unfold mixF;rfl) (Int.emod_nonneg _ (by decide)) (Int.emod_lt_of_pos _ (by decide))
noncomputable def putR (r:Gw.Row) (b:Str) (v:Int):Gw.Row:=if b ∈ r.map (·.1)then r.map fun y=>if y.1=b then(y.1,v)else y else r++[(b,v)]
theorem putR_K (r:Gw.Row) (b:Str) (v:Int):putK (rowK r) (.inr b) (.int v)=rowK (putR r b v):=by
 unfold putR
 by_cases h:b ∈ r.map (·.1)
 ·rw[if_pos h];exact put_old (fun i=>V.int i) r b v h
 ·rw[if_neg h];exact put_new (fun i=>V.int i) r b v h
theorem putR_map (r:Gw.Row) (b:Str) (v:Int):(r.map fun y=>if y.1=b then(y.1,v)else y).map (·.1)=r.map (·.1):=by
 rw[List.map_map]
 refine List.map_congr_left fun y _=>?_
 show(if y.1=b then(y.1,v)else y).1=y.1
 split<;>rfl
theorem putR_keys (r:Gw.Row) (b:Str) (v:Int) (x:Str):x ∈ (putR r b v).map (·.1) ↔ x ∈ r.map (·.1)\/x=b:=by
 unfold putR
 by_cases h:b ∈ r.map (·.1)
 ·rw[if_pos h,putR_map]
  exact⟨.inl,fun z=>z.elim id fun e=>by rw[e];exact h⟩
 ·rw[if_neg h,List.map_append,List.mem_append]
  simp
theorem putR_nd {r:Gw.Row} (b:Str) (v:Int) (nd:(r.map (·.1)).Nodup):((putR r b v).map (·.1)).Nodup:=by
 unfold putR
 by_cases h:b ∈ r.map (·.1)
 ·rw[if_pos h,putR_map];exact nd
 ·rw[if_neg h,List.map_append,List.nodup_append]
  exact⟨nd,by simp,fun x hx y hy z=>h (by rw[<-(show y=b by simpa using hy),<-z];exact hx)⟩
structure Web3 (W:Web):Prop where
 ok:WebOk W
 no:∀a,a ∉ adjW W a
noncomputable def spJoin:Sp:=fun vs H Q _=>∃w E a b d,vs=[.ref w,.str a,.str b,.int d]/\WebAt H w E/\Web3 (cont E)/\a ≠ b/\a ∈ E.map (·.1)/\b ∈ E.map (·.1)/\
 ∀H' E',WebAt H' w E'->Web3 (cont E')->E'.map (·.1)=E.map (·.1)->E'.map (·.2.1)=E.map (·.2.1)->(∀ x,x ∉ E.map (·.2.1)->H' x=H x)->Q .non H'
theorem ok_join {M:Mo} {Γ:Gam} (gm:Γ.mod=M) (vs:List V) (H:Hp) (Q:VK) (X:XK) (h:spJoin vs H Q X):spOf Γ N__law_join 4 b__law_join vs H Q X:=by
 obtain⟨w,E,a,b,d,rfl,W,ok,q,ha,hb,h⟩:=h
 refine⟨rfl,?_⟩
 obtain rfl:=gm
 unfold b__law_join
 refine seq ?_
 walk_at "s1"
 rw[Sw.v_mul]
 refine⟨bnd_r (by decide) (by decide),?_⟩
 rw[Sw.v_pow]
 refine⟨⟨by decide,by decide,by decide⟩,?_⟩
 rw[Sw.v_mod]
 refine⟨by decide,?_⟩
 rw[Sw.v_add]
 generalize 1 + d * 982451653 % (10:Int) ^ (12:Int).toNat=v
 obtain⟨⟨pa,ra⟩,_,ma⟩:=look_at ha
 obtain⟨⟨pb,rb⟩,_,mb⟩:=look_at hb
 have aa:=adj_in W.keys ma
 have ab:=adj_in W.keys mb
 have kka:∀x ∈ ra.map (·.1),x ∈ E.map (·.1):=fun x hx=>by rw[<-cont_keys];exact ok.ok.cl a x (by rw[aa];exact hx)
 have kkb:∀x ∈ rb.map (·.1),x ∈ E.map (·.1):=fun x hx=>by rw[<-cont_keys];exact ok.ok.cl b x (by rw[ab];exact hx)
 have few:=W.few
 refine seq ?_
 walk_at "s1"
 refine idx_web W ma (sto_at (x:=b) (W.row _ ma) (by rw[rowK_len,sizeLine_eq];have:=W.rfew _ ma;dsimp only at this ⊢;omega) ?_)
 rw[putR_K]
 have n1:=putR_nd b v (W.rk _ ma)
 have W1:=W.set ma (row':=putR ra b v) n1 (row_few (W:=cont E) n1 (fun x hx=>by
  rcases(putR_keys _ _ _ _).mp hx with hx | hx
  ·exact kka x hx
  ·rw[hx];exact hb) few)
 have mb1:=setRow_other (x:=a) (row':=putR ra b v) mb (fun z=>q z.symm)
 refine seq ?_
 walk_at "s1"
 refine idx_web W1 mb1 (sto_at (x:=a) (W1.row _ mb1) (by rw[rowK_len,sizeLine_eq];have:=W.rfew _ mb;dsimp only at this ⊢;omega) ?_)
 dsimp only
 rw[putR_K]
 have n2:=putR_nd a v (W.rk _ mb)
 have W2:=W1.set mb1 (row':=putR rb a v) n2 (row_few (W:=cont E) n2 (fun x hx=>by
  rcases(putR_keys _ _ _ _).mp hx with hx | hx
  ·exact kkb x hx
  ·rw[hx];exact ha) few)
 have ad:∀x y,y ∈ adjW (cont (setRow b (putR rb a v) (setRow a (putR ra b v) E))) x ↔ y ∈ adjW (cont E) x\/(x=a/\y=b)\/(x=b/\y=a):=fun x y=>by
  rw[setRow_adj (by rw[setRow_keys];exact hb),setRow_adj ha]
  by_cases z:x=b
  ·subst z
   have:¬x=a:=fun u=>q u.symm
   rw[if_pos rfl,putR_keys,ab]
   simp[this]
  ·rw[if_neg z]
   by_cases z2:x=a
   ·subst z2
    rw[if_pos rfl,putR_keys,aa]
    simp[z]
   ·rw[if_neg z2]
    simp[z,z2]
 walk_at "sw"
 refine h _ _ W2 ⟨⟨by rw[cont_keys,setRow_keys,setRow_keys];exact W.keys,fun x y hy=>?_,fun x y hy=>?_⟩,fun x hx=>?_⟩ (by rw[setRow_keys,setRow_keys]) (by rw[setRow_adrs,setRow_adrs]) fun x hx=>?_
 ·rw[ad]at hy ⊢
  rcases hy with hy | ⟨h1,h2⟩ | ⟨h1,h2⟩
  ·exact .inl (ok.ok.sy x y hy)
  ·exact .inr (.inr ⟨h2,h1⟩)
  ·exact .inr (.inl ⟨h2,h1⟩)
 ·rw[ad]at hy
  rw[cont_keys,setRow_keys,setRow_keys]
  rcases hy with hy | ⟨h1,h2⟩ | ⟨h1,h2⟩
  ·rw[<-cont_keys];exact ok.ok.cl x y hy
  ·rw[h2];exact hb
  ·rw[h2];exact ha
 ·rw[ad]at hx
  rcases hx with hy | ⟨h1,h2⟩ | ⟨h1,h2⟩
  ·exact ok.no x hy
  ·exact q (h1.symm.trans h2)
  ·exact q (h2.symm.trans h1)
 ·have na:x ≠ pa:=fun z=>hx (List.mem_map.mpr ⟨_,ma,z.symm⟩)
  have nb:x ≠ pb:=fun z=>hx (List.mem_map.mpr ⟨_,mb,z.symm⟩)
  rw[upd_ne nb,upd_ne na]
end Gk
namespace Gk
open PySem PySem.Spec PyProof.Rows L2 Sw Gw
@[reducible] noncomputable def N__law_pairs:List Str:=["_law_web_here","_law_found","_law_one"]
noncomputable def b__law_pairs:Sxs:=(.cons (.asg 1 (.lst .nil))
 (.cons (.fr 2 (.ex (.blt .dsorted (.cons (.var 0) .nil))) (.cons (.exp (.mth .extend (.var 1) (.cons (.comp "_law_other" [("_law_one",2)] (.ex (.blt .dsorted (.cons (.idxD (.var 0) (.var 2)) .nil))) (.tup (.cons (.var 1) (.cons (.var 0) .nil))) (.cons (.cmp .Lt (.var 1) (.var 0)) .nil)) .nil)))
 .nil))
 (.cons (.ret (.var 1))
 .nil)))
theorem rowK_keys:∀r:Gw.Row,allM asS ((rowK r).map fun y=>kV y.1)=some (r.map (·.1))
 | []=>rfl
 | y::r=>by
  have ih:=rowK_keys r
  have q:((rowK (y::r)).map fun y=>kV y.1)=V.str y.1::((rowK r).map fun y=>kV y.1):=rfl
  rw[q]
  unfold allM
  rw[ih]
  rfl
theorem srt_row {M:Mo} {H:Hp} {p:Addr} {r:Gw.Row} {Q:VK} (h:H p=some (.dK (rowK r))) (q:newSorted M (r.map (·.1)) H Q):bltV M .dsorted [.ref p] H Q:=by
 show(match H p with
  | some (.dK kvs)=>(match allM asS (kvs.map fun y=>kV y.1)with
   | some ts=>newSorted M ts H Q
   | none=>False)
  | _=>False)
 rw[h]
 dsimp only
 rw[rowK_keys]
 exact q
theorem extend_at {M:Mo} {H:Hp} {p b:Addr} {xs ys:List V} {Q:VK} (h1:H p=some (.lst xs)) (h2:H b=some (.lst ys)) (hl:xs.length + ys.length<=sizeLine) (q:Q .non (upd H p (.lst (xs++ys)))):mthV M .extend (.ref p) [.ref b] H Q:=by
 show(match H p,H b with
  | some (.lst xs),some (.lst ys)=>xs.length + ys.length<=sizeLine/\Q .non (upd H p (.lst (xs++ys)))
  | _,_=>False)
 rw[h1,h2]
 exact⟨hl,q⟩
theorem refs_app (P P':List Pr):refs P++refs P'=refs (P++P'):=(List.map_append).symm
theorem PrsAt.app {H:Hp} {P P':List Pr} (h:PrsAt H P) (h':PrsAt H P'):PrsAt H (P++P'):=fun x hx=>(List.mem_append.mp hx).elim (h x) (h' x)
theorem PrsAt.upd {H:Hp} {P:List Pr} {p:Addr} {xs:List V} {o:HO} (h:PrsAt H P) (hp:H p=some (.lst xs)):PrsAt (upd H p o) P:=fun x hx=>by
 rw[upd_ne (fun z=>by have:=h x hx;rw[z,hp]at this;cases this)]
 exact h x hx
theorem PrsAt.new {H:Hp} {P:List Pr} {p:Addr} {o:HO} (h:PrsAt H P) (hp:H p=none):PrsAt (L2.upd H p o) P:=fun x hx=>by
 rw[upd_ne (ne_of_none (h x hx) hp)]
 exact h x hx
noncomputable def Good (E:List Ent) (P:List Pr):Prop:=∀x ∈ P,slt x.2.1 x.2.2/\x.2.2 ∈ adj E x.2.1
noncomputable def spPairs (M:Mo):Sp:=fun vs H Q _=>∃w E,vs=[.ref w]/\WebAt H w E/\M w=none/\
 ∀H' q P,Ext M H H'->H q=none->M q=none->PlanAt H' q P->Good E P->P.length<=400->Q (.ref q) H'
theorem ok_pairs {M:Mo} {Γ:Gam} (gm:Γ.mod=M) (gc:Γ.cm=true) (vs:List V) (H:Hp) (Q:VK) (X:XK) (h:spPairs M vs H Q X):spOf Γ N__law_pairs 1 b__law_pairs vs H Q X:=by
 obtain⟨w,E,rfl,W,mw,h⟩:=h
 refine⟨rfl,?_⟩
 obtain rfl:=gm
 unfold b__law_pairs
 refine seq ?_
 walk_at "s1"
 refine⟨by rw[sizeLine_eq];simp,fun q hq mq=>?_⟩
 have x0:Ext Γ.mod H (upd H q (.lst [])):=Ext.upd hq mq
 refine seq ?_
 walk_at "s1"
 refine⟨gc,gc,srt_top (Ext.web x0 W).top ⟨by rw[List.length_map];have:=W.few;omega,fun ss b pm so hb mb=>?_⟩⟩
 have qb:q ≠ b:=fun z=>by subst z;rw[upd_same]at hb;cases hb
 have hb0:=x0.non hb
 have x1:Ext Γ.mod H (upd (upd H q (.lst [])) b (.lst (ss.map V.str))):=x0.upd3 hb0 mb
 have sl:ss.length<=20:=by rw[pm.length_eq,List.length_map];exact W.few
 refine iter_l (rd_of upd_same nofrz_l) ?_
 refine for_inv (fun n σ Hn=>∃v2 P,σ=[some (.ref w),some (.ref q),v2]/\Ext Γ.mod H Hn/\Hn q=some (.lst (refs P))/\Hn b=some (.lst (ss.map V.str))/\PrsAt Hn P/\Good E P/\P.length<=20 * n) (fun n σ Hn z=>?_) (fun n v σ Hn D' hv pv nx ct _ _=>?_) (fun σ Hn pv=>?_)
  ⟨none,[],rfl,x1,by rw[upd_ne qb];exact upd_same,upd_same,fun x hx=>by (cases hx),fun x hx=>by (cases hx),by simp⟩
 ·obtain⟨_,_,_,_,_,z,_⟩:=z
  exact rd_of z nofrz_l
 ·obtain⟨v2,P,rfl,xn,zq,zb,pr,gd,few⟩:=pv
  rw[List.getElem?_map]at hv
  obtain⟨c,hc,rfl⟩:=Option.map_eq_some_iff.mp hv
  obtain⟨hn,_⟩:=List.getElem?_eq_some_iff.mp hc
  have mc:c ∈ E.map (·.1):=pm.mem_iff.mp (List.mem_of_getElem? hc)
  obtain⟨⟨pc,rc⟩,lc,mc'⟩:=look_at mc
  have Wn:=Ext.web xn W
  have ac:adj E c=rc.map (·.1):=adj_of lc
  refine seq ?_
  dsimp only[Sw.wS,Sw.wE,Sw.wEs,Sw.wTs,Sw.wI,Sw.vars,Sw.r_get0,Sw.r_getS,Sw.r_set0,Sw.r_setS,Sw.r_map0,Sw.r_mapS,Sw.r_app0,Sw.r_appS,Sw.r_join]
  refine⟨mty_l zq,gc,gc,idx_web Wn mc' (srt_row (Wn.row _ mc') ⟨by rw[List.length_map];exact Nat.lt_of_le_of_lt (W.rfew _ mc') (by decide),fun ts d pd sd hd md=>?_⟩)⟩
  have xd:Ext Γ.mod Hn (upd Hn d (.lst (ts.map V.str))):=Ext.upd hd md
  have tl:ts.length<=20:=by rw[pd.length_eq,List.length_map];exact W.rfew _ mc'
  refine iter_l (rd_of upd_same nofrz_l) fun D hD mD=>?_
  have dD:d ≠ D:=fun z=>by subst z;rw[upd_same]at hD;cases hD
  have hD0:=xd.non hD
  refine comp_inv (fun m acc Hm=>∃P2:List Pr,acc=refs P2/\Hm D=some (.lst (refs P2))/\Hm d=some (.lst (ts.map V.str))/\PrsAt Hm P2/\Ext Γ.mod Hn Hm/\Good E P2/\P2.length<=m) (fun m acc Hm z=>?_) (fun m v acc Hm K hv pv nx2=>?_) (fun acc Hm pv=>?_)
   ⟨[],rfl,upd_same,by rw[upd_ne dD];exact upd_same,fun x hx=>by (cases hx),xd.upd3 hD0 mD,fun x hx=>by (cases hx),by simp⟩
  ·obtain⟨P2,rfl,z1,z2,_⟩:=z
   exact⟨rd_of z2 nofrz_l,z1⟩
  ·obtain⟨P2,rfl,z1,z2,z3,z4,z5,z6⟩:=pv
   rw[List.getElem?_map]at hv
   obtain⟨o,ho,rfl⟩:=Option.map_eq_some_iff.mp hv
   obtain⟨hm,_⟩:=List.getElem?_eq_some_iff.mp ho
   walk_at "s1"
   rw[v_lts]
   refine⟨_,rfl,?_⟩
   by_cases lt:slt c o
   ·rw[if_pos (decide_eq_true lt)]
    refine⟨by rw[sizeLine_eq];simp,fun t ht mt=>⟨?_,?_,nx2 _ _ ⟨P2++[(t,c,o)],?_,?_,?_,?_,?_,?_,?_⟩⟩⟩
    ·rw[upd_ne (ne_of_none z1 ht)];exact z1
    ·rw[refs_len,sizeLine_eq];omega
    ·rw[<-refs_app];rfl
    ·rw[upd_same,<-refs_app];rfl
    ·rw[upd_ne dD,upd_ne (ne_of_none z2 ht)];exact z2
    ·refine PrsAt.upd (xs:=refs P2) (PrsAt.app (PrsAt.new z3 ht) fun x hx=>?_) (by rw[upd_ne (ne_of_none z1 ht)];exact z1)
     rw[List.mem_singleton.mp hx];exact upd_same
    ·exact(z4.upd3 (z4.non ht) mt).upd3 hD0 mD
    ·intro x hx
     rcases List.mem_append.mp hx with hx | hx
     ·exact z5 x hx
     ·rw[List.mem_singleton.mp hx]
      exact⟨lt,by rw[ac];exact pd.mem_iff.mp (List.mem_of_getElem? ho)⟩
    ·rw[List.length_append];simp;omega
   ·rw[if_neg (by rw[decide_eq_true_iff];exact lt)]
    exact nx2 _ _ ⟨P2,rfl,z1,z2,z3,z4,z5,by omega⟩
  ·obtain⟨P2,rfl,z1,z2,z3,z4,z5,z6⟩:=pv
   rw[List.length_map]at z6
   have zq2:=z4.same _ _ zq
   refine extend_at zq2 z1 (by rw[refs_len,refs_len,sizeLine_eq];omega) ?_
   rw[refs_app]
   refine seq0 (nx _ _ ⟨_,P++P2,rfl,((xn.trans z4).upd3 hq mq),upd_same,by rw[upd_ne (fun z=>qb z.symm)];exact z4.same _ _ zb,PrsAt.upd (PrsAt.app (Ext.prs z4 pr) z3) zq2,fun x hx=>(List.mem_append.mp hx).elim (gd x) (z5 x),by rw[List.length_append];omega⟩)
 ·obtain⟨v2,P,rfl,xn,zq,zb,pr,gd,few⟩:=pv
  rw[List.length_map]at few
  walk_at "sw"
  exact h Hn q P xn hq mq ⟨zq,pr⟩ gd (by omega)
end Gk
namespace Gk
open PySem PySem.Spec PyProof.Rows L2 Sw Gw
@[reducible] noncomputable def N__law_plan:List Str:=["_law_web_here","_law_cell_here","_law_ahead","_law_digits","_law_pairs_here","_law_drawn","_law_pair","_law_found","_law_seen","_law_draw"]
noncomputable def b__law_plan:Sxs:=(.cons (.asg 4 (.call "_law_pairs" (.cons (.var 0) .nil)))
 (.cons (.asg 5 (.blt2 .sortM (.comp "_law_k" [("_law_cell_here",1),("_law_pairs_here",4)] (.rng1 (.blt .len (.cons (.var 4) .nil))) (.tup (.cons (.call "_law_mix" (.cons (.var 1) (.cons (.bin .Add (.con (.int 500)) (.var 0)) .nil))) (.cons (.idx (.var 2) (.var 0)) .nil))) .nil)))
 (.cons (.iff (.cmp .Eq (.bin .Mod (.var 3) (.con (.int 2))) (.con (.int 1))) (.cons (.asg 5 (.lst .nil))
 (.cons (.fr 6 (.ex (.var 4)) (.cons (.exp (.mth .append (.var 5) (.cons (.tup (.cons (.bin .Mod (.var 1) (.con (.int 2))) (.cons (.var 6) .nil))) .nil)))
  (.cons (.asg 1 (.bin .FloorDiv (.var 1) (.con (.int 2))))
  .nil)))
 .nil)) .nil)
 (.cons (.asg 7 (.blt .list (.cons (.var 2) .nil)))
 (.cons (.asg 8 (.lst .nil))
 (.cons (.fr 6 (.ex (.var 2)) (.cons (.exp (.mth .extend (.var 8) (.cons (.blt .list (.cons (.var 6) .nil)) .nil)))
 .nil))
 (.cons (.frT [9,6] (.ex (.var 5)) (.cons (.iff (.and (.cmp .Gt (.bin .Mod (.var 9) (.con (.int 8))) (.con (.int 0))) (.and (.cmp .NotIn (.idx (.var 6) (.con (.int 0))) (.var 8)) (.cmp .NotIn (.idx (.var 6) (.con (.int 1))) (.var 8)))) (.cons (.exp (.mth .append (.var 7) (.cons (.var 6) .nil)))
  (.cons (.exp (.mth .extend (.var 8) (.cons (.blt .list (.cons (.var 6) .nil)) .nil)))
  .nil)) .nil)
 .nil))
 (.cons (.ret (.blt2 .sortT (.var 7)))
 .nil))))))))
@[reducible] noncomputable def Dr:=Addr × Int × Pr
noncomputable def drs (T:List Dr):List V:=T.map fun t=>.ref t.1
theorem drs_len (T:List Dr):(drs T).length=T.length:=List.length_map _
theorem drs_app (P P':List Dr):drs P++drs P'=drs (P++P'):=(List.map_append).symm
noncomputable def DrsAt (H:Hp) (T:List Dr):Prop:=∀t ∈ T,H t.1=some (.tup [.int t.2.1,.ref t.2.2.1])
theorem DrsAt.ext {M:Mo} {H H':Hp} {T:List Dr} (x:Ext M H H') (h:DrsAt H T):DrsAt H' T:=fun t ht=>x.same _ _ (h t ht)
theorem DrsAt.upd {H:Hp} {P:List Dr} {p:Addr} {xs:List V} {o:HO} (h:DrsAt H P) (hp:H p=some (.lst xs)):DrsAt (upd H p o) P:=fun x hx=>by
 rw[upd_ne (fun z=>by have:=h x hx;rw[z,hp]at this;cases this)]
 exact h x hx
theorem DrsAt.new {H:Hp} {P:List Dr} {p:Addr} {o:HO} (h:DrsAt H P) (hp:H p=none):DrsAt (L2.upd H p o) P:=fun x hx=>by
 rw[upd_ne (ne_of_none (h x hx) hp)]
 exact h x hx
theorem DrsAt.snoc {H:Hp} {P:List Dr} {t:Dr} (h:DrsAt H P) (ht:H t.1=some (.tup [.int t.2.1,.ref t.2.2.1])):DrsAt H (P++[t]):=fun x hx=>(List.mem_append.mp hx).elim (h x) fun z=>by rw[List.mem_singleton.mp z];exact ht
theorem sort_draws {M:Mo} {H:Hp} {p:Addr} {T:List Dr} {P:List Pr} {Q:VK} (hp:H p=some (.lst (drs T))) (dr:DrsAt H T) (pr:PrsAt H P) (sub:∀t ∈ T,t.2.2 ∈ P)
  (h:∀T' q,T'.Perm T->H q=none->M q=none->Q (.ref q) (upd H q (.lst (drs T')))):b2V M .sortM (.ref p) H Q:=by
 show(match rd M H p with
  | some (.lst xs)=>xs.all (drawK M H)=true/\∀ws l,List.Perm ws xs->H l=none->M l=none->Q (.ref l) (upd H l (.lst ws))
  | _=>False)
 rw[rd_of hp nofrz_l]
 refine⟨?_,fun ws q pm hq mq=>?_⟩
 ·rw[List.all_eq_true]
  intro v hv
  obtain⟨t,ht,rfl⟩:=List.mem_map.mp hv
  show(match rd M H t.1 with
   | some (.tup [.int _,r])=>(pairK M H r).isSome
   | _=>false)=true
  rw[rd_of (dr t ht) nofrz_t]
  dsimp only
  rw[pairK_of pr (sub t ht)]
  rfl
 ·obtain⟨T',p1,rfl⟩:=perm_map_inv (f:=fun t:Dr=>V.ref t.1) pm
  exact h T' q p1 hq mq
theorem for_draws {M:Mo} {i j:Nat} {tb:TS} {stay:Hp->Prop} {D:Ends} {T:List Dr} (Pv:Nat->L2.St->Hp->Prop) (st:∀n σ H,Pv n σ H->stay H/\DrsAt H T)
  (step:∀n x σ H (D':Ends),T[n]?=some x->Pv n σ H->(∀ σ' H',Pv (n + 1) σ' H'->D'.nx σ' H')->tb D' ((σ.set i (some (.int x.2.1))).set j (some (.ref x.2.2.1))) H)
  (fin:∀σ H,Pv T.length σ H->D.nx σ H) {σ:L2.St} {H:Hp} (h0:Pv 0 σ H):forWT M [i,j] tb stay (drs T) D σ H:=by
 have go:∀ (r:List Dr) (n:Nat),T.drop n=r->n<=T.length->∀σ H,Pv n σ H->forWT M [i,j] tb stay (drs r) D σ H:=by
  intro r
  induction r with
  | nil=>
   intro n e hn σ H p
   have:T.length<=n:=by simpa using e
   have hn':n=T.length:=by omega
   subst hn'
   exact⟨(st _ σ H p).1,fin σ H p⟩
  | cons v r ih=>
   intro n e hn σ H p
   have hlt:n < T.length:=by
    have:=congrArg List.length e
    simp at this
    omega
   have hv:T[n]?=some v:=by
    have:=congrArg (fun l=>l[0]?) e
    simpa using this
   have hr:T.drop (n + 1)=r:=by
    have:=congrArg List.tail e
    simpa[List.tail_drop]using this
   obtain⟨s1,s2⟩:=st _ σ H p
   refine⟨s1,?_⟩
   show(match rd M H v.1 with | some (.tup xs)=>xs.length=[i,j].length/\tb _ (setAll σ [i,j] xs) H | _=>False)
   rw[rd_of (s2 v (List.mem_of_getElem? hv)) nofrz_t]
   exact⟨rfl,step n v σ H _ hv p fun σ' H' q=>ih (n + 1) hr hlt σ' H' q⟩
 exact go T 0 (by simp) (Nat.zero_le _) σ H h0
theorem list_l {M:Mo} {H:Hp} {p:Addr} {xs:List V} {Q:VK} (h:H p=some (.lst xs)) (q:∀l,H l=none->M l=none->Q (.ref l) (upd H l (.lst xs))):bltV M .list [.ref p] H Q:=by
 show(match rd M H p with
  | some (.lst xs)=>∀l,H l=none->M l=none->Q (.ref l) (upd H l (.lst xs))
  | some (.tup xs)=>∀l,H l=none->M l=none->Q (.ref l) (upd H l (.lst xs))
  | _=>False)
 rw[rd_of h nofrz_l]
 exact q
theorem list_t {M:Mo} {H:Hp} {p:Addr} {xs:List V} {Q:VK} (h:H p=some (.tup xs)) (q:∀l,H l=none->M l=none->Q (.ref l) (upd H l (.lst xs))):bltV M .list [.ref p] H Q:=by
 show(match rd M H p with
  | some (.lst xs)=>∀l,H l=none->M l=none->Q (.ref l) (upd H l (.lst xs))
  | some (.tup xs)=>∀l,H l=none->M l=none->Q (.ref l) (upd H l (.lst xs))
  | _=>False)
 rw[rd_of h nofrz_t]
 exact q
theorem ix_pair {M:Mo} {H:Hp} {p:Addr} {a b:Str} (h:H p=some (.tup [.str a,.str b])):(∀ {Q:VK},Q (.str a) H->idxV M (.ref p) (.int 0) H Q)/\∀ {Q:VK},Q (.str b) H->idxV M (.ref p) (.int 1) H Q:=by
 constructor
 ·intro Q q
  rw[i_ref,rd_of h nofrz_t]
  exact q
 ·intro Q q
  rw[i_ref,rd_of h nofrz_t]
  exact q
theorem append_at {M:Mo} {H:Hp} {p:Addr} {xs:List V} {v:V} {Q:VK} (h:H p=some (.lst xs)) (hl:xs.length < sizeLine) (q:Q .non (upd H p (.lst (xs++[v])))):mthV M .append (.ref p) [v] H Q:=by
 rw[Sw.m_append,h]
 exact⟨hl,q⟩
structure Dwn (M:Mo) (H:Hp) (E:List Ent) (P0:List Pr) (f s d:Addr) (T:List Dr) (F:List Pr) (Hn:Hp):Prop where
 ext:Ext M H Hn
 fa:Hn f=some (.lst (refs F))
 sa:Hn s=some (.lst ((ends (txs F)).map V.str))
 da:Hn d=some (.lst (drs T))
 dr:DrsAt Hn T
 pr:PrsAt Hn P0
 sub:∀x ∈ F,x ∈ P0
 nd:(ends (txs F)).Nodup
noncomputable def spPlan (M:Mo):Sp:=fun vs H Q _=>∃w c ah dg E,vs=[.ref w,.int c,.ref ah,.int dg]/\WebAt H w E/\WebOk (cont E)/\M w=none/\H ah=some (.lst [])/\
 ∀H' q P,Ext M H H'->H q=none->M q=none->PlanAt H' q P->Rising (txs P)->(ends (txs P)).Nodup->P.length<=20->Good E P->Q (.ref q) H'
end Gk
namespace Gk
open PySem PySem.Spec PyProof.Rows L2 Sw Gw
noncomputable def tl_plan:Sxs:=(.cons (.asg 7 (.blt .list (.cons (.var 2) .nil)))
 (.cons (.asg 8 (.lst .nil))
 (.cons (.fr 6 (.ex (.var 2)) (.cons (.exp (.mth .extend (.var 8) (.cons (.blt .list (.cons (.var 6) .nil)) .nil)))
 .nil))
 (.cons (.frT [9,6] (.ex (.var 5)) (.cons (.iff (.and (.cmp .Gt (.bin .Mod (.var 9) (.con (.int 8))) (.con (.int 0))) (.and (.cmp .NotIn (.idx (.var 6) (.con (.int 0))) (.var 8)) (.cmp .NotIn (.idx (.var 6) (.con (.int 1))) (.var 8)))) (.cons (.exp (.mth .append (.var 7) (.cons (.var 6) .nil)))
  (.cons (.exp (.mth .extend (.var 8) (.cons (.blt .list (.cons (.var 6) .nil)) .nil)))
  .nil)) .nil)
 .nil))
 (.cons (.ret (.blt2 .sortT (.var 7)))
 .nil)))))
theorem ends_perm {L L':List (Str × Str)} (h:L.Perm L'):(ends L).Perm (ends L'):=by
 induction h with
 | nil=>exact .nil
 | cons x _ ih=>exact(ih.cons x.2).cons x.1
 | swap x y l=>exact List.perm_append_comm_assoc [y.1,y.2] [x.1,x.2] (ends l)
 | trans _ _ a b=>exact a.trans b
theorem ends_mem {L:List (Str × Str)} {x:Str} (h:x ∈ ends L):∃y ∈ L,x=y.1\/x=y.2:=by
 unfold ends at h
 obtain⟨l,hl,hx⟩:=List.mem_flatten.mp h
 obtain⟨y,hy,rfl⟩:=List.mem_map.mp hl
 exact⟨y,hy,by simpa using hx⟩
theorem mem_ends {L:List (Str × Str)} {y:Str × Str} (h:y ∈ L):y.1 ∈ ends L/\y.2 ∈ ends L:=by
 unfold ends
 constructor<;>exact List.mem_flatten.mpr ⟨_,List.mem_map.mpr ⟨y,h,rfl⟩,by simp⟩
theorem txs_nodup:∀ {L:List (Str × Str)},(ends L).Nodup->L.Nodup
 | [],_=>.nil
 | x::r,h=>by
  have h:(x.1::x.2::ends r).Nodup:=h
  rw[List.nodup_cons,List.nodup_cons]at h
  exact List.nodup_cons.mpr ⟨fun z=>h.2.1 (mem_ends z).2,txs_nodup h.2.2⟩
theorem good_few {E:List Ent} {F:List Pr} (ok:WebOk (cont E)) (few:E.length<=20) (g:Good E F) (nd:(ends (txs F)).Nodup):F.length<=10:=by
 have:=few_of (E:=E) nd fun x hx=>by
  obtain⟨y,hy,e⟩:=ends_mem hx
  obtain⟨z,hz,rfl⟩:=List.mem_map.mp hy
  have hb:z.2.2 ∈ E.map (·.1):=by rw[<-cont_keys];exact ok.cl z.2.1 z.2.2 (by rw[<-adj_cont];exact(g z hz).2)
  have ha:z.2.1 ∈ E.map (·.1):=by rw[<-cont_keys];exact ok.cl z.2.2 z.2.1 (ok.sy _ _ (by rw[<-adj_cont];exact(g z hz).2))
  rcases e with e | e
  ·rw[e];exact ha
  ·rw[e];exact hb
 rw[ends_len]at this
 unfold txs at this
 rw[List.length_map]at this
 omega
theorem plan_tail {Γ:Gam} {Ξ:XS} {D:Ends} {H Hn:Hp} {w ah q d:Addr} {E:List Ent} {P0:List Pr} {T:List Dr} {c dg:Int} {v6:Option V} (gc:Γ.cm=true) (x0:Ext Γ.mod H Hn) (hah:Hn ah=some (.lst [])) (pr0:PrsAt Hn P0) (gd:Good E P0) (ok:WebOk (cont E)) (few:E.length<=20)
  (hd:Hn d=some (.lst (drs T))) (dr:DrsAt Hn T) (sub:∀t ∈ T,t.2.2 ∈ P0)
  (h:∀H' q P,Ext Γ.mod H H'->H q=none->Γ.mod q=none->PlanAt H' q P->Rising (txs P)->(ends (txs P)).Nodup->P.length<=20->Good E P->D.rt (.ref q) H'):
  wSs tl_plan Γ Ξ D [some (.ref w),some (.int c),some (.ref ah),some (.int dg),some (.ref q),some (.ref d),v6,none,none,none] Hn:=by
 unfold tl_plan
 refine seq ?_
 walk_at "s1"
 refine⟨gc,list_l hah fun f hf mf=>?_⟩
 have x1:Ext Γ.mod Hn (upd Hn f (.lst [])):=Ext.upd hf mf
 refine seq ?_
 walk_at "s1"
 refine⟨by rw[sizeLine_eq];simp,fun s hs ms=>?_⟩
 have fs:f ≠ s:=fun z=>by subst z;rw[upd_same]at hs;cases hs
 have hs0:=x1.non hs
 have x2:Ext Γ.mod Hn (upd (upd Hn f (.lst [])) s (.lst [])):=x1.upd3 hs0 ms
 have fd:f ≠ d:=fun z=>by subst z;rw[hf]at hd;cases hd
 have sd:s ≠ d:=fun z=>by subst z;rw[hs0]at hd;cases hd
 refine seq ?_
 walk_at "s1"
 refine⟨gc,iter_l (rd_of (x2.same _ _ hah) nofrz_l) ⟨rd_of (x2.same _ _ hah) nofrz_l,?_⟩⟩
 refine seq ?_
 walk_at "s1"
 refine⟨gc,iter_l (rd_of (x2.same _ _ hd) nofrz_l) ?_⟩
 refine for_draws (fun n σ Hk=>∃v6 v9 F,σ=[some (.ref w),some (.int c),some (.ref ah),some (.int dg),some (.ref q),some (.ref d),v6,some (.ref f),some (.ref s),v9]/\Dwn Γ.mod H E P0 f s d T F Hk) (fun n σ Hk z=>?_) (fun n x σ Hk D' hx pv nx=>?_) (fun σ Hk pv=>?_)
  ⟨_,_,[],rfl,x0.trans x2,by rw[upd_ne fs];exact upd_same,upd_same,x2.same _ _ hd,DrsAt.ext x2 dr,Ext.prs x2 pr0,fun x hx=>by (cases hx),.nil⟩
 ·obtain⟨_,_,F,_,z⟩:=z
  exact⟨rd_of z.da nofrz_l,z.dr⟩
 ·obtain⟨v6,v9,F,rfl,z⟩:=pv
  have mx:x.2.2 ∈ P0:=sub x (List.mem_of_getElem? hx)
  obtain⟨t,i,y⟩:=x
  have hy:=z.pr y mx
  have gy:=gd y mx
  have fewF:F.length<=10:=good_few ok few (fun u hu=>gd u (z.sub u hu)) z.nd
  refine seq ?_
  walk_at "s1"
  rw[Sw.v_mod]
  refine⟨by decide,?_⟩
  rw[Sw.v_gt]
  refine⟨_,rfl,?_⟩
  have skip:=nx _ _ ⟨some (.ref y.1),some (.int i),F,rfl,z⟩
  by_cases g0:0 < i % 8
  ·rw[if_pos (decide_eq_true g0)]
   refine(ix_pair hy).1 (notin_at (rd_of z.sa nofrz_l) ⟨_,rfl,?_⟩)
   by_cases g1:y.2.1 ∈ ends (txs F)
   ·rw[if_neg (by simp[g1]),if_neg (by decide)]
    exact seq00 skip
   rw[if_pos (by simp[g1])]
   refine(ix_pair hy).2 (notin_at (rd_of z.sa nofrz_l) ⟨_,rfl,?_⟩)
   by_cases g2:y.2.2 ∈ ends (txs F)
   ·rw[if_neg (by simp[g2])]
    exact seq00 skip
   rw[if_pos (by simp[g2])]
   refine seq ?_
   walk_at "s1"
   refine⟨mty_l z.fa,append_at z.fa (by rw[refs_len,sizeLine_eq];omega) ?_⟩
   have e1:refs F++[V.ref y.1]=refs (F++[y]):=refs_app F [y]
   rw[e1]
   have sa1:upd Hk f (.lst (refs (F++[y]))) s=some (.lst ((ends (txs F)).map V.str)):=by rw[upd_ne fs.symm];exact z.sa
   have hy1:upd Hk f (.lst (refs (F++[y]))) y.1=some (.tup [.str y.2.1,.str y.2.2]):=PrsAt.upd z.pr z.fa y mx
   refine seq ?_
   walk_at "s1"
   refine⟨mty_l sa1,gc,list_t hy1 fun u hu mu=>?_⟩
   have us:u ≠ s:=fun e=>by subst e;rw[sa1]at hu;cases hu
   have uf:u ≠ f:=fun e=>by subst e;rw[upd_same]at hu;cases hu
   have hu0:Hk u=none:=by rw[upd_ne uf]at hu;exact hu
   refine extend_at (xs:=(ends (txs F)).map V.str) (ys:=[.str y.2.1,.str y.2.2]) (by rw[upd_ne us.symm];exact sa1) upd_same (by rw[List.length_map,ends_len,sizeLine_eq];unfold txs;rw[List.length_map];simp;omega) ?_
   have e2:ends (txs (F++[y]))=ends (txs F)++[y.2.1]++[y.2.2]:=by
    unfold txs
    rw[List.map_append]
    exact ends_snoc _ _ _
   refine seq00 (nx _ _ ⟨_,_,F++[y],rfl,?_,?_,?_,?_,?_,?_,?_,?_⟩)
   ·exact((z.ext.upd3 (x0.non hf) mf).upd3 (z.ext.non hu0) mu).upd3 (x0.non hs0) ms
   ·rw[upd_ne fs,upd_ne uf.symm,upd_same]
   ·rw[upd_same,e2,List.map_append,List.map_append,List.append_assoc]
    rfl
   ·rw[upd_ne sd.symm,upd_ne (fun e=>by subst e;rw[z.da]at hu0;cases hu0),upd_ne fd.symm];exact z.da
   ·exact DrsAt.upd (DrsAt.new (DrsAt.upd z.dr z.fa) hu) (xs:=(ends (txs F)).map V.str) (by rw[upd_ne us.symm];exact sa1)
   ·exact PrsAt.upd (PrsAt.new (PrsAt.upd z.pr z.fa) hu) (xs:=(ends (txs F)).map V.str) (by rw[upd_ne us.symm];exact sa1)
   ·intro a ha
    rcases List.mem_append.mp ha with ha | ha
    ·exact z.sub a ha
    ·rw[List.mem_singleton.mp ha];exact mx
   ·rw[e2,List.nodup_append,List.nodup_append]
    refine⟨⟨z.nd,by simp,fun a ha b hb e=>g1 ?_⟩,by simp,fun a ha b hb e=>?_⟩
    ·rw[<-List.mem_singleton.mp hb,<-e];exact ha
    ·rw[List.mem_singleton.mp hb]at e
     rcases List.mem_append.mp ha with ha | ha
     ·exact g2 (by rw[<-e];exact ha)
     ·rw[List.mem_singleton.mp ha]at e
      have:=gy.1
      rw[e]at this
      exact tot_slt.irr _ this
  ·rw[if_neg (by rw[decide_eq_true_iff];exact g0),if_neg (by decide)]
   exact seq00 skip
 ·obtain⟨v6,v9,F,rfl,z⟩:=pv
  have gF:Good E F:=fun u hu=>gd u (z.sub u hu)
  have fewF:F.length<=10:=good_few ok few gF z.nd
  walk_at "sw"
  refine⟨gc,sort_pairs ⟨z.fa,fun u hu=>z.pr u (z.sub u hu)⟩ (txs_nodup z.nd) (by omega) fun P' g pm ris hg mg=>?_⟩
  have g0:=z.ext.non hg
  refine h _ g P' (z.ext.upd3 g0 mg) g0 mg ⟨upd_same,fun u hu=>?_⟩ ris ((ends_perm (pm.map _)).nodup_iff.mpr z.nd) (by rw[pm.length_eq];omega) fun u hu=>gF u (pm.mem_iff.mp hu)
  have hu':=z.pr u (z.sub u (pm.mem_iff.mp hu))
  rw[upd_ne (ne_of_none hu' hg)]
  exact hu'
end Gk
namespace Gk
open PySem PySem.Spec PyProof.Rows L2 Sw Gw
theorem ok_plan {M:Mo} {Γ:Gam} (gm:Γ.mod=M) (gc:Γ.cm=true) (g1:Γ.has "_law_pairs" =true/\Γ.fn "_law_pairs" =spPairs M) (g2:Γ.has "_law_mix" =true/\Γ.fn "_law_mix" =spMix) (vs:List V) (H:Hp) (Q:VK) (X:XK) (h:spPlan M vs H Q X):spOf Γ N__law_plan 4 b__law_plan vs H Q X:=by
 obtain⟨w,c,ah,dg,E,rfl,W,ok,mw,hah,h⟩:=h
 refine⟨rfl,?_⟩
 obtain rfl:=gm
 unfold b__law_plan
 refine seq ?_
 walk_at "s1"
 refine⟨⟨gc,g1.1⟩,?_⟩
 rw[g1.2]
 refine⟨w,E,rfl,W,mw,fun H1 q P0 x1 hq mq pa gd few0=>?_⟩
 refine seq ?_
 dsimp only[Sw.wS,Sw.wE,Sw.wEs,Sw.wTs,Sw.wI,Sw.vars,Sw.r_get0,Sw.r_getS,Sw.r_set0,Sw.r_setS,Sw.r_map0,Sw.r_mapS,Sw.r_app0,Sw.r_appS,Sw.r_join,L2.start,Sw.r_len0,Sw.r_lenS,Sw.r_rep0,Sw.r_repS,Nat.reduceAdd,Nat.reduceSub]
 refine⟨gc,gc,gc,len_at (rd_of pa.at_ nofrz_l) ?_⟩
 dsimp only
 rw[refs_len]
 refine⟨by omega,by omega,fun D hD mD=>?_⟩
 rw[show((P0.length:Int)).toNat=P0.length from rfl]
 have xD:Ext Γ.mod H1 (upd H1 D (.lst [])):=Ext.upd hD mD
 refine comp_inv (fun m acc Hm=>∃T:List Dr,acc=drs T/\Hm D=some (.lst (drs T))/\DrsAt Hm T/\Ext Γ.mod H1 Hm/\(∀ t ∈ T,t.2.2 ∈ P0)/\T.length<=m) (fun m acc Hm z=>?_) (fun m v acc Hm K hv pv nx2=>?_) (fun acc Hm pv=>?_)
  ⟨[],rfl,upd_same,fun x hx=>by (cases hx),xD,fun x hx=>by (cases hx),by simp⟩
 ·obtain⟨T,rfl,z1,_⟩:=z
  exact⟨trivial,z1⟩
 ·obtain⟨T,rfl,z1,z2,z3,z4,z5⟩:=pv
  obtain⟨k1,rfl⟩:=range_get hv
  walk_at "s1"
  rw[if_pos rfl]
  refine⟨⟨gc,g2.1⟩,?_⟩
  rw[Sw.v_add,g2.2]
  refine⟨c,_,rfl,by omega,by omega,fun z _ z0 z1'=>?_⟩
  obtain⟨v,e1,e2⟩:=atI_at (xs:=refs P0) (i:=(m:Int)) (by omega) (by rw[refs_len];omega)
  obtain⟨x,hx,rfl⟩:=List.mem_map.mp e2
  refine ix_at (rd_of (z3.same _ _ pa.at_) nofrz_l) e1 ?_
  refine⟨by rw[sizeLine_eq];simp,fun t ht mt=>⟨?_,?_,nx2 _ _ ⟨T++[(t,z,x)],?_,?_,?_,?_,?_,?_⟩⟩⟩
  ·rw[upd_ne (ne_of_none z1 ht)];exact z1
  ·rw[drs_len,sizeLine_eq];omega
  ·rw[<-drs_app];rfl
  ·rw[upd_same,<-drs_app];rfl
  ·exact DrsAt.upd (xs:=drs T) (DrsAt.snoc (DrsAt.new z2 ht) upd_same) (by rw[upd_ne (ne_of_none z1 ht)];exact z1)
  ·exact(z3.upd3 (z3.non ht) mt).upd3 hD mD
  ·intro a ha
   rcases List.mem_append.mp ha with ha | ha
   ·exact z4 a ha
   ·rw[List.mem_singleton.mp ha];exact hx
  ·rw[List.length_append];simp;omega
 ·obtain⟨T,rfl,z1,z2,z3,z4,z5⟩:=pv
  refine sort_draws z1 z2 (Ext.prs z3 pa.prs) z4 fun T' b pm hb mb=>?_
  have hb1:=z3.non hb
  have x2:=x1.trans (z3.upd3 (o:=.lst (drs T')) hb1 mb)
  have xx:=z3.upd3 (o:=.lst (drs T')) hb1 mb
  refine seq ?_
  walk_at "s1"
  rw[Sw.v_mod]
  refine⟨by decide,?_⟩
  rw[Sw.v_eqi]
  refine⟨_,rfl,?_⟩
  by_cases od:dg % 2=1
  ·rw[if_pos (decide_eq_true od)]
   refine seq ?_
   walk_at "s1"
   refine⟨by rw[sizeLine_eq];simp,fun d hd md=>?_⟩
   have hd1:=xx.non hd
   have x3:=xx.upd3 (o:=.lst []) hd1 md
   refine seq ?_
   walk_at "s1"
   refine⟨gc,iter_l (rd_of (x3.same _ _ pa.at_) nofrz_l) ?_⟩
   refine for_inv (fun n σ Hk=>∃v6 c' T,σ=[some (.ref w),some (.int c'),some (.ref ah),some (.int dg),some (.ref q),some (.ref d),v6,none,none,none]/\Ext Γ.mod H1 Hk/\Hk d=some (.lst (drs T))/\DrsAt Hk T/\(∀ t ∈ T,t.2.2 ∈ P0)/\T.length<=n) (fun n σ Hk z=>?_) (fun n v σ Hk D' hv pv nx ct _ _=>?_) (fun σ Hk pv=>?_)
    ⟨none,c,[],rfl,x3,upd_same,fun x hx=>by (cases hx),fun x hx=>by (cases hx),by simp⟩
   ·obtain⟨_,_,_,_,z,_⟩:=z
    exact rd_of (z.same _ _ pa.at_) nofrz_l
   ·obtain⟨v6,c',T,rfl,y1,y2,y3,y4,y5⟩:=pv
    obtain⟨x,hx,rfl⟩:=List.mem_map.mp (List.mem_of_getElem? hv)
    obtain⟨hn,_⟩:=List.getElem?_eq_some_iff.mp hv
    rw[refs_len]at hn
    refine seq ?_
    walk_at "s1"
    refine⟨mty_l y2,?_⟩
    rw[Sw.v_mod]
    refine⟨by decide,by rw[sizeLine_eq];simp,fun t ht mt=>?_⟩
    have y2':upd Hk t (.tup [.int (c' % 2),.ref x.1]) d=some (.lst (drs T)):=by rw[upd_ne (ne_of_none y2 ht)];exact y2
    refine append_at y2' (by rw[drs_len,sizeLine_eq];omega) ?_
    refine seq ?_
    walk_at "s1"
    rw[Sw.v_div]
    refine⟨by decide,by decide,?_⟩
    refine seq0 (nx _ _ ⟨_,_,T++[(t,c' % 2,x)],rfl,(y1.upd3 (y1.non ht) mt).upd3 hd1 md,?_,?_,?_,?_⟩)
    ·rw[upd_same,<-drs_app];rfl
    ·exact DrsAt.upd (xs:=drs T) (DrsAt.snoc (DrsAt.new y3 ht) upd_same) y2'
    ·intro a ha
     rcases List.mem_append.mp ha with ha | ha
     ·exact y4 a ha
     ·rw[List.mem_singleton.mp ha];exact hx
    ·rw[List.length_append];simp;omega
   ·obtain⟨v6,c',T,rfl,y1,y2,y3,y4,y5⟩:=pv
    dsimp only
    refine seq0 ?_
    exact plan_tail gc (x1.trans y1) (y1.same _ _ (x1.same _ _ hah)) (Ext.prs y1 pa.prs) gd ok W.few y2 y3 y4 h
  ·rw[if_neg (by rw[decide_eq_true_iff];exact od)]
   refine seq0 ?_
   exact plan_tail gc x2 (xx.same _ _ (x1.same _ _ hah)) (Ext.prs xx pa.prs) gd ok W.few upd_same (fun t ht=>DrsAt.new z2 hb t (pm.mem_iff.mp ht)) (fun t ht=>z4 t (pm.mem_iff.mp ht)) h
end Gk
namespace Gk
open PySem PySem.Spec PyProof.Rows L2 Sw Gw
noncomputable def pd (x:Str × Str):PyData:=.tuple [.str x.1,.str x.2]
theorem eqv_pd (x y:Str × Str):PyData.eqv (pd x) (pd y)=decide (x=y):=by
 unfold pd
 simp only[PyData.eqv,PyData.eqvAll,Bool.and_true]
 obtain⟨a,b⟩:=x
 obtain⟨c,d⟩:=y
 by_cases h1:a=c
 ·by_cases h2:b=d
  ·simp[h1,h2]
  ·simp[h1,h2]
 ·simp[h1]
theorem eqv_all:∀L L':List (Str × Str),PyData.eqvAll (L.map pd) (L'.map pd)=decide (L=L')
 | [],[]=>by simp[PyData.eqvAll]
 | x::r,[]=>by simp[PyData.eqvAll]
 | [],y::r'=>by simp[PyData.eqvAll]
 | x::r,y::r'=>by
  rw[List.map_cons,List.map_cons]
  simp only[PyData.eqvAll]
  rw[eqv_pd,eqv_all r r']
  by_cases h1:x=y
  ·by_cases h2:r=r'
   ·simp[h1,h2]
   ·simp[h1,h2]
  ·simp[h1]
theorem eqv_pairs (L L':List (Str × Str)):PyData.eqv (.list (L.map pd)) (.list (L'.map pd))=decide (L=L'):=by
 simp only[PyData.eqv]
 exact eqv_all L L'
structure IsPlan (E:List Ent) (L:List (Str × Str)):Prop where
 sw:∀x ∈ L,slt x.1 x.2/\x.2 ∈ adj E x.1
 nd:(ends L).Nodup
 ris:Rising L
theorem top_isSome (E:List Ent) (x:Str):(valV (topK E) (.inr x)).isSome=(E.lookup x).isSome:=by
 have z:=val_map (fun y:Addr × Gw.Row=>V.ref y.1) E x
 show(valV (E.map fun e=>((Sum.inr e.1:Key),V.ref e.2.1)) (.inr x)).isSome=_
 rw[show(E.map fun e=>((Sum.inr e.1:Key),V.ref e.2.1))=E.map (fun y=>((Sum.inr y.1:Key),(fun y:Addr × Gw.Row=>V.ref y.1) y.2))from rfl,z]
 cases E.lookup x<;>rfl
end Gk
namespace Gk
open PySem
end Gk
namespace Gk
open PySem PySem.Spec PyProof.Rows L2 Sw Gw
end Gk
namespace Gk
open PySem PySem.Spec PyProof.Rows L2 Sw Gw
theorem data_plan {M:Mo} {H:Hp} {p:Addr} {P:List Pr} (h:PlanAt H p P) (n:Nat):data M H (n + 2) (.ref p)=some (.list ((txs P).map pd)):=by
 unfold Sw.data
 rw[rd_of h.at_ nofrz_l]
 dsimp only
 unfold refs
 rw[allM_map (k:=fun x:Pr=>PyData.tuple [.str x.2.1,.str x.2.2]) fun x hx=>?_]
 ·unfold txs
  rw[List.map_map]
  rfl
 ·unfold Sw.data
  rw[rd_of (h.prs x hx) nofrz_t]
  show(allM (Sw.data M H n) ([x.2.1,x.2.2].map V.str)).map PyData.tuple=_
  rw[allM_map (k:=PyData.str) fun x _=>data_str n x]
  rfl
end Gk
namespace Gk
open PySem PySem.Spec PyProof.Rows L2 Sw Gw
@[reducible] noncomputable def N__law_is_plan:List Str:=["_law_web_here","_law_plan_here","_law_texts","_law_k","_law_one","_law_other"]
noncomputable def b__law_is_plan:Sxs:=(.cons (.asg 2 (.lst .nil))
 (.cons (.fr 3 (.rng1 (.blt .len (.cons (.var 1) .nil))) (.cons (.asgT [4,5] (.idx (.var 1) (.var 3)))
 (.cons (.iff (.or (.cmp .GtE (.var 4) (.var 5)) (.or (.cmp .In (.var 4) (.var 2)) (.or (.cmp .In (.var 5) (.var 2)) (.or (.cmpD .NotIn (.var 4) (.var 0)) (.cmpD .NotIn (.var 5) (.idxD (.var 0) (.var 4))))))) (.cons (.ret (.con (.bl false)))
  .nil) .nil)
 (.cons (.iff (.and (.cmp .Gt (.var 3) (.con (.int 0))) (.cmpP (.idx (.var 1) (.bin .Sub (.var 3) (.con (.int 1)))) (.idx (.var 1) (.var 3)))) (.cons (.ret (.con (.bl false)))
  .nil) .nil)
 (.cons (.exp (.mth .extend (.var 2) (.cons (.lst (.cons (.var 4) (.cons (.var 5) .nil))) .nil)))
 .nil)))))
 (.cons (.ret (.con (.bl true)))
 .nil)))
theorem v_ges {M:Mo} {H:Hp} {Q:VK} (x y:Str):cmpV M .GtE (.str x) (.str y) H Q=Q (.bl (!decide (slt x y))) H:=rfl
theorem in_at {M:Mo} {H:Hp} {p:Addr} {ns:List Str} {x:Str} {Q:VK} (h:rd M H p=some (.lst (ns.map V.str))) (q:Q (.bl (decide (x ∈ ns))) H):cmpV M .In (.str x) (.ref p) H Q:=by
 show(match rd M H p with
  | some (.lst xs)=>flatV (V.str x)=true/\xs.all flatV=true/\Q (.bl (inV (.str x) xs)) H
  | some (.tup xs)=>flatV (V.str x)=true/\xs.all flatV=true/\Q (.bl (inV (.str x) xs)) H
  | _=>False)
 rw[h]
 exact⟨rfl,flat_strs ns,by rw[inV_strs];exact q⟩
theorem IsPlan.take {E:List Ent} {L:List (Str × Str)} (h:IsPlan E L) (n:Nat):IsPlan E (L.take n):=
 ⟨fun x hx=>h.sw x (List.mem_of_mem_take hx),ends_take h.nd,h.ris.sublist (List.take_sublist n L)⟩
theorem IsPlan.snoc {E:List Ent} {L:List (Str × Str)} {a b:Str}:IsPlan E (L++[(a,b)]) ↔ IsPlan E L/\slt a b/\a ∉ ends L/\b ∉ ends L/\b ∈ adj E a/\∀y,L[L.length - 1]?=some y->L ≠ []->lt2 y (a,b)=true:=by
 constructor
 ·intro h
  have nd:=h.nd
  rw[ends_snoc,List.nodup_append,List.nodup_append]at nd
  have sw:=h.sw (a,b) (by simp)
  have ht:=h.take L.length
  rw[List.take_left]at ht
  refine⟨ht,sw.1,fun z=>nd.1.2.2 a z a (by simp) rfl,fun z=>nd.2.2 b (by simp[z]) b (by simp) rfl,sw.2,fun y hy ne=>?_⟩
  exact(List.pairwise_append.mp h.ris).2.2 y (List.mem_of_getElem? hy) (a,b) (by simp)
 ·rintro⟨h,lt,na,nb,ad,last⟩
  refine⟨fun x hx=>?_,?_,?_⟩
  ·rcases List.mem_append.mp hx with hx | hx
   ·exact h.sw x hx
   ·rw[List.mem_singleton.mp hx];exact⟨lt,ad⟩
  ·rw[ends_snoc,List.nodup_append,List.nodup_append]
   refine⟨⟨h.nd,by simp,fun x hx y hy e=>na ?_⟩,by simp,fun x hx y hy e=>?_⟩
   ·rw[<-List.mem_singleton.mp hy,<-e];exact hx
   ·rw[List.mem_singleton.mp hy]at e
    rcases List.mem_append.mp hx with hx | hx
    ·exact nb (by rw[<-e];exact hx)
    ·rw[List.mem_singleton.mp hx]at e
     rw[e]at lt
     exact tot_slt.irr _ lt
  ·refine List.pairwise_append.mpr ⟨h.ris,List.pairwise_singleton _ _,fun x hx y hy=>?_⟩
   rw[List.mem_singleton.mp hy]
   have ne:L ≠ []:=fun z=>by rw[z]at hx;cases hx
   have hl:L.length - 1 < L.length:=by have:=List.length_pos_iff.mpr ne;omega
   have hz:=last _ (List.getElem?_eq_getElem hl) ne
   obtain⟨i,hi,rfl⟩:=List.getElem_of_mem hx
   by_cases e:i=L.length - 1
   ·subst e;exact hz
   ·exact tot2.tr _ _ _ (List.pairwise_iff_getElem.mp h.ris i (L.length - 1) hi hl (by omega)) hz
noncomputable def spLip (M:Mo):Sp:=fun vs H Q _=>∃w p E P,vs=[.ref w,.ref p]/\WebAt H w E/\PlanAt H p P/\P.length<=1000/\∀H' (k:Bool),Ext M H H'->(k=true ↔ IsPlan E (txs P))->Q (.bl k) H'
theorem ok_lip {M:Mo} {Γ:Gam} (gm:Γ.mod=M) (gc:Γ.cm=true) (vs:List V) (H:Hp) (Q:VK) (X:XK) (h:spLip M vs H Q X):spOf Γ N__law_is_plan 2 b__law_is_plan vs H Q X:=by
 obtain⟨w,p,E,P,rfl,W,hp,few,h⟩:=h
 refine⟨rfl,?_⟩
 obtain rfl:=gm
 unfold b__law_is_plan
 refine seq ?_
 walk_at "s1"
 refine⟨by rw[sizeLine_eq];simp,fun t ht mt=>?_⟩
 have x0:Ext Γ.mod H (upd H t (.lst [])):=Ext.upd ht mt
 refine seq ?_
 walk_at "s1"
 refine⟨gc,gc,len_at (rd_of (Ext.plan x0 hp).at_ nofrz_l) ?_⟩
 rw[refs_len]
 refine⟨by omega,by omega,?_⟩
 refine for_inv (fun n σ Hn=>∃v3 v4 v5,σ=[some (.ref w),some (.ref p),some (.ref t),v3,v4,v5]/\Ext Γ.mod H Hn/\Hn t=some (.lst ((ends (txs (P.take n))).map V.str))/\IsPlan E (txs (P.take n))/\n<=P.length) (fun n σ Hn z=>trivial) (fun n v σ Hn D' hv pv nx ct rt _=>?_) (fun σ Hn pv=>?_)
  ⟨none,none,none,rfl,x0,upd_same,⟨fun x hx=>by (cases hx),.nil,.nil⟩,Nat.zero_le _⟩
 ·obtain⟨v3,v4,v5,rfl,x,htn,ip,nle⟩:=pv
  obtain⟨hn,rfl⟩:=range_get hv
  have hn:n < P.length:=hn
  have hpn:=Ext.plan x hp
  have Wn:=Ext.web x W
  obtain⟨y,hy⟩:∃y,P[n]?=some y:=⟨P[n],List.getElem?_eq_getElem hn⟩
  have my:=List.mem_of_getElem? hy
  have tk:=txs_take hy
  have rdp:=rd_of (M:=Γ.mod) hpn.at_ nofrz_l
  have ixn:∀ (i:Nat) (z:Pr) {Q':VK},P[i]?=some z->Q' (.ref z.1) Hn->idxV Γ.mod (.ref p) (.int i) Hn Q':=fun i z Q' hz q'=>by
   refine ix_at rdp ?_ q'
   obtain⟨hi,_⟩:=List.getElem?_eq_some_iff.mp hz
   unfold atI ixN
   rw[if_pos (by omega),if_pos (by rw[refs_len];omega),Option.bind_some]
   show(refs P)[i]?=_
   unfold refs
   rw[List.getElem?_map,hz]
   rfl
  have whole:IsPlan E (txs P)->IsPlan E (txs (P.take n)++[(y.2.1,y.2.2)]):=fun z=>by
   rw[<-tk]
   have:txs (P.take (n + 1))=(txs P).take (n + 1):=List.map_take
   rw[this]
   exact z.take _
  have no:∀ {σ':L2.St},(¬ IsPlan E (txs (P.take n)++[(y.2.1,y.2.2)]))->D'.rt (.bl false) Hn:=fun{_} z=>by
   rw[rt]
   exact h Hn false x ⟨fun q=>(by cases q),fun q=>absurd (whole q) z⟩
  refine seq ?_
  walk_at "s1"
  refine⟨gc,ixn n y hy ?_⟩
  dsimp only
  rw[rd_of (hpn.prs y my) nofrz_t]
  refine⟨rfl,?_⟩
  dsimp only[setAll,Sw.r_set0,Sw.r_setS]
  refine seq ?_
  walk_at "s1"
  rw[v_ges]
  refine⟨_,rfl,?_⟩
  by_cases lt:slt y.2.1 y.2.2
  ·rw[if_neg (by simp;exact lt)]
   refine in_at (rd_of htn nofrz_l) ⟨_,rfl,?_⟩
   by_cases i1:y.2.1 ∈ ends (txs (P.take n))
   ·rw[if_pos (decide_eq_true i1),if_pos rfl]
    walk_at "sw"
    exact no (σ':=[]) fun z=>(IsPlan.snoc.mp z).2.2.1 i1
   rw[if_neg (by rw[decide_eq_true_iff];exact i1)]
   refine in_at (rd_of htn nofrz_l) ⟨_,rfl,?_⟩
   by_cases i2:y.2.2 ∈ ends (txs (P.take n))
   ·rw[if_pos (decide_eq_true i2),if_pos rfl]
    walk_at "sw"
    exact no (σ':=[]) fun z=>(IsPlan.snoc.mp z).2.2.2.1 i2
   rw[if_neg (by rw[decide_eq_true_iff];exact i2)]
   refine inD_at (x:=y.2.1) (rd_of Wn.top nofrz_d) ⟨_,rfl,?_⟩
   rw[top_isSome]
   cases e:E.lookup y.2.1 with
   | none=>
    rw[if_pos (by rfl),if_pos rfl]
    walk_at "sw"
    refine no (σ':=[]) fun z=>?_
    have:=(IsPlan.snoc.mp z).2.2.2.2.1
    unfold adj at this
    rw[e]at this
    cases this
   | some r=>
    rw[if_neg (by simp)]
    have m:=lookup_some e
    refine idx_web (row:=r.2) (p:=r.1) Wn m ?_
    refine inD_at (x:=y.2.2) (rd_of (Wn.row _ m) nofrz_d) ⟨_,rfl,?_⟩
    rw[row_isSome]
    have ea:adj E y.2.1=r.2.map (·.1):=adj_of e
    by_cases i3:y.2.2 ∈ r.2.map (·.1)
    ·rw[decide_eq_true i3,if_neg (by decide)]
     have len:(txs (P.take n)).length=n:=by unfold txs;rw[List.length_map,List.length_take];omega
     have good:(∀ z,(txs (P.take n))[(txs (P.take n)).length - 1]?=some z->txs (P.take n) ≠ []->lt2 z (y.2.1,y.2.2)=true)->
       wSs (.cons (.exp (.mth .extend (.var 2) (.cons (.lst (.cons (.var 4) (.cons (.var 5) .nil))) .nil))) .nil) Γ X0 D' [some (.ref w),some (.ref p),some (.ref t),some (.int n),some (.str y.2.1),some (.str y.2.2)] Hn:=fun last=>by
      have ip2:IsPlan E (txs (P.take (n + 1))):=by
       rw[tk]
       exact IsPlan.snoc.mpr ⟨ip,lt,i1,i2,by rw[ea];exact i3,last⟩
      refine seq ?_
      walk_at "s1"
      refine⟨mty_l htn,by rw[sizeLine_eq];simp,fun z hz mz=>?_⟩
      have zt:z ≠ t:=fun q=>by subst q;rw[htn]at hz;cases hz
      refine extend_at (xs:=(ends (txs (P.take n))).map V.str) (ys:=[.str y.2.1,.str y.2.2]) (by rw[upd_ne zt.symm];exact htn) upd_same (by rw[List.length_map,ends_len,len,sizeLine_eq];simp;omega) ?_
      refine seq0 (nx _ _ ⟨_,_,_,rfl,(x.upd3 (x.non hz) mz).upd3 ht mt,?_,ip2,hn⟩)
      rw[upd_same,tk,ends_snoc,List.map_append,List.map_append,List.append_assoc]
      rfl
     refine seq0 (seq ?_)
     walk_at "s1"
     rw[Sw.v_gt]
     refine⟨_,rfl,?_⟩
     by_cases k0:(0:Int) < (n:Int)
     ·rw[if_pos (decide_eq_true k0),Sw.v_sub]
      obtain⟨z,hz⟩:∃z,P[n - 1]?=some z:=⟨P[n - 1],List.getElem?_eq_getElem (by omega)⟩
      rw[show(n:Int) - 1=((n - 1:Nat):Int) by omega]
      refine ixn (n - 1) z hz (ixn n y hy ?_)
      show(match pairK Γ.mod Hn (.ref z.1),pairK Γ.mod Hn (.ref y.1)with
       | some a,some b=>_
       | _,_=>False)
      rw[pairK_of hpn.prs (List.mem_of_getElem? hz),pairK_of hpn.prs my]
      refine⟨_,rfl,?_⟩
      have pz:(txs (P.take n))[(txs (P.take n)).length - 1]?=some z.2:=by
       rw[len]
       unfold txs
       rw[List.getElem?_map,List.getElem?_take,if_pos (by omega),hz]
       rfl
      cases l2:lt2 z.2 y.2 with
      | true=>
       rw[if_neg (by decide)]
       refine seq0 (good fun z' hz' _=>?_)
       rw[pz]at hz'
       cases hz'
       exact l2
      | false=>
       rw[if_pos (by rfl)]
       walk_at "sw"
       refine no (σ':=[]) fun q=>?_
       have:=(IsPlan.snoc.mp q).2.2.2.2.2 z.2 pz (fun e=>by rw[e]at len;simp at len;omega)
       rw[show((y.2.1,y.2.2):Str × Str)=y.2 from rfl,l2]at this
       cases this
     ·rw[if_neg (by rw[decide_eq_true_iff];exact k0),if_neg (by decide)]
      refine seq0 (good fun z' hz' ne=>?_)
      exact absurd (List.eq_nil_of_length_eq_zero (by rw[len];omega)) ne
    ·rw[if_pos (by simp;exact fun a z=>i3 (List.mem_map.mpr ⟨(y.2.2,a),z,rfl⟩))]
     walk_at "sw"
     exact no (σ':=[]) fun z=>i3 (by rw[<-ea];exact(IsPlan.snoc.mp z).2.2.2.2.1)
  ·rw[if_pos (by simp;exact lt),if_pos rfl]
   walk_at "sw"
   exact no (σ':=[]) fun z=>lt (IsPlan.snoc.mp z).2.1
 ·obtain⟨v3,v4,v5,rfl,x,htn,ip,nle⟩:=pv
  rw[List.length_map,List.length_range]at ip
  walk_at "sw"
  refine h Hn true x ⟨fun _=>?_,fun _=>rfl⟩
  have:P.take ((P.length:Int)).toNat=P:=List.take_length
  rw[this]at ip
  exact ip
end Gk
namespace Gk
open PySem PySem.Spec PyProof.Rows L2 Sw Gw
noncomputable def swp (a b:Str):Str × Str:=(Gr.mn slt a b,if slt a b then b else a)
theorem swp_lt {a b:Str} (h:slt a b):swp a b=(a,b):=by
 unfold swp Gr.mn
 rw[if_neg (fun z=>tot_slt.asym h z),if_pos h]
theorem swp_gt {a b:Str} (h:slt b a):swp a b=(b,a):=by
 unfold swp Gr.mn
 rw[if_pos h,if_neg (fun z=>tot_slt.asym h z)]
theorem swp_comm (a b:Str):swp a b=swp b a:=by
 by_cases e:a=b
 ·rw[e]
 ·rcases tot_slt.tri a b e with h | h
  ·rw[swp_lt h,swp_gt h]
  ·rw[swp_gt h,swp_lt h]
noncomputable def On (v:Str) (x:Str × Str):Prop:=v=x.1\/v=x.2
theorem on_swp {a b v:Str} (n:a ≠ b):On v (swp a b) ↔ v=a\/v=b:=by
 rcases tot_slt.tri a b n with h | h
 ·rw[swp_lt h];exact Iff.rfl
 ·rw[swp_gt h];exact or_comm
theorem swp_inj {a b c d:Str} (n:a ≠ b) (m:c ≠ d) (e:swp a b=swp c d):(a=c/\b=d)\/(a=d/\b=c):=by
 have h1:=(on_swp m (v:=a)).mp (e ▸ (on_swp n).mpr (.inl rfl))
 have h2:=(on_swp m (v:=b)).mp (e ▸ (on_swp n).mpr (.inr rfl))
 rcases h1 with h1 | h1
 ·rcases h2 with h2 | h2
  ·exact absurd (h1.trans h2.symm) n
  ·exact .inl ⟨h1,h2⟩
 ·rcases h2 with h2 | h2
  ·exact .inr ⟨h1,h2⟩
  ·exact absurd (h1.trans h2.symm) n
theorem ends_on {L:List (Str × Str)} {v:Str}:v ∈ ends L ↔ ∃x ∈ L,On v x:=by
 unfold ends On
 rw[List.mem_flatten]
 constructor
 ·rintro⟨l,hl,hv⟩
  obtain⟨x,hx,rfl⟩:=List.mem_map.mp hl
  exact⟨x,hx,by simpa using hv⟩
 ·rintro⟨x,hx,hv⟩
  exact⟨_,List.mem_map.mpr ⟨x,hx,rfl⟩,by simpa using hv⟩
theorem ends_uniq:∀ {L:List (Str × Str)},(ends L).Nodup->∀ {x y:Str × Str} {v:Str},x ∈ L->y ∈ L->On v x->On v y->x=y
 | [],_,_,_,_,h,_,_,_=>by cases h
 | z::r,nd,x,y,v,hx,hy,vx,vy=>by
  have e:ends (z::r)=z.1::z.2::ends r:=rfl
  rw[e]at nd
  have n1:=(List.nodup_cons.mp nd).1
  have n2:=(List.nodup_cons.mp (List.nodup_cons.mp nd).2).1
  have n3:=(List.nodup_cons.mp (List.nodup_cons.mp nd).2).2
  have out:∀w ∈ r,On v w->On v z->False:=fun w hw q p=>by
   have:=ends_on.mpr ⟨w,hw,q⟩
   rcases p with p | p
   ·rw[p]at this;exact n1 (List.mem_cons_of_mem _ this)
   ·rw[p]at this;exact n2 this
  rcases List.mem_cons.mp hx with ex | hx
  ·rcases List.mem_cons.mp hy with ey | hy
   ·rw[ex,ey]
   ·exact(out y hy vy (ex ▸ vx)).elim
  ·rcases List.mem_cons.mp hy with ey | hy
   ·exact(out x hx vx (ey ▸ vy)).elim
   ·exact ends_uniq n3 hx hy vx vy
theorem ends_nd:∀ {L:List (Str × Str)},L.Nodup->(∀ x ∈ L,x.1 ≠ x.2)->(∀ x ∈ L,∀y ∈ L,∀v,On v x->On v y->x=y)->(ends L).Nodup
 | [],_,_,_=>List.nodup_nil
 | z::r,nd,ne,un=>by
  have e:ends (z::r)=z.1::z.2::ends r:=rfl
  rw[e]
  obtain⟨n1,n2⟩:=List.nodup_cons.mp nd
  have out:∀v,On v z->v ∉ ends r:=fun v hv hm=>by
   obtain⟨w,hw,q⟩:=ends_on.mp hm
   have:=un z List.mem_cons_self w (List.mem_cons_of_mem _ hw) v hv q
   rw[this]at n1
   exact n1 hw
  refine List.nodup_cons.mpr ⟨fun m=>?_,List.nodup_cons.mpr ⟨out _ (.inr rfl),ends_nd n2 (fun x hx=>ne x (List.mem_cons_of_mem _ hx)) fun x hx y hy=>un x (List.mem_cons_of_mem _ hx) y (List.mem_cons_of_mem _ hy)⟩⟩
  rcases List.mem_cons.mp m with m | m
  ·exact ne z List.mem_cons_self m
  ·exact out _ (.inl rfl) m
theorem rising_nd {L:List (Str × Str)} (h:Rising L):L.Nodup:=h.imp fun{a b} (z:lt2 a b=true) (e:a=b)=>by
 rw[e]at z
 exact tot2.irr b z
theorem IsPlan.nod {E:List Ent} {L:List (Str × Str)} (h:IsPlan E L):L.Nodup:=rising_nd h.ris
structure Alt (E:List Ent) (L A:List (Str × Str)):Prop where
 sw:∀x ∈ A,slt x.1 x.2/\x.2 ∈ adj E x.1
 nd:A.Nodup
 shut:∀x ∈ A,∀y ∈ L,∀v,On v x->On v y->y ∈ A
 alt:∀x ∈ A,∀y ∈ A,x ≠ y->∀v,On v x->On v y->x ∈ L\/y ∈ L
theorem Alt.perm {E:List Ent} {L A B:List (Str × Str)} (h:Alt E L A) (p:A.Perm B):Alt E L B:=
 ⟨fun x hx=>h.sw x (p.mem_iff.mpr hx),p.nodup_iff.mp h.nd,fun x hx y hy v a b=>p.mem_iff.mp (h.shut x (p.mem_iff.mpr hx) y hy v a b),fun x hx y hy=>h.alt x (p.mem_iff.mpr hx) y (p.mem_iff.mpr hy)⟩
noncomputable def Xor2 (L A:List (Str × Str)) (x:Str × Str):Prop:=(x ∈ L/\x ∉ A)\/(x ∈ A/\x ∉ L)
theorem Alt.plan {E:List Ent} {L A T:List (Str × Str)} (p:IsPlan E L) (h:Alt E L A) (r:Rising T) (m:∀x,x ∈ T ↔ Xor2 L A x):IsPlan E T:=by
 have sw:∀x ∈ T,slt x.1 x.2/\x.2 ∈ adj E x.1:=fun x hx=>by
  rcases(m x).mp hx with q | q
  ·exact p.sw x q.1
  ·exact h.sw x q.1
 refine⟨sw,ends_nd (rising_nd r) (fun x hx e=>tot_slt.irr x.2 (e ▸ (sw x hx).1)) fun x hx y hy v vx vy=>?_,r⟩
 rcases(m x).mp hx with ⟨a1,a2⟩ | ⟨a1,a2⟩
 ·rcases(m y).mp hy with ⟨b1,b2⟩ | ⟨b1,b2⟩
  ·exact ends_uniq p.nd a1 b1 vx vy
  ·exact absurd (h.shut y b1 x a1 v vy vx) a2
 ·rcases(m y).mp hy with ⟨b1,b2⟩ | ⟨b1,b2⟩
  ·exact absurd (h.shut x a1 y b1 v vx vy) b2
  ·by_cases e:x=y
   ·exact e
   ·exact(h.alt x a1 y b1 e v vx vy).elim (fun z=>absurd z a2) fun z=>absurd z b2
theorem xor_back {L A T:List (Str × Str)} (m:∀x,x ∈ T ↔ Xor2 L A x) (x:Str × Str):Xor2 T A x ↔ x ∈ L:=by
 unfold Xor2
 rw[m x]
 unfold Xor2
 by_cases a:x ∈ A
 ·by_cases l:x ∈ L<;>simp[a,l]
 ·by_cases l:x ∈ L<;>simp[a,l]
noncomputable def ar (R:List Str):List (Str × Str):=(R.zip R.tail).map fun p=>swp p.1 p.2
theorem ar_two (x y:Str) (r:List Str):ar (x::y::r)=swp x y::ar (y::r):=rfl
theorem ar_mem {R:List Str} {x:Str × Str}:x ∈ ar R ↔ ∃ (i:Nat) (a b:Str),R[i]?=some a/\R[i + 1]?=some b/\x=swp a b:=by
 unfold ar
 rw[List.mem_map]
 constructor
 ·rintro⟨p,hp,rfl⟩
  obtain⟨i,hi⟩:=List.mem_iff_getElem?.mp hp
  obtain⟨a,b⟩:=p
  obtain⟨h1,h2⟩:=List.getElem?_zip_eq_some.mp hi
  rw[List.getElem?_tail]at h2
  exact⟨i,a,b,h1,h2,rfl⟩
 ·rintro⟨i,a,b,h1,h2,rfl⟩
  exact⟨(a,b),List.mem_iff_getElem?.mpr ⟨i,List.getElem?_zip_eq_some.mpr ⟨h1,by rw[List.getElem?_tail];exact h2⟩⟩,rfl⟩
theorem ar_snoc:∀ (x:Str) (r:List Str) (y:Str),ar (x::r++[y])=ar (x::r)++[swp ((x::r).getLastD x) y]
 | x,[],y=>rfl
 | x,z::r,y=>by
  have ih:=ar_snoc z r y
  show swp x z::ar (z::r++[y])=_
  rw[ih]
  show swp x z::(ar (z::r)++_)=(swp x z::ar (z::r))++_
  rw[List.cons_append]
  congr 3
theorem ar_app:∀ (x:Str) (A:List Str) (y:Str) (B:List Str),ar (x::A++y::B)=ar (x::A)++swp ((x::A).getLastD x) y::ar (y::B)
 | x,[],y,B=>rfl
 | x,z::A,y,B=>by
  have ih:=ar_app z A y B
  show swp x z::ar (z::A++y::B)=_
  rw[ih]
  show swp x z::(ar (z::A)++_)=(swp x z::ar (z::A))++_
  rw[List.cons_append]
  congr 3
end Gk
namespace Gk
open PySem PySem.Spec PyProof.Rows L2 Sw Gw
theorem idx_inj {R:List Str} (nd:R.Nodup) {i j:Nat} {a:Str} (h:R[i]?=some a) (g:R[j]?=some a):i=j:=by
 obtain⟨h1,h2⟩:=List.getElem?_eq_some_iff.mp h
 obtain⟨g1,g2⟩:=List.getElem?_eq_some_iff.mp g
 rcases Nat.lt_trichotomy i j with q | q | q
 ·exact absurd (h2.trans g2.symm) (List.pairwise_iff_getElem.mp nd i j h1 g1 q)
 ·exact q
 ·exact absurd (g2.trans h2.symm) (List.pairwise_iff_getElem.mp nd j i g1 h1 q)
structure Rw (E:List Ent) (L:List (Str × Str)) (R:List Str):Prop where
 nd:R.Nodup
 adj:∀ (i:Nat) a b,R[i]?=some a->R[i + 1]?=some b->b ∈ adj E a
 shut:∀v ∈ R,∀y ∈ L,On v y->y ∈ ar R
 alt:∀ (i:Nat) a b c,R[i]?=some a->R[i + 1]?=some b->R[i + 2]?=some c->swp a b ∈ L\/swp b c ∈ L
theorem Rw.ne {E:List Ent} {L:List (Str × Str)} {R:List Str} (h:Rw E L R) {i:Nat} {a b:Str} (ha:R[i]?=some a) (hb:R[i + 1]?=some b):a ≠ b:=fun e=>by
 subst e
 have:=idx_inj h.nd ha hb
 omega
theorem sw_of {E:List Ent} (sy:∀a b,b ∈ Gw.adj E a->a ∈ Gw.adj E b) {a b:Str} (n:a ≠ b) (h:b ∈ Gw.adj E a):slt (swp a b).1 (swp a b).2/\(swp a b).2 ∈ Gw.adj E (swp a b).1:=by
 rcases tot_slt.tri a b n with q | q
 ·rw[swp_lt q];exact⟨q,h⟩
 ·rw[swp_gt q];exact⟨q,sy _ _ h⟩
theorem ar_nd:∀ {R:List Str},R.Nodup->(ar R).Nodup
 | [],_=>List.nodup_nil
 | [x],_=>List.nodup_nil
 | x::y::r,nd=>by
  rw[ar_two]
  obtain⟨n1,n2⟩:=List.nodup_cons.mp nd
  refine List.nodup_cons.mpr ⟨fun m=>?_,ar_nd n2⟩
  obtain⟨i,a,b,h1,h2,e⟩:=ar_mem.mp m
  have ab:a ≠ b:=fun z=>by
   subst z
   have:=idx_inj n2 h1 h2
   omega
  have xy:x ≠ y:=fun z=>n1 (z ▸ List.mem_cons_self)
  rcases swp_inj xy ab e with ⟨q,_⟩ | ⟨q,_⟩
  ·exact n1 (q ▸ List.mem_of_getElem? h1)
  ·exact n1 (q ▸ List.mem_of_getElem? h2)
section
variable {E:List Ent} {L:List (Str × Str)} {R:List Str}
theorem Rw.on (h:Rw E L R) {x:Str × Str} {v:Str} (hx:x ∈ ar R) (hv:On v x):v ∈ R:=by
 obtain⟨i,a,b,h1,h2,rfl⟩:=ar_mem.mp hx
 rcases(on_swp (h.ne h1 h2)).mp hv with q | q
 ·exact q ▸ List.mem_of_getElem? h1
 ·exact q ▸ List.mem_of_getElem? h2
theorem Rw.row (sy:∀a b,b ∈ Gw.adj E a->a ∈ Gw.adj E b) (h:Rw E L R):Alt E L (ar R):=by
 refine⟨fun x hx=>?_,ar_nd h.nd,fun x hx y hy v vx vy=>h.shut v (h.on hx vx) y hy vy,fun x hx y hy ne v vx vy=>?_⟩
 ·obtain⟨i,a,b,h1,h2,rfl⟩:=ar_mem.mp hx
  exact sw_of sy (h.ne h1 h2) (h.adj i a b h1 h2)
 ·obtain⟨i,a,b,h1,h2,rfl⟩:=ar_mem.mp hx
  obtain⟨j,c,d,g1,g2,rfl⟩:=ar_mem.mp hy
  have same:i=j->False:=fun e=>by
   subst e
   rw[h1]at g1
   rw[h2]at g2
   cases g1
   cases g2
   exact ne rfl
  rcases(on_swp (h.ne h1 h2)).mp vx with p | p
  ·rcases(on_swp (h.ne g1 g2)).mp vy with q | q
   ·exact(same (idx_inj h.nd h1 (by rw[g1,<-p,q]))).elim
   ·have e:i=j + 1:=idx_inj h.nd h1 (by rw[g2,<-p,q])
    subst e
    have:a=d:=p.symm.trans q
    subst this
    exact(h.alt j c a b g1 g2 h2).symm
  ·rcases(on_swp (h.ne g1 g2)).mp vy with q | q
   ·have e:j=i + 1:=idx_inj h.nd g1 (by rw[h2,<-p,q])
    subst e
    have:b=c:=p.symm.trans q
    subst this
    exact h.alt i a b d h1 h2 g2
   ·have:i + 1=j + 1:=idx_inj h.nd h2 (by rw[g2,<-p,q])
    exact(same (by omega)).elim
theorem Rw.even (p:IsPlan E L) (h:Rw E L R) {x y:Str} (h0:R[0]?=some x) (h1:R[1]?=some y) (hl:swp x y ∈ L):∀ (k:Nat) a b,R[2 * k]?=some a->R[2 * k + 1]?=some b->swp a b ∈ L
 | 0,a,b,ha,hb=>by
  have ha':R[0]?=some a:=ha
  have hb':R[1]?=some b:=hb
  rw[h0]at ha'
  rw[h1]at hb'
  cases ha'
  cases hb'
  exact hl
 | k + 1,a,b,ha,hb=>by
  obtain⟨lt,_⟩:=List.getElem?_eq_some_iff.mp ha
  have hc:=List.getElem?_eq_getElem (l:=R) (i:=2 * k) (by omega)
  have hd:=List.getElem?_eq_getElem (l:=R) (i:=2 * k + 1) (by omega)
  generalize R[2 * k]=c at hc
  generalize R[2 * k + 1]=d at hd
  have ih:=Rw.even p h h0 h1 hl k c d hc hd
  have ha2:R[2 * k + 1 + 1]?=some a:=ha
  have hb2:R[2 * k + 1 + 2]?=some b:=hb
  rcases h.alt (2 * k + 1) d a b hd ha2 hb2 with q | q
  ·exfalso
   have cd:=h.ne hc hd
   have da:=h.ne hd ha2
   have e:=ends_uniq p.nd ih q ((on_swp cd).mpr (.inr rfl)) ((on_swp da).mpr (.inl rfl))
   rcases swp_inj cd da e with ⟨z,_⟩ | ⟨z,_⟩
   ·exact cd z
   ·subst z
    have:=idx_inj h.nd hc ha
    omega
  ·exact q
noncomputable def cyc (R:List Str):List (Str × Str):=ar R++[swp (R.getLastD ⟨#[]⟩) (R.headD ⟨#[]⟩)]
theorem last_at (h:R ≠ []):R[R.length - 1]?=some (R.getLastD ⟨#[]⟩):=by
 rw[<-List.getLast?_eq_getElem?]
 cases R with
 | nil=>exact absurd rfl h
 | cons x r=>rw[List.getLastD_eq_getLast?];rfl
theorem head_at (h:R ≠ []):R[0]?=some (R.headD ⟨#[]⟩):=by
 cases R with
 | nil=>exact absurd rfl h
 | cons x r=>rfl
theorem Rw.ring (sy:∀a b,b ∈ Gw.adj E a->a ∈ Gw.adj E b) (p:IsPlan E L) (h:Rw E L R) (l4:4<=R.length) (ev:R.length % 2=0) {x y z:Str} (h0:R[0]?=some x) (h1:R[1]?=some y) (hl:swp x y ∈ L) (hz:R[R.length - 1]?=some z) (cl:x ∈ Gw.adj E z):Alt E L (cyc R):=by
 have A:=h.row sy
 have ne:R ≠ []:=fun e=>by rw[e]at l4;simp at l4
 have ez:R.getLastD ⟨#[]⟩=z:=by have:=last_at ne;rw[hz]at this;exact(Option.some.inj this).symm
 have ex:R.headD ⟨#[]⟩=x:=by have:=head_at ne;rw[h0]at this;exact(Option.some.inj this).symm
 have zx:z ≠ x:=fun e=>by
  subst e
  have:=idx_inj h.nd hz h0
  omega
 unfold cyc
 rw[ez,ex]
 have on:∀w ∈ ar R++[swp z x],∀v,On v w->v ∈ R:=fun w hw v hv=>by
  rcases List.mem_append.mp hw with q | q
  ·exact h.on q hv
  ·rw[List.mem_singleton.mp q]at hv
   rcases(on_swp zx).mp hv with r | r
   ·exact r ▸ List.mem_of_getElem? hz
   ·exact r ▸ List.mem_of_getElem? h0
 have one:∀w ∈ ar R,∀v,On v w->On v (swp z x)->w ∈ L:=fun w hw v hv hc=>by
  obtain⟨i,a,b,g1,g2,rfl⟩:=ar_mem.mp hw
  rcases(on_swp zx).mp hc with r | r
  ·rcases(on_swp (h.ne g1 g2)).mp hv with q | q
   ·have e:i=R.length - 1:=idx_inj h.nd g1 (by rw[hz,<-r,q])
    obtain⟨lt,_⟩:=List.getElem?_eq_some_iff.mp g2
    omega
   ·have e:i + 1=R.length - 1:=idx_inj h.nd g2 (by rw[hz,<-r,q])
    obtain⟨k,hk⟩:∃k,i=2 * k:=⟨i / 2,by omega⟩
    subst hk
    exact Rw.even p h h0 h1 hl k a b g1 g2
  ·rcases(on_swp (h.ne g1 g2)).mp hv with q | q
   ·have e:i=0:=idx_inj h.nd g1 (by rw[h0,<-r,q])
    subst e
    rw[h0]at g1
    rw[h1]at g2
    cases g1
    cases g2
    exact hl
   ·have e:i + 1=0:=idx_inj h.nd g2 (by rw[h0,<-r,q])
    omega
 refine⟨fun w hw=>?_,?_,fun w hw u hu v vw vu=>List.mem_append_left _ (h.shut v (on w hw v vw) u hu vu),fun w hw u hu ne v vw vu=>?_⟩
 ·rcases List.mem_append.mp hw with q | q
  ·exact A.sw w q
  ·rw[List.mem_singleton.mp q]
   exact sw_of sy zx cl
 ·refine List.nodup_append.mpr ⟨A.nd,by simp,fun w hw u hu e=>?_⟩
  rw[List.mem_singleton.mp hu]at e
  subst e
  obtain⟨i,a,b,g1,g2,e⟩:=ar_mem.mp hw
  rcases swp_inj zx (h.ne g1 g2) e with ⟨q,r⟩ | ⟨q,r⟩
  ·have:=idx_inj h.nd g2 (r ▸ h0)
   omega
  ·have i1:=idx_inj h.nd g1 (r ▸ h0)
   have i2:=idx_inj h.nd g2 (q ▸ hz)
   omega
 ·rcases List.mem_append.mp hw with q | q
  ·rcases List.mem_append.mp hu with r | r
   ·exact A.alt w q u r ne v vw vu
   ·rw[List.mem_singleton.mp r]at vu
    exact .inl (one w q v vw vu)
  ·rcases List.mem_append.mp hu with r | r
   ·rw[List.mem_singleton.mp q]at vw
    exact .inr (one u r v vu vw)
   ·exact absurd ((List.mem_singleton.mp q).trans (List.mem_singleton.mp r).symm) ne
end
theorem ar_rev:∀R:List Str,ar R.reverse=(ar R).reverse
 | []=>rfl
 | [x]=>rfl
 | x::y::r=>by
  have ih:=ar_rev (y::r)
  rw[ar_two,List.reverse_cons,List.reverse_cons (as:=ar (y::r)),<-ih]
  obtain⟨z,s,e⟩:∃z s,(y::r).reverse=z::s:=by
   cases q:(y::r).reverse with
   | nil=>simp at q
   | cons z s=>exact⟨z,s,rfl⟩
  have hl:(z::s).getLastD z=y:=by
   rw[<-e,List.getLastD_eq_getLast?,List.getLast?_reverse]
   rfl
  rw[e,ar_snoc,hl,swp_comm]
theorem cyc_rev {R:List Str} (h:R ≠ []):(cyc R).Perm (cyc R.reverse):=by
 unfold cyc
 rw[ar_rev]
 have e1:R.reverse.getLastD ⟨#[]⟩=R.headD ⟨#[]⟩:=by
  rw[List.getLastD_eq_getLast?,List.getLast?_reverse,List.headD_eq_head?_getD]
 have e2:R.reverse.headD ⟨#[]⟩=R.getLastD ⟨#[]⟩:=by
  rw[List.getLastD_eq_getLast?,List.headD_eq_head?_getD,List.head?_reverse]
 rw[e1,e2,swp_comm]
 exact(List.reverse_perm _).symm.append_right _
theorem cyc_rot (A B:List Str) (hb:B ≠ []):(cyc (A++B)).Perm (cyc (B++A)):=by
 cases A with
 | nil=>rw[List.nil_append,List.append_nil]
 | cons x A=>
  cases B with
  | nil=>exact absurd rfl hb
  | cons y B=>
   unfold cyc
   rw[ar_app,ar_app]
   have l1:(x::A++y::B).getLastD ⟨#[]⟩=(y::B).getLastD y:=by
    rw[List.getLastD_eq_getLast?,List.getLast?_append,List.getLastD_eq_getLast?]
    cases q:(y::B).getLast? with
    | none=>simp at q
    | some v=>rfl
   have l2:(y::B++x::A).getLastD ⟨#[]⟩=(x::A).getLastD x:=by
    rw[List.getLastD_eq_getLast?,List.getLast?_append,List.getLastD_eq_getLast?]
    cases q:(x::A).getLast? with
    | none=>simp at q
    | some v=>rfl
   rw[l1,l2]
   show(ar (x::A)++swp ((x::A).getLastD x) y::ar (y::B)++[swp ((y::B).getLastD y) x]).Perm (ar (y::B)++swp ((y::B).getLastD y) x::ar (x::A)++[swp ((x::A).getLastD x) y])
   generalize swp ((x::A).getLastD x) y=s
   generalize swp ((y::B).getLastD y) x=t
   generalize ar (x::A)=P
   generalize ar (y::B)=Q
   have a1:(P++s::Q++[t]).Perm (s::t::(P++Q)):=by
    refine(List.perm_append_singleton t _).trans ?_
    refine(List.Perm.cons t (List.perm_middle)).trans ?_
    exact List.Perm.swap s t _
   have a2:(Q++t::P++[s]).Perm (s::t::(P++Q)):=by
    refine(List.perm_append_singleton s _).trans ?_
    exact List.Perm.cons s ((List.perm_middle).trans (List.Perm.cons t List.perm_append_comm))
   exact a1.trans a2.symm
end Gk
namespace Gk
open PySem PySem.Spec PyProof.Rows L2 Sw Gw
@[reducible] noncomputable def N_swap_of:List Str:=["one","other"]
noncomputable def b_swap_of:Sxs:=(.cons (.ret (.tup (.cons (.blt .smin (.cons (.var 0) (.cons (.var 1) .nil))) (.cons (.smax (.var 0) (.var 1)) .nil))))
 .nil)
@[reducible] noncomputable def N_swaps_along:List Str:=["part","couples","swaps"]
noncomputable def b_swaps_along:Sxs:=(.cons (.asg 1 (.idx (.var 0) (.con (.int 1))))
 (.cons (.asg 2 (.compZ ["one","other"] [] (.var 1) (.slc (.var 1) (.cons (.con (.int 1)) .nil) .nil) (.call "swap_of" (.cons (.var 0) (.cons (.var 1) .nil)))))
 (.cons (.iff (.cmp .Eq (.idx (.var 0) (.con (.int 0))) (.glob "RING")) (.cons (.exp (.mth .append (.var 2) (.cons (.call "swap_of" (.cons (.idx (.var 1) (.neg (.con (.int 1)))) (.cons (.idx (.var 1) (.con (.int 0))) .nil))) .nil)))
 .nil) .nil)
 (.cons (.ret (.var 2))
 .nil))))
@[reducible] noncomputable def N_turned:List Str:=["plan","part","along","staying","coming"]
noncomputable def b_turned:Sxs:=(.cons (.asg 2 (.call "swaps_along" (.cons (.var 1) .nil)))
 (.cons (.asg 3 (.comp "swap" [("along",2)] (.ex (.var 0)) (.var 0) (.cons (.cmpI .NotIn (.var 0) (.var 1)) .nil)))
 (.cons (.asg 4 (.comp "swap" [("plan",0)] (.ex (.var 2)) (.var 0) (.cons (.cmpI .NotIn (.var 0) (.var 1)) .nil)))
 (.cons (.ret (.blt2 .sortT (.bin .Add (.var 3) (.var 4))))
 .nil))))
noncomputable def spSwapOf (M:Mo):Sp:=fun vs H Q _=>∃a b,vs=[.str a,.str b]/\∀t,H t=none->M t=none->Q (.ref t) (upd H t (.tup [.str (swp a b).1,.str (swp a b).2]))
theorem ok_swapof {M:Mo} {Γ:Gam} (gm:Γ.mod=M) (gc:Γ.cm=true) (vs:List V) (H:Hp) (Q:VK) (X:XK) (h:spSwapOf M vs H Q X):spOf Γ N_swap_of 2 b_swap_of vs H Q X:=by
 obtain⟨a,b,rfl,h⟩:=h
 refine⟨rfl,?_⟩
 obtain rfl:=gm
 unfold b_swap_of
 walk_at "sw"
 refine⟨gc,smin_at ⟨gc,?_⟩⟩
 show([V.str (Gr.mn slt a b),V.str (if slt a b then b else a)]:List V).length<=sizeLine/\_
 exact⟨by rw[sizeLine_eq];simp,fun t ht mt=>h t ht mt⟩
theorem comp_invG {ι:Type} {nxt:ι->Hp->(L2.St->Hp->Prop)->Prop} {te:TE} {tt:TT} {fvs:L2.St} {D:Addr} {stay:Hp->Prop} {k:Hp->Prop} {xs:List ι} (Pv:Nat->List V->Hp->Prop) (st:∀n acc H,Pv n acc H->stay H/\H D=some (.lst acc))
  (step:∀n v acc H (K:List V->Hp->Prop),xs[n]?=some v->Pv n acc H->(∀ acc' H',Pv (n + 1) acc' H'->K acc' H')->nxt v H fun w H0=>tt (w++fvs) H0 fun ok H1=>if ok=true then te (w++fvs) H1 fun y H2=>H2 D=some (.lst acc)/\acc.length < sizeLine/\K (acc++[y]) (upd H2 D (.lst (acc++[y])))else K acc H1)
  (fin:∀acc H,Pv xs.length acc H->k H) {acc:List V} {H:Hp} (h0:Pv 0 acc H):compWG nxt te tt fvs D stay xs acc H k:=by
 have go:∀ (r:List ι) (n:Nat),xs.drop n=r->n<=xs.length->∀acc H,Pv n acc H->compWG nxt te tt fvs D stay r acc H k:=by
  intro r
  induction r with
  | nil=>
   intro n e hn acc H p
   have:xs.length<=n:=by simpa using e
   have hn':n=xs.length:=by omega
   subst hn'
   exact⟨(st _ _ _ p).1,(st _ _ _ p).2,fin acc H p⟩
  | cons v r ih=>
   intro n e hn acc H p
   have hlt:n < xs.length:=by
    have:=congrArg List.length e
    simp at this
    omega
   have hv:xs[n]?=some v:=by
    have:=congrArg (fun l=>l[0]?) e
    simpa using this
   have hr:xs.drop (n + 1)=r:=by
    have:=congrArg List.tail e
    simpa[List.tail_drop]using this
   exact⟨(st _ _ _ p).1,step n v acc H (fun acc' H'=>compWG nxt te tt fvs D stay r acc' H' k) hv p fun acc' H' q=>ih (n + 1) hr hlt acc' H' q⟩
 exact go xs 0 (by simp) (Nat.zero_le _) acc H h0
theorem data_pr {M:Mo} {H:Hp} {t:Addr} {a b:Str} (h:H t=some (.tup [.str a,.str b])) (n:Nat):data M H (n + 1) (.ref t)=some (pd (a,b)):=by
 unfold Sw.data
 rw[rd_of h nofrz_t]
 show(allM (Sw.data M H n) ([a,b].map V.str)).map PyData.tuple=_
 rw[allM_map (k:=PyData.str) fun x _=>data_str n x]
 rfl
theorem data_prs {M:Mo} {H:Hp} {P:List Pr} (h:PrsAt H P) (n:Nat):allM (data M H (n + 1)) (refs P)=some ((txs P).map pd):=by
 unfold refs txs
 rw[List.map_map]
 exact allM_map (k:=fun x:Pr=>pd x.2) fun x hx=>data_pr (h x hx) n
theorem any_pd (L:List (Str × Str)) (x:Str × Str):(L.map pd).any (fun e=>PyData.eqv e (pd x))=decide (x ∈ L):=by
 induction L with
 | nil=>rfl
 | cons y r ih=>
  rw[List.map_cons,List.any_cons,ih,eqv_pd]
  by_cases e:y=x
  ·subst e;simp
  ·have:x ≠ y:=fun z=>e z.symm
   simp[e,this]
theorem inP {M:Mo} {H:Hp} {p t:Addr} {P:List Pr} {a b:Str} {Q:VK} (hp:PlanAt H p P) (ht:H t=some (.tup [.str a,.str b])) (q:Q (.bl (decide ((a,b) ∈ txs P))) H):cmpIV M .In (.ref t) (.ref p) H Q:=by
 unfold cmpIV
 dsimp only
 rw[rd_of hp.at_ nofrz_l]
 dsimp only
 rw[data_pr ht 7,data_prs hp.prs 7]
 dsimp only
 rw[any_pd]
 exact q
theorem notinP {M:Mo} {H:Hp} {p t:Addr} {P:List Pr} {a b:Str} {Q:VK} (hp:PlanAt H p P) (ht:H t=some (.tup [.str a,.str b])) (q:Q (.bl (!decide ((a,b) ∈ txs P))) H):cmpIV M .NotIn (.ref t) (.ref p) H Q:=by
 unfold cmpIV
 dsimp only
 rw[rd_of hp.at_ nofrz_l]
 dsimp only
 rw[data_pr ht 7,data_prs hp.prs 7]
 dsimp only
 rw[any_pd]
 exact q
noncomputable def alng (wd:Str) (R:List Str):List (Str × Str):=if wd=Str.ofString "ring" then cyc R else ar R
structure PartAt (M:Mo) (H:Hp) (pt:Addr) (wd:Str) (c:Addr) (R:List Str):Prop where
 tup:rd M H pt=some (.tup [.str wd,.ref c])
 lst:rd M H c=some (.lst (R.map V.str))
theorem PartAt.ext {M:Mo} {H H':Hp} {pt c:Addr} {wd:Str} {R:List Str} (h:PartAt M H pt wd c R) (x:Ext M H H'):PartAt M H' pt wd c R:=⟨x.rd h.tup,x.rd h.lst⟩
noncomputable def spAlong (M:Mo):Sp:=fun vs H Q _=>∃pt wd c R,vs=[.ref pt]/\PartAt M H pt wd c R/\(wd=Str.ofString "ring" ->R ≠ [])/\R.length<=100/\
 ∀H' q P,Ext M H H'->H q=none->M q=none->PlanAt H' q P->txs P=alng wd R->Q (.ref q) H'
theorem cut1 (R:List Str):cutV (R.map V.str) (some 1) none=R.tail.map V.str:=by
 unfold cutV HT.sIx
 dsimp only
 rw[if_neg (by decide)]
 cases R with
 | nil=>rfl
 | cons x r=>
  simp
  exact List.take_of_length_le (by simp)
theorem ix_last {M:Mo} {H:Hp} {c:Addr} {R:List Str} {Q:VK} (h:rd M H c=some (.lst (R.map V.str))) (ne:R ≠ []) (q:Q (.str (R.getLastD ⟨#[]⟩)) H):idxV M (.ref c) (.int (-1)) H Q:=by
 refine ix_at h (v:=.str (R.getLastD ⟨#[]⟩)) ?_ q
 have l:0 < R.length:=List.length_pos_iff.mpr ne
 unfold atI ixN
 rw[if_neg (by decide),if_pos (by rw[List.length_map];omega),List.length_map]
 show(R.map V.str)[(-1 + (R.length:Int)).toNat]?=_
 rw[show(-1 + (R.length:Int)).toNat=R.length - 1 by omega,List.getElem?_map,last_at ne]
 rfl
theorem ix_head {M:Mo} {H:Hp} {c:Addr} {R:List Str} {Q:VK} (h:rd M H c=some (.lst (R.map V.str))) (ne:R ≠ []) (q:Q (.str (R.headD ⟨#[]⟩)) H):idxV M (.ref c) (.int 0) H Q:=by
 refine ix_at h (v:=.str (R.headD ⟨#[]⟩)) ?_ q
 cases R with
 | nil=>exact absurd rfl ne
 | cons x r=>
  unfold atI ixN
  simp
theorem zip_str:∀ (R S:List Str) (m:Nat) (v:V × V),((R.map V.str).zip (S.map V.str))[m]?=some v->∃a b,(R.zip S)[m]?=some (a,b)/\v=(.str a,.str b):=fun R S m v h=>by
 rw[List.zip_map,List.getElem?_map]at h
 obtain⟨p,hp,rfl⟩:=Option.map_eq_some_iff.mp h
 exact⟨p.1,p.2,hp,rfl⟩
theorem ok_along {M:Mo} {Γ:Gam} (gm:Γ.mod=M) (gc:Γ.cm=true) (gl:Γ.con "RING" =some (.str (Str.ofString "ring"))) (g1:Γ.has "swap_of" =true/\Γ.fn "swap_of" =spSwapOf M) (vs:List V) (H:Hp) (Q:VK) (X:XK) (h:spAlong M vs H Q X):spOf Γ N_swaps_along 1 b_swaps_along vs H Q X:=by
 obtain⟨pt,wd,c,R,rfl,pa,rn,few,h⟩:=h
 refine⟨rfl,?_⟩
 obtain rfl:=gm
 unfold b_swaps_along
 refine seq ?_
 walk_at "s1"
 rw[Sw.i_ref,pa.tup]
 show wSs _ Γ _ _ _ H
 refine seq ?_
 dsimp only[Sw.wS,Sw.wE,Sw.wEs,Sw.wTs,Sw.wI,Sw.wP,Sw.vars,Sw.r_get0,Sw.r_getS,Sw.r_set0,Sw.r_setS,Sw.r_map0,Sw.r_mapS,Sw.r_app0,Sw.r_appS,Sw.r_join,L2.start,Sw.r_len0,Sw.r_lenS,Sw.r_rep0,Sw.r_repS,Nat.reduceAdd,Nat.reduceSub]
 refine⟨gc,?_⟩
 rw[Sw.s_ref,pa.lst]
 intro l hl ml
 rw[cut1]
 have x1:Ext Γ.mod H (upd H l (.lst (R.tail.map V.str))):=Ext.upd hl ml
 have hll:upd H l (.lst (R.tail.map V.str)) l=some (.lst (R.tail.map V.str)):=upd_same
 generalize upd H l (.lst (R.tail.map V.str))=H1 at x1 hll
 have pa1:=pa.ext x1
 have rl:=rd_of (M:=Γ.mod) hll nofrz_l
 unfold zipV
 dsimp only
 rw[pa1.lst,rl]
 dsimp only
 intro D hD mD
 have xD:Ext Γ.mod H1 (upd H1 D (.lst [])):=Ext.upd hD mD
 have zl:(R.zip R.tail).length<=100:=by rw[List.length_zip];omega
 refine comp_invG (fun n acc Hm=>∃P:List Pr,acc=refs P/\Hm D=some (.lst (refs P))/\PrsAt Hm P/\Ext Γ.mod H1 Hm/\txs P=((R.zip R.tail).take n).map fun p=>swp p.1 p.2) (fun m acc Hm z=>?_) (fun m v acc Hm K hv pv nx=>?_) (fun acc Hm pv=>?_)
  ⟨[],rfl,upd_same,fun x hx=>by (cases hx),xD,rfl⟩
 ·obtain⟨P,rfl,z1,z2,z3,z4⟩:=z
  exact⟨⟨z3.rd pa1.lst,z3.rd rl⟩,z1⟩
 ·obtain⟨P,rfl,z1,z2,z3,z4⟩:=pv
  obtain⟨a,b,e1,rfl⟩:=zip_str R R.tail m v hv
  intro t ht mt
  dsimp only
  rw[if_pos rfl]
  refine⟨⟨gc,g1.1⟩,?_⟩
  rw[g1.2]
  refine⟨a,b,rfl,fun s hs ms=>?_⟩
  have x2:Ext Γ.mod Hm (upd Hm t (.tup [.str a,.str b])):=Ext.upd ht mt
  have x3:Ext Γ.mod (upd Hm t (.tup [.str a,.str b])) (upd (upd Hm t (.tup [.str a,.str b])) s (.tup [.str (swp a b).1,.str (swp a b).2])):=Ext.upd hs ms
  have hss:upd (upd Hm t (.tup [.str a,.str b])) s (.tup [.str (swp a b).1,.str (swp a b).2]) s=some (.tup [.str (swp a b).1,.str (swp a b).2]):=upd_same
  have x23:=x2.trans x3
  generalize upd (upd Hm t (.tup [.str a,.str b])) s (.tup [.str (swp a b).1,.str (swp a b).2])=H3 at x3 x23 hss
  have hD3:=x23.same _ _ z1
  have lp:P.length<=100:=by
   have q:=congrArg List.length z4
   unfold txs at q
   rw[List.length_map,List.length_map,List.length_take]at q
   omega
  have e:refs P++[V.ref s]=refs (P++[(s,swp a b)]):=by rw[<-refs_app];rfl
  refine⟨hD3,by rw[refs_len,sizeLine_eq];omega,?_⟩
  rw[e]
  refine nx _ _ ⟨P++[(s,swp a b)],rfl,upd_same,PrsAt.upd (xs:=refs P) (PrsAt.app (Ext.prs x23 z2) (fun y hy=>by rw[List.mem_singleton.mp hy];exact hss)) hD3,(z3.trans x23).upd3 hD mD,?_⟩
  rw[List.take_succ,e1,List.map_append,<-z4]
  unfold txs
  rw[List.map_append]
  rfl
 ·obtain⟨P,rfl,z1,z2,z3,z4⟩:=pv
  have xx:=x1.trans z3
  have e:txs P=ar R:=by
   rw[z4,List.zip_map,List.length_map,List.take_length]
   rfl
  have pp:=pa.ext xx
  refine seq ?_
  walk_at "s1"
  rw[Sw.i_ref,pp.tup]
  show(match Γ.con "RING" with | some v=>_ | none=>False)
  rw[gl]
  dsimp only
  rw[Sw.v_eqs]
  refine⟨_,rfl,?_⟩
  by_cases w:wd=Str.ofString "ring"
  ·rw[if_pos (decide_eq_true w)]
   have ne:=rn w
   refine seq ?_
   walk_at "s1"
   refine⟨mty_l z1,⟨gc,g1.1⟩,ix_last pp.lst ne (ix_head pp.lst ne ?_)⟩
   rw[g1.2]
   refine⟨_,_,rfl,fun s hs ms=>?_⟩
   generalize e2:swp (R.getLastD ⟨#[]⟩) (R.headD ⟨#[]⟩)=sw
   have x3:Ext Γ.mod Hm (upd Hm s (.tup [.str sw.1,.str sw.2])):=Ext.upd hs ms
   have hss:upd Hm s (.tup [.str sw.1,.str sw.2]) s=some (.tup [.str sw.1,.str sw.2]):=upd_same
   generalize upd Hm s (.tup [.str sw.1,.str sw.2])=H3 at x3 hss
   have hD3:=x3.same _ _ z1
   have lp:P.length<=100:=by
    have q:=congrArg List.length z4
    unfold txs at q
    rw[List.length_map,List.length_map,List.length_take,List.zip_map,List.length_map]at q
    omega
   refine append_at hD3 (by rw[refs_len,sizeLine_eq];omega) ?_
   have er:refs P++[V.ref s]=refs (P++[(s,sw)]):=by rw[<-refs_app];rfl
   rw[er]
   refine seq0 ?_
   walk_at "sw"
   refine h _ D (P++[(s,sw)]) (x1.trans ((z3.trans x3).upd3 hD mD)) (x1.non hD) mD ⟨upd_same,PrsAt.upd (xs:=refs P) (PrsAt.app (Ext.prs x3 z2) (fun y hy=>by rw[List.mem_singleton.mp hy];exact hss)) hD3⟩ ?_
   unfold alng cyc
   rw[if_pos w,<-e,e2]
   unfold txs
   rw[List.map_append]
   rfl
  ·rw[if_neg (by rw[decide_eq_true_iff];exact w)]
   refine seq0 ?_
   walk_at "sw"
   refine h _ D P xx (x1.non hD) mD ⟨z1,z2⟩ ?_
   unfold alng
   rw[if_neg w,e]
end Gk
namespace Gk
open PySem PySem.Spec PyProof.Rows L2 Sw Gw
theorem comp_keep {te:TE} {tt:TT} {fvs:L2.St} {D:Addr} {stay:Hp->Prop} {k:Hp->Prop} {H0:Hp} {A:List (Str × Str)}:∀ (P:List Pr) (acc:List V),(∀ l,stay (upd H0 D (.lst l)))->
  (∀ x ∈ P,∀acc R,R (!decide (x.2 ∈ A)) (upd H0 D (.lst acc))->tt (some (.ref x.1)::fvs) (upd H0 D (.lst acc)) R)->(∀ x ∈ P,∀acc Q,Q (.ref x.1) (upd H0 D (.lst acc))->te (some (.ref x.1)::fvs) (upd H0 D (.lst acc)) Q)->acc.length + P.length<=1000->
  k (upd H0 D (.lst (acc++refs (P.filter fun x=>!decide (x.2 ∈ A)))))->compW te tt fvs D stay (refs P) acc (upd H0 D (.lst acc)) k
 | [],acc,st,_,_,_,q=>⟨st _,upd_same,by simpa[refs]using q⟩
 | x::P,acc,st,ht,he,hl,q=>by
  rw[List.length_cons]at hl
  refine⟨st _,ht x List.mem_cons_self acc _ ?_⟩
  by_cases m:x.2 ∈ A
  ·rw[if_neg (by simp[m])]
   refine comp_keep P acc st (fun y hy=>ht y (List.mem_cons_of_mem _ hy)) (fun y hy=>he y (List.mem_cons_of_mem _ hy)) (by omega) ?_
   rw[List.filter_cons_of_neg (by simp[m])]at q
   exact q
  ·rw[if_pos (by simp[m])]
   refine he x List.mem_cons_self acc _ ⟨upd_same,by rw[sizeLine_eq];omega,?_⟩
   rw[upd_upd]
   refine comp_keep P _ st (fun y hy=>ht y (List.mem_cons_of_mem _ hy)) (fun y hy=>he y (List.mem_cons_of_mem _ hy)) (by rw[List.length_append];simp;omega) ?_
   rw[List.filter_cons_of_pos (by simp[m])]at q
   rw[List.append_assoc]
   exact q
noncomputable def spTurn14 (M:Mo):Sp:=fun vs H Q _=>∃p pt P wd c R,vs=[.ref p,.ref pt]/\PlanAt H p P/\(txs P).Nodup/\P.length<=20/\PartAt M H pt wd c R/\(wd=Str.ofString "ring" ->R ≠ [])/\R.length<=20/\(alng wd R).Nodup/\
 ∀H' q T,Ext M H H'->H q=none->M q=none->PlanAt H' q T->Rising (txs T)->(∀ x,x ∈ txs T ↔ Xor2 (txs P) (alng wd R) x)->T.length<=41->Q (.ref q) H'
theorem alng_len (wd:Str) (R:List Str):(alng wd R).length<=R.length + 1:=by
 unfold alng cyc ar
 split
 ·rw[List.length_append,List.length_map,List.length_zip]
  simp
 ·rw[List.length_map,List.length_zip]
  omega
theorem filt_txs (P:List Pr) (A:List (Str × Str)):txs (P.filter fun x=>!decide (x.2 ∈ A))=(txs P).filter fun x=>!decide (x ∈ A):=by
 unfold txs
 rw[List.filter_map]
 rfl
theorem ok_turn14 {M:Mo} {Γ:Gam} (gm:Γ.mod=M) (gc:Γ.cm=true) (g1:Γ.has "swaps_along" =true/\Γ.fn "swaps_along" =spAlong M) (vs:List V) (H:Hp) (Q:VK) (X:XK) (h:spTurn14 M vs H Q X):spOf Γ N_turned 2 b_turned vs H Q X:=by
 obtain⟨p,pt,P,wd,c,R,rfl,hp,nd,few,pa,rn,rf,an,h⟩:=h
 refine⟨rfl,?_⟩
 obtain rfl:=gm
 unfold b_turned
 refine seq ?_
 walk_at "s1"
 refine⟨⟨gc,g1.1⟩,?_⟩
 rw[g1.2]
 refine⟨pt,wd,c,R,rfl,pa,rn,by omega,fun H1 al A x1 hal mal ha ea=>?_⟩
 have la:A.length<=21:=by
  have q:=congrArg List.length ea
  unfold txs at q
  rw[List.length_map]at q
  have:=alng_len wd R
  omega
 have hp1:=Ext.plan x1 hp
 refine seq ?_
 dsimp only[Sw.wS,Sw.wE,Sw.wT,Sw.wEs,Sw.wTs,Sw.wI,Sw.wP,Sw.vars,Sw.r_get0,Sw.r_getS,Sw.r_set0,Sw.r_setS,Sw.r_map0,Sw.r_mapS,Sw.r_app0,Sw.r_appS,Sw.r_join,L2.start,Sw.r_len0,Sw.r_lenS,Sw.r_rep0,Sw.r_repS,Nat.reduceAdd,Nat.reduceSub]
 refine⟨gc,iter_l (rd_of hp1.at_ nofrz_l) fun D hD mD=>?_⟩
 have same:∀l,Ext Γ.mod H1 (upd H1 D (.lst l)):=fun l=>Ext.upd hD mD
 refine comp_keep (H0:=H1) (A:=txs A) P [] (fun l=>rd_of (Ext.plan (same l) hp1).at_ nofrz_l) (fun x hx acc R q=>?_) (fun x hx acc Q q=>?_) (by simp;omega) ?_
 ·refine notinP (Ext.plan (same acc) ha) ((same acc).same _ _ (hp1.prs x hx)) ⟨_,rfl,?_⟩
  exact q
 ·exact q
 rw[List.nil_append]
 have x2:=same (refs (P.filter fun x=>!decide (x.2 ∈ txs A)))
 have hs:PlanAt (upd H1 D (.lst (refs (P.filter fun x=>!decide (x.2 ∈ txs A))))) D (P.filter fun x=>!decide (x.2 ∈ txs A)):=⟨upd_same,PrsAt.new (fun y hy=>hp1.prs y (List.mem_filter.mp hy).1) hD⟩
 generalize upd H1 D (.lst (refs (P.filter fun x=>!decide (x.2 ∈ txs A))))=H2 at x2 hs
 have hp2:=Ext.plan x2 hp1
 have ha2:=Ext.plan x2 ha
 refine seq ?_
 dsimp only[Sw.wS,Sw.wE,Sw.wT,Sw.wEs,Sw.wTs,Sw.wI,Sw.wP,Sw.vars,Sw.r_get0,Sw.r_getS,Sw.r_set0,Sw.r_setS,Sw.r_map0,Sw.r_mapS,Sw.r_app0,Sw.r_appS,Sw.r_join,L2.start,Sw.r_len0,Sw.r_lenS,Sw.r_rep0,Sw.r_repS,Nat.reduceAdd,Nat.reduceSub]
 refine⟨gc,iter_l (rd_of ha2.at_ nofrz_l) fun B hB mB=>?_⟩
 have sameB:∀l,Ext Γ.mod H2 (upd H2 B (.lst l)):=fun l=>Ext.upd hB mB
 refine comp_keep (H0:=H2) (A:=txs P) A [] (fun l=>rd_of (Ext.plan (sameB l) ha2).at_ nofrz_l) (fun x hx acc R q=>?_) (fun x hx acc Q q=>?_) (by simp;omega) ?_
 ·refine notinP (Ext.plan (sameB acc) hp2) ((sameB acc).same _ _ (ha2.prs x hx)) ⟨_,rfl,?_⟩
  exact q
 ·exact q
 rw[List.nil_append]
 have x3:=sameB (refs (A.filter fun x=>!decide (x.2 ∈ txs P)))
 have hc:PlanAt (upd H2 B (.lst (refs (A.filter fun x=>!decide (x.2 ∈ txs P))))) B (A.filter fun x=>!decide (x.2 ∈ txs P)):=⟨upd_same,PrsAt.new (fun y hy=>ha2.prs y (List.mem_filter.mp hy).1) hB⟩
 generalize upd H2 B (.lst (refs (A.filter fun x=>!decide (x.2 ∈ txs P))))=H3 at x3 hc
 have l1:=List.length_filter_le (fun x:Pr=>!decide (x.2 ∈ txs A)) P
 have l2:=List.length_filter_le (fun x:Pr=>!decide (x.2 ∈ txs P)) A
 walk_at "sw"
 refine⟨gc,?_⟩
 rw[Sw.v_cat,rd_of (Ext.plan x3 hs).at_ nofrz_l,rd_of hc.at_ nofrz_l]
 refine⟨by rw[refs_len,refs_len,sizeLine_eq];omega,fun r hr mr=>?_⟩
 rw[refs_app]
 have x4:Ext Γ.mod H3 (upd H3 r (.lst (refs ((P.filter fun x=>!decide (x.2 ∈ txs A))++A.filter fun x=>!decide (x.2 ∈ txs P))))):=Ext.upd hr mr
 have hr':PlanAt (upd H3 r (.lst (refs ((P.filter fun x=>!decide (x.2 ∈ txs A))++A.filter fun x=>!decide (x.2 ∈ txs P))))) r ((P.filter fun x=>!decide (x.2 ∈ txs A))++A.filter fun x=>!decide (x.2 ∈ txs P)):=⟨upd_same,PrsAt.new (PrsAt.app (Ext.plan x3 hs).prs hc.prs) hr⟩
 generalize upd H3 r (.lst (refs ((P.filter fun x=>!decide (x.2 ∈ txs A))++A.filter fun x=>!decide (x.2 ∈ txs P))))=H4 at x4 hr'
 have et:txs ((P.filter fun x=>!decide (x.2 ∈ txs A))++A.filter fun x=>!decide (x.2 ∈ txs P))=(txs P).filter (fun x=>!decide (x ∈ txs A))++(txs A).filter fun x=>!decide (x ∈ txs P):=by
  rw[<-filt_txs,<-filt_txs]
  unfold txs
  rw[List.map_append]
 have nt:(txs ((P.filter fun x=>!decide (x.2 ∈ txs A))++A.filter fun x=>!decide (x.2 ∈ txs P))).Nodup:=by
  rw[et]
  refine List.nodup_append.mpr ⟨nd.filter _,(ea ▸ an:(txs A).Nodup).filter _,fun x hx y hy e=>?_⟩
  subst e
  have q:=(List.mem_filter.mp hy).2
  simp at q
  exact q (List.mem_filter.mp hx).1
 refine sort_pairs hr' nt (by rw[List.length_append];omega) fun T q pm ris hq mq=>?_
 have x14:=((x1.trans x2).trans x3).trans x4
 refine h _ q T (x14.trans (Ext.upd hq mq)) (x14.non hq) mq ⟨upd_same,PrsAt.new (fun y hy=>hr'.prs y (pm.mem_iff.mp hy)) hq⟩ ris (fun x=>?_) (by rw[pm.length_eq,List.length_append];omega)
 have pm':(txs T).Perm (txs ((P.filter fun x=>!decide (x.2 ∈ txs A))++A.filter fun x=>!decide (x.2 ∈ txs P))):=pm.map _
 rw[pm'.mem_iff,et,List.mem_append,List.mem_filter,List.mem_filter,ea]
 unfold Xor2
 simp
end Gk
namespace Gk
open PySem PySem.Spec PyProof.Rows L2 Sw Gw
@[reducible] noncomputable def N__law_due:List Str:=["_law_plan_here","_law_part_here","_law_word","_law_couples","_law_along","_law_found","_law_one","_law_other","_law_pair"]
noncomputable def b__law_due:Sxs:=(.cons (.asgT [2,3] (.var 1))
 (.cons (.asg 4 (.lzip (.var 3) (.slc (.var 3) (.cons (.con (.int 1)) .nil) .nil)))
 (.cons (.iff (.cmp .Eq (.var 2) (.con (.str "ring"))) (.cons (.exp (.mth .append (.var 4) (.cons (.tup (.cons (.idx (.var 3) (.neg (.con (.int 1)))) (.cons (.idx (.var 3) (.con (.int 0))) .nil))) .nil)))
 .nil) .nil)
 (.cons (.asg 5 (.blt .list (.cons (.var 0) .nil)))
 (.cons (.frT [6,7] (.ex (.var 4)) (.cons (.asg 8 (.tup (.cons (.blt .smin (.cons (.var 6) (.cons (.var 7) .nil))) (.cons (.smax (.var 6) (.var 7)) .nil))))
 (.cons (.iff (.cmpI .In (.var 8) (.var 0)) (.cons (.exp (.mth2 .remove (.var 5) (.cons (.var 8) .nil)))
  .nil) (.cons (.exp (.mth .append (.var 5) (.cons (.var 8) .nil)))
  .nil))
 .nil)))
 (.cons (.ret (.blt2 .sortT (.var 5)))
 .nil))))))
theorem lzip_plan {M:Mo} {H:Hp} {Q:VK} {R S:List Str} (k:∀H' l Z,Ext M H H'->H l=none->M l=none->PlanAt H' l Z->txs Z=R.zip S->Q (.ref l) H'):pairsV M ((R.map V.str).zip (S.map V.str)) H Q:=by
 intro H' l ts hl ht old off nl ml at_
 rw[List.zip_map,List.length_map]at hl
 have e1:refs (ts.zip (R.zip S))=ts.map V.ref:=by
  unfold refs
  have:(ts.zip (R.zip S)).map (fun x=>V.ref x.1)=((ts.zip (R.zip S)).map (·.1)).map V.ref:=by rw[List.map_map];rfl
  rw[this,List.map_fst_zip (by omega)]
 refine k H' l (ts.zip (R.zip S)) ⟨old,off⟩ nl ml ⟨by rw[e1];exact at_,fun x hx=>?_⟩ ?_
 ·obtain⟨j,hj⟩:=List.mem_iff_getElem?.mp hx
  obtain⟨t,a,b⟩:=x
  obtain⟨h1,h2⟩:=List.getElem?_zip_eq_some.mp hj
  obtain⟨_,_,x,y,g1,g2⟩:=ht j t h1
  obtain⟨a',b',g3,g4⟩:=zip_str R S j (x,y) g1
  rw[h2]at g3
  cases g3
  cases g4
  exact g2
 ·unfold txs
  exact List.map_snd_zip (by omega)
theorem find_pd {L:List (Str × Str)} {s:Str × Str} (h:s ∈ L):∃j,(L.map pd).findIdx? (fun e=>PyData.eqv e (pd s))=some j/\L[j]?=some s:=by
 induction L with
 | nil=>cases h
 | cons y r ih=>
  rw[List.map_cons,List.findIdx?_cons,eqv_pd]
  by_cases e:y=s
  ·subst e
   exact⟨0,by simp,rfl⟩
  ·obtain⟨j,h1,h2⟩:=ih ((List.mem_cons.mp h).resolve_left fun z=>e z.symm)
   refine⟨j + 1,?_,h2⟩
   rw[if_neg (by simp[e]),h1]
   rfl
theorem erase_mem {L:List (Str × Str)} {s x:Str × Str} {j:Nat} (nd:L.Nodup) (h:L[j]?=some s):x ∈ L.eraseIdx j ↔ x ∈ L/\x ≠ s:=by
 rw[List.mem_eraseIdx_iff_getElem?]
 obtain⟨j1,j2⟩:=List.getElem?_eq_some_iff.mp h
 constructor
 ·rintro⟨i,hi,e⟩
  refine⟨List.mem_of_getElem? e,fun z=>?_⟩
  subst z
  obtain⟨i1,i2⟩:=List.getElem?_eq_some_iff.mp e
  rcases Nat.lt_or_gt_of_ne hi with q | q
  ·exact List.pairwise_iff_getElem.mp nd i j i1 j1 q (i2.trans j2.symm)
  ·exact List.pairwise_iff_getElem.mp nd j i j1 i1 q (j2.trans i2.symm)
 ·rintro⟨hx,ne⟩
  obtain⟨i,e⟩:=List.mem_iff_getElem?.mp hx
  exact⟨i,fun z=>by rw[z,h]at e;exact ne (Option.some.inj e).symm,e⟩
theorem rm_at {M:Mo} {H:Hp} {q t:Addr} {F:List Pr} {s:Str × Str} {Q:VK} (hp:PlanAt H q F) (ht:H t=some (.tup [.str s.1,.str s.2])) (hs:s ∈ txs F) (nd:(txs F).Nodup)
  (k:∀F',PlanAt (upd H q (.lst (refs F'))) q F'->(txs F').Nodup->(∀ x,x ∈ txs F' ↔ x ∈ txs F/\x ≠ s)->F'.length<=F.length->Q .non (upd H q (.lst (refs F')))):m2V M .remove (.ref q) [.ref t] H Q:=by
 show(match H q with
  | some (.lst xs)=>(match data M H 8 (.ref t),allM (data M H 8) xs with
   | some d,some ds=>(match ds.findIdx? (fun e=>PyData.eqv e d)with
    | some j=>Q .non (upd H q (.lst (xs.eraseIdx j)))
    | none=>False)
   | _,_=>False)
  | _=>False)
 rw[hp.at_]
 dsimp only
 rw[data_pr ht 7,data_prs hp.prs 7]
 dsimp only
 obtain⟨j,h1,h2⟩:=find_pd hs
 rw[show pd (s.1,s.2)=pd s from rfl,h1]
 dsimp only
 have e:(refs F).eraseIdx j=refs (F.eraseIdx j):=by
  unfold refs
  rw[List.eraseIdx_eq_take_drop_succ,List.eraseIdx_eq_take_drop_succ,List.map_append,List.map_take,List.map_drop]
 have e2:txs (F.eraseIdx j)=(txs F).eraseIdx j:=by
  unfold txs
  rw[List.eraseIdx_eq_take_drop_succ,List.eraseIdx_eq_take_drop_succ,List.map_append,List.map_take,List.map_drop]
 rw[e]
 refine k _ ⟨upd_same,PrsAt.upd (xs:=refs F) (fun y hy=>hp.prs y (List.mem_of_mem_eraseIdx hy)) hp.at_⟩ (by rw[e2];exact nd.sublist (List.eraseIdx_sublist _ _)) (fun x=>by rw[e2];exact erase_mem nd h2) (List.length_eraseIdx_le _ _)
noncomputable def spDue (M:Mo):Sp:=fun vs H Q _=>∃p pt P wd c R,vs=[.ref p,.ref pt]/\PlanAt H p P/\(txs P).Nodup/\P.length<=20/\PartAt M H pt wd c R/\(wd=Str.ofString "ring" ->R ≠ [])/\R.length<=20/\(alng wd R).Nodup/\
 ∀H' q T,Ext M H H'->H q=none->M q=none->PlanAt H' q T->Rising (txs T)->(∀ x,x ∈ txs T ↔ Xor2 (txs P) (alng wd R) x)->T.length<=41->Q (.ref q) H'
noncomputable def tl_due:Sxs:=(.cons (.asg 5 (.blt .list (.cons (.var 0) .nil)))
 (.cons (.frT [6,7] (.ex (.var 4)) (.cons (.asg 8 (.tup (.cons (.blt .smin (.cons (.var 6) (.cons (.var 7) .nil))) (.cons (.smax (.var 6) (.var 7)) .nil))))
 (.cons (.iff (.cmpI .In (.var 8) (.var 0)) (.cons (.exp (.mth2 .remove (.var 5) (.cons (.var 8) .nil)))
  .nil) (.cons (.exp (.mth .append (.var 5) (.cons (.var 8) .nil)))
  .nil))
 .nil)))
 (.cons (.ret (.blt2 .sortT (.var 5)))
 .nil)))
theorem due_tail {Γ:Gam} {Ξ:XS} {D:Ends} {H H1:Hp} {p pt c al:Addr} {wd:Str} {P Z:List Pr} {A:List (Str × Str)} (gc:Γ.cm=true) (x1:Ext Γ.mod H H1) (hp:PlanAt H1 p P) (nd:(txs P).Nodup) (few:P.length<=20) (ha:PlanAt H1 al Z) (lz:Z.length<=21) (ez:(txs Z).map (fun y=>swp y.1 y.2)=A) (an:A.Nodup)
  (h:∀H' q T,Ext Γ.mod H H'->H q=none->Γ.mod q=none->PlanAt H' q T->Rising (txs T)->(∀ x,x ∈ txs T ↔ Xor2 (txs P) A x)->T.length<=41->D.rt (.ref q) H'):
  wSs tl_due Γ Ξ D [some (.ref p),some (.ref pt),some (.str wd),some (.ref c),some (.ref al),none,none,none,none] H1:=by
 unfold tl_due
 refine seq ?_
 walk_at "s1"
 refine⟨gc,list_l hp.at_ fun q hq mq=>?_⟩
 have x2:Ext Γ.mod H1 (upd H1 q (.lst (refs P))):=Ext.upd hq mq
 have hqq:PlanAt (upd H1 q (.lst (refs P))) q P:=⟨upd_same,PrsAt.new hp.prs hq⟩
 generalize upd H1 q (.lst (refs P))=H2 at x2 hqq
 refine seq ?_
 walk_at "s1"
 refine⟨gc,iter_l (rd_of (Ext.plan x2 ha).at_ nofrz_l) ?_⟩
 have lA:A.length=Z.length:=by
  rw[<-ez,List.length_map]
  unfold txs
  rw[List.length_map]
 refine for_pairs (fun n σ Hk=>∃v6 v7 v8 F,σ=[some (.ref p),some (.ref pt),some (.str wd),some (.ref c),some (.ref al),some (.ref q),v6,v7,v8]/\Ext Γ.mod H1 Hk/\PlanAt Hk q F/\(txs F).Nodup/\(∀ x,x ∈ txs F ↔ Xor2 (txs P) (A.take n) x)/\F.length<=20 + n) (fun n σ Hk z=>?_) (fun n x σ Hk D' hx pv nx=>?_) (fun σ Hk pv=>?_)
  ⟨none,none,none,P,rfl,x2,hqq,nd,fun x=>by unfold Xor2;simp,few⟩
 ·obtain⟨_,_,_,F,_,z1,z2,_⟩:=z
  exact⟨rd_of (Ext.plan z1 ha).at_ nofrz_l,(Ext.plan z1 ha).prs⟩
 ·obtain⟨v6,v7,v8,F,rfl,z1,z2,z3,z4,z5⟩:=pv
  obtain⟨hn,_⟩:=List.getElem?_eq_some_iff.mp hx
  have hs:A[n]?=some (swp x.2.1 x.2.2):=by
   rw[<-ez,List.getElem?_map]
   unfold txs
   rw[List.getElem?_map,hx]
   rfl
  have nt:swp x.2.1 x.2.2 ∉ A.take n:=fun z=>by
   obtain⟨i,hi⟩:=List.mem_iff_getElem?.mp z
   obtain⟨i1,i2⟩:=List.getElem?_eq_some_iff.mp hi
   rw[List.length_take]at i1
   obtain⟨n1,n2⟩:=List.getElem?_eq_some_iff.mp hs
   rw[List.getElem_take]at i2
   exact List.pairwise_iff_getElem.mp an i n (by omega) n1 (by omega) (i2.trans n2.symm)
  have tk:∀y,y ∈ A.take (n + 1) ↔ y ∈ A.take n\/y=swp x.2.1 x.2.2:=fun y=>by
   rw[List.take_succ,hs,List.mem_append]
   simp
  refine seq ?_
  walk_at "s1"
  refine⟨gc,smin_at ⟨gc,?_⟩⟩
  show([V.str (Gr.mn slt x.2.1 x.2.2),V.str (if slt x.2.1 x.2.2 then x.2.2 else x.2.1)]:List V).length<=sizeLine/\_
  refine⟨by rw[sizeLine_eq];simp,fun t ht mt=>?_⟩
  have es:swp x.2.1 x.2.2=(Gr.mn slt x.2.1 x.2.2,if slt x.2.1 x.2.2 then x.2.2 else x.2.1):=rfl
  generalize swp x.2.1 x.2.2=s at hs nt tk es
  have e1:Gr.mn slt x.2.1 x.2.2=s.1:=by rw[es]
  have e2:(if slt x.2.1 x.2.2 then x.2.2 else x.2.1)=s.2:=by rw[es]
  rw[e1,e2]at *
  have y1:Ext Γ.mod Hk (upd Hk t (.tup [.str s.1,.str s.2])):=Ext.upd ht mt
  have htt:upd Hk t (.tup [.str s.1,.str s.2]) t=some (.tup [.str s.1,.str s.2]):=upd_same
  generalize upd Hk t (.tup [.str s.1,.str s.2])=H3 at y1 htt
  have z1':=z1.trans y1
  have z2':=Ext.plan y1 z2
  refine seq ?_
  walk_at "s1"
  refine inP (Ext.plan z1' hp) htt ⟨_,rfl,?_⟩
  by_cases m:s ∈ txs P
  ·rw[if_pos (decide_eq_true (show(s.1,s.2) ∈ txs P from m))]
   refine seq ?_
   walk_at "s1"
   refine⟨by unfold m2ty;dsimp only;rw[rd_of z2'.at_ nofrz_l],?_⟩
   refine rm_at z2' htt ((z4 s).mpr (.inl ⟨m,nt⟩)) z3 fun F' f1 f2 f3 f4=>?_
   refine seq0 (seq0 (Γ:=Γ) (Ξ:=X0) (nx _ _ ⟨_,_,_,F',rfl,z1'.upd3 hq mq,f1,f2,fun y=>?_,by omega⟩))
   rw[f3 y,z4 y]
   unfold Xor2
   rw[tk y]
   by_cases ey:y=s
   ·subst ey;simp[m]
   ·simp[ey]
  ·rw[if_neg (by rw[decide_eq_true_iff];exact m)]
   refine seq ?_
   walk_at "s1"
   refine⟨mty_l z2'.at_,append_at z2'.at_ (by rw[refs_len,sizeLine_eq];omega) ?_⟩
   have er:refs F++[V.ref t]=refs (F++[(t,s)]):=by rw[<-refs_app];rfl
   have et:txs (F++[(t,s)])=txs F++[s]:=by unfold txs;rw[List.map_append];rfl
   rw[er]
   refine seq0 (seq0 (Γ:=Γ) (Ξ:=X0) (nx _ _ ⟨_,_,_,F++[(t,s)],rfl,z1'.upd3 hq mq,⟨upd_same,PrsAt.upd (xs:=refs F) (PrsAt.app z2'.prs (fun y hy=>by rw[List.mem_singleton.mp hy];exact htt)) z2'.at_⟩,?_,fun y=>?_,by rw[List.length_append];simp;omega⟩))
   ·rw[et]
    refine List.nodup_append.mpr ⟨z3,by simp,fun a ha b hb e=>?_⟩
    rw[List.mem_singleton.mp hb]at e
    subst e
    rcases(z4 a).mp ha with ⟨q1,_⟩ | ⟨q1,_⟩
    ·exact m q1
    ·exact nt q1
   ·rw[et,List.mem_append,List.mem_singleton,z4 y]
    unfold Xor2
    rw[tk y]
    by_cases ey:y=s
    ·subst ey;simp[m]
    ·simp[ey]
 ·obtain⟨v6,v7,v8,F,rfl,z1,z2,z3,z4,z5⟩:=pv
  walk_at "sw"
  refine⟨gc,sort_pairs z2 z3 (by omega) fun T r pm ris hr mr=>?_⟩
  have x13:=x1.trans z1
  have pm':(txs T).Perm (txs F):=pm.map _
  refine h _ r T (x13.trans (Ext.upd hr mr)) (x13.non hr) mr ⟨upd_same,PrsAt.new (fun y hy=>z2.prs y (pm.mem_iff.mp hy)) hr⟩ ris (fun x=>?_) (by rw[pm.length_eq];omega)
  rw[pm'.mem_iff,z4 x,<-lA,List.take_length]
theorem ok_due {M:Mo} {Γ:Gam} (gm:Γ.mod=M) (gc:Γ.cm=true) (vs:List V) (H:Hp) (Q:VK) (X:XK) (h:spDue M vs H Q X):spOf Γ N__law_due 2 b__law_due vs H Q X:=by
 obtain⟨p,pt,P,wd,c,R,rfl,hp,nd,few,pa,rn,rf,an,h⟩:=h
 refine⟨rfl,?_⟩
 obtain rfl:=gm
 unfold b__law_due
 refine seq ?_
 walk_at "s1"
 refine⟨gc,?_⟩
 rw[pa.tup]
 refine⟨rfl,?_⟩
 show wSs _ Γ _ _ [some (.ref p),some (.ref pt),some (.str wd),some (.ref c),none,none,none,none,none] H
 refine seq ?_
 walk_at "s1"
 refine⟨gc,?_⟩
 rw[Sw.s_ref,pa.lst]
 intro l hl ml
 rw[cut1]
 have x1:Ext Γ.mod H (upd H l (.lst (R.tail.map V.str))):=Ext.upd hl ml
 have hll:upd H l (.lst (R.tail.map V.str)) l=some (.lst (R.tail.map V.str)):=upd_same
 generalize upd H l (.lst (R.tail.map V.str))=H1 at x1 hll
 have pa1:=pa.ext x1
 have rl:=rd_of (M:=Γ.mod) hll nofrz_l
 unfold zipV
 dsimp only
 rw[pa1.lst,rl]
 dsimp only
 refine lzip_plan fun H2 al Z x2 nal mal hal ez=>?_
 have x12:=x1.trans x2
 have pa2:=pa1.ext x2
 have lz:Z.length<=20:=by
  have q:=congrArg List.length ez
  unfold txs at q
  rw[List.length_map,List.length_zip]at q
  omega
 refine seq ?_
 walk_at "s1"
 rw[Sw.v_eqs]
 refine⟨_,rfl,?_⟩
 by_cases w:wd=Str.ofString "ring"
 ·rw[if_pos (decide_eq_true w)]
  have ne:=rn w
  refine seq ?_
  walk_at "s1"
  refine⟨mty_l hal.at_,ix_last pa2.lst ne (ix_head pa2.lst ne ⟨by rw[sizeLine_eq];simp,fun t ht mt=>?_⟩)⟩
  have x3:Ext Γ.mod H2 (upd H2 t (.tup [.str (R.getLastD ⟨#[]⟩),.str (R.headD ⟨#[]⟩)])):=Ext.upd ht mt
  have htt:upd H2 t (.tup [.str (R.getLastD ⟨#[]⟩),.str (R.headD ⟨#[]⟩)]) t=some (.tup [.str (R.getLastD ⟨#[]⟩),.str (R.headD ⟨#[]⟩)]):=upd_same
  generalize upd H2 t (.tup [.str (R.getLastD ⟨#[]⟩),.str (R.headD ⟨#[]⟩)])=H3 at x3 htt
  have hal3:=Ext.plan x3 hal
  refine append_at hal3.at_ (by rw[refs_len,sizeLine_eq];omega) ?_
  have er:refs Z++[V.ref t]=refs (Z++[(t,R.getLastD ⟨#[]⟩,R.headD ⟨#[]⟩)]):=by rw[<-refs_app];rfl
  rw[er]
  refine seq0 ?_
  have x4:Ext Γ.mod H (upd H3 al (.lst (refs (Z++[(t,R.getLastD ⟨#[]⟩,R.headD ⟨#[]⟩)])))):=x1.trans ((x2.trans x3).upd3 nal mal)
  have hp4:PlanAt (upd H3 al (.lst (refs (Z++[(t,R.getLastD ⟨#[]⟩,R.headD ⟨#[]⟩)])))) p P:=Ext.plan x4 hp
  refine due_tail (A:=alng wd R) gc x4 hp4 nd few ⟨upd_same,PrsAt.upd (xs:=refs Z) (PrsAt.app hal3.prs (fun y hy=>by rw[List.mem_singleton.mp hy];exact htt)) hal3.at_⟩ (by rw[List.length_append];simp;omega) ?_ an h
  unfold alng cyc ar
  rw[if_pos w,<-ez]
  unfold txs
  rw[List.map_append,List.map_append]
  rfl
 ·rw[if_neg (by rw[decide_eq_true_iff];exact w)]
  refine seq0 ?_
  refine due_tail (A:=alng wd R) gc x12 (Ext.plan x12 hp) nd few hal (by omega) ?_ an h
  unfold alng ar
  rw[if_neg w,ez]
end Gk
namespace Gk
open PySem PySem.Spec PyProof.Rows L2 Sw Gw
theorem app_get {α:Type} {R S:List α} {i:Nat} {a:α} (h:(R++S)[i]?=some a):(i < R.length/\R[i]?=some a)\/(R.length<=i/\S[i - R.length]?=some a):=by
 by_cases q:i < R.length
 ·rw[List.getElem?_append_left q]at h
  exact .inl ⟨q,h⟩
 ·have q':R.length<=i:=by omega
  rw[List.getElem?_append_right q']at h
  exact .inr ⟨q',h⟩
theorem ar_left {R S:List Str} {x:Str × Str} (h:x ∈ ar R):x ∈ ar (R++S):=by
 obtain⟨i,a,b,h1,h2,e⟩:=ar_mem.mp h
 obtain⟨l1,_⟩:=List.getElem?_eq_some_iff.mp h1
 obtain⟨l2,_⟩:=List.getElem?_eq_some_iff.mp h2
 exact ar_mem.mpr ⟨i,a,b,by rw[List.getElem?_append_left l1];exact h1,by rw[List.getElem?_append_left l2];exact h2,e⟩
theorem mt_mem {L:List (Str × Str)} {x y:Str}:(x,y) ∈ mt L ↔ ∃z ∈ L,(x=z.1/\y=z.2)\/(x=z.2/\y=z.1):=by
 unfold mt
 rw[List.mem_flatten]
 constructor
 ·rintro⟨l,hl,hv⟩
  obtain⟨z,hz,rfl⟩:=List.mem_map.mp hl
  refine⟨z,hz,?_⟩
  simp only[List.mem_cons,List.not_mem_nil,or_false,Prod.mk.injEq]at hv
  exact hv
 ·rintro⟨z,hz,hv⟩
  refine⟨_,List.mem_map.mpr ⟨z,hz,rfl⟩,?_⟩
  simp only[List.mem_cons,List.not_mem_nil,or_false,Prod.mk.injEq]
  exact hv
section
variable {E:List Ent} {L:List (Str × Str)} {R:List Str}
theorem mate_of (p:IsPlan E L) {x y:Str} (h:(x,y) ∈ mt L):x ≠ y/\swp x y ∈ L:=by
 obtain⟨z,hz,q⟩:=mt_mem.mp h
 have lt:=(p.sw z hz).1
 rcases q with ⟨rfl,rfl⟩ | ⟨rfl,rfl⟩
 ·exact⟨fun e=>tot_slt.irr z.2 (e ▸ lt),by rw[swp_lt lt];exact hz⟩
 ·exact⟨fun e=>tot_slt.irr z.2 (e.symm ▸ lt),by rw[swp_gt lt];exact hz⟩
theorem mate_adj (sy:∀a b,b ∈ Gw.adj E a->a ∈ Gw.adj E b) (p:IsPlan E L) {x y:Str} (h:(x,y) ∈ mt L):y ∈ Gw.adj E x:=by
 obtain⟨z,hz,q⟩:=mt_mem.mp h
 have ad:=(p.sw z hz).2
 rcases q with ⟨rfl,rfl⟩ | ⟨rfl,rfl⟩
 ·exact ad
 ·exact sy _ _ ad
theorem Rw.single {c:Str} (h:c ∉ ends L):Rw E L [c]:=by
 refine⟨by simp,fun i a b _ hb=>by simp at hb,fun v hv y hy on=>?_,fun i a b d _ hb=>by simp at hb⟩
 rw[List.mem_singleton.mp hv]at on
 exact absurd (ends_on.mpr ⟨y,hy,on⟩) h
theorem Rw.pair (sy:∀a b,b ∈ Gw.adj E a->a ∈ Gw.adj E b) (p:IsPlan E L) {c m:Str} (h:(c,m) ∈ mt L):Rw E L [c,m]:=by
 obtain⟨ne,hs⟩:=mate_of p h
 refine⟨by simp[ne],fun i a b ha hb=>?_,fun v hv y hy on=>?_,fun i a b d _ _ hd=>by simp at hd⟩
 ·cases i with
  | zero=>
   cases ha
   cases hb
   exact mate_adj sy p h
  | succ i=>simp at hb
 ·have ov:On v (swp c m):=(on_swp ne).mpr (by simpa using hv)
  have e:=ends_uniq p.nd hs hy ov on
  rw[<-e]
  exact List.mem_cons_self
theorem Rw.last_pair (h:Rw E L R) {i:Nat} {u v:Str} (hu:R[i]?=some u) (hv:R[i + 1]?=some v) (l:i + 2=R.length) (m:v ∈ ends L):swp u v ∈ L:=by
 obtain⟨y,hy,on⟩:=ends_on.mp m
 obtain⟨j,a,b,h1,h2,rfl⟩:=ar_mem.mp (h.shut v (List.mem_of_getElem? hv) y hy on)
 obtain⟨l2,_⟩:=List.getElem?_eq_some_iff.mp h2
 rcases(on_swp (h.ne h1 h2)).mp on with q | q
 ·have:j=i + 1:=idx_inj h.nd h1 (q ▸ hv)
  omega
 ·have:j + 1=i + 1:=idx_inj h.nd h2 (q ▸ hv)
  have:j=i:=by omega
  subst this
  rw[hu]at h1
  cases h1
  rw[q]
  exact hy
theorem Rw.one (h:Rw E L R) {v w:Str} (hv:R[R.length - 1]?=some v) (ne:R ≠ []) (hw:w ∉ R) (ad:w ∈ Gw.adj E v) (one:v ∉ ends L->R.length=1) (fr:w ∉ ends L):Rw E L (R++[w]):=by
 have l0:0 < R.length:=List.length_pos_iff.mpr ne
 refine⟨List.nodup_append.mpr ⟨h.nd,by simp,fun a ha b hb e=>by rw[List.mem_singleton.mp hb]at e;exact hw (e ▸ ha)⟩,fun i a b ha hb=>?_,fun x hx y hy on=>?_,fun i a b c ha hb hc=>?_⟩
 ·rcases app_get hb with ⟨q,hb'⟩ | ⟨q,hb'⟩
  ·rcases app_get ha with ⟨_,ha'⟩ | ⟨q2,_⟩
   ·exact h.adj i a b ha' hb'
   ·omega
  ·rcases app_get ha with ⟨q2,ha'⟩ | ⟨q2,ha'⟩
   ·have e:i=R.length - 1:=by omega
    subst e
    rw[hv]at ha'
    cases ha'
    rw[show R.length - 1 + 1 - R.length=0 by omega]at hb'
    cases hb'
    exact ad
   ·rw[List.getElem?_eq_none (by simp;omega)]at hb'
    cases hb'
 ·rcases List.mem_append.mp hx with q | q
  ·exact ar_left (h.shut x q y hy on)
  ·rw[List.mem_singleton.mp q]at on
   exact absurd (ends_on.mpr ⟨y,hy,on⟩) fr
 ·rcases app_get hc with ⟨q,hc'⟩ | ⟨q,hc'⟩
  ·rcases app_get ha with ⟨_,ha'⟩ | ⟨q2,_⟩
   ·rcases app_get hb with ⟨_,hb'⟩ | ⟨q3,_⟩
    ·exact h.alt i a b c ha' hb' hc'
    ·omega
   ·omega
  ·obtain⟨lc,_⟩:=List.getElem?_eq_some_iff.mp hc'
   simp at lc
   rcases app_get hb with ⟨q3,hb'⟩ | ⟨q3,hb'⟩
   ·rcases app_get ha with ⟨_,ha'⟩ | ⟨q2,_⟩
    ·have e:i + 1=R.length - 1:=by omega
     rw[e,hv]at hb'
     cases hb'
     refine .inl (h.last_pair ha' (by rw[e];exact hv) (by omega) ?_)
     by_cases m:v ∈ ends L
     ·exact m
     ·have:=one m
      omega
    ·omega
   ·omega
theorem Rw.two (sy:∀a b,b ∈ Gw.adj E a->a ∈ Gw.adj E b) (p:IsPlan E L) (h:Rw E L R) {v w x:Str} (hv:R[R.length - 1]?=some v) (ne:R ≠ []) (hw:w ∉ R) (ad:w ∈ Gw.adj E v) (one:v ∉ ends L->R.length=1) (hm:(w,x) ∈ mt L):Rw E L (R++[w,x]):=by
 have l0:0 < R.length:=List.length_pos_iff.mpr ne
 obtain⟨wx,hs⟩:=mate_of p hm
 have hx:x ∉ R:=fun z=>by
  have:=h.shut x z (swp w x) hs ((on_swp wx).mpr (.inr rfl))
  exact hw (h.on this ((on_swp wx).mpr (.inl rfl)))
 have g0:(R++[w,x])[R.length]?=some w:=by rw[List.getElem?_append_right (Nat.le_refl _),Nat.sub_self];rfl
 have g1:(R++[w,x])[R.length + 1]?=some x:=by rw[List.getElem?_append_right (Nat.le_succ _),show R.length + 1 - R.length=1 by omega];rfl
 refine⟨List.nodup_append.mpr ⟨h.nd,by simp[wx],fun a ha b hb e=>?_⟩,fun i a b ha hb=>?_,fun u hu y hy on=>?_,fun i a b c ha hb hc=>?_⟩
 ·subst e
  rcases List.mem_cons.mp hb with q | q
  ·exact hw (q ▸ ha)
  ·exact hx (List.mem_singleton.mp q ▸ ha)
 ·rcases app_get hb with ⟨q,hb'⟩ | ⟨q,hb'⟩
  ·rcases app_get ha with ⟨_,ha'⟩ | ⟨q2,_⟩
   ·exact h.adj i a b ha' hb'
   ·omega
  ·rcases app_get ha with ⟨q2,ha'⟩ | ⟨q2,ha'⟩
   ·have e:i=R.length - 1:=by omega
    subst e
    rw[hv]at ha'
    cases ha'
    rw[show R.length - 1 + 1 - R.length=0 by omega]at hb'
    cases hb'
    exact ad
   ·obtain⟨lb,_⟩:=List.getElem?_eq_some_iff.mp hb'
    simp at lb
    have e:i=R.length:=by omega
    subst e
    rw[g0]at ha
    rw[g1]at hb
    cases ha
    cases hb
    exact mate_adj sy p hm
 ·rcases List.mem_append.mp hu with q | q
  ·exact ar_left (h.shut u q y hy on)
  ·have ou:On u (swp w x):=(on_swp wx).mpr (by simpa using q)
   rw[<-ends_uniq p.nd hs hy ou on]
   exact ar_mem.mpr ⟨R.length,w,x,g0,g1,rfl⟩
 ·rcases app_get hc with ⟨q,hc'⟩ | ⟨q,hc'⟩
  ·rcases app_get ha with ⟨_,ha'⟩ | ⟨q2,_⟩
   ·rcases app_get hb with ⟨_,hb'⟩ | ⟨q3,_⟩
    ·exact h.alt i a b c ha' hb' hc'
    ·omega
   ·omega
  ·obtain⟨lc,_⟩:=List.getElem?_eq_some_iff.mp hc'
   simp at lc
   rcases app_get hb with ⟨q3,hb'⟩ | ⟨q3,hb'⟩
   ·rcases app_get ha with ⟨_,ha'⟩ | ⟨q2,_⟩
    ·have e:i + 1=R.length - 1:=by omega
     rw[e,hv]at hb'
     cases hb'
     refine .inl (h.last_pair ha' (by rw[e];exact hv) (by omega) ?_)
     by_cases m:v ∈ ends L
     ·exact m
     ·have:=one m
      omega
    ·omega
   ·have e:i + 1=R.length:=by omega
    rw[e,g0]at hb
    cases hb
    rw[show i + 2=R.length + 1 by omega,g1]at hc
    cases hc
    exact .inr hs
end
end Gk
namespace Gk
open PySem PySem.Spec PyProof.Rows L2 Sw Gw
@[reducible] noncomputable def N__law_row:List Str:=["_law_web_here","_law_plan_here","_law_couple","_law_cell_here","_law_mates","_law_one","_law_other","_law_row_here","_law_k","_law_ahead"]
noncomputable def b__law_row:Sxs:=(.cons (.asg 4 .dnew)
 (.cons (.frT [5,6] (.ex (.var 1)) (.cons (.sto (.var 4) (.var 5) (.var 6))
 (.cons (.sto (.var 4) (.var 6) (.var 5))
 .nil)))
 (.cons (.asg 7 (.lst (.cons (.var 2) .nil)))
 (.cons (.iff (.cmpD .In (.var 2) (.var 4)) (.cons (.exp (.mth .append (.var 7) (.cons (.idxD (.var 4) (.var 2)) .nil)))
 .nil) .nil)
 (.cons (.fr 8 (.rng1 (.bin .Add (.con (.int 1)) (.bin .Mod (.var 3) (.con (.int 9))))) (.cons (.asg 9 (.comp "_law_name" [("_law_row_here",7)] (.ex (.blt .dsorted (.cons (.idxD (.var 0) (.idx (.var 7) (.neg (.con (.int 1))))) .nil))) (.var 0) (.cons (.cmp .NotIn (.var 0) (.var 1)) .nil)))
 (.cons (.iff (.cmpD .In (.idx (.var 7) (.neg (.con (.int 1)))) (.var 4)) (.cons (.asg 9 (.comp "_law_name" [("_law_mates",4),("_law_row_here",7)] (.ex (.var 9)) (.var 0) (.cons (.cmp .NotEq (.var 0) (.idxD (.var 1) (.idx (.var 2) (.neg (.con (.int 1)))))) .nil)))
  .nil) (.cons (.iff (.cmp .Gt (.blt .len (.cons (.var 7) .nil)) (.con (.int 1))) (.cons (.asg 9 (.lst .nil))
  .nil) .nil)
  .nil))
 (.cons (.iff (.cmp .NotEq (.var 9) (.lst .nil)) (.cons (.exp (.mth .append (.var 7) (.cons (.idx (.var 9) (.bin .Mod (.call "_law_mix" (.cons (.var 3) (.cons (.bin .Add (.con (.int 700)) (.var 8)) .nil))) (.blt .len (.cons (.var 9) .nil)))) .nil)))
  (.cons (.iff (.cmpD .In (.idx (.var 7) (.neg (.con (.int 1)))) (.var 4)) (.cons (.exp (.mth .append (.var 7) (.cons (.idxD (.var 4) (.idx (.var 7) (.neg (.con (.int 1))))) .nil)))
  .nil) .nil)
  .nil)) .nil)
 .nil))))
 (.cons (.ret (.var 7))
 .nil))))))
noncomputable def tl_rest:Sxs:=(.cons (.iff (.cmp .NotEq (.var 9) (.lst .nil)) (.cons (.exp (.mth .append (.var 7) (.cons (.idx (.var 9) (.bin .Mod (.call "_law_mix" (.cons (.var 3) (.cons (.bin .Add (.con (.int 700)) (.var 8)) .nil))) (.blt .len (.cons (.var 9) .nil)))) .nil)))
 (.cons (.iff (.cmpD .In (.idx (.var 7) (.neg (.con (.int 1)))) (.var 4)) (.cons (.exp (.mth .append (.var 7) (.cons (.idxD (.var 4) (.idx (.var 7) (.neg (.con (.int 1))))) .nil)))
  .nil) .nil)
 .nil)) .nil)
 .nil)
noncomputable def tl_mid:Sxs:=(.cons (.iff (.cmpD .In (.idx (.var 7) (.neg (.con (.int 1)))) (.var 4)) (.cons (.asg 9 (.comp "_law_name" [("_law_mates",4),("_law_row_here",7)] (.ex (.var 9)) (.var 0) (.cons (.cmp .NotEq (.var 0) (.idxD (.var 1) (.idx (.var 2) (.neg (.con (.int 1)))))) .nil)))
 .nil) (.cons (.iff (.cmp .Gt (.blt .len (.cons (.var 7) .nil)) (.con (.int 1))) (.cons (.asg 9 (.lst .nil))
  .nil) .nil)
 .nil))
 (.cons (.iff (.cmp .NotEq (.var 9) (.lst .nil)) (.cons (.exp (.mth .append (.var 7) (.cons (.idx (.var 9) (.bin .Mod (.call "_law_mix" (.cons (.var 3) (.cons (.bin .Add (.con (.int 700)) (.var 8)) .nil))) (.blt .len (.cons (.var 9) .nil)))) .nil)))
 (.cons (.iff (.cmpD .In (.idx (.var 7) (.neg (.con (.int 1)))) (.var 4)) (.cons (.exp (.mth .append (.var 7) (.cons (.idxD (.var 4) (.idx (.var 7) (.neg (.con (.int 1))))) .nil)))
  .nil) .nil)
 .nil)) .nil)
 .nil))
noncomputable def tl_body:Sxs:=(.cons (.asg 9 (.comp "_law_name" [("_law_row_here",7)] (.ex (.blt .dsorted (.cons (.idxD (.var 0) (.idx (.var 7) (.neg (.con (.int 1))))) .nil))) (.var 0) (.cons (.cmp .NotIn (.var 0) (.var 1)) .nil)))
 (.cons (.iff (.cmpD .In (.idx (.var 7) (.neg (.con (.int 1)))) (.var 4)) (.cons (.asg 9 (.comp "_law_name" [("_law_mates",4),("_law_row_here",7)] (.ex (.var 9)) (.var 0) (.cons (.cmp .NotEq (.var 0) (.idxD (.var 1) (.idx (.var 2) (.neg (.con (.int 1)))))) .nil)))
 .nil) (.cons (.iff (.cmp .Gt (.blt .len (.cons (.var 7) .nil)) (.con (.int 1))) (.cons (.asg 9 (.lst .nil))
  .nil) .nil)
 .nil))
 (.cons (.iff (.cmp .NotEq (.var 9) (.lst .nil)) (.cons (.exp (.mth .append (.var 7) (.cons (.idx (.var 9) (.bin .Mod (.call "_law_mix" (.cons (.var 3) (.cons (.bin .Add (.con (.int 700)) (.var 8)) .nil))) (.blt .len (.cons (.var 9) .nil)))) .nil)))
 (.cons (.iff (.cmpD .In (.idx (.var 7) (.neg (.con (.int 1)))) (.var 4)) (.cons (.exp (.mth .append (.var 7) (.cons (.idxD (.var 4) (.idx (.var 7) (.neg (.con (.int 1))))) .nil)))
  .nil) .nil)
 .nil)) .nil)
 .nil)))
theorem comp_keepS {te:TE} {tt:TT} {fvs:L2.St} {D:Addr} {stay:Hp->Prop} {k:Hp->Prop} {H0:Hp} (f:Str->Bool):∀ (ts:List Str) (acc:List V),(∀ l,stay (upd H0 D (.lst l)))->
  (∀ x ∈ ts,∀acc R,R (f x) (upd H0 D (.lst acc))->tt (some (.str x)::fvs) (upd H0 D (.lst acc)) R)->(∀ x ∈ ts,∀acc Q,Q (.str x) (upd H0 D (.lst acc))->te (some (.str x)::fvs) (upd H0 D (.lst acc)) Q)->acc.length + ts.length<=1000->
  k (upd H0 D (.lst (acc++(ts.filter f).map V.str)))->compW te tt fvs D stay (ts.map V.str) acc (upd H0 D (.lst acc)) k
 | [],acc,st,_,_,_,q=>⟨st _,upd_same,by simpa using q⟩
 | x::ts,acc,st,ht,he,hl,q=>by
  rw[List.length_cons]at hl
  refine⟨st _,ht x List.mem_cons_self acc _ ?_⟩
  cases m:f x with
  | false=>
   rw[if_neg (by decide)]
   refine comp_keepS f ts acc st (fun y hy=>ht y (List.mem_cons_of_mem _ hy)) (fun y hy=>he y (List.mem_cons_of_mem _ hy)) (by omega) ?_
   rw[List.filter_cons_of_neg (by simp[m])]at q
   exact q
  | true=>
   rw[if_pos rfl]
   refine he x List.mem_cons_self acc _ ⟨upd_same,by rw[sizeLine_eq];omega,?_⟩
   rw[upd_upd]
   refine comp_keepS f ts _ st (fun y hy=>ht y (List.mem_cons_of_mem _ hy)) (fun y hy=>he y (List.mem_cons_of_mem _ hy)) (by rw[List.length_append];simp;omega) ?_
   rw[List.filter_cons_of_pos (by simp[m])]at q
   rw[List.append_assoc]
   exact q
theorem sK_val (l:List (Str × Str)) (x:Str):valV (sK l) (.inr x)=(l.lookup x).map V.str:=val_map (fun s=>V.str s) l x
theorem data_strs {M:Mo} {H:Hp} {p:Addr} {ns:List Str} (h:rd M H p=some (.lst (ns.map V.str))) (n:Nat):data M H (n + 1) (.ref p)=some (.list (ns.map PyData.str)):=by
 unfold Sw.data
 rw[h]
 dsimp only
 rw[allM_map (k:=PyData.str) fun x _=>data_str n x]
 rfl
theorem ne_nil {M:Mo} {H:Hp} {p q:Addr} {ns:List Str} {Q:VK} (h:rd M H p=some (.lst (ns.map V.str))) (g:H q=some (.lst [])) (k:Q (.bl (!decide (ns=[]))) H):cmpV M .NotEq (.ref p) (.ref q) H Q:=by
 show if scal (.ref p) (.ref q)=true then Q (.bl (!decide (V.ref p=V.ref q))) H else(match data M H 16 (.ref p),data M H 16 (.ref q)with | some d,some e=>Q (.bl (!PyData.eqv d e)) H | _,_=>False)
 have g':data M H 16 (.ref q)=some (.list (([]:List Str).map PyData.str)):=data_strs (ns:=[]) (rd_of g nofrz_l) 15
 rw[s_rr,if_neg (by decide),data_strs h 15,g']
 dsimp only
 cases ns with
 | nil=>simp only[PyData.eqv];exact k
 | cons x r=>simp only[PyData.eqv];exact k
structure RowI (M:Mo) (H Hk:Hp) (m r:Addr) (E:List Ent) (L:List (Str × Str)) (R:List Str) (k:Nat):Prop where
 x:Ext M H Hk
 r0:H r=none
 mr:M r=none
 hm:Hk m=some (.dK (sK (mt L)))
 hr:Hk r=some (.lst (R.map V.str))
 rw:Rw E L R
 ne:R ≠ []
 keys:∀y ∈ R,y ∈ E.map (·.1)
 len:R.length<=k
theorem RowI.ext {M:Mo} {H Hk H':Hp} {m r:Addr} {E:List Ent} {L:List (Str × Str)} {R:List Str} {k:Nat} (a:RowI M H Hk m r E L R k) (x:Ext M Hk H'):RowI M H H' m r E L R k:=
 ⟨a.x.trans x,a.r0,a.mr,x.same _ _ a.hm,x.same _ _ a.hr,a.rw,a.ne,a.keys,a.len⟩
theorem rest_ok {Γ:Gam} {D:Ends} {H Hk:Hp} {w p m r a:Addr} {c:Str} {n j:Int} {E:List Ent} {L:List (Str × Str)} {R T:List Str} {k:Nat} {v:Str} {v5 v6:Option V} (gc:Γ.cm=true) (g2:Γ.has "_law_mix" =true/\Γ.fn "_law_mix" =spMix) (ok:WebOk (cont E)) (pl:IsPlan E L)
  (i:RowI Γ.mod H Hk m r E L R k) (k2:k<=100) (hv:R[R.length - 1]?=some v) (ha:Hk a=some (.lst (T.map V.str))) (hT:∀y ∈ T,y ∈ Gw.adj E v/\y ∉ R/\(v ∉ ends L->R.length=1)) (lT:T.length<=100) (j0:0<=j) (j1:j<=100)
  (fin:∀H' R' v9,RowI Γ.mod H H' m r E L R' (k + 2)->D.nx [some (.ref w),some (.ref p),some (.str c),some (.int n),some (.ref m),v5,v6,some (.ref r),some (.int j),v9] H'):
  wSs tl_rest Γ X0 D [some (.ref w),some (.ref p),some (.str c),some (.int n),some (.ref m),v5,v6,some (.ref r),some (.int j),some (.ref a)] Hk:=by
 have sy:∀a b,b ∈ Gw.adj E a->a ∈ Gw.adj E b:=fun a b h=>by rw[adj_cont]at h ⊢;exact ok.sy _ _ h
 have kl:=i.len
 unfold tl_rest
 refine seq ?_
 walk_at "s1"
 refine⟨by rw[sizeLine_eq];simp,fun o ho mo=>?_⟩
 have x1:Ext Γ.mod Hk (upd Hk o (.lst [])):=Ext.upd ho mo
 have hoo:upd Hk o (.lst []) o=some (.lst []):=upd_same
 generalize upd Hk o (.lst [])=H1 at x1 hoo
 have i1:=i.ext x1
 have ha1:=x1.same _ _ ha
 refine ne_nil (rd_of ha1 nofrz_l) hoo ⟨_,rfl,?_⟩
 by_cases tn:T=[]
 ·rw[if_neg (by simp[tn])]
  exact seq0 (seq0 (Γ:=Γ) (Ξ:=X0) (fin _ R _ ⟨i1.x,i1.r0,i1.mr,i1.hm,i1.hr,i1.rw,i1.ne,i1.keys,by omega⟩))
 ·rw[if_pos (by simp[tn])]
  have t0:0 < T.length:=List.length_pos_iff.mpr tn
  refine seq ?_
  walk_at "s1"
  refine⟨mty_l i1.hr,⟨gc,g2.1⟩,?_⟩
  rw[Sw.v_add,g2.2]
  refine⟨n,_,rfl,by omega,by omega,fun z _ z0 _=>⟨gc,len_at (rd_of ha1 nofrz_l) ?_⟩⟩
  rw[Sw.v_mod,List.length_map]
  refine⟨by omega,ix_str (rd_of ha1 nofrz_l) (Int.emod_nonneg _ (by omega)) (Int.emod_lt_of_pos _ (by omega)) fun y hy=>?_⟩
  obtain⟨ad,nr,on⟩:=hT y hy
  have ky:y ∈ E.map (·.1):=by
   have:=ok.cl v y (by rw[<-adj_cont];exact ad)
   rw[show(cont E).map (·.1)=E.map (·.1)from by unfold cont;rw[List.map_map];rfl]at this
   exact this
  refine append_at i1.hr (by rw[List.length_map,sizeLine_eq];omega) ?_
  rw[show R.map V.str++[V.str y]=(R++[y]).map V.str by rw[List.map_append];rfl]
  have lst:(upd H1 r (.lst ((R++[y]).map V.str))) r=some (.lst ((R++[y]).map V.str)):=upd_same
  have hm2:(upd H1 r (.lst ((R++[y]).map V.str))) m=some (.dK (sK (mt L))):=by rw[upd_ne (fun z=>by have:=i1.hm;rw[z,i1.hr]at this;cases this)];exact i1.hm
  have x2:Ext Γ.mod H (upd H1 r (.lst ((R++[y]).map V.str))):=i1.x.upd3 i1.r0 i1.mr
  have kys:∀q ∈ R++[y],q ∈ E.map (·.1):=fun q hq=>by
   rcases List.mem_append.mp hq with z | z
   ·exact i1.keys q z
   ·rw[List.mem_singleton.mp z];exact ky
  generalize upd H1 r (.lst ((R++[y]).map V.str))=H2 at lst hm2 x2
  have lD:(R++[y]).getLastD ⟨#[]⟩=y:=by rw[List.getLastD_eq_getLast?,List.getLast?_append];rfl
  refine seq ?_
  walk_at "s1"
  refine ix_last (rd_of lst nofrz_l) (by simp) ?_
  rw[lD]
  refine inD_yes (x:=y) (rd_of hm2 nofrz_d) ⟨_,rfl,?_⟩
  rw[sK_val]
  cases e:(mt L).lookup y with
  | none=>
   rw[if_neg (by simp)]
   have fr:y ∉ ends L:=fun z=>by
    rw[<-mt_keys]at z
    obtain⟨_,q,_⟩:=lookup_keys z
    rw[e]at q
    cases q
   exact seq0 (seq0 (Γ:=Γ) (Ξ:=X0) (seq0 (Γ:=Γ) (Ξ:=X0) (fin _ (R++[y]) _ ⟨x2,i1.r0,i1.mr,hm2,lst,i.rw.one hv i.ne nr ad on fr,by simp,kys,by rw[List.length_append];simp;omega⟩)))
  | some z=>
   rw[if_pos (by simp)]
   have hm':=lookup_some e
   refine seq ?_
   walk_at "s1"
   refine⟨mty_l lst,ix_last (rd_of lst nofrz_l) (by simp) ?_⟩
   rw[lD]
   refine idxD_at (x:=y) (v:=.str z) (rd_of hm2 nofrz_d) (by rw[sK_val,e];rfl) ?_
   refine append_at lst (by rw[List.length_map,sizeLine_eq,List.length_append];simp;omega) ?_
   rw[show(R++[y]).map V.str++[V.str z]=(R++[y,z]).map V.str by rw[List.map_append,List.map_append,List.append_assoc];rfl]
   have kz:z ∈ E.map (·.1):=by
    have:=ok.cl y z (by rw[<-adj_cont];exact mate_adj sy pl hm')
    rw[show(cont E).map (·.1)=E.map (·.1)from by unfold cont;rw[List.map_map];rfl]at this
    exact this
   have i2:RowI Γ.mod H (upd H2 r (.lst ((R++[y,z]).map V.str))) m r E L (R++[y,z]) (k + 2):=⟨x2.upd3 i1.r0 i1.mr,i1.r0,i1.mr,by rw[upd_ne (fun q=>by have:=hm2;rw[q,lst]at this;cases this)];exact hm2,upd_same,i.rw.two sy pl hv i.ne nr ad on hm',by simp,fun q hq=>by
    rcases List.mem_append.mp hq with t | t
    ·exact i1.keys q t
    ·rcases List.mem_cons.mp t with t | t
     ·rw[t];exact ky
     ·rw[List.mem_singleton.mp t];exact kz,by rw[List.length_append];simp;omega⟩
   exact seq0 (seq0 (Γ:=Γ) (Ξ:=X0) (seq0 (Γ:=Γ) (Ξ:=X0) (fin _ _ _ i2)))
end Gk
namespace Gk
open PySem PySem.Spec PyProof.Rows L2 Sw Gw
theorem mid_ok {Γ:Gam} {D:Ends} {H Hk:Hp} {w p m r a:Addr} {c:Str} {n j:Int} {E:List Ent} {L:List (Str × Str)} {R T:List Str} {k:Nat} {v:Str} {v5 v6:Option V} (gc:Γ.cm=true) (g2:Γ.has "_law_mix" =true/\Γ.fn "_law_mix" =spMix) (ok:WebOk (cont E)) (pl:IsPlan E L)
  (i:RowI Γ.mod H Hk m r E L R k) (k2:k<=100) (hv:R[R.length - 1]?=some v) (ha:Hk a=some (.lst (T.map V.str))) (hT:∀y ∈ T,y ∈ Gw.adj E v/\y ∉ R) (lT:T.length<=100) (j0:0<=j) (j1:j<=100)
  (fin:∀H' R' v9,RowI Γ.mod H H' m r E L R' (k + 2)->D.nx [some (.ref w),some (.ref p),some (.str c),some (.int n),some (.ref m),v5,v6,some (.ref r),some (.int j),v9] H'):
  wSs tl_mid Γ X0 D [some (.ref w),some (.ref p),some (.str c),some (.int n),some (.ref m),v5,v6,some (.ref r),some (.int j),some (.ref a)] Hk:=by
 have lD:R.getLastD ⟨#[]⟩=v:=by have:=last_at i.ne;rw[hv]at this;exact(Option.some.inj this).symm
 unfold tl_mid
 refine seq ?_
 walk_at "s1"
 refine ix_last (rd_of i.hr nofrz_l) i.ne ?_
 rw[lD]
 refine inD_yes (x:=v) (rd_of i.hm nofrz_d) ⟨_,rfl,?_⟩
 rw[sK_val]
 cases e:(mt L).lookup v with
 | some z=>
  rw[if_pos (by simp)]
  have hm':=lookup_some e
  have vin:v ∈ ends L:=by rw[<-mt_keys];exact List.mem_map.mpr ⟨_,hm',rfl⟩
  refine seq ?_
  dsimp only[Sw.wS,Sw.wE,Sw.wT,Sw.wEs,Sw.wTs,Sw.wI,Sw.wP,Sw.vars,Sw.r_get0,Sw.r_getS,Sw.r_set0,Sw.r_setS,Sw.r_map0,Sw.r_mapS,Sw.r_app0,Sw.r_appS,Sw.r_join,L2.start,Sw.r_len0,Sw.r_lenS,Sw.r_rep0,Sw.r_repS,Nat.reduceAdd,Nat.reduceSub]
  refine⟨gc,iter_l (rd_of ha nofrz_l) fun B hB mB=>?_⟩
  have same:∀l,Ext Γ.mod Hk (upd Hk B (.lst l)):=fun l=>Ext.upd hB mB
  refine comp_keepS (H0:=Hk) (fun x=>!decide (x=z)) T [] (fun l=>rd_of ((same l).same _ _ ha) nofrz_l) (fun x hx acc R' q=>?_) (fun x hx acc Q q=>q) (by simp;omega) ?_
  ·refine ix_last (rd_of ((same acc).same _ _ i.hr) nofrz_l) i.ne ?_
   rw[lD]
   refine idxD_at (x:=v) (v:=.str z) (rd_of ((same acc).same _ _ i.hm) nofrz_d) (by rw[sK_val,e];rfl) ?_
   rw[Sw.v_nes]
   exact⟨_,rfl,q⟩
  rw[List.nil_append]
  have x2:=same ((T.filter fun x=>!decide (x=z)).map V.str)
  refine seq0 ?_
  have lf:=List.length_filter_le (fun x=>!decide (x=z)) T
  exact rest_ok gc g2 ok pl (i.ext x2) k2 hv upd_same (fun y hy=>⟨(hT y (List.mem_filter.mp hy).1).1,(hT y (List.mem_filter.mp hy).1).2,fun q=>absurd vin q⟩) (by omega) j0 j1 fin
 | none=>
  rw[if_neg (by simp)]
  refine seq ?_
  walk_at "s1"
  refine⟨gc,len_at (rd_of i.hr nofrz_l) ?_⟩
  rw[Sw.v_gt,List.length_map]
  refine⟨_,rfl,?_⟩
  by_cases l:(1:Int) < R.length
  ·rw[if_pos (decide_eq_true l)]
   refine seq ?_
   walk_at "s1"
   refine⟨by rw[sizeLine_eq];simp,fun o ho mo=>?_⟩
   refine seq0 (seq0 (Γ:=Γ) (Ξ:=X0) ?_)
   exact rest_ok (T:=[]) gc g2 ok pl (i.ext (Ext.upd ho mo)) k2 hv upd_same (fun y hy=>by (cases hy)) (by simp) j0 j1 fin
  ·rw[if_neg (by rw[decide_eq_true_iff];exact l)]
   refine seq0 (seq0 (Γ:=Γ) (Ξ:=X0) ?_)
   have l0:=List.length_pos_iff.mpr i.ne
   exact rest_ok gc g2 ok pl i k2 hv ha (fun y hy=>⟨(hT y hy).1,(hT y hy).2,fun _=>by omega⟩) lT j0 j1 fin
theorem body_ok {Γ:Gam} {D:Ends} {H Hk:Hp} {w p m r:Addr} {c:Str} {n j:Int} {E:List Ent} {L:List (Str × Str)} {R:List Str} {k:Nat} {v5 v6 v9:Option V} (gc:Γ.cm=true) (g2:Γ.has "_law_mix" =true/\Γ.fn "_law_mix" =spMix) (W:WebAt Hk w E) (ok:WebOk (cont E)) (pl:IsPlan E L)
  (i:RowI Γ.mod H Hk m r E L R k) (k2:k<=100) (j0:0<=j) (j1:j<=100)
  (fin:∀H' R' v9,RowI Γ.mod H H' m r E L R' (k + 2)->D.nx [some (.ref w),some (.ref p),some (.str c),some (.int n),some (.ref m),v5,v6,some (.ref r),some (.int j),v9] H'):
  wSs tl_body Γ X0 D [some (.ref w),some (.ref p),some (.str c),some (.int n),some (.ref m),v5,v6,some (.ref r),some (.int j),v9] Hk:=by
 have hv:=last_at i.ne
 generalize hq:R.getLastD ⟨#[]⟩=v at hv
 obtain⟨⟨q,row⟩,lk,mem⟩:=look_at (i.keys v (List.mem_of_getElem? hv))
 unfold tl_body
 refine seq ?_
 dsimp only[Sw.wS,Sw.wE,Sw.wT,Sw.wEs,Sw.wTs,Sw.wI,Sw.wP,Sw.vars,Sw.r_get0,Sw.r_getS,Sw.r_set0,Sw.r_setS,Sw.r_map0,Sw.r_mapS,Sw.r_app0,Sw.r_appS,Sw.r_join,L2.start,Sw.r_len0,Sw.r_lenS,Sw.r_rep0,Sw.r_repS,Nat.reduceAdd,Nat.reduceSub]
 refine⟨gc,gc,ix_last (rd_of i.hr nofrz_l) i.ne ?_⟩
 rw[hq]
 refine idx_web W mem (srt_row (W.row _ mem) ⟨by rw[List.length_map];exact Nat.lt_of_le_of_lt (W.rfew _ mem) (by decide),fun ts b pm so hb mb=>?_⟩)
 have xb:Ext Γ.mod Hk (upd Hk b (.lst (ts.map V.str))):=Ext.upd hb mb
 have hbb:upd Hk b (.lst (ts.map V.str)) b=some (.lst (ts.map V.str)):=upd_same
 generalize upd Hk b (.lst (ts.map V.str))=H1 at xb hbb
 have i1:=i.ext xb
 have lt:ts.length<=20:=by rw[pm.length_eq,List.length_map];exact W.rfew _ mem
 refine iter_l (rd_of hbb nofrz_l) fun B hB mB=>?_
 have same:∀l,Ext Γ.mod H1 (upd H1 B (.lst l)):=fun l=>Ext.upd hB mB
 refine comp_keepS (H0:=H1) (fun x=>!decide (x ∈ R)) ts [] (fun l=>rd_of ((same l).same _ _ hbb) nofrz_l) (fun x hx acc R' q=>?_) (fun x hx acc Q q=>q) (by simp;omega) ?_
 ·exact notin_at (rd_of ((same acc).same _ _ i1.hr) nofrz_l) ⟨_,rfl,q⟩
 rw[List.nil_append]
 have lf:=List.length_filter_le (fun x=>!decide (x ∈ R)) ts
 refine mid_ok gc g2 ok pl (i1.ext (same _)) k2 hv upd_same (fun y hy=>?_) (by omega) j0 j1 fin
 obtain⟨h1,h2⟩:=List.mem_filter.mp hy
 refine⟨?_,by simpa using h2⟩
 rw[adj_of lk]
 exact pm.mem_iff.mp h1
noncomputable def spRow (M:Mo):Sp:=fun vs H Q _=>∃w p c n E P,vs=[.ref w,.ref p,.str c,.int n]/\WebAt H w E/\WebOk (cont E)/\PlanAt H p P/\IsPlan E (txs P)/\P.length<=20/\c ∈ E.map (·.1)/\
 ∀H' r R,Ext M H H'->H r=none->M r=none->H' r=some (.lst (R.map V.str))->Rw E (txs P) R->R ≠ []->(∀ y ∈ R,y ∈ E.map (·.1))->R.length<=20->Q (.ref r) H'
theorem ok_row {M:Mo} {Γ:Gam} (gm:Γ.mod=M) (gc:Γ.cm=true) (g2:Γ.has "_law_mix" =true/\Γ.fn "_law_mix" =spMix) (vs:List V) (H:Hp) (Q:VK) (X:XK) (h:spRow M vs H Q X):spOf Γ N__law_row 4 b__law_row vs H Q X:=by
 obtain⟨w,p,c,n,E,P,rfl,W,ok,hp,pl,few,ck,h⟩:=h
 refine⟨rfl,?_⟩
 obtain rfl:=gm
 have sy:∀a b,b ∈ Gw.adj E a->a ∈ Gw.adj E b:=fun a b h=>by rw[adj_cont]at h ⊢;exact ok.sy _ _ h
 unfold b__law_row
 refine seq ?_
 walk_at "s1"
 intro m hm mm
 have pm:p ≠ m:=ne_of_none hp.at_ hm
 have tm:∀x ∈ P,x.1 ≠ m:=fun x hx=>ne_of_none (hp.prs x hx) hm
 have same:∀kvs,PlanAt (upd H m (.dK kvs)) p P:=fun kvs=>⟨by rw[upd_ne pm];exact hp.at_,fun x hx=>by rw[upd_ne (tm x hx)];exact hp.prs x hx⟩
 refine seq ?_
 walk_at "s1"
 refine⟨gc,iter_l (rd_of (same _).at_ nofrz_l) ?_⟩
 refine for_pairs (fun k σ H'=>∃v5 v6,σ=[some (.ref w),some (.ref p),some (.str c),some (.int n),some (.ref m),v5,v6,none,none,none]/\H'=upd H m (.dK (sK (mt (txs (P.take k)))))) (fun k σ H' z=>?_) (fun k x σ H' D' hx pv nx=>?_) (fun σ H' pv=>?_) ⟨none,none,rfl,rfl⟩
 ·obtain⟨_,_,_,rfl⟩:=z
  exact⟨rd_of (same _).at_ nofrz_l,(same _).prs⟩
 ·obtain⟨v5,v6,rfl,rfl⟩:=pv
  obtain⟨p1,p2⟩:=mates_put pl.nd hx
  have fw:=mt_few (n:=k) few
  refine seq ?_
  walk_at "s1"
  refine sto_at (x:=x.2.1) upd_same (by rw[sK_len,sizeLine_eq];omega) ?_
  rw[p1,upd_upd]
  refine seq ?_
  walk_at "s1"
  refine sto_at (x:=x.2.2) upd_same (by rw[sK_len,sizeLine_eq,List.length_append];simp;omega) ?_
  rw[p2,upd_upd]
  exact seq0 (nx _ _ ⟨_,_,rfl,rfl⟩)
 ·obtain⟨v5,v6,rfl,rfl⟩:=pv
  rw[List.take_length]
  have x1:Ext Γ.mod H (upd H m (.dK (sK (mt (txs P))))):=Ext.upd hm mm
  have hmm:upd H m (.dK (sK (mt (txs P)))) m=some (.dK (sK (mt (txs P)))):=upd_same
  generalize upd H m (.dK (sK (mt (txs P))))=H1 at x1 hmm
  refine seq ?_
  walk_at "s1"
  refine⟨by rw[sizeLine_eq];simp,fun r hr mr=>?_⟩
  have x2:Ext Γ.mod H1 (upd H1 r (.lst [.str c])):=Ext.upd hr mr
  have hrr:upd H1 r (.lst [.str c]) r=some (.lst ([c].map V.str)):=upd_same
  have hm2:=x2.same _ _ hmm
  generalize upd H1 r (.lst [.str c])=H2 at x2 hrr hm2
  have x12:=x1.trans x2
  have r0:=x1.non hr
  have go:∀H3 R,RowI Γ.mod H H3 m r E (txs P) R 2->wSs (.cons (.fr 8 (.rng1 (.bin .Add (.con (.int 1)) (.bin .Mod (.var 3) (.con (.int 9))))) (.cons (.asg 9 (.comp "_law_name" [("_law_row_here",7)] (.ex (.blt .dsorted (.cons (.idxD (.var 0) (.idx (.var 7) (.neg (.con (.int 1))))) .nil))) (.var 0) (.cons (.cmp .NotIn (.var 0) (.var 1)) .nil)))
 (.cons (.iff (.cmpD .In (.idx (.var 7) (.neg (.con (.int 1)))) (.var 4)) (.cons (.asg 9 (.comp "_law_name" [("_law_mates",4),("_law_row_here",7)] (.ex (.var 9)) (.var 0) (.cons (.cmp .NotEq (.var 0) (.idxD (.var 1) (.idx (.var 2) (.neg (.con (.int 1)))))) .nil)))
  .nil) (.cons (.iff (.cmp .Gt (.blt .len (.cons (.var 7) .nil)) (.con (.int 1))) (.cons (.asg 9 (.lst .nil))
  .nil) .nil)
  .nil))
 (.cons (.iff (.cmp .NotEq (.var 9) (.lst .nil)) (.cons (.exp (.mth .append (.var 7) (.cons (.idx (.var 9) (.bin .Mod (.call "_law_mix" (.cons (.var 3) (.cons (.bin .Add (.con (.int 700)) (.var 8)) .nil))) (.blt .len (.cons (.var 9) .nil)))) .nil)))
  (.cons (.iff (.cmpD .In (.idx (.var 7) (.neg (.con (.int 1)))) (.var 4)) (.cons (.exp (.mth .append (.var 7) (.cons (.idxD (.var 4) (.idx (.var 7) (.neg (.con (.int 1))))) .nil)))
  .nil) .nil)
  .nil)) .nil)
 .nil))))
 (.cons (.ret (.var 7))
 .nil)) Γ (fun C d _ H'=>X C d H') {nx:=fun _ H'=>Q .non H',rt:=Q} [some (.ref w),some (.ref p),some (.str c),some (.int n),some (.ref m),v5,v6,some (.ref r),none,none] H3:=fun H3 R i=>by
   refine seq ?_
   walk_at "s1"
   rw[Sw.v_mod]
   refine⟨gc,by decide,?_⟩
   rw[Sw.v_add]
   have m0:=Int.emod_nonneg n (show(9:Int) ≠ 0 by decide)
   have m1:=Int.emod_lt_of_pos n (show(0:Int) < 9 by decide)
   dsimp only
   refine⟨by omega,by omega,?_⟩
   refine for_inv (fun k σ Hk=>∃v8 v9 R,σ=[some (.ref w),some (.ref p),some (.str c),some (.int n),some (.ref m),v5,v6,some (.ref r),v8,v9]/\RowI Γ.mod H Hk m r E (txs P) R (2 + 2 * k)) (fun _ _ _ _=>trivial) (fun k v σ Hk D' hv pv nx _ _ _=>?_) (fun σ Hk pv=>?_) ⟨_,_,R,rfl,i⟩
   ·obtain⟨v8,v9,R,rfl,i⟩:=pv
    obtain⟨lk,rfl⟩:=range_get hv
    exact body_ok gc g2 (Ext.web i.x W) ok pl i (by omega) (by omega) (by omega) fun H' R' v9 i'=>nx _ _ ⟨_,_,R',rfl,i'⟩
   ·obtain⟨v8,v9,R,rfl,i⟩:=pv
    walk_at "sw"
    have il:=i.len
    rw[List.length_map,List.length_range]at il
    exact h Hk r R i.x i.r0 i.mr i.hr i.rw i.ne i.keys (by omega)
  refine seq ?_
  walk_at "s1"
  refine inD_yes (x:=c) (rd_of hm2 nofrz_d) ⟨_,rfl,?_⟩
  rw[sK_val]
  cases e:(mt (txs P)).lookup c with
  | none=>
   rw[if_neg (by simp)]
   have fr:c ∉ ends (txs P):=fun z=>by
    rw[<-mt_keys]at z
    obtain⟨_,q,_⟩:=lookup_keys z
    rw[e]at q
    cases q
   refine seq0 ?_
   exact go H2 [c] ⟨x12,r0,mr,hm2,hrr,Rw.single fr,by simp,fun y hy=>by rw[List.mem_singleton.mp hy];exact ck,by simp⟩
  | some z=>
   rw[if_pos (by simp)]
   have hm':=lookup_some e
   refine seq ?_
   walk_at "s1"
   refine⟨mty_l hrr,idxD_at (x:=c) (v:=.str z) (rd_of hm2 nofrz_d) (by rw[sK_val,e];rfl) ?_⟩
   refine append_at hrr (by rw[sizeLine_eq];simp) ?_
   refine seq0 ?_
   have kz:z ∈ E.map (·.1):=by
    have:=ok.cl c z (by rw[<-adj_cont];exact mate_adj sy pl hm')
    rw[show(cont E).map (·.1)=E.map (·.1)from by unfold cont;rw[List.map_map];rfl]at this
    exact this
   exact go _ [c,z] ⟨x12.upd3 r0 mr,r0,mr,by rw[upd_ne (fun q=>by have:=hm2;rw[q,hrr]at this;cases this)];exact hm2,upd_same,Rw.pair sy pl hm',by simp,fun y hy=>by
    rcases List.mem_cons.mp hy with q | q
    ·rw[q];exact ck
    ·rw[List.mem_singleton.mp q];exact kz,by simp⟩
end Gk
namespace Gk
open PySem PySem.Spec PyProof.Rows L2 Sw Gw
@[reducible] noncomputable def N__law_part:List Str:=["_law_web_here","_law_plan_here","_law_cell_here","_law_names_here","_law_row_here","_law_inside","_law_at","_law_word"]
noncomputable def b__law_part:Sxs:=(.cons (.asg 4 (.call "_law_row" (.cons (.var 0) (.cons (.var 1) (.cons (.idx (.var 3) (.bin .Mod (.var 2) (.blt .len (.cons (.var 3) .nil)))) (.cons (.bin .FloorDiv (.var 2) (.con (.int 20))) .nil))))))
 (.cons (.iff (.cmp .Lt (.blt .len (.cons (.var 4) .nil)) (.con (.int 2))) (.cons (.ret (.tup (.cons (.con (.str "none")) (.cons (.lst .nil) .nil))))
 .nil) .nil)
 (.cons (.asg 5 (.cmpI .In (.tup (.cons (.blt .smin (.cons (.idx (.var 4) (.con (.int 0))) (.cons (.idx (.var 4) (.con (.int 1))) .nil))) (.cons (.smax (.idx (.var 4) (.con (.int 0))) (.idx (.var 4) (.con (.int 1)))) .nil))) (.var 1)))
 (.cons (.iff (.and (.cmp .Gt (.blt .len (.cons (.var 4) .nil)) (.con (.int 3))) (.and (.cmp .Eq (.bin .Mod (.blt .len (.cons (.var 4) .nil)) (.con (.int 2))) (.con (.int 0))) (.and (.var 5) (.cmpD .In (.idx (.var 4) (.con (.int 0))) (.idxD (.var 0) (.idx (.var 4) (.neg (.con (.int 1))))))))) (.cons (.asg 6 (.bin .Mod (.bin .FloorDiv (.var 2) (.con (.int 7))) (.blt .len (.cons (.var 4) .nil))))
 (.cons (.asg 7 (.con (.str "ring")))
 (.cons (.asg 4 (.bin .Add (.slc (.var 4) (.cons (.var 6) .nil) .nil) (.slc (.var 4) .nil (.cons (.var 6) .nil))))
 .nil))) (.cons (.asg 7 (.con (.str "row")))
 .nil))
 (.cons (.iff (.cmp .Eq (.bin .Mod (.bin .FloorDiv (.var 2) (.con (.int 5))) (.con (.int 2))) (.con (.int 1))) (.cons (.asg 4 (.lrev (.var 4)))
 .nil) .nil)
 (.cons (.ret (.tup (.cons (.var 7) (.cons (.var 4) .nil))))
 .nil))))))
noncomputable def tl_part:Sxs:=(.cons (.iff (.cmp .Eq (.bin .Mod (.bin .FloorDiv (.var 2) (.con (.int 5))) (.con (.int 2))) (.con (.int 1))) (.cons (.asg 4 (.lrev (.var 4)))
 .nil) .nil)
 (.cons (.ret (.tup (.cons (.var 7) (.cons (.var 4) .nil))))
 .nil))
theorem alng_rev {E:List Ent} {L:List (Str × Str)} {wd:Str} {R:List Str} (h:Alt E L (alng wd R)) (rn:wd=Str.ofString "ring" ->R ≠ []):Alt E L (alng wd R.reverse):=by
 unfold alng at h ⊢
 by_cases w:wd=Str.ofString "ring"
 ·rw[if_pos w]at h ⊢
  exact h.perm (cyc_rev (rn w))
 ·rw[if_neg w]at h ⊢
  rw[ar_rev]
  exact h.perm (List.reverse_perm _).symm
theorem alt_nil (E:List Ent) (L:List (Str × Str)):Alt E L []:=⟨fun x hx=>by (cases hx),List.nodup_nil,fun x hx=>by (cases hx),fun x hx=>by (cases hx)⟩
noncomputable def spPart (M:Mo):Sp:=fun vs H Q _=>∃w p n nm E P,∃ns:List Str,vs=[.ref w,.ref p,.int n,.ref nm]/\WebAt H w E/\WebOk (cont E)/\PlanAt H p P/\IsPlan E (txs P)/\P.length<=20/\rd M H nm=some (.lst (ns.map V.str))/\0 < ns.length/\(∀ x ∈ ns,x ∈ E.map (·.1))/\
 ∀H' t wd c R,Ext M H H'->H' t=some (.tup [.str wd,.ref c])->H' c=some (.lst (R.map V.str))->(wd=Str.ofString "ring" ->R ≠ [])->R.length<=20->Alt E (txs P) (alng wd R)->Q (.ref t) H'
theorem part_tail {Γ:Gam} {Ξ:XS} {D:Ends} {H Hk:Hp} {w p nm q:Addr} {n:Int} {wd:Str} {E:List Ent} {L:List (Str × Str)} {R:List Str} {v5 v6:Option V} (gc:Γ.cm=true) (x:Ext Γ.mod H Hk) (hq:Hk q=some (.lst (R.map V.str))) (rn:wd=Str.ofString "ring" ->R ≠ []) (rl:R.length<=20) (al:Alt E L (alng wd R))
  (h:∀H' t wd c R,Ext Γ.mod H H'->H' t=some (.tup [.str wd,.ref c])->H' c=some (.lst (R.map V.str))->(wd=Str.ofString "ring" ->R ≠ [])->R.length<=20->Alt E L (alng wd R)->D.rt (.ref t) H'):
  wSs tl_part Γ Ξ D [some (.ref w),some (.ref p),some (.int n),some (.ref nm),some (.ref q),v5,v6,some (.str wd)] Hk:=by
 have last:∀H2 q R,Ext Γ.mod H H2->H2 q=some (.lst (R.map V.str))->(wd=Str.ofString "ring" ->R ≠ [])->R.length<=20->Alt E L (alng wd R)->∀v5 v6,wSs (.cons (.ret (.tup (.cons (.var 7) (.cons (.var 4) .nil)))) .nil) Γ Ξ D [some (.ref w),some (.ref p),some (.int n),some (.ref nm),some (.ref q),v5,v6,some (.str wd)] H2:=fun H2 q R x2 hq rn rl al v5 v6=>by
  walk_at "sw"
  refine⟨by rw[sizeLine_eq];simp,fun t ht mt=>?_⟩
  exact h _ t wd q R (x2.trans (Ext.upd ht mt)) upd_same ((Ext.upd (M:=Γ.mod) ht mt).same _ _ hq) rn rl al
 unfold tl_part
 refine seq ?_
 walk_at "s1"
 rw[Sw.v_div]
 refine⟨by decide,by decide,?_⟩
 rw[Sw.v_mod]
 refine⟨by decide,?_⟩
 rw[Sw.v_eqi]
 refine⟨_,rfl,?_⟩
 by_cases k:n / 5 % 2=1
 ·rw[if_pos (decide_eq_true k)]
  refine seq ?_
  walk_at "s1"
  refine⟨gc,?_⟩
  unfold lrevV
  dsimp only
  rw[rd_of hq nofrz_l]
  intro l hl ml
  refine seq0 ?_
  rw[show(R.map V.str).reverse=R.reverse.map V.str from List.map_reverse.symm]
  exact last _ l R.reverse (x.trans (Ext.upd hl ml)) upd_same (fun w=>by simp[rn w]) (by rw[List.length_reverse];exact rl) (alng_rev al rn) v5 v6
 ·rw[if_neg (by rw[decide_eq_true_iff];exact k)]
  refine seq0 ?_
  exact last Hk q R x hq rn rl al v5 v6
theorem ok_part {M:Mo} {Γ:Gam} (gm:Γ.mod=M) (gc:Γ.cm=true) (g1:Γ.has "_law_row" =true/\Γ.fn "_law_row" =spRow M) (vs:List V) (H:Hp) (Q:VK) (X:XK) (h:spPart M vs H Q X):spOf Γ N__law_part 4 b__law_part vs H Q X:=by
 obtain⟨w,p,n,nm,E,P,ns,rfl,W,ok,hp,pl,few,hn,n0,nk,h⟩:=h
 refine⟨rfl,?_⟩
 obtain rfl:=gm
 have sy:∀a b,b ∈ Gw.adj E a->a ∈ Gw.adj E b:=fun a b h=>by rw[adj_cont]at h ⊢;exact ok.sy _ _ h
 unfold b__law_part
 refine seq ?_
 walk_at "s1"
 refine⟨⟨gc,g1.1⟩,gc,len_at hn ?_⟩
 rw[Sw.v_mod,List.length_map]
 refine⟨by omega,ix_str hn (Int.emod_nonneg _ (by omega)) (Int.emod_lt_of_pos _ (by omega)) fun c hc=>?_⟩
 rw[Sw.v_div]
 refine⟨by decide,by decide,?_⟩
 rw[g1.2]
 refine⟨w,p,c,_,E,P,rfl,W,ok,hp,pl,few,nk c hc,fun H1 r R x1 r0 mr hr rw' ne kys rl=>?_⟩
 have W1:=Ext.web x1 W
 have hp1:=Ext.plan x1 hp
 refine seq ?_
 walk_at "s1"
 refine⟨gc,len_at (rd_of hr nofrz_l) ?_⟩
 rw[Sw.v_lt,List.length_map]
 refine⟨_,rfl,?_⟩
 by_cases l2:(R.length:Int) < 2
 ·rw[if_pos (decide_eq_true l2)]
  walk_at "sw"
  refine⟨by rw[sizeLine_eq];simp,fun o ho mo=>⟨by rw[sizeLine_eq];simp,fun t ht mt=>?_⟩⟩
  have x2:Ext Γ.mod H1 (upd H1 o (.lst [])):=Ext.upd ho mo
  have hoo:upd H1 o (.lst []) o=some (.lst (([]:List Str).map V.str)):=upd_same
  have x3:=Ext.upd (M:=Γ.mod) (o:=.tup [.str (Str.ofString "none"),.ref o]) ht mt
  exact h _ t (Str.ofString "none") o [] ((x1.trans x2).trans x3) upd_same (x3.same _ _ hoo) (fun z=>absurd z (by decide)) (by simp) (by rw[show alng (Str.ofString "none") []=[] by unfold alng;rw[if_neg (by decide)];rfl];exact alt_nil E _)
 ·rw[if_neg (by rw[decide_eq_true_iff];exact l2)]
  refine seq0 ?_
  have h0:=List.getElem?_eq_getElem (l:=R) (i:=0) (by omega)
  have h1:=List.getElem?_eq_getElem (l:=R) (i:=1) (by omega)
  generalize R[0]=a at h0
  generalize R[1]=b at h1
  have i0:atI (R.map V.str) 0=some (.str a):=by
   unfold atI ixN
   rw[if_pos (by decide),if_pos (by rw[List.length_map];omega)]
   show(R.map V.str)[0]?=_
   rw[List.getElem?_map,h0]
   rfl
  have i1:atI (R.map V.str) 1=some (.str b):=by
   unfold atI ixN
   rw[if_pos (by decide),if_pos (by rw[List.length_map];omega)]
   show(R.map V.str)[1]?=_
   rw[List.getElem?_map,h1]
   rfl
  refine seq ?_
  walk_at "s1"
  refine⟨gc,ix_at (rd_of hr nofrz_l) i0 (ix_at (rd_of hr nofrz_l) i1 (smin_at ⟨gc,ix_at (rd_of hr nofrz_l) i0 (ix_at (rd_of hr nofrz_l) i1 ?_)⟩))⟩
  show([V.str (Gr.mn slt a b),V.str (if slt a b then b else a)]:List V).length<=sizeLine/\_
  refine⟨by rw[sizeLine_eq];simp,fun t ht mt=>?_⟩
  have x2:Ext Γ.mod H1 (upd H1 t (.tup [.str (swp a b).1,.str (swp a b).2])):=Ext.upd ht mt
  have htt:upd H1 t (.tup [.str (swp a b).1,.str (swp a b).2]) t=some (.tup [.str (swp a b).1,.str (swp a b).2]):=upd_same
  show cmpIV _ _ _ _ (upd H1 t (.tup [.str (swp a b).1,.str (swp a b).2])) _
  generalize upd H1 t (.tup [.str (swp a b).1,.str (swp a b).2])=H2 at x2 htt
  have x12:=x1.trans x2
  have hr2:=x2.same _ _ hr
  refine inP (Ext.plan x2 hp1) htt ?_
  rw[show((swp a b).1,(swp a b).2)=swp a b from rfl]
  have row:∀v5 v6,wSs (.cons (.asg 7 (.con (.str "row"))) .nil) Γ (fun C d _ H'=>X C d H') {nx:=wSs tl_part Γ (fun C d _ H'=>X C d H') {nx:=fun _ H'=>Q .non H',rt:=Q},rt:=Q} [some (.ref w),some (.ref p),some (.int n),some (.ref nm),some (.ref r),v5,v6,none] H2:=fun v5 v6=>by
   refine seq ?_
   walk_at "s1"
   refine seq0 ?_
   refine part_tail gc x12 hr2 (fun z=>absurd z (by decide)) rl ?_ h
   unfold alng
   rw[if_neg (by decide)]
   exact rw'.row sy
  refine seq ?_
  walk_at "s1"
  refine⟨gc,len_at (rd_of hr2 nofrz_l) ?_⟩
  rw[Sw.v_gt,List.length_map]
  refine⟨_,rfl,?_⟩
  by_cases l3:(3:Int) < R.length
  ·rw[if_pos (decide_eq_true l3)]
   refine⟨gc,len_at (rd_of hr2 nofrz_l) ?_⟩
   rw[Sw.v_mod,List.length_map]
   refine⟨by decide,?_⟩
   rw[Sw.v_eqi]
   refine⟨_,rfl,?_⟩
   by_cases ev:(R.length:Int) % 2=0
   ·rw[if_pos (decide_eq_true ev),Sw.t_bl]
    by_cases ins:swp a b ∈ txs P
    ·rw[if_pos (decide_eq_true ins)]
     refine ix_at (rd_of hr2 nofrz_l) i0 (ix_last (rd_of hr2 nofrz_l) ne ?_)
     have hz:=last_at ne
     generalize R.getLastD ⟨#[]⟩=z at hz
     obtain⟨⟨q,rr⟩,lk,mem⟩:=look_at (kys z (List.mem_of_getElem? hz))
     refine idx_web (Ext.web x2 W1) mem (inD_yes (x:=a) (rd_of ((Ext.web x2 W1).row _ mem) nofrz_d) ⟨_,rfl,?_⟩)
     rw[row_isSome]
     by_cases cl:a ∈ rr.map (·.1)
     ·rw[if_pos (decide_eq_true cl)]
      have A:Alt E (txs P) (cyc R):=rw'.ring sy pl (by omega) (by omega) h0 h1 ins hz (by rw[adj_of lk];exact cl)
      refine seq ?_
      walk_at "s1"
      rw[Sw.v_div]
      refine⟨by decide,by decide,gc,len_at (rd_of hr2 nofrz_l) ?_⟩
      rw[Sw.v_mod,List.length_map]
      have at0:0<=n / 7 % (R.length:Int):=Int.emod_nonneg _ (by omega)
      have at1:n / 7 % (R.length:Int) < R.length:=Int.emod_lt_of_pos _ (by omega)
      refine⟨by omega,?_⟩
      generalize n / 7 % (R.length:Int)=at_ at at0 at1
      refine seq ?_
      walk_at "s1"
      refine seq ?_
      walk_at "s1"
      rw[Sw.s_ref,rd_of hr2 nofrz_l]
      intro l hl ml
      have e1:cutV (R.map V.str) (some at_) none=(R.drop at_.toNat).map V.str:=by
       unfold cutV HT.sIx
       dsimp only
       rw[if_neg (by omega),List.length_map,Nat.min_eq_left (by omega),List.map_drop]
       exact List.take_of_length_le (by simp)
      have e2:cutV (R.map V.str) none (some at_)=(R.take at_.toNat).map V.str:=by
       unfold cutV HT.sIx
       dsimp only
       rw[if_neg (by omega),List.length_map,Nat.min_eq_left (by omega),List.drop_zero,Nat.sub_zero,List.map_take]
      rw[e1]
      have x3:Ext Γ.mod H2 (upd H2 l (.lst ((R.drop at_.toNat).map V.str))):=Ext.upd hl ml
      have hll:upd H2 l (.lst ((R.drop at_.toNat).map V.str)) l=some (.lst ((R.drop at_.toNat).map V.str)):=upd_same
      generalize upd H2 l (.lst ((R.drop at_.toNat).map V.str))=H3 at x3 hll
      try dsimp only
      rw[Sw.s_ref,rd_of (x3.same _ _ hr2) nofrz_l]
      intro l' hl' ml'
      rw[e2]
      have x4:Ext Γ.mod H3 (upd H3 l' (.lst ((R.take at_.toNat).map V.str))):=Ext.upd hl' ml'
      have hll':upd H3 l' (.lst ((R.take at_.toNat).map V.str)) l'=some (.lst ((R.take at_.toNat).map V.str)):=upd_same
      generalize upd H3 l' (.lst ((R.take at_.toNat).map V.str))=H4 at x4 hll'
      rw[Sw.v_cat,rd_of (x4.same _ _ hll) nofrz_l,rd_of hll' nofrz_l]
      refine⟨by rw[List.length_map,List.length_map,List.length_drop,List.length_take,sizeLine_eq];omega,fun q2 hq2 mq2=>?_⟩
      rw[<-List.map_append]
      refine seq0 ?_
      refine part_tail gc (((x12.trans x3).trans x4).trans (Ext.upd hq2 mq2)) upd_same (fun _=>fun z=>?_) (by rw[List.length_append,List.length_drop,List.length_take];omega) ?_ h
      ·have:=congrArg List.length z
       rw[List.length_append,List.length_drop,List.length_take]at this
       simp at this
       omega
      ·unfold alng
       rw[if_pos rfl]
       have pm:=cyc_rot (R.take at_.toNat) (R.drop at_.toNat) (fun z=>by
        have:=congrArg List.length z
        rw[List.length_drop]at this
        simp at this
        omega)
       rw[List.take_append_drop]at pm
       exact A.perm pm
     ·rw[if_neg (by rw[decide_eq_true_iff];exact cl)]
      exact row _ _
    ·rw[if_neg (by rw[decide_eq_true_iff];exact ins),if_neg (by decide)]
     exact row _ _
   ·rw[if_neg (by rw[decide_eq_true_iff];exact ev),if_neg (by decide)]
    exact row _ _
  ·rw[if_neg (by rw[decide_eq_true_iff];exact l3),if_neg (by decide)]
   exact row _ _
end Gk
namespace Gk
open PySem PySem.Spec PyProof.Rows L2 Sw Gw
noncomputable def joinL (g:List Nat):List Str->List Nat
 | []=>[]
 | x::r=>cps x++(r.map fun p=>g++cps p).flatten
theorem glue_fold (g:Array Nat):∀ (ps:List Str) (acc:Array Nat),(ps.foldl (fun acc p=>acc++g++p.cps) acc).toList=acc.toList++(ps.map fun p=>g.toList++cps p).flatten
 | [],acc=>by simp
 | p::r,acc=>by
  rw[List.foldl_cons,glue_fold g r]
  simp[cps]
theorem cps_join (sep:Str) (l:List Str):cps (Txt.join sep l)=joinL (cps sep) l:=by
 cases l with
 | nil=>rfl
 | cons x r=>
  show((r.foldl (fun acc p=>acc++sep.cps++p.cps) x.cps)).toList=_
  rw[glue_fold]
  rfl
theorem joinL_nil:∀l:List Str,joinL [] l=(l.map cps).flatten
 | []=>rfl
 | x::r=>by simp[joinL]
theorem fold_len (n B:Nat):∀ (l:List Str) (a:Nat),(∀ x ∈ l,x.length<=B)->l.foldl (fun a (x:Str)=>a + x.length + n) a<=a + l.length * (B + n)
 | [],a,h=>by simp
 | x::r,a,h=>by
  rw[List.foldl_cons]
  refine Nat.le_trans (fold_len n B r _ fun y hy=>h y (List.mem_cons_of_mem _ hy)) ?_
  have:=h x List.mem_cons_self
  rw[List.length_cons,Nat.succ_mul]
  omega
theorem joinOk (sep:Str) (l:List Str) (B:Nat) (h:∀x ∈ l,x.length<=B) (hb:l.length * (B + sep.length)<=16777216):JoinOk sep l=true:=by
 unfold JoinOk Builtin.Str.tooLong
 have z:=fold_len sep.length B l 0 h
 rw[List.foldl_toArray]
 simp only[Bool.not_eq_true',decide_eq_false_iff_not,gt_iff_lt,Nat.not_lt]
 rw[sizeLine_eq]
 omega
theorem join_one (cs:List Nat) (h:cs.length<=8):JoinOk (Str.ofString "") (cs.map fun c=>(⟨#[c]⟩:Str))=true/\(Txt.join (Str.ofString "") (cs.map fun c=>(⟨#[c]⟩:Str))).cps.toList=cs:=by
 refine⟨joinOk _ _ 1 (fun x hx=>?_) ?_,?_⟩
 ·obtain⟨c,_,rfl⟩:=List.mem_map.mp hx
  exact Nat.le_refl 1
 ·rw[List.length_map,show(Str.ofString "").length=0 from rfl]
  omega
 ·have e:=cps_join (Str.ofString "") (cs.map fun c=>(⟨#[c]⟩:Str))
  rw[show cps (Str.ofString "")=[]from rfl,joinL_nil,List.map_map]at e
  have e2:∀l:List Nat,(l.map (cps ∘ fun c=>(⟨#[c]⟩:Str))).flatten=l:=fun l=>by
   induction l with
   | nil=>rfl
   | cons c r ih=>
    rw[List.map_cons,List.flatten_cons,ih]
    rfl
  rw[e2]at e
  exact e
end Gk
namespace Gk
open PySem PySem.Spec PyProof.Rows L2 Sw Gw
noncomputable def lc (i:Int):Nat:=97 + i.toNat
noncomputable def p0 (c:Int) (j:Nat):Int:=mixF c (10 + j) % 26
noncomputable def atF (c:Int):Int:=mixF c 7 % 8
structure Nm (c:Int) (k:Nat) (x:Str) (L:List Int):Prop where
 tx:x.cps.toList=L.map lc
 fst:c % 3 < 2->L[(atF c).toNat]?=some ((p0 c (atF c).toNat + k) % 26)
 snd:¬c % 3 < 2->L.length=(1 + (atF c + k) % 8).toNat/\L[0]?=some ((p0 c 0 + k / 8) % 26)
theorem Nm.ne {c:Int} {k k':Nat} {x:Str} {L L':List Int} (n:Nm c k x L) (n':Nm c k' x L') (h:k < 20) (h':k' < 20):k=k':=by
 have e:L.map lc=L'.map lc:=n.tx.symm.trans n'.tx
 have ix:∀ (i:Nat) (a b:Int),0<=a->0<=b->L[i]?=some a->L'[i]?=some b->a=b:=fun i a b ha hb h1 h2=>by
  have:=congrArg (fun l=>l[i]?) e
  simp only[List.getElem?_map,h1,h2,Option.map_some]at this
  have z:=Option.some.inj this
  unfold lc at z
  omega
 by_cases q:c % 3 < 2
 ·have:=ix _ _ _ (by omega) (by omega) (n.fst q) (n'.fst q)
  omega
 ·obtain⟨l1,f1⟩:=n.snd q
  obtain⟨l2,f2⟩:=n'.snd q
  have:=ix _ _ _ (by omega) (by omega) f1 f2
  have ll:L.length=L'.length:=by simpa using congrArg List.length e
  rw[l1,l2]at ll
  omega
noncomputable def Nms (c:Int) (ns:List Str):Prop:=∀i x,ns[i]?=some x->∃L,Nm c i x L
theorem Nms.nodup {c:Int} {ns:List Str} (h:Nms c ns) (few:ns.length<=20):ns.Nodup:=by
 refine List.pairwise_iff_getElem.mpr fun i j hi hj lt e=>?_
 obtain⟨L,n⟩:=h i _ (List.getElem?_eq_getElem hi)
 obtain⟨L',n'⟩:=h j _ (List.getElem?_eq_getElem hj)
 rw[<-e]at n'
 have:=n.ne n' (by omega) (by omega)
 omega
theorem Nms.snoc {c:Int} {ns:List Str} {x:Str} {L:List Int} (h:Nms c ns) (n:Nm c ns.length x L):Nms c (ns++[x]):=fun i y e=>by
 by_cases hi:i < ns.length
 ·rw[List.getElem?_append_left hi]at e
  exact h i y e
 ·rw[List.getElem?_append_right (by omega)]at e
  have:i - ns.length=0:=by
   cases q:i - ns.length with
   | zero=>rfl
   | succ m=>rw[q]at e;simp at e
  rw[this]at e
  have ei:i=ns.length:=by omega
  subst ei
  cases (show some x=some y from e)
  exact⟨L,n⟩
theorem alpha_i {i:Int} {M:Mo} {H:Hp} {Q:VK} (h0:0<=i) (h1:i < 26) (q:Q (.str ⟨#[lc i]⟩) H):idxV M (.str (Str.ofString "abcdefghijklmnopqrstuvwxyz")) (.int i) H Q:=by
 rw[i_str]
 have e:(Str.ofString "abcdefghijklmnopqrstuvwxyz").cps.toList=(List.range 26).map (97 + ·):=by decide +kernel
 refine⟨by rw[sizeLine_eq];decide +kernel,?_⟩
 rw[e]
 unfold atI ixN
 rw[if_pos h0,if_pos (by simp;omega),Option.bind_some,List.getElem?_map,List.getElem?_range (by omega)]
 exact q
theorem sto_l {H:Hp} {p:Addr} {xs:List Int} {j:Int} {v:Int} {Q:Hp->Prop} (h:H p=some (.lst (xs.map V.int))) (h0:0<=j) (h1:j < xs.length) (q:Q (upd H p (.lst ((xs.set j.toNat v).map V.int)))):stoV (.ref p) (.int j) (.int v) H Q:=by
 show(match H p with
  | some (.lst xs)=>(match V.int j with | .int j=>(match ixN xs.length j with | some n=>Q (upd H p (.lst (xs.set n (.int v)))) | none=>False) | _=>False)
  | some (.dK kvs)=>(match keyOf (V.int j)with | some kk=>kvs.length < sizeLine/\Q (upd H p (.dK (putK kvs kk (.int v)))) | none=>False)
  | _=>False)
 rw[h]
 dsimp only
 have e:ixN (xs.map V.int).length j=some j.toNat:=by
  unfold ixN
  rw[if_pos h0,if_pos (by rw[List.length_map];exact h1)]
 rw[e]
 dsimp only
 rw[<-List.map_set]
 exact q
theorem ix_int {M:Mo} {H:Hp} {p:Addr} {xs:List Int} {j:Int} {v:Int} {Q:VK} (h:rd M H p=some (.lst (xs.map V.int))) (h0:0<=j) (h1:xs[j.toNat]?=some v) (q:Q (.int v) H):idxV M (.ref p) (.int j) H Q:=by
 refine ix_at h ?_ q
 unfold atI ixN
 obtain⟨hj,_⟩:=List.getElem?_eq_some_iff.mp h1
 rw[if_pos h0,if_pos (by rw[List.length_map];omega),Option.bind_some,List.getElem?_map,h1]
 rfl
theorem cut_to (xs:List Int) (n:Int) (h0:0<=n):cutV (xs.map V.int) none (some n)=(xs.take n.toNat).map V.int:=by
 unfold cutV HT.sIx
 dsimp only
 rw[List.drop_zero,if_neg (by omega),Nat.sub_zero,List.map_take,List.length_map]
 by_cases h:n.toNat<=xs.length
 ·rw[Nat.min_eq_left h]
 ·rw[Nat.min_eq_right (by omega),List.take_of_length_le (by simp),List.take_of_length_le (by simp;omega)]
end Gk
namespace Gk
open PySem PySem.Spec PyProof.Rows L2 Sw Gw
@[reducible] noncomputable def N__law_names:List Str:=["_law_cell_here","_law_many","_law_letters","_law_at","_law_names_here","_law_k","_law_places","_law_size"]
noncomputable def b__law_names:Sxs:=(.cons (.asg 2 (.con (.str "abcdefghijklmnopqrstuvwxyz")))
 (.cons (.asg 3 (.bin .Mod (.call "_law_mix" (.cons (.var 0) (.cons (.con (.int 7)) .nil))) (.con (.int 8))))
 (.cons (.asg 4 (.lst .nil))
 (.cons (.fr 5 (.rng1 (.var 1)) (.cons (.asg 6 (.comp "_law_j" [("_law_cell_here",0)] (.rng1 (.con (.int 8))) (.bin .Mod (.call "_law_mix" (.cons (.var 1) (.cons (.bin .Add (.con (.int 10)) (.var 0)) .nil))) (.con (.int 26))) .nil))
 (.cons (.asg 7 (.bin .Add (.bin .Add (.var 3) (.con (.int 1))) (.bin .Mod (.bin .FloorDiv (.var 0) (.con (.int 3))) (.bin .Sub (.con (.int 8)) (.var 3)))))
 (.cons (.iff (.cmp .Eq (.bin .Mod (.var 0) (.con (.int 3))) (.con (.int 1))) (.cons (.asg 7 (.bin .Add (.bin .Add (.var 3) (.con (.int 1))) (.bin .Mod (.call "_law_mix" (.cons (.var 0) (.cons (.bin .Add (.con (.int 30)) (.var 5)) .nil))) (.bin .Sub (.con (.int 8)) (.var 3)))))
  .nil) .nil)
 (.cons (.iff (.cmp .Lt (.bin .Mod (.var 0) (.con (.int 3))) (.con (.int 2))) (.cons (.sto (.var 6) (.var 3) (.bin .Mod (.bin .Add (.idx (.var 6) (.var 3)) (.var 5)) (.con (.int 26))))
  .nil) (.cons (.sto (.var 6) (.con (.int 0)) (.bin .Mod (.bin .Add (.idx (.var 6) (.con (.int 0))) (.bin .FloorDiv (.var 5) (.con (.int 8)))) (.con (.int 26))))
  (.cons (.asg 7 (.bin .Add (.con (.int 1)) (.bin .Mod (.bin .Add (.var 3) (.var 5)) (.con (.int 8)))))
  .nil)))
 (.cons (.exp (.mth .append (.var 4) (.cons (.mth .join (.con (.str "")) (.cons (.comp "_law_place" [("_law_letters",2)] (.ex (.slc (.var 6) .nil (.cons (.var 7) .nil))) (.idx (.var 1) (.var 0)) .nil) .nil)) .nil)))
 .nil))))))
 (.cons (.ret (.var 4))
 .nil)))))
noncomputable def lcV:V->V
 | .int i=>.str ⟨#[lc i]⟩
 | v=>v
theorem lcV_map (L:List Int):(L.map V.int).map lcV=((L.map lc).map fun c=>(⟨#[c]⟩:Str)).map V.str:=by
 rw[List.map_map,List.map_map,List.map_map]
 rfl
theorem strs_all (ns:List Str):allM asS (ns.map V.str)=some ns:=by
 have:=allM_map (f:=asS) (g:=V.str) (k:=id) (l:=ns) fun _ _=>rfl
 rw[List.map_id]at this
 exact this
theorem join_at {M:Mo} {H:Hp} {p:Addr} {cs:List Nat} {Q:VK} (h:H p=some (.lst ((cs.map fun c=>(⟨#[c]⟩:Str)).map V.str))) (hl:cs.length<=8) (q:∀x:Str,x.cps.toList=cs->Q (.str x) H):mthV M .join (.str (Str.ofString "")) [.ref p] H Q:=by
 rw[Sw.m_join,rd_of h nofrz_l]
 dsimp only
 rw[strs_all]
 obtain⟨a,b⟩:=join_one cs hl
 exact⟨a,q _ b⟩
theorem name_app {Γ:Gam} {Ξ:XS} {D':Ends} {H Hk:Hp} {q d:Addr} {L0:List Int} {ns:List Str} {c n at_ sz:Int} {k:Nat} (gc:Γ.cm=true) (x:Ext Γ.mod H Hk) (q0:H q=none) (mq:Γ.mod q=none) (hq:Hk q=some (.lst (ns.map V.str))) (nl:ns.length<=20) (hd:Hk d=some (.lst (L0.map V.int))) (r:∀i ∈ L0,0<=i/\i < 26) (l8:L0.length<=8) (s0:0<=sz)
  (h:∀H' y,Ext Γ.mod H H'->H' q=some (.lst ((ns++[y]).map V.str))->y.cps.toList=(L0.take sz.toNat).map lc->D'.nx [some (.int c),some (.int n),some (.str (Str.ofString "abcdefghijklmnopqrstuvwxyz")),some (.int at_),some (.ref q),some (.int k),some (.ref d),some (.int sz)] H'):
  wSs (.cons (.exp (.mth .append (.var 4) (.cons (.mth .join (.con (.str "")) (.cons (.comp "_law_place" [("_law_letters",2)] (.ex (.slc (.var 6) .nil (.cons (.var 7) .nil))) (.idx (.var 1) (.var 0)) .nil) .nil)) .nil))) .nil) Γ Ξ D' [some (.int c),some (.int n),some (.str (Str.ofString "abcdefghijklmnopqrstuvwxyz")),some (.int at_),some (.ref q),some (.int k),some (.ref d),some (.int sz)] Hk:=by
 refine seq ?_
 walk_at "s1"
 refine⟨mty_l hq,rfl,gc,?_⟩
 rw[Sw.s_ref,rd_of hd nofrz_l]
 dsimp only
 intro l hl ml
 rw[cut_to _ _ s0]
 have x1:Ext Γ.mod Hk (upd Hk l (.lst ((L0.take sz.toNat).map V.int))):=Ext.upd hl ml
 have hl1:upd Hk l (.lst ((L0.take sz.toNat).map V.int)) l=some (.lst ((L0.take sz.toNat).map V.int)):=upd_same
 generalize upd Hk l (.lst ((L0.take sz.toNat).map V.int))=H1 at x1 hl1
 refine iter_l (rd_of hl1 nofrz_l) fun e he me=>?_
 have x2:∀o,Ext Γ.mod H1 (upd H1 e o):=fun o=>Ext.upd he me
 have tl:(L0.take sz.toNat).length<=8:=by rw[List.length_take];omega
 refine comp_at lcV _ [] (fun v hv acc Q' q'=>?_) (fun o=>rd_of ((x2 _).same _ _ hl1) nofrz_l) (by rw[List.length_map,sizeLine_eq];simp;omega) ?_
 ·obtain⟨i,hi,rfl⟩:=List.mem_map.mp hv
  obtain⟨i0,i1⟩:=r i (List.mem_of_mem_take hi)
  walk_at "s1"
  exact alpha_i i0 i1 q'
 ·rw[List.nil_append,lcV_map]
  refine join_at upd_same (by rw[List.length_map];exact tl) fun y hy=>?_
  have hq2:=(x1.trans (x2 (.lst (((List.map lc (L0.take sz.toNat)).map fun c=>(⟨#[c]⟩:Str)).map V.str)))).same _ _ hq
  refine app_at (x:=y) (ws:=ns) hq2 (by rw[sizeLine_eq];omega) ?_
  exact seq0 (h _ y (((x.trans x1).trans (x2 _)).upd3 q0 mq) upd_same hy)
noncomputable def spNames (M:Mo):Sp:=fun vs H Q _=>∃c n,vs=[.int c,.int n]/\0<=n/\n<=20/\∀H' l (ns:List Str),Ext M H H'->H l=none->M l=none->H' l=some (.lst (ns.map V.str))->ns.Nodup->(ns.length:Int)=n->Q (.ref l) H'
noncomputable def pls (c:Int):List Int:=(List.range 8).map (p0 c)
theorem pls_at {c:Int} {j:Nat} (h:j < 8):(pls c)[j]?=some (p0 c j):=by
 unfold pls
 rw[List.getElem?_map,List.getElem?_range h]
 rfl
theorem p0_r (c:Int) (j:Nat):0<=p0 c j/\p0 c j < 26:=⟨Int.emod_nonneg _ (by decide),Int.emod_lt_of_pos _ (by decide)⟩
theorem pls_r {c:Int}:∀i ∈ pls c,0<=i/\i < 26:=fun i hi=>by
 obtain⟨j,_,rfl⟩:=List.mem_map.mp hi
 exact p0_r c j
theorem set_r {L:List Int} {n:Nat} {v:Int} (r:∀i ∈ L,0<=i/\i < 26) (hv:0<=v/\v < 26):∀i ∈ L.set n v,0<=i/\i < 26:=fun i hi=>by
 rcases List.mem_or_eq_of_mem_set hi with z | z
 ·exact r i z
 ·rw[z];exact hv
theorem ok_names {M:Mo} {Γ:Gam} (gm:Γ.mod=M) (gc:Γ.cm=true) (g2:Γ.has "_law_mix" =true/\Γ.fn "_law_mix" =spMix) (vs:List V) (H:Hp) (Q:VK) (E:XK) (h:spNames M vs H Q E):spOf Γ N__law_names 2 b__law_names vs H Q E:=by
 obtain⟨c,n,rfl,n0,n1,h⟩:=h
 refine⟨rfl,?_⟩
 obtain rfl:=gm
 unfold b__law_names
 refine seq ?_
 walk_at "s1"
 refine seq ?_
 walk_at "s1"
 refine⟨⟨gc,g2.1⟩,?_⟩
 rw[g2.2]
 refine⟨c,7,rfl,by omega,by omega,fun z ez z0 z1=>?_⟩
 dsimp only
 rw[Sw.v_mod]
 refine⟨by decide,?_⟩
 have ea:z % 8=atF c:=by unfold atF;rw[ez]
 rw[ea]
 have a0:0<=atF c:=by rw[<-ea];exact Int.emod_nonneg _ (by decide)
 have a1:atF c < 8:=by rw[<-ea];exact Int.emod_lt_of_pos _ (by decide)
 refine seq ?_
 walk_at "s1"
 refine⟨by rw[sizeLine_eq];simp,fun q hq mq=>?_⟩
 refine seq ?_
 walk_at "s1"
 refine⟨gc,by omega,by omega,?_⟩
 refine for_inv (fun k σ H'=>∃ (v5 v6 v7:Option V) (ns:List Str),σ=[some (.int c),some (.int n),some (.str (Str.ofString "abcdefghijklmnopqrstuvwxyz")),some (.int (atF c)),some (.ref q),v5,v6,v7]/\Ext Γ.mod H H'/\H' q=some (.lst (ns.map V.str))/\ns.length=k/\Nms c ns) (fun n σ H' z=>trivial) (fun k v σ Hn D' hv pv nx ct _ _=>?_) (fun σ Hn pv=>?_)
  ⟨none,none,none,[],rfl,Ext.upd hq mq,upd_same,rfl,fun i x e=>by simp at e⟩
 ·obtain⟨v5,v6,v7,ns,rfl,x,hqn,len,nm⟩:=pv
  obtain⟨hk,rfl⟩:=range_get hv
  have k20:k < 20:=by omega
  refine seq ?_
  walk_at "s1"
  refine⟨gc,by omega,by omega,fun d hd md=>?_⟩
  have xd:∀o,Ext Γ.mod Hn (upd Hn d o):=fun o=>Ext.upd hd md
  refine comp_at (fun v=>match v with | .int i=>.int (mixF c (10 + i) % 26) | v=>v) _ [] (fun v hv acc Q' q'=>?_) (fun _=>trivial) (by rw[sizeLine_eq];simp) ?_
  ·obtain⟨i,hi,rfl⟩:=List.mem_map.mp hv
   have hi:=List.mem_range.mp hi
   have hi:i < 8:=hi
   walk_at "s1"
   refine⟨⟨gc,g2.1⟩,?_⟩
   rw[Sw.v_add,g2.2]
   refine⟨c,_,rfl,by omega,by omega,fun z ez z0 z1=>?_⟩
   dsimp only
   rw[Sw.v_mod,ez]
   exact⟨by decide,q'⟩
  have ep:([]:List V)++((List.range (8:Int).toNat).map fun i:Nat=>V.int i).map (fun v=>match v with | .int i=>.int (mixF c (10 + i) % 26) | v=>v)=(pls c).map V.int:=by
   rw[List.nil_append,List.map_map]
   unfold pls
   rw[List.map_map]
   rfl
  rw[ep]
  have x1:=x.trans (xd (.lst ((pls c).map V.int)))
  have hd1:upd Hn d (.lst ((pls c).map V.int)) d=some (.lst ((pls c).map V.int)):=upd_same
  have hq1:=(xd (.lst ((pls c).map V.int))).same _ _ hqn
  generalize upd Hn d (.lst ((pls c).map V.int))=H1 at x1 hd1 hq1
  have qd:q ≠ d:=ne_of_none hqn hd
  have d0:=x.non hd
  have tail:∀ (sz:Int) (L:List Int) (H2:Hp),Ext Γ.mod H H2->H2 q=some (.lst (ns.map V.str))->H2 d=some (.lst (L.map V.int))->(∀ i ∈ L,0<=i/\i < 26)->L.length=8->0<=sz->(∀ y:Str,y.cps.toList=(L.take sz.toNat).map lc->∃L',Nm c k y L')->
    wSs (.cons (.exp (.mth .append (.var 4) (.cons (.mth .join (.con (.str "")) (.cons (.comp "_law_place" [("_law_letters",2)] (.ex (.slc (.var 6) .nil (.cons (.var 7) .nil))) (.idx (.var 1) (.var 0)) .nil) .nil)) .nil))) .nil) Γ X0 D' [some (.int c),some (.int n),some (.str (Str.ofString "abcdefghijklmnopqrstuvwxyz")),some (.int (atF c)),some (.ref q),some (.int k),some (.ref d),some (.int sz)] H2:=by
   intro sz L H2 y1 y2 y3 y4 y5 y6 y7
   refine name_app gc y1 hq mq y2 (by omega) y3 y4 (by omega) y6 fun H' y z1 z2 z3=>?_
   obtain⟨L',nm'⟩:=y7 y z3
   exact nx _ _ ⟨_,_,_,ns++[y],rfl,z1,z2,by rw[List.length_append,len];rfl,nm.snoc (by rw[len];exact nm')⟩
  have l8:(pls c).length=8:=by unfold pls;simp
  -- the size
  have rest:∀sz:Int,atF c + 1<=sz->wSs (.cons (.iff (.cmp .Lt (.bin .Mod (.var 0) (.con (.int 3))) (.con (.int 2))) (.cons (.sto (.var 6) (.var 3) (.bin .Mod (.bin .Add (.idx (.var 6) (.var 3)) (.var 5)) (.con (.int 26))))
  .nil) (.cons (.sto (.var 6) (.con (.int 0)) (.bin .Mod (.bin .Add (.idx (.var 6) (.con (.int 0))) (.bin .FloorDiv (.var 5) (.con (.int 8)))) (.con (.int 26))))
  (.cons (.asg 7 (.bin .Add (.con (.int 1)) (.bin .Mod (.bin .Add (.var 3) (.var 5)) (.con (.int 8)))))
  .nil)))
 (.cons (.exp (.mth .append (.var 4) (.cons (.mth .join (.con (.str "")) (.cons (.comp "_law_place" [("_law_letters",2)] (.ex (.slc (.var 6) .nil (.cons (.var 7) .nil))) (.idx (.var 1) (.var 0)) .nil) .nil)) .nil)))
 .nil)) Γ X0 D' [some (.int c),some (.int n),some (.str (Str.ofString "abcdefghijklmnopqrstuvwxyz")),some (.int (atF c)),some (.ref q),some (.int k),some (.ref d),some (.int sz)] H1:=by
   intro sz hsz
   refine seq ?_
   walk_at "s1"
   rw[Sw.v_mod]
   refine⟨by decide,?_⟩
   rw[Sw.v_lt]
   refine⟨_,rfl,?_⟩
   by_cases q3:c % 3 < 2
   ·rw[if_pos (decide_eq_true q3)]
    refine seq ?_
    walk_at "s1"
    refine ix_int (rd_of hd1 nofrz_l) a0 (pls_at (by omega)) ?_
    rw[Sw.v_add,Sw.v_mod]
    refine⟨by decide,sto_l hd1 a0 (by rw[l8];omega) ?_⟩
    refine seq0 ?_
    refine tail sz _ _ (x1.upd3 d0 md) (by rw[upd_ne qd];exact hq1) upd_same (set_r pls_r ⟨Int.emod_nonneg _ (by decide),Int.emod_lt_of_pos _ (by decide)⟩) (by rw[List.length_set];exact l8) (by omega) fun y hy=>⟨_,hy,fun _=>?_,fun z=>absurd q3 z⟩
    rw[List.getElem?_take,if_pos (by omega),List.getElem?_set_self (by rw[l8];omega)]
   ·rw[if_neg (by rw[decide_eq_true_iff];exact q3)]
    refine seq ?_
    walk_at "s1"
    refine ix_int (rd_of hd1 nofrz_l) (by decide) (pls_at (c:=c) (j:=0) (by decide)) ?_
    rw[Sw.v_div]
    refine⟨by decide,by decide,?_⟩
    rw[Sw.v_add,Sw.v_mod]
    refine⟨by decide,sto_l hd1 (by decide) (by rw[l8];decide) ?_⟩
    refine seq ?_
    walk_at "s1"
    rw[Sw.v_add,Sw.v_mod]
    refine⟨by decide,?_⟩
    rw[Sw.v_add]
    refine seq0 ?_
    have m0:=Int.emod_nonneg (atF c + (k:Int)) (show(8:Int) ≠ 0 by decide)
    have m1:=Int.emod_lt_of_pos (atF c + (k:Int)) (show(0:Int) < 8 by decide)
    refine tail _ _ _ (x1.upd3 d0 md) (by rw[upd_ne qd];exact hq1) upd_same (set_r pls_r ⟨Int.emod_nonneg _ (by decide),Int.emod_lt_of_pos _ (by decide)⟩) (by rw[List.length_set];exact l8) (by omega) fun y hy=>⟨_,hy,fun z=>absurd z q3,fun _=>⟨?_,?_⟩⟩
    ·rw[List.length_take,List.length_set,l8]
     omega
    ·rw[List.getElem?_take,if_pos (by omega),show((0:Int).toNat)=0 from rfl,List.getElem?_set_self (by rw[l8];decide)]
  refine seq ?_
  walk_at "s1"
  rw[Sw.v_add,Sw.v_div]
  refine⟨by decide,by decide,?_⟩
  rw[Sw.v_sub,Sw.v_mod]
  refine⟨by omega,?_⟩
  rw[Sw.v_add]
  have e0:=Int.emod_nonneg (c / 3) (show 8 - atF c ≠ 0 by omega)
  refine seq ?_
  walk_at "s1"
  rw[Sw.v_mod]
  refine⟨by decide,?_⟩
  rw[Sw.v_eqi]
  refine⟨_,rfl,?_⟩
  by_cases q1:c % 3=1
  ·rw[if_pos (decide_eq_true q1)]
   refine seq ?_
   walk_at "s1"
   rw[Sw.v_add]
   refine⟨⟨gc,g2.1⟩,?_⟩
   rw[Sw.v_add,g2.2]
   refine⟨c,_,rfl,by omega,by omega,fun z ez z0 z1=>?_⟩
   dsimp only
   rw[Sw.v_sub,Sw.v_mod]
   refine⟨by omega,?_⟩
   rw[Sw.v_add]
   have e1:=Int.emod_nonneg z (show 8 - atF c ≠ 0 by omega)
   exact seq0 (rest _ (by omega))
  ·rw[if_neg (by rw[decide_eq_true_iff];exact q1)]
   exact seq0 (rest _ (by omega))
 ·obtain⟨v5,v6,v7,ns,rfl,x,hqn,len,nm⟩:=pv
  rw[List.length_map,List.length_range]at len
  walk_at "sw"
  exact h Hn q ns x hq mq hqn (nm.nodup (by omega)) (by omega)
end Gk
namespace Gk
open PySem PySem.Spec PyProof.Rows L2 Sw Gw
@[reducible] noncomputable def N__law_web:List Str:=["_law_script","_law_names_here","_law_start","_law_web_here","_law_name","_law_cell_here","_law_number","_law_digits","_law_k","_law_j","_law_draw","_law_one","_law_other"]
noncomputable def b__law_web:Sxs:=(.cons (.asg 3 .dnew)
 (.cons (.fr 4 (.ex (.var 1)) (.cons (.sto (.var 3) (.var 4) .dnew)
 .nil))
 (.cons (.asg 5 (.call "_law_cell" (.cons (.var 0) (.cons (.con (.int 1)) .nil))))
 (.cons (.asg 6 (.var 5))
 (.cons (.asg 7 (.cmp .Eq (.bin .Mod (.bin .FloorDiv (.call "_law_cell" (.cons (.var 0) (.cons (.con (.int 2)) .nil))) (.con (.int 1000))) (.con (.int 2))) (.con (.int 1))))
 (.cons (.fr 8 (.rng1 (.blt .len (.cons (.var 1) .nil))) (.cons (.fr 9 (.rng1 (.var 8)) (.cons (.asg 10 (.call "_law_mix" (.cons (.var 5) (.cons (.bin .Add (.bin .Add (.con (.int 60)) (.bin .Mult (.con (.int 20)) (.var 8))) (.var 9)) .nil))))
  (.cons (.iff (.or (.and (.var 7) (.cmp .Eq (.bin .Mod (.var 6) (.con (.int 2))) (.con (.int 1)))) (.and (.not (.var 7)) (.cmp .Lt (.bin .Mod (.var 10) (.con (.int 16))) (.bin .Sub (.bin .Mod (.bin .Add (.var 5) (.con (.int 5))) (.con (.int 12))) (.con (.int 2)))))) (.cons (.exp (.call "_law_join" (.cons (.var 3) (.cons (.idx (.var 1) (.var 8)) (.cons (.idx (.var 1) (.var 9)) (.cons (.bin .FloorDiv (.var 10) (.con (.int 16))) .nil))))))
  .nil) .nil)
  (.cons (.asg 6 (.bin .FloorDiv (.var 6) (.con (.int 2))))
  .nil))))
 .nil))
 (.cons (.fr 5 (.ex (.slc (.var 0) (.cons (.var 2) .nil) (.cons (.con (.int 64)) .nil))) (.cons (.asg 11 (.idx (.var 1) (.bin .Mod (.var 5) (.blt .len (.cons (.var 1) .nil)))))
 (.cons (.asg 12 (.idx (.var 1) (.bin .Mod (.bin .FloorDiv (.var 5) (.con (.int 20))) (.blt .len (.cons (.var 1) .nil)))))
 (.cons (.iff (.cmpD .In (.var 12) (.idxD (.var 3) (.var 11))) (.cons (.exp (.mth .dpop (.idxD (.var 3) (.var 11)) (.cons (.var 12) .nil)))
  (.cons (.exp (.mth .dpop (.idxD (.var 3) (.var 12)) (.cons (.var 11) .nil)))
  .nil)) (.cons (.iff (.cmp .NotEq (.var 11) (.var 12)) (.cons (.exp (.call "_law_join" (.cons (.var 3) (.cons (.var 11) (.cons (.var 12) (.cons (.call "_law_mix" (.cons (.var 5) (.cons (.con (.int 3)) .nil))) .nil))))))
  .nil) .nil)
  .nil))
 .nil))))
 (.cons (.ret (.var 3))
 .nil))))))))
noncomputable def tl_web:Sxs:=(.cons (.fr 5 (.ex (.slc (.var 0) (.cons (.var 2) .nil) (.cons (.con (.int 64)) .nil))) (.cons (.asg 11 (.idx (.var 1) (.bin .Mod (.var 5) (.blt .len (.cons (.var 1) .nil)))))
 (.cons (.asg 12 (.idx (.var 1) (.bin .Mod (.bin .FloorDiv (.var 5) (.con (.int 20))) (.blt .len (.cons (.var 1) .nil)))))
 (.cons (.iff (.cmpD .In (.var 12) (.idxD (.var 3) (.var 11))) (.cons (.exp (.mth .dpop (.idxD (.var 3) (.var 11)) (.cons (.var 12) .nil)))
  (.cons (.exp (.mth .dpop (.idxD (.var 3) (.var 12)) (.cons (.var 11) .nil)))
  .nil)) (.cons (.iff (.cmp .NotEq (.var 11) (.var 12)) (.cons (.exp (.call "_law_join" (.cons (.var 3) (.cons (.var 11) (.cons (.var 12) (.cons (.call "_law_mix" (.cons (.var 5) (.cons (.con (.int 3)) .nil))) .nil))))))
  .nil) .nil)
  .nil))
 .nil))))
 (.cons (.ret (.var 3))
 .nil))
theorem ix_nth {M:Mo} {H:Hp} {p:Addr} {ns:List Str} {i:Nat} {Q:VK} (h:rd M H p=some (.lst (ns.map V.str))) (hi:i < ns.length) (q:Q (.str ns[i]) H):idxV M (.ref p) (.int i) H Q:=by
 refine ix_at h ?_ q
 unfold atI ixN
 rw[if_pos (by omega),if_pos (by rw[List.length_map];omega),Option.bind_some]
 show(ns.map V.str)[i]?=_
 rw[List.getElem?_map,List.getElem?_eq_getElem hi]
 rfl
theorem cut_mem {xs:List V} {lo hi:Option Int} {v:V} (h:v ∈ cutV xs lo hi):v ∈ xs:=by
 unfold cutV at h
 first
 | exact List.mem_of_mem_drop (List.mem_of_mem_take h)
 | exact List.mem_of_mem_take (List.mem_of_mem_drop h)
theorem pop_both {H:Hp} {w pa pb:Addr} {E:List Ent} {a b:Str} {ra rb:Gw.Row} (W:WebAt H w E) (ok:Web3 (cont E)) (q:a ≠ b) (ma:(a,pa,ra) ∈ E) (mb:(b,pb,rb) ∈ E):
  ∃E1 E2,WebAt (upd H pa (.dK (rowK (ra.filter fun y=>decide (y.1 ≠ b))))) w E1/\(b,pb,rb) ∈ E1/\WebAt (upd (upd H pa (.dK (rowK (ra.filter fun y=>decide (y.1 ≠ b))))) pb (.dK (rowK (rb.filter fun y=>decide (y.1 ≠ a))))) w E2/\Web3 (cont E2)/\E2.map (·.1)=E.map (·.1)/\E2.map (·.2.1)=E.map (·.2.1):=by
 have aa:=adj_in W.keys ma
 have ab:=adj_in W.keys mb
 have ha:a ∈ E.map (·.1):=List.mem_map.mpr ⟨_,ma,rfl⟩
 have hb:b ∈ E.map (·.1):=List.mem_map.mpr ⟨_,mb,rfl⟩
 have n1:((ra.filter fun y=>decide (y.1 ≠ b)).map (·.1)).Nodup:=(List.filter_sublist.map _).nodup (W.rk _ ma)
 have W1:=W.set ma (row':=ra.filter fun y=>decide (y.1 ≠ b)) n1 (Nat.le_trans (List.length_filter_le _ _) (W.rfew _ ma))
 have mb1:=setRow_other (x:=a) (row':=ra.filter fun y=>decide (y.1 ≠ b)) mb (fun z=>q z.symm)
 have n2:((rb.filter fun y=>decide (y.1 ≠ a)).map (·.1)).Nodup:=(List.filter_sublist.map _).nodup (W.rk _ mb)
 have W2:=W1.set mb1 (row':=rb.filter fun y=>decide (y.1 ≠ a)) n2 (Nat.le_trans (List.length_filter_le _ _) (W.rfew _ mb))
 have ad:∀x y,y ∈ adjW (cont (setRow b (rb.filter fun y=>decide (y.1 ≠ a)) (setRow a (ra.filter fun y=>decide (y.1 ≠ b)) E))) x ↔ y ∈ adjW (cont E) x/\¬ (x=a/\y=b)/\¬ (x=b/\y=a):=fun x y=>by
  rw[setRow_adj (by rw[setRow_keys];exact hb),setRow_adj ha]
  by_cases z:x=b
  ·subst z
   rw[if_pos rfl,filt_keys,ab]
   have:¬x=a:=fun u=>q u.symm
   simp[this]
  ·rw[if_neg z]
   by_cases z2:x=a
   ·subst z2
    rw[if_pos rfl,filt_keys,aa]
    simp[z]
   ·rw[if_neg z2]
    simp[z,z2]
 refine⟨_,_,W1,mb1,W2,⟨⟨by rw[cont_keys,setRow_keys,setRow_keys];exact W.keys,fun x y hy=>?_,fun x y hy=>?_⟩,fun x hx=>?_⟩,by rw[setRow_keys,setRow_keys],by rw[setRow_adrs,setRow_adrs]⟩
 ·rw[ad]at hy ⊢
  exact⟨ok.ok.sy x y hy.1,fun z=>hy.2.2 ⟨z.2,z.1⟩,fun z=>hy.2.1 ⟨z.2,z.1⟩⟩
 ·rw[ad]at hy
  rw[cont_keys,setRow_keys,setRow_keys,<-cont_keys]
  exact ok.ok.cl x y hy.1
 ·rw[ad]at hx
  exact ok.no x hx.1
structure Tied3 (H2:Hp) (w:Addr) (E0:List Ent) (H:Hp) (E:List Ent):Prop where
 web:WebAt H w E
 ok:Web3 (cont E)
 keys:E.map (·.1)=E0.map (·.1)
 adrs:E.map (·.2.1)=E0.map (·.2.1)
 rest:∀x,x ∉ E0.map (·.2.1)->H x=H2 x
theorem Tied3.tied {H2 H:Hp} {w:Addr} {E0 E:List Ent} (t:Tied3 H2 w E0 H E):Tied H2 w E0 H E:=⟨t.web,t.ok.ok,t.keys,t.adrs,t.rest⟩
theorem Tied3.step {H2 H H':Hp} {w:Addr} {E0 E E':List Ent} (T:Tied3 H2 w E0 H E) (W':WebAt H' w E') (ok':Web3 (cont E')) (k':E'.map (·.1)=E.map (·.1)) (a':E'.map (·.2.1)=E.map (·.2.1)) (r':∀x,x ∉ E.map (·.2.1)->H' x=H x):Tied3 H2 w E0 H' E':=
 ⟨W',ok',by rw[k',T.keys],by rw[a',T.adrs],fun y hy=>by rw[r' y (by rw[T.adrs];exact hy)];exact T.rest y hy⟩
theorem not_adr {E:List Ent} {a b:Str} {pa pb x:Addr} {ra rb:Gw.Row} {H:Hp} {o o':HO} (ma:(a,pa,ra) ∈ E) (mb:(b,pb,rb) ∈ E) (hx:x ∉ E.map (·.2.1)):upd (upd H pa o) pb o' x=H x:=by
 rw[upd_ne (fun z=>hx (List.mem_map.mpr ⟨_,mb,z.symm⟩)),upd_ne (fun z=>hx (List.mem_map.mpr ⟨_,ma,z.symm⟩))]
noncomputable def spWeb (M:Mo):Sp:=fun vs H Q _=>∃ (s nm:Addr) (st:Int) (is:List Int) (ns:List Str),vs=[.ref s,.ref nm,.int st]/\rd M H s=some (.lst (is.map V.int))/\rd M H nm=some (.lst (ns.map V.str))/\ns.Nodup/\0 < ns.length/\ns.length<=20/\
 ∀H' w E,Ext M H H'->H w=none->M w=none->(∀ e ∈ E,H e.2.1=none)->WebAt H' w E->Web3 (cont E)->(∀ x,x ∈ E.map (·.1) ↔ x ∈ ns)->Q (.ref w) H'
theorem web_tail {Γ:Gam} {Ξ:XS} {D:Ends} {H Hn:Hp} {s nm w:Addr} {st:Int} {is:List Int} {ns:List Str} {E:List Ent} {v4 v5 v6 v7 v8 v9 v10:Option V} (gc:Γ.cm=true) (g2:Γ.has "_law_mix" =true/\Γ.fn "_law_mix" =spMix) (g3:Γ.has "_law_join" =true/\Γ.fn "_law_join" =spJoin)
  (x:Ext Γ.mod H Hn) (hs:rd Γ.mod H s=some (.lst (is.map V.int))) (hn:rd Γ.mod H nm=some (.lst (ns.map V.str))) (n0:0 < ns.length) (n1:ns.length<=20) (fr:∀e ∈ E,H e.2.1=none) (W:WebAt Hn w E) (ok:Web3 (cont E)) (ks:∀x,x ∈ E.map (·.1) ↔ x ∈ ns)
  (h:∀H' E',Ext Γ.mod H H'->(∀ e ∈ E',H e.2.1=none)->WebAt H' w E'->Web3 (cont E')->(∀ x,x ∈ E'.map (·.1) ↔ x ∈ ns)->D.rt (.ref w) H'):
  wSs tl_web Γ Ξ D [some (.ref s),some (.ref nm),some (.int st),some (.ref w),v4,v5,v6,v7,v8,v9,v10,none,none] Hn:=by
 unfold tl_web
 refine seq ?_
 walk_at "s1"
 refine⟨gc,?_⟩
 rw[Sw.s_ref,x.rd hs]
 dsimp only
 intro l hl ml
 have x1:Ext Γ.mod Hn (upd Hn l (.lst (cutV (is.map V.int) (some st) (some 64)))):=Ext.upd hl ml
 have x2:=x.trans x1
 have hl2:upd Hn l (.lst (cutV (is.map V.int) (some st) (some 64))) l=some (.lst (cutV (is.map V.int) (some st) (some 64))):=upd_same
 have W2:=Ext.web x1 W
 generalize upd Hn l (.lst (cutV (is.map V.int) (some st) (some 64)))=H2 at x1 x2 hl2 W2
 have hn2:=x2.rd hn
 refine iter_l (rd_of hl2 nofrz_l) ?_
 refine for_inv (fun n σ Hk=>∃v5 v11 v12 E',σ=[some (.ref s),some (.ref nm),some (.int st),some (.ref w),v4,v5,v6,v7,v8,v9,v10,v11,v12]/\Tied3 H2 w E Hk E') (fun n σ Hk z=>?_) (fun n v σ Hk D' hv pv nx ct _ _=>?_) (fun σ Hk pv=>?_)
  ⟨_,_,_,E,rfl,W2,ok,rfl,rfl,fun _ _=>rfl⟩
 ·obtain⟨_,_,_,E',_,T⟩:=z
  exact T.tied.rd W2 (rd_of hl2 nofrz_l)
 ·obtain⟨v5,v11,v12,E',rfl,T⟩:=pv
  obtain⟨i,_,rfl⟩:=List.mem_map.mp (cut_mem (List.mem_of_getElem? hv))
  have hnk:=T.tied.rd W2 hn2
  have key:∀y ∈ ns,y ∈ E'.map (·.1):=fun y hy=>by rw[T.keys];exact(ks y).mpr hy
  refine seq ?_
  walk_at "s1"
  refine⟨gc,len_at hnk ?_⟩
  rw[Sw.v_mod,List.length_map]
  refine⟨by omega,ix_str hnk (Int.emod_nonneg _ (by omega)) (Int.emod_lt_of_pos _ (by omega)) fun a ha=>?_⟩
  refine seq ?_
  walk_at "s1"
  rw[Sw.v_div]
  refine⟨by decide,by decide,gc,len_at hnk ?_⟩
  rw[Sw.v_mod,List.length_map]
  refine⟨by omega,ix_str hnk (Int.emod_nonneg _ (by omega)) (Int.emod_lt_of_pos _ (by omega)) fun b hb=>?_⟩
  obtain⟨⟨pa,ra⟩,_,ma⟩:=look_at (key a ha)
  obtain⟨⟨pb,rb⟩,_,mb⟩:=look_at (key b hb)
  have aa:=adj_in T.web.keys ma
  have ab:=adj_in T.web.keys mb
  refine seq ?_
  walk_at "s1"
  refine idx_web T.web ma ?_
  refine inD_yes (x:=b) (kvs:=rowK ra) (rd_of (T.web.row _ ma) nofrz_d) ⟨_,rfl,?_⟩
  rw[row_isSome]
  by_cases hin:b ∈ ra.map (·.1)
  ·rw[if_pos (decide_eq_true hin)]
   have q:a ≠ b:=fun z=>T.ok.no a (by rw[aa];rw[<-z]at hin;exact hin)
   have hba:a ∈ rb.map (·.1):=by rw[<-ab];exact T.ok.ok.sy a b (by rw[aa];exact hin)
   obtain⟨E1,E2,W1,mb1,W3,ok3,k3,a3⟩:=pop_both T.web T.ok q ma mb
   refine seq ?_
   walk_at "s1"
   refine idx_web T.web ma (dpop_at (x:=b) (T.web.row _ ma) hin fun _=>?_)
   refine seq ?_
   walk_at "s1"
   refine idx_web W1 mb1 (dpop_at (x:=a) (W1.row _ mb1) hba fun _=>?_)
   exact seq00 (nx _ _ ⟨_,_,_,E2,rfl,T.step W3 ok3 k3 a3 fun y hy=>not_adr ma mb hy⟩)
  ·rw[if_neg (by simpa using hin)]
   refine seq ?_
   walk_at "s1"
   rw[Sw.v_nes]
   refine⟨_,rfl,?_⟩
   by_cases q:a=b
   ·rw[if_neg (by simp[q])]
    exact seq0 (seq0 (Γ:=Γ) (Ξ:=X0) (seq0 (Γ:=Γ) (Ξ:=X0) (nx _ _ ⟨_,_,_,E',rfl,T⟩)))
   ·rw[if_pos (by simp[q])]
    refine seq ?_
    walk_at "s1"
    refine⟨⟨gc,g3.1⟩,⟨gc,g2.1⟩,?_⟩
    rw[g2.2]
    refine⟨i,3,rfl,by omega,by omega,fun z _ z0 z1=>?_⟩
    rw[g3.2]
    refine⟨w,E',a,b,z,rfl,T.web,T.ok,q,key a ha,key b hb,fun H' E2 W' ok' k' a' r'=>?_⟩
    exact seq0 (seq0 (Γ:=Γ) (Ξ:=X0) (seq0 (Γ:=Γ) (Ξ:=X0) (nx _ _ ⟨_,_,_,E2,rfl,T.step W' ok' k' a' r'⟩)))
 ·obtain⟨v5,v11,v12,E',rfl,T⟩:=pv
  walk_at "sw"
  refine h Hk E' (T.tied.ext W2 x2 fr) (fun e he=>?_) T.web T.ok fun y=>by rw[T.keys];exact ks y
  have z:e.2.1 ∈ E.map (·.2.1):=by rw[<-T.adrs];exact List.mem_map.mpr ⟨e,he,rfl⟩
  obtain⟨e0,he0,q⟩:=List.mem_map.mp z
  rw[<-q]
  exact fr e0 he0
end Gk
namespace Gk
open PySem PySem.Spec PyProof.Rows L2 Sw Gw
theorem ok_web {M:Mo} {Γ:Gam} (gm:Γ.mod=M) (gc:Γ.cm=true) (g1:Γ.has "_law_cell" =true/\Γ.fn "_law_cell" =spCell M) (g2:Γ.has "_law_mix" =true/\Γ.fn "_law_mix" =spMix) (g3:Γ.has "_law_join" =true/\Γ.fn "_law_join" =spJoin)
  (vs:List V) (H:Hp) (Q:VK) (X:XK) (h:spWeb M vs H Q X):spOf Γ N__law_web 3 b__law_web vs H Q X:=by
 obtain⟨s,nm,st,is,ns,rfl,hs,hn,nd,n0,few,h⟩:=h
 refine⟨rfl,?_⟩
 obtain rfl:=gm
 unfold b__law_web
 refine seq ?_
 walk_at "s1"
 intro w hw mw
 have nw:nm ≠ w:=ne_new hn hw mw
 refine seq ?_
 walk_at "s1"
 refine⟨gc,?_⟩
 have hn1:rd Γ.mod (upd H w (.dK [])) nm=some (.lst (ns.map V.str)):=by rw[rd_same (upd_ne nw)];exact hn
 refine iter_l hn1 ?_
 refine for_inv (fun n σ Hn=>∃v4 E,σ=[some (.ref s),some (.ref nm),some (.int st),some (.ref w),v4,none,none,none,none,none,none,none,none]/\WebAt Hn w E/\(∀ e ∈ E,e.2.2=[])/\(∀ e ∈ E,H e.2.1=none)/\Ext Γ.mod H Hn/\∀x,x ∈ E.map (·.1) ↔ x ∈ ns.take n) (fun n σ Hn z=>?_) ?_ ?_
  ⟨none,[],rfl,⟨upd_same,fun e he=>by (cases he),by simp,by simp,fun e he=>by (cases he),by simp,fun e he=>by (cases he)⟩,fun e he=>by (cases he),fun e he=>by (cases he),Ext.upd hw mw,fun x=>by simp⟩
 ·obtain⟨_,_,_,_,_,_,x,_⟩:=z
  exact x.rd hn
 ·intro n v σ Hn D' hv pv nx ct _ _
  obtain⟨v4,E,rfl,W,em,fr,x,ks⟩:=pv
  rw[List.getElem?_map]at hv
  obtain⟨c,hc,rfl⟩:=Option.map_eq_some_iff.mp hv
  have tk:=take_snoc hc
  refine seq ?_
  walk_at "s1"
  intro l hl ml
  have wl:w ≠ l:=ne_of_none W.top hl
  obtain⟨E',e1,W',em',ad',ks'⟩:=web_put W hl em (fun y hy=>List.mem_of_mem_take ((ks y).mp hy)) (List.mem_of_getElem? hc) few
  refine sto_at (x:=c) (kvs:=topK E) (by rw[upd_ne wl];exact W.top) (by rw[topK_len,sizeLine_eq];have:=W.few;omega) ?_
  rw[e1]
  refine seq0 (nx _ _ ⟨_,E',rfl,W',em',fun e he=>?_,(x.upd3 (x.non hl) ml).upd3 hw mw,fun y=>?_⟩)
  ·rcases ad' e he with z | ⟨e0,he0,z⟩
   ·rw[z];exact x.non hl
   ·rw[<-z];exact fr e0 he0
  ·rw[ks',ks,tk,List.mem_append]
   simp
 ·intro σ H2 pv
  obtain⟨v4,E0,rfl,W0,em,fr,x2,ks⟩:=pv
  have tl:ns.take (ns.map V.str).length=ns:=by rw[List.length_map];exact List.take_length
  rw[tl]at ks
  have hn2:=x2.rd hn
  have hs2:=x2.rd hs
  refine seq ?_
  walk_at "s1"
  refine⟨⟨gc,g1.1⟩,?_⟩
  rw[g1.2]
  refine⟨s,1,is,rfl,by decide,hs2,fun ch=>?_⟩
  refine seq ?_
  walk_at "s1"
  refine seq ?_
  walk_at "s1"
  refine⟨⟨gc,g1.1⟩,?_⟩
  rw[g1.2]
  refine⟨s,2,is,rfl,by decide,hs2,fun c2=>?_⟩
  dsimp only
  rw[Sw.v_div]
  refine⟨by decide,by decide,?_⟩
  rw[Sw.v_mod]
  refine⟨by decide,?_⟩
  rw[Sw.v_eqi]
  generalize decide (c2 / 1000 % 2=1)=dg
  refine seq ?_
  walk_at "s1"
  refine⟨gc,gc,len_at hn2 ?_⟩
  rw[List.length_map]
  refine⟨by omega,by omega,?_⟩
  have adj0:∀a,adjW (cont E0) a=[]:=fun a=>by
   rw[<-adj_cont]
   unfold adj
   cases q:E0.lookup a with
   | none=>rfl
   | some b=>
    dsimp only
    rw[show b.2=[]from em _ (lookup_some q)]
    rfl
  have T0:Tied3 H2 w E0 H2 E0:=⟨W0,⟨⟨by rw[cont_keys];exact W0.keys,fun a b z=>by (rw[adj0]at z;cases z),fun a b z=>by (rw[adj0]at z;cases z)⟩,fun a z=>by (rw[adj0]at z;cases z)⟩,rfl,rfl,fun _ _=>rfl⟩
  refine for_inv (fun n σ Hn=>∃ (nu:Int) (v8 v9 v10:Option V) (E:List Ent),σ=[some (.ref s),some (.ref nm),some (.int st),some (.ref w),v4,some (.int ch),some (.int nu),some (.bl dg),v8,v9,v10,none,none]/\Tied3 H2 w E0 Hn E) (fun n σ Hn z=>trivial) ?_ ?_ ⟨ch,_,_,_,E0,rfl,T0⟩
  ·intro i v σ Hn D' hv pv nx ct _ _
   obtain⟨nu,v8,v9,v10,E,rfl,T⟩:=pv
   obtain⟨i1,rfl⟩:=range_get hv
   have i1:i < ns.length:=i1
   refine seq ?_
   walk_at "s1"
   refine⟨gc,by omega,by omega,?_⟩
   refine for_inv (fun n σ Hn=>∃ (nu:Int) (v9 v10:Option V) (E:List Ent),σ=[some (.ref s),some (.ref nm),some (.int st),some (.ref w),v4,some (.int ch),some (.int nu),some (.bl dg),some (.int i),v9,v10,none,none]/\Tied3 H2 w E0 Hn E) (fun n σ Hn z=>trivial) ?_ ?_ ⟨nu,_,_,E,rfl,T⟩
   ·intro j v σ Hn D2 hv2 pv2 nx2 ct2 _ _
    obtain⟨nu,v9,v10,E,rfl,T⟩:=pv2
    obtain⟨j1,rfl⟩:=range_get hv2
    have j1:j < i:=by omega
    refine seq ?_
    walk_at "s1"
    refine⟨⟨gc,g2.1⟩,?_⟩
    rw[Sw.v_mul]
    refine⟨bnd_l (by decide) (by decide),?_⟩
    rw[Sw.v_add,Sw.v_add,g2.2]
    refine⟨ch,_,rfl,by omega,by omega,fun dr _ dr0 dr1=>?_⟩
    have hnk:=T.tied.rd W0 hn2
    have last:∀H' E',Tied3 H2 w E0 H' E'->wSs (.cons (.asg 6 (.bin .FloorDiv (.var 6) (.con (.int 2)))) .nil) Γ X0 D2 [some (.ref s),some (.ref nm),some (.int st),some (.ref w),v4,some (.int ch),some (.int nu),some (.bl dg),some (.int i),some (.int j),some (.int dr),none,none] H':=by
     intro H' E' T'
     refine seq ?_
     walk_at "s1"
     rw[Sw.v_div]
     exact⟨by decide,by decide,seq0 (nx2 _ _ ⟨_,_,_,E',rfl,T'⟩)⟩
    refine seq ?_
    have go:∀k:Bool,if k=true then wSs (.cons (.exp (.call "_law_join" (.cons (.var 3) (.cons (.idx (.var 1) (.var 8)) (.cons (.idx (.var 1) (.var 9)) (.cons (.bin .FloorDiv (.var 10) (.con (.int 16))) .nil)))))) .nil) Γ X0 {D2 with nx:=wSs (.cons (.asg 6 (.bin .FloorDiv (.var 6) (.con (.int 2)))) .nil) Γ X0 D2} [some (.ref s),some (.ref nm),some (.int st),some (.ref w),v4,some (.int ch),some (.int nu),some (.bl dg),some (.int i),some (.int j),some (.int dr),none,none] Hn
      else wSs .nil Γ X0 {D2 with nx:=wSs (.cons (.asg 6 (.bin .FloorDiv (.var 6) (.con (.int 2)))) .nil) Γ X0 D2} [some (.ref s),some (.ref nm),some (.int st),some (.ref w),v4,some (.int ch),some (.int nu),some (.bl dg),some (.int i),some (.int j),some (.int dr),none,none] Hn:=by
     intro k
     cases k with
     | false=>
      rw[if_neg (by decide)]
      exact seq0 (last Hn E T)
     | true=>
      rw[if_pos rfl]
      refine seq ?_
      walk_at "s1"
      refine⟨⟨gc,g3.1⟩,ix_nth hnk i1 (ix_nth hnk (by omega) ?_)⟩
      rw[Sw.v_div]
      refine⟨by decide,by decide,?_⟩
      rw[g3.2]
      have key:∀y ∈ ns,y ∈ E.map (·.1):=fun y hy=>by rw[T.keys];exact(ks y).mpr hy
      refine⟨w,E,_,_,_,rfl,T.web,T.ok,fun e=>?_,key _ (List.getElem_mem _),key _ (List.getElem_mem _),fun H' E2 W' ok' k' a' r'=>?_⟩
      ·exact List.pairwise_iff_getElem.mp nd j i (by omega) i1 j1 e.symm
      ·exact seq0 (last H' E2 (T.step W' ok' k' a' r'))
    walk_at "s1"
    rw[Sw.t_bl]
    cases dg with
    | true=>
     rw[if_pos rfl,Sw.v_mod]
     refine⟨by decide,?_⟩
     rw[Sw.v_eqi]
     refine⟨_,rfl,?_⟩
     by_cases od:nu % 2=1
     ·rw[if_pos (decide_eq_true od)]
      exact go true
     ·rw[if_neg (by rw[decide_eq_true_iff];exact od),Sw.t_bl]
      rw[if_neg (by decide)]
      exact go false
    | false=>
     rw[if_neg (by decide),if_neg (by decide),Sw.t_bl,if_pos (by decide),Sw.v_mod]
     refine⟨by decide,?_⟩
     rw[Sw.v_add,Sw.v_mod]
     refine⟨by decide,?_⟩
     rw[Sw.v_sub,Sw.v_lt]
     exact⟨_,rfl,go _⟩
   ·intro σ Hn pv2
    obtain⟨nu,v9,v10,E,rfl,T⟩:=pv2
    exact seq0 (Γ:=Γ) (Ξ:=X0) (nx _ _ ⟨_,_,_,_,E,rfl,T⟩)
  ·intro σ Hn pv
   obtain⟨nu,v8,v9,v10,E,rfl,T⟩:=pv
   refine web_tail gc g2 g3 (T.tied.ext W0 x2 fr) hs hn n0 few (fun e he=>?_) T.web T.ok (fun x=>by rw[T.keys];exact ks x) fun H' E' x' fr' W' ok' ks'=>h H' w E' x' hw mw fr' W' ok' ks'
   have z:e.2.1 ∈ E0.map (·.2.1):=by rw[<-T.adrs];exact List.mem_map.mpr ⟨e,he,rfl⟩
   obtain⟨e0,he0,q⟩:=List.mem_map.mp z
   rw[<-q]
   exact fr e0 he0
end Gk
namespace Gk
open PySem PySem.Spec PyProof.Rows L2 Sw Gw
@[reducible] noncomputable def N_law:List Str:=["_law_script","_law_names_here","_law_web_here","_law_plan_here","_law_k","_law_word","_law_couples","_law_due_here","_law_handed","_law_part_here","_law_found","_law_kept"]
noncomputable def b_law:Sxs:=(.cons (.asg 1 (.call "_law_names" (.cons (.call "_law_cell" (.cons (.var 0) (.cons (.con (.int 0)) .nil))) (.cons (.bin .Add (.con (.int 1)) (.bin .Mod (.call "_law_cell" (.cons (.var 0) (.cons (.con (.int 2)) .nil))) (.con (.int 20)))) .nil))))
 (.cons (.asg 2 (.call "_law_web" (.cons (.var 0) (.cons (.var 1) (.cons (.con (.int 4)) .nil)))))
 (.cons (.asg 3 (.call "_law_plan" (.cons (.var 2) (.cons (.call "_law_cell" (.cons (.var 0) (.cons (.con (.int 3)) .nil))) (.cons (.lst .nil) (.cons (.bin .FloorDiv (.call "_law_cell" (.cons (.var 0) (.cons (.con (.int 2)) .nil))) (.con (.int 4000))) .nil))))))
 (.cons (.fr 4 (.rng1 (.con (.int 3))) (.cons (.asgT [5,6] (.call "_law_part" (.cons (.var 2) (.cons (.var 3) (.cons (.call "_law_mix" (.cons (.call "_law_cell" (.cons (.var 0) (.cons (.con (.int 3)) .nil))) (.cons (.bin .Add (.con (.int 800)) (.var 4)) .nil))) (.cons (.var 1) .nil))))))
 (.cons (.asg 7 (.call "_law_due" (.cons (.var 3) (.cons (.tup (.cons (.var 5) (.cons (.var 6) .nil))) .nil))))
 (.cons (.iff (.not (.call "_law_is_plan" (.cons (.var 2) (.cons (.var 7) .nil)))) (.cons (.ret (.con (.bl false)))
  .nil) .nil)
 (.cons (.asg 8 (.blt .list (.cons (.var 3) .nil)))
 (.cons (.asg 9 (.tup (.cons (.var 5) (.cons (.blt .list (.cons (.var 6) .nil)) .nil))))
 (.cons (.asg 10 (.call "turned" (.cons (.var 8) (.cons (.var 9) .nil))))
 (.cons (.iff (.or (.not (.isin (.var 10) .list)) (.or (.cmp .NotEq (.var 10) (.var 7)) (.or (.cmp .NotEq (.var 8) (.var 3)) (.cmp .NotEq (.idx (.var 9) (.con (.int 1))) (.var 6))))) (.cons (.ret (.con (.bl false)))
  .nil) .nil)
 (.cons (.asg 11 (.call "turned" (.cons (.var 8) (.cons (.tup (.cons (.con (.str "none")) (.cons (.lst .nil) .nil))) .nil))))
 (.cons (.iff (.or (.cmp .NotEq (.call "turned" (.cons (.var 10) (.cons (.var 9) .nil))) (.var 3)) (.or (.cmp .NotEq (.call "turned" (.cons (.var 10) (.cons (.tup (.cons (.con (.str "none")) (.cons (.lst .nil) .nil))) .nil))) (.var 7)) (.cmp .NotEq (.var 11) (.var 3)))) (.cons (.ret (.con (.bl false)))
  .nil) .nil)
 (.cons (.exp (.mth .clear (.var 10) .nil))
 (.cons (.exp (.mth .clear (.var 11) .nil))
 (.cons (.iff (.or (.cmp .NotEq (.call "turned" (.cons (.var 8) (.cons (.var 9) .nil))) (.var 7)) (.cmp .NotEq (.var 8) (.var 3))) (.cons (.ret (.con (.bl false)))
  .nil) .nil)
 .nil)))))))))))))
 (.cons (.ret (.con (.bl true)))
 .nil)))))
noncomputable def tl_turn:Sxs:=(.cons (.asgT [5,6] (.call "_law_part" (.cons (.var 2) (.cons (.var 3) (.cons (.call "_law_mix" (.cons (.call "_law_cell" (.cons (.var 0) (.cons (.con (.int 3)) .nil))) (.cons (.bin .Add (.con (.int 800)) (.var 4)) .nil))) (.cons (.var 1) .nil))))))
 (.cons (.asg 7 (.call "_law_due" (.cons (.var 3) (.cons (.tup (.cons (.var 5) (.cons (.var 6) .nil))) .nil))))
 (.cons (.iff (.not (.call "_law_is_plan" (.cons (.var 2) (.cons (.var 7) .nil)))) (.cons (.ret (.con (.bl false)))
 .nil) .nil)
 (.cons (.asg 8 (.blt .list (.cons (.var 3) .nil)))
 (.cons (.asg 9 (.tup (.cons (.var 5) (.cons (.blt .list (.cons (.var 6) .nil)) .nil))))
 (.cons (.asg 10 (.call "turned" (.cons (.var 8) (.cons (.var 9) .nil))))
 (.cons (.iff (.or (.not (.isin (.var 10) .list)) (.or (.cmp .NotEq (.var 10) (.var 7)) (.or (.cmp .NotEq (.var 8) (.var 3)) (.cmp .NotEq (.idx (.var 9) (.con (.int 1))) (.var 6))))) (.cons (.ret (.con (.bl false)))
 .nil) .nil)
 (.cons (.asg 11 (.call "turned" (.cons (.var 8) (.cons (.tup (.cons (.con (.str "none")) (.cons (.lst .nil) .nil))) .nil))))
 (.cons (.iff (.or (.cmp .NotEq (.call "turned" (.cons (.var 10) (.cons (.var 9) .nil))) (.var 3)) (.or (.cmp .NotEq (.call "turned" (.cons (.var 10) (.cons (.tup (.cons (.con (.str "none")) (.cons (.lst .nil) .nil))) .nil))) (.var 7)) (.cmp .NotEq (.var 11) (.var 3)))) (.cons (.ret (.con (.bl false)))
 .nil) .nil)
 (.cons (.exp (.mth .clear (.var 10) .nil))
 (.cons (.exp (.mth .clear (.var 11) .nil))
 (.cons (.iff (.or (.cmp .NotEq (.call "turned" (.cons (.var 8) (.cons (.var 9) .nil))) (.var 7)) (.cmp .NotEq (.var 8) (.var 3))) (.cons (.ret (.con (.bl false)))
 .nil) .nil)
 .nil))))))))))))
noncomputable def tl_ask:Sxs:=(.cons (.asg 8 (.blt .list (.cons (.var 3) .nil)))
 (.cons (.asg 9 (.tup (.cons (.var 5) (.cons (.blt .list (.cons (.var 6) .nil)) .nil))))
 (.cons (.asg 10 (.call "turned" (.cons (.var 8) (.cons (.var 9) .nil))))
 (.cons (.iff (.or (.not (.isin (.var 10) .list)) (.or (.cmp .NotEq (.var 10) (.var 7)) (.or (.cmp .NotEq (.var 8) (.var 3)) (.cmp .NotEq (.idx (.var 9) (.con (.int 1))) (.var 6))))) (.cons (.ret (.con (.bl false)))
 .nil) .nil)
 (.cons (.asg 11 (.call "turned" (.cons (.var 8) (.cons (.tup (.cons (.con (.str "none")) (.cons (.lst .nil) .nil))) .nil))))
 (.cons (.iff (.or (.cmp .NotEq (.call "turned" (.cons (.var 10) (.cons (.var 9) .nil))) (.var 3)) (.or (.cmp .NotEq (.call "turned" (.cons (.var 10) (.cons (.tup (.cons (.con (.str "none")) (.cons (.lst .nil) .nil))) .nil))) (.var 7)) (.cmp .NotEq (.var 11) (.var 3)))) (.cons (.ret (.con (.bl false)))
 .nil) .nil)
 (.cons (.exp (.mth .clear (.var 10) .nil))
 (.cons (.exp (.mth .clear (.var 11) .nil))
 (.cons (.iff (.or (.cmp .NotEq (.call "turned" (.cons (.var 8) (.cons (.var 9) .nil))) (.var 7)) (.cmp .NotEq (.var 8) (.var 3))) (.cons (.ret (.con (.bl false)))
 .nil) .nil)
 .nil)))))))))
theorem ne_plans {M:Mo} {H:Hp} {p q:Addr} {P R:List Pr} {Q:VK} (a:PlanAt H p P) (b:PlanAt H q R) (e:txs P=txs R) (h:Q (.bl false) H):cmpV M .NotEq (.ref p) (.ref q) H Q:=by
 show if scal (.ref p) (.ref q)=true then Q (.bl (!decide (V.ref p=V.ref q))) H else(match data M H 16 (.ref p),data M H 16 (.ref q)with | some d,some e=>Q (.bl (!PyData.eqv d e)) H | _,_=>False)
 rw[s_rr,if_neg (by decide),data_plan a 14,data_plan b 14]
 dsimp only
 rw[eqv_pairs,decide_eq_true e]
 exact h
theorem ne_strs {M:Mo} {H:Hp} {p q:Addr} {ns:List Str} {Q:VK} (a:rd M H p=some (.lst (ns.map V.str))) (b:rd M H q=some (.lst (ns.map V.str))) (h:Q (.bl false) H):cmpV M .NotEq (.ref p) (.ref q) H Q:=by
 show if scal (.ref p) (.ref q)=true then Q (.bl (!decide (V.ref p=V.ref q))) H else(match data M H 16 (.ref p),data M H 16 (.ref q)with | some d,some e=>Q (.bl (!PyData.eqv d e)) H | _,_=>False)
 rw[s_rr,if_neg (by decide),data_strs a 15,data_strs b 15]
 dsimp only
 have e:PyData.eqv (.list (ns.map PyData.str)) (.list (ns.map PyData.str))=true:=by
  simp only[PyData.eqv]
  refine eqvAll_self fun d hd=>?_
  obtain⟨x,_,rfl⟩:=List.mem_map.mp hd
  simp[PyData.eqv]
 rw[e]
 exact h
theorem plan_few {E:List Ent} {L:List (Str × Str)} (ok:WebOk (cont E)) (few:E.length<=20) (p:IsPlan E L):L.length<=20:=by
 have key:∀a b,b ∈ Gw.adj E a->b ∈ E.map (·.1):=fun a b h=>by
  have:=ok.cl a b (by rw[<-adj_cont];exact h)
  rw[show(cont E).map (·.1)=E.map (·.1)from by unfold cont;rw[List.map_map];rfl]at this
  exact this
 have sub:∀v ∈ ends L,v ∈ E.map (·.1):=fun v hv=>by
  obtain⟨x,hx,q⟩:=ends_on.mp hv
  have ad:=(p.sw x hx).2
  rcases q with q | q
  ·rw[q]
   have:x.1 ∈ Gw.adj E x.2:=by rw[adj_cont]at ad ⊢;exact ok.sy _ _ ad
   exact key _ _ this
  ·rw[q];exact key _ _ ad
 have:=p.nd.length_le_of_subset sub
 rw[ends_len,List.length_map]at this
 omega
theorem alng_none:alng (Str.ofString "none") []=[]:=by
 unfold alng
 rw[if_neg (by decide)]
 rfl
theorem xor_nil (L:List (Str × Str)) (x:Str × Str):Xor2 L [] x ↔ x ∈ L:=by
 unfold Xor2
 simp
theorem clear_at {M:Mo} {H:Hp} {p:Addr} {xs:List V} {Q:VK} (h:H p=some (.lst xs)) (q:Q .non (upd H p (.lst []))):mthV M .clear (.ref p) [] H Q:=by
 show(match H p with
  | some (.lst _)=>Q .non (upd H p (.lst []))
  | _=>False)
 rw[h]
 exact q
structure Turns (M:Mo) (H:Hp) (nm w p:Addr) (E:List Ent) (P:List Pr) (ns:List Str) (is:List Int) (s:Addr):Prop where
 W:WebAt H w E
 ok:WebOk (cont E)
 hp:PlanAt H p P
 pl:IsPlan E (txs P)
 hn:rd M H nm=some (.lst (ns.map V.str))
 n0:0 < ns.length
 nk:∀x ∈ ns,x ∈ E.map (·.1)
 hs:rd M H s=some (.lst (is.map V.int))
theorem Turns.ext {M:Mo} {H H':Hp} {nm w p s:Addr} {E:List Ent} {P:List Pr} {ns:List Str} {is:List Int} (a:Turns M H nm w p E P ns is s) (x:Ext M H H'):Turns M H' nm w p E P ns is s:=
 ⟨Ext.web x a.W,a.ok,Ext.plan x a.hp,a.pl,x.rd a.hn,a.n0,a.nk,x.rd a.hs⟩
theorem ask_ok {Γ:Gam} {D:Ends} {H Hk:Hp} {s nm w p du c:Addr} {wd:Str} {k:Int} {E:List Ent} {P T:List Pr} {ns R:List Str} {is:List Int} {v8 v9 v10 v11:Option V} (gc:Γ.cm=true) (g1:Γ.has "turned" =true/\Γ.fn "turned" =spTurn14 Γ.mod)
  (t:Turns Γ.mod Hk nm w p E P ns is s) (x0:Ext Γ.mod H Hk) (hd:PlanAt Hk du T) (ris:Rising (txs T)) (mem:∀x,x ∈ txs T ↔ Xor2 (txs P) (alng wd R) x) (hc:Hk c=some (.lst (R.map V.str))) (rn:wd=Str.ofString "ring" ->R ≠ []) (rl:R.length<=20) (al:Alt E (txs P) (alng wd R))
  (fin:∀H' v8 v9 v10 v11,Ext Γ.mod H H'->D.nx [some (.ref s),some (.ref nm),some (.ref w),some (.ref p),some (.int k),some (.str wd),some (.ref c),some (.ref du),v8,v9,v10,v11] H'):
  wSs tl_ask Γ X0 D [some (.ref s),some (.ref nm),some (.ref w),some (.ref p),some (.int k),some (.str wd),some (.ref c),some (.ref du),v8,v9,v10,v11] Hk:=by
 have few:=plan_few t.ok t.W.few t.pl
 have lP:P.length<=20:=by unfold txs at few;rw[List.length_map]at few;exact few
 have pT:=al.plan t.pl ris mem
 have fewT:=plan_few t.ok t.W.few pT
 have lT:T.length<=20:=by unfold txs at fewT;rw[List.length_map]at fewT;exact fewT
 unfold tl_ask
 refine seq ?_
 walk_at "s1"
 refine⟨gc,list_l t.hp.at_ fun ha hha mha=>?_⟩
 have x1:Ext Γ.mod Hk (upd Hk ha (.lst (refs P))):=Ext.upd hha mha
 have p1:PlanAt (upd Hk ha (.lst (refs P))) ha P:=⟨upd_same,PrsAt.new t.hp.prs hha⟩
 generalize upd Hk ha (.lst (refs P))=H1 at x1 p1
 refine seq ?_
 walk_at "s1"
 refine⟨gc,list_l (x1.same _ _ hc) fun c2 hc2 mc2=>?_⟩
 have x2:Ext Γ.mod H1 (upd H1 c2 (.lst (R.map V.str))):=Ext.upd hc2 mc2
 have hcc:upd H1 c2 (.lst (R.map V.str)) c2=some (.lst (R.map V.str)):=upd_same
 generalize upd H1 c2 (.lst (R.map V.str))=H2 at x2 hcc
 refine⟨by rw[sizeLine_eq];simp,fun pt hpt mpt=>?_⟩
 have x3:Ext Γ.mod H2 (upd H2 pt (.tup [.str wd,.ref c2])):=Ext.upd hpt mpt
 have htt:upd H2 pt (.tup [.str wd,.ref c2]) pt=some (.tup [.str wd,.ref c2]):=upd_same
 generalize upd H2 pt (.tup [.str wd,.ref c2])=H3 at x3 htt
 have x13:=(x1.trans x2).trans x3
 have t3:=t.ext x13
 have p3:=Ext.plan (x2.trans x3) p1
 have d3:=Ext.plan x13 hd
 have c3:=rd_of (M:=Γ.mod) (x13.same _ _ hc) nofrz_l
 have part:PartAt Γ.mod H3 pt wd c2 R:=⟨rd_of htt nofrz_t,rd_of (x3.same _ _ hcc) nofrz_l⟩
 clear p1 hcc htt x1 x2 x3
 refine seq ?_
 walk_at "s1"
 refine⟨⟨gc,g1.1⟩,?_⟩
 rw[g1.2]
 refine⟨ha,pt,P,wd,c2,R,rfl,p3,t.pl.nod,lP,part,rn,rl,al.nd,fun H4 fo F x4 fo0 mfo pf rf mf _=>?_⟩
 have eF:txs F=txs T:=rising_same rf ris fun x=>(mf x).trans (mem x).symm
 have t4:=t3.ext x4
 refine seq ?_
 walk_at "s1"
 refine⟨known_l pf.at_,?_⟩
 rw[isTy_l pf.at_,if_neg (by decide)]
 refine ne_plans pf (Ext.plan x4 d3) eF ⟨_,rfl,?_⟩
 rw[if_neg (by decide)]
 refine ne_plans (Ext.plan x4 p3) t4.hp rfl ⟨_,rfl,?_⟩
 rw[if_neg (by decide),Sw.i_ref,(part.ext x4).tup]
 refine ne_strs (part.ext x4).lst (x4.rd c3) ⟨_,rfl,?_⟩
 rw[if_neg (by decide)]
 refine seq0 ?_
 refine seq ?_
 walk_at "s1"
 refine⟨⟨gc,g1.1⟩,by rw[sizeLine_eq];simp,fun e1 he1 me1=>⟨by rw[sizeLine_eq];simp,fun n1 hn1 mn1=>?_⟩⟩
 have y1:Ext Γ.mod H4 (upd H4 e1 (.lst [])):=Ext.upd he1 me1
 have hee:upd H4 e1 (.lst []) e1=some (.lst (([]:List Str).map V.str)):=upd_same
 generalize upd H4 e1 (.lst [])=H5 at y1 hee hn1
 have y2:Ext Γ.mod H5 (upd H5 n1 (.tup [.str (Str.ofString "none"),.ref e1])):=Ext.upd hn1 mn1
 have hnn:upd H5 n1 (.tup [.str (Str.ofString "none"),.ref e1]) n1=some (.tup [.str (Str.ofString "none"),.ref e1]):=upd_same
 generalize upd H5 n1 (.tup [.str (Str.ofString "none"),.ref e1])=H6 at y2 hnn
 have none6:PartAt Γ.mod H6 n1 (Str.ofString "none") e1 []:=⟨rd_of hnn nofrz_t,rd_of (y2.same _ _ hee) nofrz_l⟩
 have y46:=y1.trans y2
 have z36:=x4.trans y46
 rw[g1.2]
 refine⟨ha,n1,P,_,e1,[],rfl,Ext.plan z36 p3,t.pl.nod,lP,none6,fun z=>absurd z (by decide),by simp,by rw[alng_none];exact List.nodup_nil,fun H7 ke K x7 ke0 mke pk rk mk _=>?_⟩
 have eK:txs K=txs P:=rising_same rk t.pl.ris fun x=>by rw[mk x,alng_none];exact xor_nil _ x
 have z37:=z36.trans x7
 have f7:=Ext.plan (y46.trans x7) pf
 have ndF:(txs F).Nodup:=by rw[eF];exact pT.nod
 have lF:F.length<=20:=by
  have q:=congrArg List.length eF
  unfold txs at q
  rw[List.length_map,List.length_map]at q
  omega
 refine seq ?_
 walk_at "s1"
 refine⟨⟨gc,g1.1⟩,?_⟩
 rw[g1.2]
 refine⟨fo,pt,F,wd,c2,R,rfl,f7,ndF,lF,part.ext z37,rn,rl,al.nd,fun H8 a8 A8 x8 _ _ pa8 ra8 ma8 _=>?_⟩
 have z38:=z37.trans x8
 have t8:=t3.ext z38
 refine ne_plans pa8 t8.hp (rising_same ra8 t.pl.ris fun x=>by rw[ma8 x,eF];exact xor_back mem x) ⟨_,rfl,?_⟩
 rw[if_neg (by decide)]
 refine⟨⟨gc,g1.1⟩,by rw[sizeLine_eq];simp,fun e2 he2 me2=>⟨by rw[sizeLine_eq];simp,fun n2 hn2 mn2=>?_⟩⟩
 have u1:Ext Γ.mod H8 (upd H8 e2 (.lst [])):=Ext.upd he2 me2
 have hee2:upd H8 e2 (.lst []) e2=some (.lst (([]:List Str).map V.str)):=upd_same
 generalize upd H8 e2 (.lst [])=H9 at u1 hee2 hn2
 have u2:Ext Γ.mod H9 (upd H9 n2 (.tup [.str (Str.ofString "none"),.ref e2])):=Ext.upd hn2 mn2
 have hnn2:upd H9 n2 (.tup [.str (Str.ofString "none"),.ref e2]) n2=some (.tup [.str (Str.ofString "none"),.ref e2]):=upd_same
 generalize upd H9 n2 (.tup [.str (Str.ofString "none"),.ref e2])=H10 at u2 hnn2
 have none10:PartAt Γ.mod H10 n2 (Str.ofString "none") e2 []:=⟨rd_of hnn2 nofrz_t,rd_of (u2.same _ _ hee2) nofrz_l⟩
 have u810:=u1.trans u2
 try rw[g1.2]
 refine⟨fo,n2,F,_,e2,[],rfl,Ext.plan (x8.trans u810) f7,ndF,lF,none10,fun z=>absurd z (by decide),by simp,by rw[alng_none];exact List.nodup_nil,fun H11 b11 B11 x11 _ _ pb11 rb11 mb11 _=>?_⟩
 have z311:=(z38.trans u810).trans x11
 refine ne_plans pb11 (Ext.plan z311 d3) (rising_same rb11 ris fun x=>by rw[mb11 x,alng_none,eF];exact xor_nil _ x) ⟨_,rfl,?_⟩
 rw[if_neg (by decide)]
 have x711:=(x8.trans u810).trans x11
 have k11:=Ext.plan x711 pk
 have f11:=Ext.plan x711 f7
 refine ne_plans k11 (t3.ext z311).hp eK ⟨_,rfl,?_⟩
 rw[if_neg (by decide)]
 refine seq0 ?_
 have ke3:H3 ke=none:=z36.non ke0
 have fk:fo ≠ ke:=fun z=>by
  subst z
  rw[(y46.same _ _ pf.at_)]at ke0
  cases ke0
 refine seq ?_
 walk_at "s1"
 refine⟨mty_l f11.at_,clear_at f11.at_ ?_⟩
 refine seq ?_
 walk_at "s1"
 have k12:upd H11 fo (.lst []) ke=some (.lst (refs K)):=by rw[upd_ne (Ne.symm fk)];exact k11.at_
 refine⟨mty_l k12,clear_at k12 ?_⟩
 have z313:Ext Γ.mod H3 (upd (upd H11 fo (.lst [])) ke (.lst [])):=(z311.upd3 fo0 mfo).upd3 ke3 mke
 generalize upd (upd H11 fo (.lst [])) ke (.lst [])=H13 at z313
 refine seq ?_
 walk_at "s1"
 refine⟨⟨gc,g1.1⟩,?_⟩
 rw[g1.2]
 refine⟨ha,pt,P,wd,c2,R,rfl,Ext.plan z313 p3,t.pl.nod,lP,part.ext z313,rn,rl,al.nd,fun H14 l14 L14 x14 _ _ pl14 rl14 ml14 _=>?_⟩
 have z314:=z313.trans x14
 refine ne_plans pl14 (Ext.plan z314 d3) (rising_same rl14 ris fun x=>(ml14 x).trans (mem x).symm) ⟨_,rfl,?_⟩
 rw[if_neg (by decide)]
 refine ne_plans (Ext.plan z314 p3) (t3.ext z314).hp rfl ⟨_,rfl,?_⟩
 rw[if_neg (by decide)]
 exact seq0 (seq0 (Γ:=Γ) (Ξ:=X0) (fin _ _ _ _ _ (x0.trans (x13.trans z314))))
end Gk
namespace Gk
open PySem PySem.Spec PyProof.Rows L2 Sw Gw
structure KL14 (M:Mo) (Γ:Gam):Prop where
 gm:Γ.mod=M
 gc:Γ.cm=true
 ce:Γ.has "_law_cell" =true/\Γ.fn "_law_cell" =spCell M
 mi:Γ.has "_law_mix" =true/\Γ.fn "_law_mix" =spMix
 na:Γ.has "_law_names" =true/\Γ.fn "_law_names" =spNames M
 we:Γ.has "_law_web" =true/\Γ.fn "_law_web" =spWeb M
 pl:Γ.has "_law_plan" =true/\Γ.fn "_law_plan" =spPlan M
 ip:Γ.has "_law_is_plan" =true/\Γ.fn "_law_is_plan" =spLip M
 pa:Γ.has "_law_part" =true/\Γ.fn "_law_part" =spPart M
 du:Γ.has "_law_due" =true/\Γ.fn "_law_due" =spDue M
 tu:Γ.has "turned" =true/\Γ.fn "turned" =spTurn14 M
theorem turn_ok {Γ:Gam} {D:Ends} {Hk:Hp} {s nm w p:Addr} {k:Int} {E:List Ent} {P:List Pr} {ns:List Str} {is:List Int} {v5 v6 v7 v8 v9 v10 v11:Option V} (K:KL14 Γ.mod Γ) (k0:0<=k) (k1:k<=10) (t:Turns Γ.mod Hk nm w p E P ns is s)
  (fin:∀H' v5 v6 v7 v8 v9 v10 v11,Ext Γ.mod Hk H'->D.nx [some (.ref s),some (.ref nm),some (.ref w),some (.ref p),some (.int k),v5,v6,v7,v8,v9,v10,v11] H'):
  wSs tl_turn Γ X0 D [some (.ref s),some (.ref nm),some (.ref w),some (.ref p),some (.int k),v5,v6,v7,v8,v9,v10,v11] Hk:=by
 obtain⟨_,gc,ce,mi,na,we,pl,ip,pa,du,tu⟩:=K
 have few:=plan_few t.ok t.W.few t.pl
 have lP:P.length<=20:=by unfold txs at few;rw[List.length_map]at few;exact few
 unfold tl_turn
 refine seq ?_
 walk_at "s1"
 refine⟨gc,⟨gc,pa.1⟩,⟨gc,mi.1⟩,⟨gc,ce.1⟩,?_⟩
 rw[ce.2]
 refine⟨s,3,is,rfl,by decide,t.hs,fun c=>?_⟩
 dsimp only
 rw[Sw.v_add]
 try rw[mi.2]
 refine⟨c,_,rfl,by omega,by omega,fun z _ _ _=>?_⟩
 dsimp only
 try rw[pa.2]
 refine⟨w,p,z,nm,E,P,ns,rfl,t.W,t.ok,t.hp,t.pl,lP,t.hn,t.n0,t.nk,fun H1 tt wd cc R x1 htt hcc rn rl al=>?_⟩
 try dsimp only
 rw[rd_of htt nofrz_t]
 refine⟨rfl,?_⟩
 show wSs _ Γ _ _ [some (.ref s),some (.ref nm),some (.ref w),some (.ref p),some (.int k),some (.str wd),some (.ref cc),v7,v8,v9,v10,v11] H1
 have t1:=t.ext x1
 refine seq ?_
 walk_at "s1"
 refine⟨⟨gc,du.1⟩,by rw[sizeLine_eq];simp,fun pt hpt mpt=>?_⟩
 have x2:Ext Γ.mod H1 (upd H1 pt (.tup [.str wd,.ref cc])):=Ext.upd hpt mpt
 have hpp:upd H1 pt (.tup [.str wd,.ref cc]) pt=some (.tup [.str wd,.ref cc]):=upd_same
 generalize upd H1 pt (.tup [.str wd,.ref cc])=H2 at x2 hpp
 have t2:=t1.ext x2
 have hc2:=x2.same _ _ hcc
 rw[du.2]
 refine⟨p,pt,P,wd,cc,R,rfl,t2.hp,t.pl.nod,lP,⟨rd_of hpp nofrz_t,rd_of hc2 nofrz_l⟩,rn,rl,al.nd,fun H3 dd T x3 _ _ hd ris mem lT=>?_⟩
 have t3:=t2.ext x3
 have pT:=al.plan t.pl ris mem
 refine seq ?_
 walk_at "s1"
 refine⟨⟨gc,ip.1⟩,?_⟩
 rw[ip.2]
 refine⟨w,dd,E,T,rfl,t3.W,hd,by omega,fun H4 b x4 hb=>?_⟩
 have eb:b=true:=hb.mpr pT
 subst eb
 try dsimp only
 rw[Sw.t_bl,if_neg (by decide)]
 refine seq0 ?_
 exact ask_ok gc tu (t3.ext x4) (((x1.trans x2).trans x3).trans x4) (Ext.plan x4 hd) ris mem (x4.same _ _ (x3.same _ _ hc2)) rn rl al fun H' v8 v9 v10 v11 x=>fin H' _ _ _ v8 v9 v10 v11 x
noncomputable def spLaw14 (M:Mo):Sp:=fun vs H Q _=>∃ (a:Addr) (ns:List Int),vs=[.ref a]/\ns.length<=63/\rd M H a=some (.lst (ns.map V.int))/\OffM M H/\∀H',Q (.bl true) H'
theorem ok_law14 {M:Mo} {Γ:Gam} (K:KL14 M Γ) (vs:List V) (H:Hp) (Q:VK) (X:XK) (h:spLaw14 M vs H Q X):spOf Γ N_law 1 b_law vs H Q X:=by
 obtain⟨s,is,rfl,hl,hs,off,h⟩:=h
 refine⟨rfl,?_⟩
 have K':=K
 obtain⟨rfl,gc,ce,mi,na,we,pl,ip,pa,du,tu⟩:=K
 unfold b_law
 refine seq ?_
 walk_at "s1"
 refine⟨⟨gc,na.1⟩,⟨gc,ce.1⟩,?_⟩
 try rw[ce.2]
 refine⟨s,0,is,rfl,by decide,hs,fun c0=>?_⟩
 dsimp only
 refine⟨⟨gc,ce.1⟩,?_⟩
 try rw[ce.2]
 refine⟨s,2,is,rfl,by decide,hs,fun c2=>?_⟩
 dsimp only
 rw[Sw.v_mod]
 refine⟨by decide,?_⟩
 rw[Sw.v_add,na.2]
 have m0:=Int.emod_nonneg c2 (show(20:Int) ≠ 0 by decide)
 have m1:=Int.emod_lt_of_pos c2 (show(0:Int) < 20 by decide)
 refine⟨c0,_,rfl,by omega,by omega,fun H1 nm ns x1 nm0 mnm hn nd ln=>?_⟩
 refine seq ?_
 walk_at "s1"
 refine⟨⟨gc,we.1⟩,?_⟩
 rw[we.2]
 refine⟨s,nm,4,is,ns,rfl,x1.rd hs,rd_of hn nofrz_l,nd,by omega,by omega,fun H2 w E x2 w0 mw fr W ok ks=>?_⟩
 have x02:=x1.trans x2
 refine seq ?_
 walk_at "s1"
 refine⟨⟨gc,pl.1⟩,⟨gc,ce.1⟩,?_⟩
 try rw[ce.2]
 refine⟨s,3,is,rfl,by decide,x02.rd hs,fun c3=>?_⟩
 dsimp only
 refine⟨by rw[sizeLine_eq];simp,fun ah ah0 mah=>⟨⟨gc,ce.1⟩,?_⟩⟩
 have xa:Ext Γ.mod H2 (upd H2 ah (.lst [])):=Ext.upd ah0 mah
 have hah:upd H2 ah (.lst []) ah=some (.lst []):=upd_same
 generalize upd H2 ah (.lst [])=Ha at xa hah
 try rw[ce.2]
 refine⟨s,2,is,rfl,by decide,(x02.trans xa).rd hs,fun c2b=>?_⟩
 dsimp only
 rw[Sw.v_div]
 refine⟨by decide,by decide,?_⟩
 try rw[pl.2]
 refine⟨w,c3,ah,_,E,rfl,Ext.web xa W,ok.ok,mw,hah,fun H3 p1 P1 x3 p10 mp1 a1 r1 d1 f1 g1=>?_⟩
 have x23:=xa.trans x3
 have t:Turns Γ.mod H3 nm w p1 E P1 ns is s:=⟨Ext.web x23 W,ok.ok,a1,⟨fun x hx=>by
  obtain⟨y,hy,rfl⟩:=List.mem_map.mp hx
  exact g1 y hy,d1,r1⟩,x23.rd (x2.rd (rd_of hn nofrz_l)),by omega,fun x hx=>(ks x).mpr hx,(x02.trans x23).rd hs⟩
 refine seq ?_
 walk_at "s1"
 refine⟨gc,by decide,by decide,?_⟩
 refine for_inv (fun n σ Hk=>∃v4 v5 v6 v7 v8 v9 v10 v11,σ=[some (.ref s),some (.ref nm),some (.ref w),some (.ref p1),v4,v5,v6,v7,v8,v9,v10,v11]/\Ext Γ.mod H3 Hk) (fun _ _ _ _=>trivial) (fun n v σ Hk D' hv pv nx _ _ _=>?_) (fun σ Hk pv=>?_) ⟨_,_,_,_,_,_,_,_,rfl,Ext.refl⟩
 ·obtain⟨v4,v5,v6,v7,v8,v9,v10,v11,rfl,x⟩:=pv
  obtain⟨lk,rfl⟩:=range_get hv
  have lk:n < 3:=lk
  exact turn_ok K' (by omega) (by omega) (t.ext x) fun H' v5 v6 v7 v8 v9 v10 v11 x'=>nx _ _ ⟨_,_,_,_,_,_,_,_,rfl,x.trans x'⟩
 ·obtain⟨v4,v5,v6,v7,v8,v9,v10,v11,rfl,x⟩:=pv
  walk_at "sw"
  exact h Hk
end Gk
namespace K14
open PySem PySem.Spec PyProof.Rows L2 Sw
open PySem.W (Frag keepIn ktsIn mroIn kitOne nsIn findIn typeIn takerIn hasDictIn codeIn fnOf mg_of mg_none_of)
noncomputable def top (i:Nat):Stmt:=PySem.Challenge.pw_swapward_k14_a_part_turned.main.body.getD i (.Pass ⟨0,0,0,0⟩)
@[reducible] noncomputable def st_swap_of:Stmt:=top 2
@[reducible] noncomputable def P_swap_of:List Str:=["one","other"]
theorem m_swap_of:mSs (defScope st_swap_of) Gk.N_swap_of Gk.b_swap_of (defBody st_swap_of):=⟨by kernel_rfl,by kernel_rfl⟩
theorem sc_swap_of:FnScope Gk.N_swap_of P_swap_of (defScope st_swap_of):=⟨rfl,rfl,rfl,by decide +kernel,rfl,by decide +kernel,by decide +kernel⟩
@[reducible] noncomputable def st_swaps_along:Stmt:=top 3
@[reducible] noncomputable def P_swaps_along:List Str:=["part"]
theorem m_swaps_along:mSs (defScope st_swaps_along) Gk.N_swaps_along Gk.b_swaps_along (defBody st_swaps_along):=⟨by kernel_rfl,by kernel_rfl⟩
theorem sc_swaps_along:FnScope Gk.N_swaps_along P_swaps_along (defScope st_swaps_along):=⟨rfl,rfl,rfl,by decide +kernel,rfl,by decide +kernel,by decide +kernel⟩
@[reducible] noncomputable def st_turned:Stmt:=top 4
@[reducible] noncomputable def P_turned:List Str:=["plan","part"]
theorem m_turned:mSs (defScope st_turned) Gk.N_turned Gk.b_turned (defBody st_turned):=⟨by kernel_rfl,by kernel_rfl⟩
theorem sc_turned:FnScope Gk.N_turned P_turned (defScope st_turned):=⟨rfl,rfl,rfl,by decide +kernel,rfl,by decide +kernel,by decide +kernel⟩
@[reducible] noncomputable def st__law_cell:Stmt:=top 6
@[reducible] noncomputable def P__law_cell:List Str:=["_law_script","_law_k"]
theorem m__law_cell:mSs (defScope st__law_cell) Gk.N__law_cell Gk.b__law_cell (defBody st__law_cell):=⟨by kernel_rfl,by kernel_rfl⟩
theorem sc__law_cell:FnScope Gk.N__law_cell P__law_cell (defScope st__law_cell):=⟨rfl,rfl,rfl,by decide +kernel,rfl,by decide +kernel,by decide +kernel⟩
@[reducible] noncomputable def st__law_mix:Stmt:=top 7
@[reducible] noncomputable def P__law_mix:List Str:=["_law_cell_here","_law_k"]
theorem m__law_mix:mSs (defScope st__law_mix) Gk.N__law_mix Gk.b__law_mix (defBody st__law_mix):=⟨by kernel_rfl,by kernel_rfl⟩
theorem sc__law_mix:FnScope Gk.N__law_mix P__law_mix (defScope st__law_mix):=⟨rfl,rfl,rfl,by decide +kernel,rfl,by decide +kernel,by decide +kernel⟩
@[reducible] noncomputable def st__law_names:Stmt:=top 8
@[reducible] noncomputable def P__law_names:List Str:=["_law_cell_here","_law_many"]
theorem m__law_names:mSs (defScope st__law_names) Gk.N__law_names Gk.b__law_names (defBody st__law_names):=⟨by kernel_rfl,by kernel_rfl⟩
theorem sc__law_names:FnScope Gk.N__law_names P__law_names (defScope st__law_names):=⟨rfl,rfl,rfl,by decide +kernel,rfl,by decide +kernel,by decide +kernel⟩
@[reducible] noncomputable def st__law_join:Stmt:=top 9
@[reducible] noncomputable def P__law_join:List Str:=["_law_web_here","_law_one","_law_other","_law_draw"]
theorem m__law_join:mSs (defScope st__law_join) Gk.N__law_join Gk.b__law_join (defBody st__law_join):=⟨by kernel_rfl,by kernel_rfl⟩
theorem sc__law_join:FnScope Gk.N__law_join P__law_join (defScope st__law_join):=⟨rfl,rfl,rfl,by decide +kernel,rfl,by decide +kernel,by decide +kernel⟩
@[reducible] noncomputable def st__law_web:Stmt:=top 10
@[reducible] noncomputable def P__law_web:List Str:=["_law_script","_law_names_here","_law_start"]
theorem m__law_web:mSs (defScope st__law_web) Gk.N__law_web Gk.b__law_web (defBody st__law_web):=⟨by kernel_rfl,by kernel_rfl⟩
theorem sc__law_web:FnScope Gk.N__law_web P__law_web (defScope st__law_web):=⟨rfl,rfl,rfl,by decide +kernel,rfl,by decide +kernel,by decide +kernel⟩
@[reducible] noncomputable def st__law_pairs:Stmt:=top 11
@[reducible] noncomputable def P__law_pairs:List Str:=["_law_web_here"]
theorem m__law_pairs:mSs (defScope st__law_pairs) Gk.N__law_pairs Gk.b__law_pairs (defBody st__law_pairs):=⟨by kernel_rfl,by kernel_rfl⟩
theorem sc__law_pairs:FnScope Gk.N__law_pairs P__law_pairs (defScope st__law_pairs):=⟨rfl,rfl,rfl,by decide +kernel,rfl,by decide +kernel,by decide +kernel⟩
@[reducible] noncomputable def st__law_plan:Stmt:=top 12
@[reducible] noncomputable def P__law_plan:List Str:=["_law_web_here","_law_cell_here","_law_ahead","_law_digits"]
theorem m__law_plan:mSs (defScope st__law_plan) Gk.N__law_plan Gk.b__law_plan (defBody st__law_plan):=⟨by kernel_rfl,by kernel_rfl⟩
theorem sc__law_plan:FnScope Gk.N__law_plan P__law_plan (defScope st__law_plan):=⟨rfl,rfl,rfl,by decide +kernel,rfl,by decide +kernel,by decide +kernel⟩
@[reducible] noncomputable def st__law_is_plan:Stmt:=top 13
@[reducible] noncomputable def P__law_is_plan:List Str:=["_law_web_here","_law_plan_here"]
theorem m__law_is_plan:mSs (defScope st__law_is_plan) Gk.N__law_is_plan Gk.b__law_is_plan (defBody st__law_is_plan):=⟨by kernel_rfl,by kernel_rfl⟩
theorem sc__law_is_plan:FnScope Gk.N__law_is_plan P__law_is_plan (defScope st__law_is_plan):=⟨rfl,rfl,rfl,by decide +kernel,rfl,by decide +kernel,by decide +kernel⟩
@[reducible] noncomputable def st__law_row:Stmt:=top 14
@[reducible] noncomputable def P__law_row:List Str:=["_law_web_here","_law_plan_here","_law_couple","_law_cell_here"]
theorem m__law_row:mSs (defScope st__law_row) Gk.N__law_row Gk.b__law_row (defBody st__law_row):=⟨by kernel_rfl,by kernel_rfl⟩
theorem sc__law_row:FnScope Gk.N__law_row P__law_row (defScope st__law_row):=⟨rfl,rfl,rfl,by decide +kernel,rfl,by decide +kernel,by decide +kernel⟩
@[reducible] noncomputable def st__law_part:Stmt:=top 15
@[reducible] noncomputable def P__law_part:List Str:=["_law_web_here","_law_plan_here","_law_cell_here","_law_names_here"]
theorem m__law_part:mSs (defScope st__law_part) Gk.N__law_part Gk.b__law_part (defBody st__law_part):=⟨by kernel_rfl,by kernel_rfl⟩
theorem sc__law_part:FnScope Gk.N__law_part P__law_part (defScope st__law_part):=⟨rfl,rfl,rfl,by decide +kernel,rfl,by decide +kernel,by decide +kernel⟩
@[reducible] noncomputable def st__law_due:Stmt:=top 16
@[reducible] noncomputable def P__law_due:List Str:=["_law_plan_here","_law_part_here"]
theorem m__law_due:mSs (defScope st__law_due) Gk.N__law_due Gk.b__law_due (defBody st__law_due):=⟨by kernel_rfl,by kernel_rfl⟩
theorem sc__law_due:FnScope Gk.N__law_due P__law_due (defScope st__law_due):=⟨rfl,rfl,rfl,by decide +kernel,rfl,by decide +kernel,by decide +kernel⟩
@[reducible] noncomputable def st_law:Stmt:=top 17
@[reducible] noncomputable def P_law:List Str:=["_law_script"]
theorem m_law:mSs (defScope st_law) Gk.N_law Gk.b_law (defBody st_law):=⟨by kernel_rfl,by kernel_rfl⟩
theorem sc_law:FnScope Gk.N_law P_law (defScope st_law):=⟨rfl,rfl,rfl,by decide +kernel,rfl,by decide +kernel,by decide +kernel⟩
end K14
namespace K14
open PySem PySem.Spec PyProof.Rows L2 Sw
open PySem.W (Frag keepIn ktsIn mroIn kitOne nsIn findIn typeIn takerIn hasDictIn codeIn fnOf mg_of mg_none_of)
structure DefK (K:Frag) (x:Str) (st:Stmt) (f:Addr):Prop where
 at_:nsIn K mainGlobals x=some (some (.ref f))
 fn:∃fd,Fun K x x st f fd
theorem defK {K:Frag} {x:Str} {st:Stmt} {f:Addr} {oc:Value} {od an:Option Addr} {osl:Array (Option Value)} {kV doc pm cdv ct:Value} (a:nsIn K mainGlobals x=some (some (.ref f)))
  (l:K.lookup f=some ⟨oc,od,.func (fnOf x x (defArgs st) (defBody st) (defScope st) .none kV doc pm an cdv ct),osl⟩) (c:codeIn K cdv x=true) (k:keepIn K (.ref f)=true):DefK K x st f:=⟨a,_,fun_mk l c k⟩
noncomputable def G0 (K:Frag):Gam where
 con:=fun x=>if x= "RING" then some (.str "ring")else none
 mod:=modK K
 has:=fun _=>false
 fn:=fun _ _ _ _ _=>False
 exc:=fun _=>none
 sub:=fun _ _=>none
 cat:=fun _=>false
 fo:=fun _ _=>false
section
variable {P:Program} {w:World} {K:Frag} {mg:Str->Option Value} {base h:Heap}
theorem con_ok (C:∃t,nsIn K mainGlobals "RING" =some (some (.str "ring" t))) (X:K.In h) (G:h.Ns mainGlobals mg) {x:Str} {v:V} (e:(if x= "RING" then some (V.str "ring")else none)=some v):∃u,mg x=some u/\RelV v u:=by
 by_cases q:x= "RING"
 ·rw[if_pos q]at e
  cases e
  obtain⟨t,ht⟩:=C
  rw[q]
  exact⟨_,mg_of X G ht,t,rfl⟩
 ·rw[if_neg q]at e
  cases e
theorem g0_ok (X:K.In h) (G:h.Ns mainGlobals mg) (T:∀x ∈ bltNames,nsIn K mainGlobals x=some none) (C:∃t,nsIn K mainGlobals "RING" =some (some (.str "ring" t))):GOk P w K mg base (G0 K) 1:=
 ⟨modK_ok K,fun x v h=>con_ok C X G h,fun _ h=>absurd (show false=true from h) Bool.false_ne_true,fun _ _ _ h=>(nomatch h),fun x hx=>mg_none_of X G (T x hx),fun _ _ _ h=>(nomatch h),fun _ h=>absurd (show false=true from h) Bool.false_ne_true,fun _ _ h=>absurd (show false=true from h) Bool.false_ne_true,VcOk.none,fun _ _ h=>(nomatch h)⟩
theorem step {Γ:Gam} {k:Nat} {x:Str} {st:Stmt} {f:Addr} {N ps:List Str} {body:Sxs} {sp:Sp} (D:DefK K x st f) (S:FnScope N ps (defScope st)) (g:GOk P w K mg base Γ k) (hm:mSs (defScope st) N body (defBody st)) (hhd:Γ.hd=false)
  (h:∀vs H Q E,sp vs H Q E->spOf Γ N ps.length body vs H Q E):∃fd,Fun K x x st f fd/\FnOk P w K mg base (CXW P w) (k + 2) f fd ps sp:=by
 obtain⟨fd,F⟩:=D.fn
 exact⟨fd,F,(fn_spOf F S g hm hhd).imp h⟩
local macro_rules | `(tactic| walk_at "look")=>`(tactic| exact⟨by kernel_rfl,by kernel_rfl⟩)
noncomputable def spLaw (K:Frag):Sp:=fun vs H Q _=>∃ (a:Addr) (ns:List Int),vs=[.ref a]/\ns.length<=63/\SqL K H a (ns.map V.int)/\∀H',Q (.bl true) H'
noncomputable def Lk0 (K:Frag):List (Str × Sp):=[]
noncomputable def Lk1 (K:Frag):List (Str × Sp):=("swap_of",Gk.spSwapOf (modK K))::Lk0 K
noncomputable def Lk2 (K:Frag):List (Str × Sp):=("swaps_along",Gk.spAlong (modK K))::Lk1 K
noncomputable def Lk3 (K:Frag):List (Str × Sp):=("turned",Gk.spTurn14 (modK K))::Lk2 K
noncomputable def Lk4 (K:Frag):List (Str × Sp):=("_law_cell",Gw.spCell (modK K))::Lk3 K
noncomputable def Lk5 (K:Frag):List (Str × Sp):=("_law_mix",Gk.spMix)::Lk4 K
noncomputable def Lk6 (K:Frag):List (Str × Sp):=("_law_names",Gk.spNames (modK K))::Lk5 K
noncomputable def Lk7 (K:Frag):List (Str × Sp):=("_law_join",Gk.spJoin)::Lk6 K
noncomputable def Lk8 (K:Frag):List (Str × Sp):=("_law_web",Gk.spWeb (modK K))::Lk7 K
noncomputable def Lk9 (K:Frag):List (Str × Sp):=("_law_pairs",Gk.spPairs (modK K))::Lk8 K
noncomputable def Lk10 (K:Frag):List (Str × Sp):=("_law_plan",Gk.spPlan (modK K))::Lk9 K
noncomputable def Lk11 (K:Frag):List (Str × Sp):=("_law_is_plan",Gk.spLip (modK K))::Lk10 K
noncomputable def Lk12 (K:Frag):List (Str × Sp):=("_law_row",Gk.spRow (modK K))::Lk11 K
noncomputable def Lk13 (K:Frag):List (Str × Sp):=("_law_part",Gk.spPart (modK K))::Lk12 K
noncomputable def Lk14 (K:Frag):List (Str × Sp):=("_law_due",Gk.spDue (modK K))::Lk13 K
theorem law_ok {f1 f2 f3 f4 f5 f6 f7 f8 f9 f10 f11 f12 f13 f14 f15:Addr} (X:K.In h) (G:h.Ns mainGlobals mg) (T:∀x ∈ bltNames,nsIn K mainGlobals x=some none) (C:∃t,nsIn K mainGlobals "RING" =some (some (.str "ring" t)))
  (d1:DefK K "swap_of" st_swap_of f1) (d2:DefK K "swaps_along" st_swaps_along f2) (d3:DefK K "turned" st_turned f3) (d4:DefK K "_law_cell" st__law_cell f4) (d5:DefK K "_law_mix" st__law_mix f5) (d6:DefK K "_law_names" st__law_names f6) (d7:DefK K "_law_join" st__law_join f7) (d8:DefK K "_law_web" st__law_web f8) (d9:DefK K "_law_pairs" st__law_pairs f9) (d10:DefK K "_law_plan" st__law_plan f10) (d11:DefK K "_law_is_plan" st__law_is_plan f11) (d12:DefK K "_law_row" st__law_row f12) (d13:DefK K "_law_part" st__law_part f13) (d14:DefK K "_law_due" st__law_due f14) (d15:DefK K "law" st_law f15):
  ∃fd,Fun K "law" "law" st_law f15 fd/\FnOk P w K mg base (CXW P w) 31 f15 fd ["_law_script"] (spLaw K):=by
 have g0:GOk P w K mg base ((G0 K).wit (Lk0 K)) 1:=(g0_ok X G T C).wit0
 obtain⟨e1,F1,o1⟩:=step (sp:=Gk.spSwapOf (modK K)) d1 sc_swap_of g0 m_swap_of rfl (Gk.ok_swapof rfl rfl)
 have b1:Binds K e1 P_swap_of []:=binds_2 F1 fun _ _=>fun _ _ _ _ _ _=>rfl
 have g1:GOk P w K mg base ((G0 K).wit (Lk1 K)) 3:=GOk.wit1 (g0.mono (k:=3) (by decide)) (mg_of X G d1.at_) F1.kp o1 b1 (by decide)
 obtain⟨e2,F2,o2⟩:=step (sp:=Gk.spAlong (modK K)) d2 sc_swaps_along g1 m_swaps_along rfl (Gk.ok_along rfl rfl (by kernel_rfl) (by walk_at "look"))
 have b2:Binds K e2 P_swaps_along []:=binds_1 F2 fun _=>fun _ _ _ _ _ _=>rfl
 have g2:GOk P w K mg base ((G0 K).wit (Lk2 K)) 5:=GOk.wit1 (g1.mono (k:=5) (by decide)) (mg_of X G d2.at_) F2.kp o2 b2 (by decide)
 obtain⟨e3,F3,o3⟩:=step (sp:=Gk.spTurn14 (modK K)) d3 sc_turned g2 m_turned rfl (Gk.ok_turn14 rfl rfl (by walk_at "look"))
 have b3:Binds K e3 P_turned []:=binds_2 F3 fun _ _=>fun _ _ _ _ _ _=>rfl
 have g3:GOk P w K mg base ((G0 K).wit (Lk3 K)) 7:=GOk.wit1 (g2.mono (k:=7) (by decide)) (mg_of X G d3.at_) F3.kp o3 b3 (by decide)
 obtain⟨e4,F4,o4⟩:=step (sp:=Gw.spCell (modK K)) d4 sc__law_cell g3 m__law_cell rfl (Gk.ok_cell rfl rfl)
 have b4:Binds K e4 P__law_cell []:=binds_2 F4 fun _ _=>fun _ _ _ _ _ _=>rfl
 have g4:GOk P w K mg base ((G0 K).wit (Lk4 K)) 9:=GOk.wit1 (g3.mono (k:=9) (by decide)) (mg_of X G d4.at_) F4.kp o4 b4 (by decide)
 obtain⟨e5,F5,o5⟩:=step (sp:=Gk.spMix) d5 sc__law_mix g4 m__law_mix rfl (Gk.ok_mix)
 have b5:Binds K e5 P__law_mix []:=binds_2 F5 fun _ _=>fun _ _ _ _ _ _=>rfl
 have g5:GOk P w K mg base ((G0 K).wit (Lk5 K)) 11:=GOk.wit1 (g4.mono (k:=11) (by decide)) (mg_of X G d5.at_) F5.kp o5 b5 (by decide)
 obtain⟨e6,F6,o6⟩:=step (sp:=Gk.spNames (modK K)) d6 sc__law_names g5 m__law_names rfl (Gk.ok_names rfl rfl (by walk_at "look"))
 have b6:Binds K e6 P__law_names []:=binds_2 F6 fun _ _=>fun _ _ _ _ _ _=>rfl
 have g6:GOk P w K mg base ((G0 K).wit (Lk6 K)) 13:=GOk.wit1 (g5.mono (k:=13) (by decide)) (mg_of X G d6.at_) F6.kp o6 b6 (by decide)
 obtain⟨e7,F7,o7⟩:=step (sp:=Gk.spJoin) d7 sc__law_join g6 m__law_join rfl (Gk.ok_join rfl)
 have b7:Binds K e7 P__law_join []:=binds_4 F7 fun _ _ _ _=>fun _ _ _ _ _ _=>rfl
 have g7:GOk P w K mg base ((G0 K).wit (Lk7 K)) 15:=GOk.wit1 (g6.mono (k:=15) (by decide)) (mg_of X G d7.at_) F7.kp o7 b7 (by decide)
 obtain⟨e8,F8,o8⟩:=step (sp:=Gk.spWeb (modK K)) d8 sc__law_web g7 m__law_web rfl (Gk.ok_web rfl rfl (by walk_at "look") (by walk_at "look") (by walk_at "look"))
 have b8:Binds K e8 P__law_web []:=binds_3 F8 fun _ _ _=>fun _ _ _ _ _ _=>rfl
 have g8:GOk P w K mg base ((G0 K).wit (Lk8 K)) 17:=GOk.wit1 (g7.mono (k:=17) (by decide)) (mg_of X G d8.at_) F8.kp o8 b8 (by decide)
 obtain⟨e9,F9,o9⟩:=step (sp:=Gk.spPairs (modK K)) d9 sc__law_pairs g8 m__law_pairs rfl (Gk.ok_pairs rfl rfl)
 have b9:Binds K e9 P__law_pairs []:=binds_1 F9 fun _=>fun _ _ _ _ _ _=>rfl
 have g9:GOk P w K mg base ((G0 K).wit (Lk9 K)) 19:=GOk.wit1 (g8.mono (k:=19) (by decide)) (mg_of X G d9.at_) F9.kp o9 b9 (by decide)
 obtain⟨e10,F10,o10⟩:=step (sp:=Gk.spPlan (modK K)) d10 sc__law_plan g9 m__law_plan rfl (Gk.ok_plan rfl rfl (by walk_at "look") (by walk_at "look"))
 have b10:Binds K e10 P__law_plan []:=binds_4 F10 fun _ _ _ _=>fun _ _ _ _ _ _=>rfl
 have g10:GOk P w K mg base ((G0 K).wit (Lk10 K)) 21:=GOk.wit1 (g9.mono (k:=21) (by decide)) (mg_of X G d10.at_) F10.kp o10 b10 (by decide)
 obtain⟨e11,F11,o11⟩:=step (sp:=Gk.spLip (modK K)) d11 sc__law_is_plan g10 m__law_is_plan rfl (Gk.ok_lip rfl rfl)
 have b11:Binds K e11 P__law_is_plan []:=binds_2 F11 fun _ _=>fun _ _ _ _ _ _=>rfl
 have g11:GOk P w K mg base ((G0 K).wit (Lk11 K)) 23:=GOk.wit1 (g10.mono (k:=23) (by decide)) (mg_of X G d11.at_) F11.kp o11 b11 (by decide)
 obtain⟨e12,F12,o12⟩:=step (sp:=Gk.spRow (modK K)) d12 sc__law_row g11 m__law_row rfl (Gk.ok_row rfl rfl (by walk_at "look"))
 have b12:Binds K e12 P__law_row []:=binds_4 F12 fun _ _ _ _=>fun _ _ _ _ _ _=>rfl
 have g12:GOk P w K mg base ((G0 K).wit (Lk12 K)) 25:=GOk.wit1 (g11.mono (k:=25) (by decide)) (mg_of X G d12.at_) F12.kp o12 b12 (by decide)
 obtain⟨e13,F13,o13⟩:=step (sp:=Gk.spPart (modK K)) d13 sc__law_part g12 m__law_part rfl (Gk.ok_part rfl rfl (by walk_at "look"))
 have b13:Binds K e13 P__law_part []:=binds_4 F13 fun _ _ _ _=>fun _ _ _ _ _ _=>rfl
 have g13:GOk P w K mg base ((G0 K).wit (Lk13 K)) 27:=GOk.wit1 (g12.mono (k:=27) (by decide)) (mg_of X G d13.at_) F13.kp o13 b13 (by decide)
 obtain⟨e14,F14,o14⟩:=step (sp:=Gk.spDue (modK K)) d14 sc__law_due g13 m__law_due rfl (Gk.ok_due rfl rfl)
 have b14:Binds K e14 P__law_due []:=binds_2 F14 fun _ _=>fun _ _ _ _ _ _=>rfl
 have g14:GOk P w K mg base ((G0 K).wit (Lk14 K)) 29:=GOk.wit1 (g13.mono (k:=29) (by decide)) (mg_of X G d14.at_) F14.kp o14 b14 (by decide)
 obtain⟨e15,F15,o15⟩:=step (sp:=Gk.spLaw14 (modK K)) d15 sc_law g14 m_law rfl (Gk.ok_law14 ⟨rfl,rfl,by walk_at "look",by walk_at "look",by walk_at "look",by walk_at "look",by walk_at "look",by walk_at "look",by walk_at "look",by walk_at "look",by walk_at "look"⟩)
 refine⟨e15,F15,FnOk.off o15 (fun vs H Q E h=>?_) fun vs H Q E off h=>?_⟩
 ·obtain⟨a,ns,rfl,_⟩:=h;rfl
 ·obtain⟨a,ns,rfl,hl,hs,q⟩:=h
  exact⟨a,ns,rfl,hl,script_rd off hs,fun a ha=>(let ⟨o,e⟩:=(modK_ok K).look ha;off a o e),q⟩
end
end K14
namespace K14
open PySem PySem.Spec PyProof.Rows L2 Sw
open PySem.W (Frag keepIn ktsIn mroIn kitOne nsIn findIn typeIn takerIn hasDictIn codeIn fnOf mg_of mg_none_of)
set_option maxHeartbeats 4000000 in
theorem all_mk {l:PySem.W.OpenLaw} {w:World} {K:Frag} {h:Heap} {mg:Str->Option Value} {fa:Addr} (X:K.In h) (G:h.Ns mainGlobals mg) (hfa:mg "law" =some (.ref fa))
  {f1 f2 f3 f4 f5 f6 f7 f8 f9 f10 f11 f12 f13 f14 f15:Addr}
  {od1 an1 od2 an2 od3 an3 od4 an4 od5 an5 od6 an6 od7 an7 od8 an8 od9 an9 od10 an10 od11 an11 od12 an12 od13 an13 od14 an14 od15 an15:Option Addr}
  {sl1 sl2 sl3 sl4 sl5 sl6 sl7 sl8 sl9 sl10 sl11 sl12 sl13 sl14 sl15:Array (Option Value)}
  {oc1 kV1 dc1 pm1 cd1 ct1 oc2 kV2 dc2 pm2 cd2 ct2 oc3 kV3 dc3 pm3 cd3 ct3 oc4 kV4 dc4 pm4 cd4 ct4 oc5 kV5 dc5 pm5 cd5 ct5 oc6 kV6 dc6 pm6 cd6 ct6 oc7 kV7 dc7 pm7 cd7 ct7 oc8 kV8 dc8 pm8 cd8 ct8 oc9 kV9 dc9 pm9 cd9 ct9 oc10 kV10 dc10 pm10 cd10 ct10 oc11 kV11 dc11 pm11 cd11 ct11 oc12 kV12 dc12 pm12 cd12 ct12 oc13 kV13 dc13 pm13 cd13 ct13 oc14 kV14 dc14 pm14 cd14 ct14 oc15 kV15 dc15 pm15 cd15 ct15:Value}
  {t0:Tok}
  (a1:nsIn K mainGlobals "swap_of" =some (some (.ref f1)))
  (l1:K.lookup f1=some ⟨oc1,od1,.func (fnOf "swap_of" "swap_of" (defArgs st_swap_of) (defBody st_swap_of) (defScope st_swap_of) .none kV1 dc1 pm1 an1 cd1 ct1),sl1⟩)
  (c1:codeIn K cd1 "swap_of" =true)
  (k1:keepIn K (.ref f1)=true)
  (a2:nsIn K mainGlobals "swaps_along" =some (some (.ref f2)))
  (l2:K.lookup f2=some ⟨oc2,od2,.func (fnOf "swaps_along" "swaps_along" (defArgs st_swaps_along) (defBody st_swaps_along) (defScope st_swaps_along) .none kV2 dc2 pm2 an2 cd2 ct2),sl2⟩)
  (c2:codeIn K cd2 "swaps_along" =true)
  (k2:keepIn K (.ref f2)=true)
  (a3:nsIn K mainGlobals "turned" =some (some (.ref f3)))
  (l3:K.lookup f3=some ⟨oc3,od3,.func (fnOf "turned" "turned" (defArgs st_turned) (defBody st_turned) (defScope st_turned) .none kV3 dc3 pm3 an3 cd3 ct3),sl3⟩)
  (c3:codeIn K cd3 "turned" =true)
  (k3:keepIn K (.ref f3)=true)
  (a4:nsIn K mainGlobals "_law_cell" =some (some (.ref f4)))
  (l4:K.lookup f4=some ⟨oc4,od4,.func (fnOf "_law_cell" "_law_cell" (defArgs st__law_cell) (defBody st__law_cell) (defScope st__law_cell) .none kV4 dc4 pm4 an4 cd4 ct4),sl4⟩)
  (c4:codeIn K cd4 "_law_cell" =true)
  (k4:keepIn K (.ref f4)=true)
  (a5:nsIn K mainGlobals "_law_mix" =some (some (.ref f5)))
  (l5:K.lookup f5=some ⟨oc5,od5,.func (fnOf "_law_mix" "_law_mix" (defArgs st__law_mix) (defBody st__law_mix) (defScope st__law_mix) .none kV5 dc5 pm5 an5 cd5 ct5),sl5⟩)
  (c5:codeIn K cd5 "_law_mix" =true)
  (k5:keepIn K (.ref f5)=true)
  (a6:nsIn K mainGlobals "_law_names" =some (some (.ref f6)))
  (l6:K.lookup f6=some ⟨oc6,od6,.func (fnOf "_law_names" "_law_names" (defArgs st__law_names) (defBody st__law_names) (defScope st__law_names) .none kV6 dc6 pm6 an6 cd6 ct6),sl6⟩)
  (c6:codeIn K cd6 "_law_names" =true)
  (k6:keepIn K (.ref f6)=true)
  (a7:nsIn K mainGlobals "_law_join" =some (some (.ref f7)))
  (l7:K.lookup f7=some ⟨oc7,od7,.func (fnOf "_law_join" "_law_join" (defArgs st__law_join) (defBody st__law_join) (defScope st__law_join) .none kV7 dc7 pm7 an7 cd7 ct7),sl7⟩)
  (c7:codeIn K cd7 "_law_join" =true)
  (k7:keepIn K (.ref f7)=true)
  (a8:nsIn K mainGlobals "_law_web" =some (some (.ref f8)))
  (l8:K.lookup f8=some ⟨oc8,od8,.func (fnOf "_law_web" "_law_web" (defArgs st__law_web) (defBody st__law_web) (defScope st__law_web) .none kV8 dc8 pm8 an8 cd8 ct8),sl8⟩)
  (c8:codeIn K cd8 "_law_web" =true)
  (k8:keepIn K (.ref f8)=true)
  (a9:nsIn K mainGlobals "_law_pairs" =some (some (.ref f9)))
  (l9:K.lookup f9=some ⟨oc9,od9,.func (fnOf "_law_pairs" "_law_pairs" (defArgs st__law_pairs) (defBody st__law_pairs) (defScope st__law_pairs) .none kV9 dc9 pm9 an9 cd9 ct9),sl9⟩)
  (c9:codeIn K cd9 "_law_pairs" =true)
  (k9:keepIn K (.ref f9)=true)
  (a10:nsIn K mainGlobals "_law_plan" =some (some (.ref f10)))
  (l10:K.lookup f10=some ⟨oc10,od10,.func (fnOf "_law_plan" "_law_plan" (defArgs st__law_plan) (defBody st__law_plan) (defScope st__law_plan) .none kV10 dc10 pm10 an10 cd10 ct10),sl10⟩)
  (c10:codeIn K cd10 "_law_plan" =true)
  (k10:keepIn K (.ref f10)=true)
  (a11:nsIn K mainGlobals "_law_is_plan" =some (some (.ref f11)))
  (l11:K.lookup f11=some ⟨oc11,od11,.func (fnOf "_law_is_plan" "_law_is_plan" (defArgs st__law_is_plan) (defBody st__law_is_plan) (defScope st__law_is_plan) .none kV11 dc11 pm11 an11 cd11 ct11),sl11⟩)
  (c11:codeIn K cd11 "_law_is_plan" =true)
  (k11:keepIn K (.ref f11)=true)
  (a12:nsIn K mainGlobals "_law_row" =some (some (.ref f12)))
  (l12:K.lookup f12=some ⟨oc12,od12,.func (fnOf "_law_row" "_law_row" (defArgs st__law_row) (defBody st__law_row) (defScope st__law_row) .none kV12 dc12 pm12 an12 cd12 ct12),sl12⟩)
  (c12:codeIn K cd12 "_law_row" =true)
  (k12:keepIn K (.ref f12)=true)
  (a13:nsIn K mainGlobals "_law_part" =some (some (.ref f13)))
  (l13:K.lookup f13=some ⟨oc13,od13,.func (fnOf "_law_part" "_law_part" (defArgs st__law_part) (defBody st__law_part) (defScope st__law_part) .none kV13 dc13 pm13 an13 cd13 ct13),sl13⟩)
  (c13:codeIn K cd13 "_law_part" =true)
  (k13:keepIn K (.ref f13)=true)
  (a14:nsIn K mainGlobals "_law_due" =some (some (.ref f14)))
  (l14:K.lookup f14=some ⟨oc14,od14,.func (fnOf "_law_due" "_law_due" (defArgs st__law_due) (defBody st__law_due) (defScope st__law_due) .none kV14 dc14 pm14 an14 cd14 ct14),sl14⟩)
  (c14:codeIn K cd14 "_law_due" =true)
  (k14:keepIn K (.ref f14)=true)
  (a15:nsIn K mainGlobals "law" =some (some (.ref f15)))
  (l15:K.lookup f15=some ⟨oc15,od15,.func (fnOf "law" "law" (defArgs st_law) (defBody st_law) (defScope st_law) .none kV15 dc15 pm15 an15 cd15 ct15),sl15⟩)
  (c15:codeIn K cd15 "law" =true)
  (k15:keepIn K (.ref f15)=true)
  (q0:nsIn K mainGlobals "RING" =some (some (.str "ring" t0)))
  (z0:nsIn K mainGlobals "len" =some none)
  (z1:nsIn K mainGlobals "all" =some none)
  (z2:nsIn K mainGlobals "any" =some none)
  (z3:nsIn K mainGlobals "str" =some none)
  (z4:nsIn K mainGlobals "int" =some none)
  (z5:nsIn K mainGlobals "abs" =some none)
  (z6:nsIn K mainGlobals "sorted" =some none)
  (z7:nsIn K mainGlobals "list" =some none)
  (z8:nsIn K mainGlobals "tuple" =some none)
  (z9:nsIn K mainGlobals "max" =some none)
  (z10:nsIn K mainGlobals "min" =some none)
  (z11:nsIn K mainGlobals "sum" =some none)
  (z12:nsIn K mainGlobals "isinstance" =some none)
  (z13:nsIn K mainGlobals "range" =some none)
  (z14:nsIn K mainGlobals "bool" =some none)
  (z15:nsIn K mainGlobals "dict" =some none)
  (z16:nsIn K mainGlobals "set" =some none)
  (z17:nsIn K mainGlobals "ValueError" =some none)
  (z18:nsIn K mainGlobals "reversed" =some none)
  (z19:nsIn K mainGlobals "zip" =some none):
  ∃fd:FuncData,(∀ (s:Shared) (v:Value),BindsTo s fd ⟨[v],[]⟩ [("_law_script",v)])/\∀base:Heap,K.In base->base.Ns mainGlobals mg->FnOk l.prog w K mg base (CXW l.prog w) 31 fa fd ["_law_script"] (spLaw K):=by
 have e:=hfa.symm.trans (mg_of X G a15)
 cases e
 have T:∀x ∈ bltNames,nsIn K mainGlobals x=some none:=fun x hx=>by
  unfold bltNames at hx
  simp only[List.mem_cons,List.not_mem_nil,or_false]at hx
  rcases hx with rfl | rfl | rfl | rfl | rfl | rfl | rfl | rfl | rfl | rfl | rfl | rfl | rfl | rfl | rfl | rfl | rfl | rfl | rfl | rfl
  ·exact z0
  ·exact z1
  ·exact z2
  ·exact z3
  ·exact z4
  ·exact z5
  ·exact z6
  ·exact z7
  ·exact z8
  ·exact z9
  ·exact z10
  ·exact z11
  ·exact z12
  ·exact z13
  ·exact z14
  ·exact z15
  ·exact z16
  ·exact z17
  ·exact z18
  ·exact z19
 have F15:=fun_mk (st:=st_law) l15 c15 k15
 refine⟨fnOf "law" "law" (defArgs st_law) (defBody st_law) (defScope st_law) .none kV15 dc15 pm15 an15 cd15 ct15,fun s v=>.of_eq rfl,fun base kb nb=>?_⟩
 obtain⟨fd,F,o⟩:=law_ok (P:=l.prog) (w:=w) (base:=base) X G T ⟨_,q0⟩ (defK a1 l1 c1 k1) (defK a2 l2 c2 k2) (defK a3 l3 c3 k3) (defK a4 l4 c4 k4) (defK a5 l5 c5 k5) (defK a6 l6 c6 k6) (defK a7 l7 c7 k7) (defK a8 l8 c8 k8) (defK a9 l9 c9 k9) (defK a10 l10 c10 k10) (defK a11 l11 c11 k11) (defK a12 l12 c12 k12) (defK a13 l13 c13 k13) (defK a14 l14 c14 k14) (defK a15 l15 c15 k15)
 obtain⟨_,_,_,_,_,_,_,_,_,e1,e2,_⟩:=F.ex
 obtain⟨_,_,_,_,_,_,_,_,_,e3,e4,_⟩:=F15.ex
 rw[e2]at e4
 injection e4 with e4
 injection e4 with _ _ e4 _
 injection e4 with e4
 rw[<-e4]
 exact o
theorem walk {l:PySem.W.OpenLaw} {q:Program} {loose:List Str} {XP:(Str->Option Value)->Heap->Prop} {YP:World->Heap->Prop} {d:DefRec} {K:Params->PySem.W.Frag} (hn:l.most=some 63) (hdf:d.params.defaults=[])
  (hY:∀ (w:World) (h:Heap),YP w h->(K w.params).In h)
  (F:∀ (w:World) (mg:Str->Option Value) (fa:Addr) (h:Heap),(K w.params).In h->h.Ns mainGlobals mg->mg d.name=some (.ref fa)->
   ∃fd:FuncData,(∀ (s:Shared) (u:Value),BindsTo s fd ⟨[u],[]⟩ [("_law_script",u)])/\∀base:Heap,(K w.params).In base->base.Ns mainGlobals mg->FnOk l.prog w (K w.params) mg base (CXW l.prog w) 31 fa fd ["_law_script"] (spLaw (K w.params))):
  PySem.W.WalkO q loose XP YP l.row.toRowW d [] (fun f vs=>PySem.call f vs):=
 L2.walk_of (n:=63) (k:=31) (x:= "_law_script") (CX:=fun w=>CXW l.prog w) (sp:=fun w=>spLaw (K w.params)) hn (by decide) hdf ⟨rfl,by decide,by decide⟩ hY F (fun _ _ a ns hl _ hS=>⟨a,ns,rfl,hl,hS,fun _=>rfl⟩)
  fun w H s e s' z=>by obtain⟨_,_,_,_,_,_,_,_,_,_,_,_,z⟩:=z;exact z
end K14
open PySem PySem.W PyProof.Rows
set_option maxRecDepth 100000 in
set_option maxHeartbeats 0 in
theorem PySem.Challenge.cw_swapward_k14_a_part_turned_holds : PySem.Challenge.rw_swapward_k14_a_part_turned.Holds := by
 w_on;o_law;k_head;(case hw=>w_witness2)
 k_fill
 refine K14.walk (l:=PySem.Challenge.rw_swapward_k14_a_part_turned) rfl rfl (fun w h Y=>PySem.W.kIn_of Y) ?F
 case F=>
  intro w mg fa h KX G hmg
  refine' K14.all_mk KX G hmg ?a1 ?l1 ?c1 ?k1 ?a2 ?l2 ?c2 ?k2 ?a3 ?l3 ?c3 ?k3 ?a4 ?l4 ?c4 ?k4 ?a5 ?l5 ?c5 ?k5 ?a6 ?l6 ?c6 ?k6 ?a7 ?l7 ?c7 ?k7 ?a8 ?l8 ?c8 ?k8 ?a9 ?l9 ?c9 ?k9 ?a10 ?l10 ?c10 ?k10 ?a11 ?l11 ?c11 ?k11 ?a12 ?l12 ?c12 ?k12 ?a13 ?l13 ?c13 ?k13 ?a14 ?l14 ?c14 ?k14 ?a15 ?l15 ?c15 ?k15 ?q0 ?z0 ?z1 ?z2 ?z3 ?z4 ?z5 ?z6 ?z7 ?z8 ?z9 ?z10 ?z11 ?z12 ?z13 ?z14 ?z15 ?z16 ?z17 ?z18 ?z19
  (case a1=>k_is)
  (case l1=>k_is)
  (case c1=>k_is)
  (case k1=>k_is)
  (case a2=>k_is)
  (case l2=>k_is)
  (case c2=>k_is)
  (case k2=>k_is)
  (case a3=>k_is)
  (case l3=>k_is)
  (case c3=>k_is)
  (case k3=>k_is)
  (case a4=>k_is)
  (case l4=>k_is)
  (case c4=>k_is)
  (case k4=>k_is)
  (case a5=>k_is)
  (case l5=>k_is)
  (case c5=>k_is)
  (case k5=>k_is)
  (case a6=>k_is)
  (case l6=>k_is)
  (case c6=>k_is)
  (case k6=>k_is)
  (case a7=>k_is)
  (case l7=>k_is)
  (case c7=>k_is)
  (case k7=>k_is)
  (case a8=>k_is)
  (case l8=>k_is)
  (case c8=>k_is)
  (case k8=>k_is)
  (case a9=>k_is)
  (case l9=>k_is)
  (case c9=>k_is)
  (case k9=>k_is)
  (case a10=>k_is)
  (case l10=>k_is)
  (case c10=>k_is)
  (case k10=>k_is)
  (case a11=>k_is)
  (case l11=>k_is)
  (case c11=>k_is)
  (case k11=>k_is)
  (case a12=>k_is)
  (case l12=>k_is)
  (case c12=>k_is)
  (case k12=>k_is)
  (case a13=>k_is)
  (case l13=>k_is)
  (case c13=>k_is)
  (case k13=>k_is)
  (case a14=>k_is)
  (case l14=>k_is)
  (case c14=>k_is)
  (case k14=>k_is)
  (case a15=>k_is)
  (case l15=>k_is)
  (case c15=>k_is)
  (case k15=>k_is)
  (case q0=>k_is)
  (case z0=>k_is)
  (case z1=>k_is)
  (case z2=>k_is)
  (case z3=>k_is)
  (case z4=>k_is)
  (case z5=>k_is)
  (case z6=>k_is)
  (case z7=>k_is)
  (case z8=>k_is)
  (case z9=>k_is)
  (case z10=>k_is)
  (case z11=>k_is)
  (case z12=>k_is)
  (case z13=>k_is)
  (case z14=>k_is)
  (case z15=>k_is)
  (case z16=>k_is)
  (case z17=>k_is)
  (case z18=>k_is)
  (case z19=>k_is)
