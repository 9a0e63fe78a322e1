import PyProof.Rows.All
import Wide.All
import OpenK.AllK
import Wide.FinOn
import Lean
import PyProof.EqAt
import PyProof.EqKinds
import PyProof.TupleCall
import PyProof.Rows.SetFrom
import PyProof.Rows.SortStr
import PyProof.Rows.SortWalk
import PyProof.CollectIter
import PyProof.Rows.DictTallyStr
import PyProof.P3Eq
import PyProof.NeKinds
import PyProof.Rows.StrItems
import PyProof.StrLawsOcc
import PyProof.StrCalls2
import PyProof.ExcClass3
import PyProof.ExcBaseAll.ValueError
import KE.KNest
import PyProof.FString
import PyProof.StrLawsIn
import KE.IntTextLaws
import KE.KNestM
import PyProof.StrLawsTight
import PyProof.StrBlock2
import PyProof.Rows.StrClose
import PyProof.Rows.StrSplitCount
import PyProof.StrLawsChain
import PyProof.Rows.StrSliceCases
import KE.KIntText
import PySem.Challenge.RW_swapward_k05_rules_refused
set_option Elab.async false
set_option linter.all false
set_option maxRecDepth 100000
namespace L2
open PySem PySem.Spec PyProof.Rows
@[reducible] noncomputable def Key:=Sum Int Str
noncomputable def keyIs:Key->Value->Bool
 | .inl k,v=>Value.isInt k v
 | .inr x,v=>Value.isStrOf x v
noncomputable def keyH (w:World):Key->Int
 | .inl k=>hashInt k
 | .inr x=>hashStr w x
theorem keyIs_shape:∀ {k:Key} {v:Value},keyIs k v=true->(∃ i t,k=Sum.inl i/\v=Value.int i t)\/(∃ x t,k=Sum.inr x/\v=Value.str x t)
 | .inl i,v,h=>by
  obtain⟨t,e⟩:=Value.isInt_shape (k:=i) (v:=v) h
  exact .inl ⟨i,t,rfl,e⟩
 | .inr x,v,h=>by
  obtain⟨t,e⟩:=Value.isStrOf_shape (x:=x) (v:=v) h
  exact .inr ⟨x,t,rfl,e⟩
theorem keyIs_int (i:Int) (t:Tok):keyIs (.inl i) (.int i t)=true:=by simp[keyIs,Value.isInt]
theorem keyIs_str (x:Str) (t:Tok):keyIs (.inr x) (.str x t)=true:=by simp[keyIs,Value.isStrOf]
theorem key_ll (a b:Int):decide ((Sum.inl a:Key)=Sum.inl b)=(a == b):=by
 by_cases e:a=b
 ·subst e;simp
 ·have h:¬ (Sum.inl a:Key)=Sum.inl b:=fun q=>e (Sum.inl.inj q)
  rw[decide_eq_false h]
  exact(beq_eq_false_iff_ne.mpr e).symm
theorem key_rr (a b:Str):decide ((Sum.inr a:Key)=Sum.inr b)=decide (a=b):=by
 by_cases e:a=b
 ·subst e;simp
 ·have h:¬ (Sum.inr a:Key)=Sum.inr b:=fun q=>e (Sum.inr.inj q)
  rw[decide_eq_false h,decide_eq_false e]
theorem key_lr (a:Int) (b:Str):decide ((Sum.inl a:Key)=Sum.inr b)=false:=decide_eq_false (fun q=>nomatch q)
theorem key_rl (a:Str) (b:Int):decide ((Sum.inr a:Key)=Sum.inl b)=false:=decide_eq_false (fun q=>nomatch q)
noncomputable def mixKind (prog:Program) (w:World):PySem.KeyKind prog w Key where
 is:=keyIs
 hash:=keyH w
 inj:=fun v a b ha hb=>by
  rcases keyIs_shape ha with ⟨i,t,rfl,rfl⟩ | ⟨x,t,rfl,rfl⟩
  ·rcases keyIs_shape hb with ⟨j,u,rfl,e⟩ | ⟨y,u,rfl,e⟩
   ·injection e with e1 _;rw[e1]
   ·exact nomatch e
  ·rcases keyIs_shape hb with ⟨j,u,rfl,e⟩ | ⟨y,u,rfl,e⟩
   ·exact nomatch e
   ·injection e with e1 _;rw[e1]
 byValue:=fun k v h=>by
  rcases keyIs_shape h with ⟨i,t,rfl,rfl⟩ | ⟨x,t,rfl,rfl⟩<;>rfl
 pyHash:=fun hv h=>by
  rcases keyIs_shape hv with ⟨i,t,rfl,rfl⟩ | ⟨x,t,rfl,rfl⟩
  ·exact wpAny_pyHash_int h
  ·exact wpAny_pyHash_str h
 eqBool:=fun hu hv h=>by
  rcases keyIs_shape hu with ⟨i,t,rfl,rfl⟩ | ⟨x,t,rfl,rfl⟩
  ·rcases keyIs_shape hv with ⟨j,u,rfl,rfl⟩ | ⟨y,u,rfl,rfl⟩
   ·rw[key_ll]at h;exact wpAny_eqBool_int h
   ·rw[key_lr]at h;exact SeqAt.EqAt.int_str i t y u _ _ _ _ h
  ·rcases keyIs_shape hv with ⟨j,u,rfl,rfl⟩ | ⟨y,u,rfl,rfl⟩
   ·rw[key_rl]at h;exact SeqAt.EqAt.str_int x t j u _ _ _ _ h
   ·rw[key_rr]at h;exact wpAny_eqBool_str h
 «strs»:=fun k x t v h=>by
  rcases keyIs_shape h with ⟨i,u,rfl,e⟩ | ⟨y,u,rfl,e⟩
  ·exact nomatch e
  ·injection e with e1 _
   subst e1
   cases v<;>rfl
theorem mixKind_int (prog:Program) (w:World) (i:Int) (t:Tok):(mixKind prog w).is (.inl i) (.int i t)=true:=keyIs_int i t
theorem mixKind_str (prog:Program) (w:World) (x:Str) (t:Tok):(mixKind prog w).is (.inr x) (.str x t)=true:=keyIs_str x t
end L2
namespace L2
open PySem PySem.Spec PyProof.Rows
inductive V where
 | non | bl (b:Bool) | int (i:Int) | str (x:Str) | byt (b:Array UInt8) | flt (b:UInt64) | ref (a:Addr) | ty (n:String)
 deriving DecidableEq
noncomputable def RelV:V->Value->Prop
 | .non,u=>u=Value.none
 | .bl b,u=>u=Value.bool b
 | .int i,u=>∃t,u=Value.int i t
 | .str x,u=>∃t,u=Value.str x t
 | .byt b,u=>∃t,u=Value.bytes b t
 | .flt b,u=>∃t,u=Value.float b t
 | .ref a,u=>u=Value.ref a
 | .ty n,u=>u=Value.type n
@[reducible] noncomputable def Vals:List V->List Value->Prop:=Paired RelV
theorem Vals.length {xs:List V} {us:List Value} (r:Vals xs us):xs.length=us.length:=Paired.length r
theorem Vals.get:∀ {xs:List V} {us:List Value} {i:Nat} {x:V},Vals xs us->xs[i]?=some x->∃u,us[i]?=some u/\RelV x u
 | _,_,_,_,.nil,e=>by simp at e
 | _,_,0,_,.cons r _,e=>by simp at e;subst e;exact⟨_,rfl,r⟩
 | _,_,i + 1,x,.cons _ t,e=>by
  obtain⟨u,h1,h2⟩:=Vals.get (i:=i) (x:=x) t (by simpa using e)
  exact⟨u,by simpa using h1,h2⟩
theorem Vals.set {x:V} {u:Value} (r:RelV x u):∀ {xs:List V} {us:List Value} (i:Nat),Vals xs us->Vals (xs.set i x) (us.set i u)
 | _,_,_,.nil=>.nil
 | _,_,0,.cons _ t=>.cons r t
 | _,_,i + 1,.cons q t=>.cons q (Vals.set r i t)
theorem Vals.append:∀ {xs ys:List V} {us ws:List Value},Vals xs us->Vals ys ws->Vals (xs++ys) (us++ws)
 | _,_,_,_,.nil,s=>s
 | _,_,_,_,.cons r t,s=>.cons r (Vals.append t s)
theorem Vals.take:∀ {xs:List V} {us:List Value} (n:Nat),Vals xs us->Vals (xs.take n) (us.take n)
 | _,_,0,_=>.nil
 | _,_,_ + 1,.nil=>.nil
 | _,_,n + 1,.cons r t=>.cons r (Vals.take n t)
theorem Vals.drop:∀ {xs:List V} {us:List Value} (n:Nat),Vals xs us->Vals (xs.drop n) (us.drop n)
 | _,_,0,r=>r
 | _,_,_ + 1,.nil=>.nil
 | _,_,n + 1,.cons _ t=>Vals.drop n t
theorem Vals.none_of:∀ {xs:List V} {us:List Value} {i:Nat},Vals xs us->xs[i]?=none->us[i]?=none:=fun{xs us i} r e=>by
 have h1:=r.length
 have h2:xs.length<=i:=List.getElem?_eq_none_iff.mp e
 exact List.getElem?_eq_none_iff.mpr (by omega)
noncomputable def RelO:Option V->Option Value->Prop
 | some v,some u=>RelV v u
 | none,none=>True
 | _,_=>False
noncomputable def KV {κ:Type}:List (κ × V)->List (κ × Value)->Prop:=Paired fun(p:κ × V) (q:κ × Value)=>p.1=q.1/\RelV p.2 q.2
noncomputable def kV:Key->V
 | .inl i=>.int i
 | .inr x=>.str x
inductive HO where
 | lst (xs:List V)
 | tup (xs:List V)
 | dK (kvs:List (Key × V))
 | ins (C dx:Addr) (fs:List (Str × V))
 | own (x:Addr)
 | xd (fs:List (Str × V))
 | frz (o:Obj) (u:HO)
 | tbl (ps:Array Value)
 | ext (φ:Heap->Prop)
 | exo (C:Addr) (d:Option Addr)
 | clo (fd:FuncData)
 | cel (v:V)
 | cod (q:Str)
set_option genInjectivity false
@[reducible] noncomputable def Hp:=Addr->Option HO
noncomputable def upd (H:Hp) (a:Addr) (o:HO):Hp:=fun b=>if b=a then some o else H b
theorem upd_same {H:Hp} {a:Addr} {o:HO}:upd H a o a=some o:=by unfold upd;(first | with_reducible refine Eq.mpr (if_pos rfl) ?_ | rw[if_pos rfl])
theorem upd_ne {H:Hp} {a b:Addr} {o:HO} (h:b ≠ a):upd H a o b=H b:=by unfold upd;(first | with_reducible refine Eq.mpr (if_neg h) ?_ | rw[if_neg h])
theorem upd_upd {H:Hp} {a:Addr} {o u:HO}:upd (upd H a o) a u=upd H a u:=by
 funext b;unfold upd;split<;>rfl
theorem ne_of {H:Hp} {a b:Addr} {o u:HO} (h:H a=some o) (h':H b=some u) (d:o ≠ u):a ≠ b:=by
 intro e;subst e;rw[h]at h';exact d (Option.some.inj h')
theorem ne_of_none {H:Hp} {a b:Addr} {o:HO} (h:H a=some o) (h':H b=none):a ≠ b:=by
 intro e;subst e;rw[h]at h';cases h'
section
variable (P:Program) (w:World)
noncomputable def ObjOk (H:Hp) (h:Heap) (a:Addr):HO->Prop
 | .lst xs=>xs.length<=sizeLine/\∃ (its:List Value) (n:Nat),Vals xs its/\h.get? a=some {cls:=.type "list",data:=.seq its.toArray n}
 | .tup xs=>xs.length<=sizeLine/\∃its:List Value,Vals xs its/\IsTup h a its.toArray
 | .dK kvs=>kvs.length<=sizeLine/\(a == sysModules)=false/\∃vs,KV kvs vs/\h.DictOf (mixKind P w) a vs
 | .ins C dx fs=>H dx=some (.own a)/\fs.length<=1000/\dx ≠ a/\h.get? a=some (PySem.W.instObj C dx)/\
   ∃mA,h.Ns1 dx mA/\(∀ f,RelO (fs.lookup f) (mA f))/\PySem.Within mA (fs.map (·.1))
 | .own _=>∃o,h.get? a=some o
 | .xd fs=>∃mA,h.Ns1 a mA/\∀f,RelO (fs.lookup f) (mA f)
 | .frz o u=>h.get? a=some o/\ObjOk H h a u
 | .tbl ps=>h.get? a=some {cls:=.none,data:=.fields ps}
 | .ext φ=>φ h/\(∃ o,h.get? a=some o)/\∀h1 h2:Heap,φ h1->(∀ o,h1.get? a=some o->h2.get? a=some o)->φ h2
 | .exo C d=>∃oe vs,h.get? a=some oe/\oe.cls=.ref C/\oe.dict=d/\oe.data=.fields vs
 | .clo fd=>h.get? a=some {cls:=.type "function",data:=.func fd}
 | .cel v=>∃u,RelV v u/\h.IsCell a (some u)
 | .cod q=>h.CodeRec (.ref a) q
noncomputable def HOk (H:Hp) (h:Heap):Prop:=∀a o,H a=some o->ObjOk P w H h a o
end
section
variable {P:Program} {w:World} {H H':Hp} {h h':Heap} {a:Addr} {o:HO}
theorem ObjOk.lt (x:ObjOk P w H h a o):a < h.objs.size:=by
 cases o with
 | lst xs=>obtain⟨_,_,_,_,e⟩:=x;exact Heap.lt_size e
 | tup xs=>obtain⟨_,_,_,p⟩:=x;exact p.lt
 | dK kvs=>obtain⟨_,_,_,_,o,_,_,e,_⟩:=x;exact Heap.lt_size e
 | ins C dx fs=>obtain⟨_,_,_,e,_⟩:=x;exact Heap.lt_size e
 | own y=>obtain⟨_,e⟩:=x;exact Heap.lt_size e
 | xd fs=>obtain⟨_,⟨_,_,_,e,_⟩,_⟩:=x;exact Heap.lt_size e
 | frz ob u=>obtain⟨e,_⟩:=x;exact Heap.lt_size e
 | tbl ps=>exact Heap.lt_size (show h.get? a=some _ from x)
 | ext φ=>obtain⟨_,⟨_,e⟩,_⟩:=x;exact Heap.lt_size e
 | exo C d=>obtain⟨oe,vs,e,_⟩:=x;exact Heap.lt_size e
 | clo fd=>exact Heap.lt_size (show h.get? a=some _ from x)
 | cel v=>obtain⟨u,_,e⟩:=x;exact e.lt
 | cod q=>obtain⟨c,oc,vs,t,hc,e,_⟩:=x;cases hc;exact Heap.lt_size e
theorem Paired.mapP {α β:Type} {F G:α->β->Prop}:∀ {l₁:List α} {l₂:List β},Paired F l₁ l₂->(∀ a b,F a b->G a b)->Paired G l₁ l₂
 | _,_,.nil,_=>.nil
 | _,_,.cons r t,f=>.cons (f _ _ r) (Paired.mapP t f)
theorem ObjOk.stay (x:ObjOk P w H h a o) (k:∀b u,(b=a\/H b=some (.own a))->h.get? b=some u->h'.get? b=some u)
  (ho:∀b,H b=some (.own a)->H' b=some (.own a)) (ht:∀b xs,H b=some (.tup xs)->H' b=some (.tup xs)):ObjOk P w H' h' a o:=by
 induction o with
 | lst xs=>obtain⟨z,its,n,r,e⟩:=x;exact⟨z,its,n,r,k _ _ (.inl rfl) e⟩
 | tup xs=>obtain⟨z,its,r,ob,e,c⟩:=x;exact⟨z,its,r,ob,k _ _ (.inl rfl) e,c⟩
 | dK kvs=>obtain⟨z,y,vs,r,ob,es,ep,e,c⟩:=x;exact⟨z,y,vs,r,ob,es,ep,k _ _ (.inl rfl) e,c⟩
 | ins C dx fs=>
  obtain⟨d,z,ne,e,mA,⟨od,es,ep,e2,c⟩,r⟩:=x
  exact⟨ho _ d,z,ne,k _ _ (.inl rfl) e,mA,⟨od,es,ep,k _ _ (.inr d) e2,c⟩,r⟩
 | own y=>obtain⟨ob,e⟩:=x;exact⟨ob,k _ _ (.inl rfl) e⟩
 | xd fs=>obtain⟨mA,⟨od,es,ep,e,c⟩,r⟩:=x;exact⟨mA,⟨od,es,ep,k _ _ (.inl rfl) e,c⟩,r⟩
 | frz ob u ih=>obtain⟨e,q⟩:=x;exact⟨k _ _ (.inl rfl) e,ih q⟩
 | tbl ps=>
  have e:h.get? a=some {cls:=.none,data:=.fields ps}:=x
  show h'.get? a=some {cls:=.none,data:=.fields ps}
  exact k a _ (.inl rfl) e
 | ext φ=>obtain⟨p,⟨o,e⟩,st⟩:=x;exact⟨st _ _ p fun o q=>k _ _ (.inl rfl) q,⟨o,k _ _ (.inl rfl) e⟩,st⟩
 | exo C d=>obtain⟨oe,vs,e,r⟩:=x;exact⟨oe,vs,k _ _ (.inl rfl) e,r⟩
 | clo fd=>
  have e:h.get? a=some {cls:=.type "function",data:=.func fd}:=x
  show h'.get? a=some {cls:=.type "function",data:=.func fd}
  exact k a _ (.inl rfl) e
 | cel v=>obtain⟨u,r,ob,e,d⟩:=x;exact⟨u,r,ob,k _ _ (.inl rfl) e,d⟩
 | cod q=>obtain⟨c,oc,vs,t,hc,e,r⟩:=x;cases hc;exact⟨a,oc,vs,t,rfl,k _ _ (.inl rfl) e,r⟩
theorem HOk.lt (x:HOk P w H h) (e:H a=some o):a < h.objs.size:=(x a o e).lt
theorem HOk.fresh (x:HOk P w H h) (e:h.objs.size<=a):H a=none:=by
 cases q:H a with
 | none=>rfl
 | some u=>exact absurd (Nat.lt_of_lt_of_le (x.lt q) e) (Nat.lt_irrefl _)
theorem HOk.kept (x:HOk P w H h) (k:∀b u,h.get? b=some u->h'.get? b=some u):HOk P w H h':=fun a o e=>
 (x a o e).stay (fun b u _ q=>k b u q) (fun _ q=>q) fun _ _ q=>q
theorem HOk.laid (x:HOk P w H h) (k:∀b u,h.get? b=some u->h'.get? b=some u) (hp:h.objs.size<=a) (new:ObjOk P w (upd H a o) h' a o):HOk P w (upd H a o) h':=fun b u e=>by
 have hn:=x.fresh hp
 by_cases hb:b=a
 ·subst hb;rw[upd_same]at e;cases e;exact new
 ·rw[upd_ne hb]at e
  exact(x b u e).stay (fun c v _ q=>k c v q) (fun c q=>by rw[upd_ne (ne_of_none q hn)];exact q) fun c xs q=>by rw[upd_ne (ne_of_none q hn)];exact q
end
noncomputable def Rd (H:Hp) (a:Addr) (u:HO):Prop:=H a=some u\/∃o,H a=some (.frz o u)
theorem Rd.ok {P:Program} {w:World} {H:Hp} {h:Heap} {a:Addr} {u:HO} (r:Rd H a u) (x:HOk P w H h):ObjOk P w H h a u:=by
 rcases r with r | ⟨o,r⟩
 ·exact x a u r
 ·obtain⟨_,q⟩:=x a _ r
  exact q
noncomputable def Mut:Option HO->Prop
 | some (.lst _)=>True
 | some (.dK _)=>True
 | some (.ins _ _ _)=>True
 | some (.ext _)=>True
 | _=>False
section
variable {P:Program} {w:World} {H:Hp} {h h':Heap} {x e:Addr} {o':HO}
theorem HOk.write (ok:HOk P w H h) (mu:Mut (H x)) (he:e=x\/H e=some (.own x)) (k:∀b u,b ≠ e->h.get? b=some u->h'.get? b=some u) (heo:∃u,h'.get? e=some u)
  (new:ObjOk P w (upd H x o') h' x o'):HOk P w (upd H x o') h':=fun b u q=>by
 have nown:∀c y,H c=some (.own y)->c ≠ x:=fun c y r z=>by subst z;rw[r]at mu;exact mu
 have ntup:∀c xs,H c=some (.tup xs)->c ≠ x:=fun c xs r z=>by subst z;rw[r]at mu;exact mu
 by_cases hb:b=x
 ·subst hb;rw[upd_same]at q;cases q;exact new
 ·rw[upd_ne hb]at q
  by_cases hbe:b=e
  ·have q':H b=some (.own x):=by
    rcases he with z | z
    ·exact absurd (hbe.trans z) hb
    ·rw[hbe];exact z
   rw[q]at q';cases q'
   obtain⟨v,hv⟩:=heo
   exact⟨v,by rw[hbe];exact hv⟩
  ·refine(ok b u q).stay (fun c v hc r=>k c v ?_ r) (fun c r=>by rw[upd_ne (nown c b r)];exact r) fun c xs r=>by rw[upd_ne (ntup c xs r)];exact r
   rcases hc with rfl | hc
   ·exact hbe
   ·rintro rfl
    rcases he with z | z
    ·exact nown c b hc z
    ·rw[hc]at z;cases z;exact hb rfl
end
structure Un (fs ex:List Addr) (H H':Hp) (h h':Heap):Prop where
 keep:∀b o,h.get? b=some o->H b=none->b ∉ fs->b ∉ ex->h'.get? b=some o
 slot:∀b o,h.get? b=some o->H b=none->b ∈ fs->b ∉ ex->∃sl,h'.get? b=some {o with slots:=sl}
 free:∀b o,h.get? b=some o->H b=none->b ∉ ex->H' b=none
 there:∀b o,h.get? b=some o->b ∉ ex->∃o',h'.get? b=some o'
 tups:∀b xs,H b=some (.tup xs)->H' b=some (.tup xs)
 frzs:∀b o u,H b=some (.frz o u)->H' b=some (.frz o u)
 tbls:∀b ps,H b=some (.tbl ps)->∃more,H' b=some (.tbl (ps++more))
section
variable {fs fs' ex ex':List Addr} {H H1 H2:Hp} {h h1 h2 h':Heap} {a x e:Addr} {o:HO}
theorem Un.any (u:Un fs ex H H1 h h1) {b:Addr} {ob:Obj} (q:h.get? b=some ob) (n:H b=none) (hx:b ∉ ex):∃sl,h1.get? b=some {ob with slots:=sl}:=by
 by_cases hb:b ∈ fs
 ·exact u.slot b ob q n hb hx
 ·exact⟨ob.slots,u.keep b ob q n hb hx⟩
theorem Un.kept (k:∀b u,h.get? b=some u->h'.get? b=some u):Un fs ex H H h h':=
 ⟨fun b ob q _ _ _=>k b ob q,fun b ob q _ _ _=>⟨ob.slots,k b ob q⟩,fun _ _ _ n _=>n,fun b ob q _=>⟨ob,k b ob q⟩,fun _ _ q=>q,fun _ _ _ q=>q,fun _ ps q=>⟨#[],by rw[q];simp⟩⟩
theorem Un.refl:Un fs ex H H h h:=Un.kept fun _ _ q=>q
theorem Un.laid (k:∀b u,h.get? b=some u->h'.get? b=some u) (hp:h.objs.size<=a) (hn:H a=none):Un fs ex H (upd H a o) h h' where
 keep:=fun b u q _ _ _=>k b u q
 slot:=fun b u q _ _ _=>⟨u.slots,k b u q⟩
 free:=fun b u q n _=>by rw[upd_ne (Nat.ne_of_lt (Nat.lt_of_lt_of_le (Heap.lt_size q) hp))];exact n
 there:=fun b u q _=>⟨u,k b u q⟩
 tups:=fun b xs q=>by rw[upd_ne (ne_of_none q hn)];exact q
 frzs:=fun b u xs q=>by rw[upd_ne (ne_of_none q hn)];exact q
 tbls:=fun b ps q=>⟨#[],by rw[upd_ne (ne_of_none q hn),q];simp⟩
theorem Un.write (mu:Mut (H x)) (he:e=x\/H e=some (.own x)) (k:∀b u,b ≠ e->h.get? b=some u->h'.get? b=some u) (heo:∃u,h'.get? e=some u):Un fs ex H (upd H x o) h h':=by
 have hx:∀b,H b=none->b ≠ x:=fun b n z=>by subst z;rw[n]at mu;exact mu
 have hb:∀b,H b=none->b ≠ e:=fun b n z=>by
  subst z
  rcases he with r | r
  ·exact hx b n r
  ·rw[n]at r;cases r
 have hm:∀b u,H b=some u->¬Mut (some u)->b ≠ x:=fun b u q nm z=>by subst z;rw[q]at mu;exact nm mu
 refine⟨fun b u q n _ _=>k b u (hb b n) q,fun b u q n _ _=>⟨u.slots,k b u (hb b n) q⟩,fun b u q n _=>by rw[upd_ne (hx b n)];exact n,fun b u q _=>?_,
  fun b xs q=>by rw[upd_ne (hm b _ q fun z=>z)];exact q,fun b u xs q=>by rw[upd_ne (hm b _ q fun z=>z)];exact q,fun b ps q=>⟨#[],by rw[upd_ne (hm b _ q fun z=>z),q];simp⟩⟩
 by_cases hbe:b=e
 ·subst hbe;exact heo
 ·exact⟨u,k b u hbe q⟩
end
noncomputable def trk (h:Heap) (H:Hp):List Addr:=(List.range h.objs.size).filter fun a=>(H a).isSome
noncomputable def hidT (h:Heap) (H:Hp):Heap:=PySem.W.hideAll h (trk h H)
theorem hidT_size (h:Heap) (H:Hp):(hidT h H).objs.size=h.objs.size:=PySem.W.hideAll_size _ _
theorem hidT_get {h:Heap} {H:Hp} {b:Addr} {o:Obj} (e:h.get? b=some o) (n:H b=none):(hidT h H).get? b=some o:=
 PySem.W.hideAll_get _ e fun hm=>by
  have q:(H b).isSome=true:=(List.mem_filter.mp hm).2
  rw[n]at q;simp at q
theorem of_hidT {h:Heap} {H:Hp} {b:Addr} {o:Obj} (e:(hidT h H).get? b=some o):h.get? b=some o/\H b=none:=by
 have e':h.get? b=some o:=PySem.W.of_hideAll (trk h H) e
 refine⟨e',?_⟩
 cases q:H b with
 | none=>rfl
 | some x=>
  have hm:b ∈ trk h H:=List.mem_filter.mpr ⟨List.mem_range.mpr (Heap.lt_size e'),by simp[q]⟩
  have z:(hidT h H).get? b=none:=PySem.W.hideAll_none (trk h H) hm
  rw[z]at e;cases e
end L2
namespace L2
set_option genInjectivity false
open PySem PySem.Spec PyProof.Rows
structure Mod (K:PySem.W.Frag) (mg:Str->Option Value) (base:Heap):Prop where
 kin:K.In base
 glob:base.Ns mainGlobals mg
 blt:∃mb,base.Ns builtinsNs mb/\∀x:Str,x ≠ "__name__" ->mb x=bootBuiltins x
 nolimit:base.NoLimit
structure Cx where
 prog:Program
 w:World
 K:PySem.W.Frag
 mg:Str->Option Value
 base:Heap
 A:Around
 N:List Str
 s₀:Shared
 H₀:Hp
 env:Env
 outer:List Env
 stack:List Env
 ex:List Addr
 fn:Str->Bool
 calm:Bool
 pn:List (Addr × Obj)
 xe:Value->Shared->Prop
noncomputable def frs (l:List Env):List Addr:=l.filterMap (·.frame)
@[reducible] noncomputable def Cx.fs (X:Cx):List Addr:=frs X.outer
noncomputable def Vis (sc:Scope) (x:Str):Prop:=sc.names.lookup x=some .local\/sc.names.lookup x=some .cell\/sc.names.lookup x=some .free
noncomputable def Loc (sc:Scope) (x:Str):Prop:=sc.names.lookup x=some .local\/sc.names.lookup x=some .cell
noncomputable def Look (env:Env) (h:Heap) (m:Str->Option Value) (x:Str) (u:Value):Prop:=
 (env.kindOf x=some .local/\m x=some u)\/((env.kindOf x=some .cell\/env.kindOf x=some .free)/\∃c,env.cells.lookup x=some c/\h.IsCell c (some u))
structure Cx.Ok (X:Cx):Prop where
 mod:Mod X.K X.mg X.base
 kind:X.env.scope.kind=.function
 glob:X.env.globals=mainGlobals
 blt:X.env.builtins=builtinsNs
 above:X.s₀.heap.objs.size<=X.env.locals
 inj:∀x y c,X.env.cells.lookup x=some c->X.env.cells.lookup y=some c->x=y
 has:∀x,(X.env.kindOf x=some .cell\/X.env.kindOf x=some .free)->∃c,X.env.cells.lookup x=some c
 cab:∀x c,X.fn x=true->X.env.cells.lookup x=some c->X.s₀.heap.objs.size<=c
 hd:X.calm=true->X.A.handled=none
 frames:X.A.frames=some X.stack
 stk:X.stack=X.outer\/(X.stack=X.env::X.outer/\X.env.frame=some X.env.locals)
 exf:∀b ∈ X.ex,b ≠ X.env.locals/\∀x c,X.env.cells.lookup x=some c->c ≠ b
 bs:∀b o,X.base.get? b=some o->X.s₀.heap.get? b=some o/\X.H₀ b=none
 bsz:X.base.objs.size<=X.s₀.heap.objs.size
 noex:∀b o,X.base.get? b=some o->b ∉ X.ex
 exfs:∀b ∈ X.ex,b ∉ X.fs
 funs:X.s₀.heap.FunFrames X.base X.outer
 frf:∀b ∈ X.fs,X.H₀ b=none
structure Inv (X:Cx) (pins:List (Addr × Obj)) (σ:List (Option V)) (H:Hp) (s:Shared):Prop where
 ok:X.Ok
 os:s.os=X.s₀.os
 bare:AllBare s.gens
 base:Un X.fs X.ex X.H₀ H X.s₀.heap s.heap
 loc:∃m,s.heap.Ns X.env.locals m/\∀ (i:Nat) (x:Str) (v:V),X.N[i]?=some x->σ[i]?=some (some v)->Vis X.env.scope x->∃u,RelV v u/\Look X.env s.heap m x u
 cell:∀x c,X.env.cells.lookup x=some c->∃v,s.heap.IsCell c v
 free:H X.env.locals=none
 freeC:∀x c,X.env.cells.lookup x=some c->H c=none
 pin:∀p ∈ X.pn++pins,s.heap.get? p.1=some p.2/\H p.1=none/\p.1 ≠ X.env.locals/\p.1 ∉ X.fs/\∀v,p.2.data ≠ .cell v
 hok:HOk X.prog X.w H s.heap
 len:σ.length=X.N.length
section
variable {X:Cx} {pins:List (Addr × Obj)} {σ:List (Option V)} {H H':Hp} {s:Shared} {h':Heap}
theorem Cx.Ok.nofr (ok:X.Ok) {b:Addr} {o:Obj} (e:X.base.get? b=some o):b ∉ X.fs:=fun hb=>by
 have:=(ok.funs.mem hb).1
 rw[e]at this;cases this
theorem Inv.bs (I:Inv X pins σ H s):∀b o,X.base.get? b=some o->s.heap.get? b=some o/\H b=none:=fun b o e=>
 ⟨I.base.keep b o (I.ok.bs b o e).1 (I.ok.bs b o e).2 (I.ok.nofr e) (I.ok.noex b o e),I.base.free b o (I.ok.bs b o e).1 (I.ok.bs b o e).2 (I.ok.noex b o e)⟩
theorem Inv.bk (I:Inv X pins σ H s):∀b o,X.base.get? b=some o->s.heap.get? b=some o:=fun b o e=>(I.bs b o e).1
theorem Inv.mod (I:Inv X pins σ H s):Mod X.K X.mg X.base:=I.ok.mod
theorem Inv.kIn (I:Inv X pins σ H s):X.K.In s.heap:=I.ok.mod.kin.keeps I.bk
theorem Inv.lt (I:Inv X pins σ H s):X.env.locals < s.heap.objs.size:=by obtain⟨_,hn,_⟩:=I.loc;exact hn.lt
theorem Inv.sz (I:Inv X pins σ H s):X.s₀.heap.objs.size<=s.heap.objs.size:=Nat.le_trans I.ok.above (Nat.le_of_lt I.lt)
theorem Inv.nofs (I:Inv X pins σ H s) {a:Addr} (h:s.heap.objs.size<=a):a ∉ X.fs:=fun hb=>by
 obtain⟨_,o,ho,_⟩:=I.ok.funs.mem hb
 exact absurd (Nat.lt_of_lt_of_le (Heap.lt_size ho) (Nat.le_trans I.sz h)) (Nat.lt_irrefl _)
theorem Inv.cne (I:Inv X pins σ H s):∀x c,X.env.cells.lookup x=some c->c ≠ X.env.locals:=fun x c e z=>by
 obtain⟨v,o,ho,hd⟩:=I.cell x c e
 obtain⟨m,⟨o',es,ep,ho',hd',_⟩,_⟩:=I.loc
 rw[z,ho']at ho;cases ho;rw[hd']at hd;cases hd
theorem Inv.funs (I:Inv X pins σ H s):s.heap.FunFrames X.base X.outer:=by
 have all:∀ (l:List Env),(∀ b ∈ frs l,b ∈ X.fs)->X.s₀.heap.FunFrames X.base l->s.heap.FunFrames X.base l:=by
  intro l
  induction l with
  | nil=>intro _ _;trivial
  | cons env r ih=>
   intro hs hl
   obtain⟨hk,⟨L,o,hf,hn,ho,hd⟩,hr⟩:=hl
   have hL:L ∈ X.fs:=hs L (by unfold frs;rw[List.filterMap_cons,hf];exact List.mem_cons_self)
   obtain⟨sl,e⟩:=I.base.slot L o ho (I.ok.frf L hL) hL fun z=>I.ok.exfs L z hL
   exact⟨hk,⟨L,_,hf,hn,e,hd⟩,ih (fun b hb=>hs b (by unfold frs;rw[List.filterMap_cons,hf];exact List.mem_cons_of_mem _ hb)) hr⟩
 exact all X.outer (fun _ hb=>hb) I.ok.funs
theorem Inv.stack (I:Inv X pins σ H s):s.heap.FunFrames X.base X.stack:=by
 rcases I.ok.stk with e | ⟨e,hf⟩
 ·rw[e];exact I.funs
 ·rw[e]
  obtain⟨m,hn,_⟩:=I.loc
  refine .cons (by rw[I.ok.kind];decide) hf hn ?_ I.funs
  exact Heap.get?_none_of_le (Nat.le_trans I.ok.bsz I.ok.above)
theorem Inv.stkSub (I:Inv X pins σ H s):∀b ∈ frs X.stack,b ∈ X.env.locals::X.fs:=fun b hb=>by
 rcases I.ok.stk with e | ⟨e,hf⟩
 ·rw[e]at hb;exact List.mem_cons_of_mem _ hb
 ·rw[e]at hb
  unfold frs at hb
  rw[List.filterMap_cons,hf]at hb
  exact hb
theorem Inv.stkFree (I:Inv X pins σ H s):∀b ∈ frs X.stack,H b=none:=fun b hb=>by
 rcases List.mem_cons.mp (I.stkSub b hb)with e | hb
 ·rw[e];exact I.free
 ·obtain⟨_,o,ho,_⟩:=I.ok.funs.mem hb
  exact I.base.free b o ho (I.ok.frf b hb) fun z=>I.ok.exfs b z hb
theorem Inv.step {g':Array GenState} {t':Nat} {d':Drawn} {ch:List Addr} (I:Inv X pins σ H s)
  (hch:∀b ∈ ch,(b ∈ X.ex\/X.s₀.heap.objs.size<=b)/\b ≠ X.env.locals/\(∀ x c,X.env.cells.lookup x=some c->c ≠ b)/\∀p ∈ X.pn++pins,p.1 ≠ b)
  (keep:∀b o,b ≠ X.env.locals->b ∉ X.fs->b ∉ ch->s.heap.get? b=some o->H b=none->h'.get? b=some o)
  (slot:∀b o,b ≠ X.env.locals->b ∈ X.fs->b ∉ ch->s.heap.get? b=some o->H b=none->∃sl,h'.get? b=some {o with slots:=sl}) (free:∀b o,b ∉ ch->s.heap.get? b=some o->H b=none->H' b=none)
  (there:∀b o,b ∉ ch->s.heap.get? b=some o->∃o',h'.get? b=some o')
  (tups:∀b xs,H b=some (.tup xs)->H' b=some (.tup xs)) (frzs:∀b o u,H b=some (.frz o u)->H' b=some (.frz o u)) (tbls:∀b ps,H b=some (.tbl ps)->∃more,H' b=some (.tbl (ps++more)))
  (ns:∀m,s.heap.Ns X.env.locals m->h'.Ns X.env.locals m) (hok:HOk X.prog X.w H' h') (hg:AllBare g'):
  Inv X pins σ H' {s with heap:=h',gens:=g',drawn:=d',toks:=t'}:=by
 have neL:∀b o,X.s₀.heap.get? b=some o->b ≠ X.env.locals:=fun b o e=>Nat.ne_of_lt (Nat.lt_of_lt_of_le (Heap.lt_size e) I.ok.above)
 have neC:∀b o,X.s₀.heap.get? b=some o->b ∉ X.ex->b ∉ ch:=fun b o e hx hb=>by
  rcases(hch b hb).1 with z | z
  ·exact hx z
  ·exact absurd (Nat.lt_of_lt_of_le (Heap.lt_size e) z) (Nat.lt_irrefl _)
 have cellK:∀x c,X.env.cells.lookup x=some c->∀v,s.heap.IsCell c v->h'.IsCell c v:=fun x c e v z1q=>by
  obtain⟨o,ho,hd⟩:=z1q
  have nch:c ∉ ch:=fun z=>(hch c z).2.2.1 x c e rfl
  by_cases hc:c ∈ X.fs
  ·obtain⟨sl,q⟩:=slot c o (I.cne x c e) hc nch ho (I.freeC x c e)
   exact⟨_,q,hd⟩
  ·exact⟨o,keep c o (I.cne x c e) hc nch ho (I.freeC x c e),hd⟩
 refine⟨I.ok,I.os,hg,⟨fun b o e n hb hx=>?_,fun b o e n hb hx=>?_,fun b o e n hx=>?_,fun b o e hx=>?_,fun b xs e=>tups b xs (I.base.tups b xs e),fun b o xs e=>frzs b o xs (I.base.frzs b o xs e),fun b ps e=>?_⟩,?_,fun x c e=>?_,?_,fun x c e=>?_,fun p hp=>?_,hok,I.len⟩
 ·exact keep b o (neL b o e) hb (neC b o e hx) (I.base.keep b o e n hb hx) (I.base.free b o e n hx)
 ·obtain⟨sl,e1⟩:=I.base.slot b o e n hb hx
  obtain⟨sl',e2⟩:=slot b _ (neL b o e) hb (neC b o e hx) e1 (I.base.free b o e n hx)
  exact⟨sl',e2⟩
 ·obtain⟨o',e1⟩:=I.base.there b o e hx
  exact free b o' (neC b o e hx) e1 (I.base.free b o e n hx)
 ·obtain⟨o',e1⟩:=I.base.there b o e hx
  exact there b o' (neC b o e hx) e1
 ·obtain⟨m1,e1⟩:=I.base.tbls b ps e
  obtain⟨m2,e2⟩:=tbls b _ e1
  exact⟨m1++m2,by rw[e2,Array.append_assoc]⟩
 ·obtain⟨m,hn,hl⟩:=I.loc
  refine⟨m,ns m hn,fun i x v e1 e2 e3=>?_⟩
  obtain⟨u,r,l⟩:=hl i x v e1 e2 e3
  refine⟨u,r,?_⟩
  rcases l with l | ⟨k,c,e,z⟩
  ·exact .inl l
  ·exact .inr ⟨k,c,e,cellK x c e _ z⟩
 ·obtain⟨v,z⟩:=I.cell x c e
  exact⟨v,cellK x c e v z⟩
 ·obtain⟨m,⟨o,_,_,ho,_⟩,_⟩:=I.loc
  exact free _ o (fun z=>(hch _ z).2.1 rfl) ho I.free
 ·obtain⟨v,o,ho,hd⟩:=I.cell x c e
  exact free c o (fun z=>(hch c z).2.2.1 x c e rfl) ho (I.freeC x c e)
 ·obtain⟨e,n,ne,nf,d⟩:=I.pin p hp
  have nch:p.1 ∉ ch:=fun z=>(hch p.1 z).2.2.2 p hp rfl
  exact⟨keep p.1 p.2 ne nf nch e n,free p.1 p.2 nch e n,ne,nf,d⟩
theorem Inv.un {t':Nat} (I:Inv X pins σ H s) (u:Un X.fs [] H H' s.heap h') (hok:HOk X.prog X.w H' h'):Inv X pins σ H' {s with heap:=h',toks:=t'}:=by
 obtain⟨m,⟨o,es,ep,ho,r⟩,_⟩:=id I.loc
 obtain⟨sl,hL⟩:=u.any ho I.free (by simp)
 exact I.step (g':=s.gens) (d':=s.drawn) (ch:=[]) (fun _ z=>nomatch z) (fun b o _ hb _ e n=>u.keep b o e n hb (by simp)) (fun b o _ hb _ e n=>u.slot b o e n hb (by simp)) (fun b o _ e n=>u.free b o e n (by simp)) (fun b o _ e=>u.there b o e (by simp)) u.tups u.frzs u.tbls (fun m' hm=>by
  obtain⟨o',es',ep',ho',r'⟩:=hm
  rw[ho]at ho';cases ho'
  exact⟨_,es',ep',hL,r'⟩) hok I.bare
theorem Inv.call {g':Array GenState} {t':Nat} {d':Drawn} {ch:List Addr} (I:Inv X pins σ H s) (u:Un (frs X.stack) ch H H' s.heap h') (hok:HOk X.prog X.w H' h') (hg:AllBare g')
  (hch:∀b ∈ ch,(b ∈ X.ex\/X.s₀.heap.objs.size<=b)/\b ≠ X.env.locals/\(∀ x c,X.env.cells.lookup x=some c->c ≠ b)/\∀p ∈ X.pn++pins,p.1 ≠ b):
  Inv X pins σ H' {s with heap:=h',gens:=g',drawn:=d',toks:=t'}:=by
 obtain⟨m,⟨o,es,ep,ho,r⟩,_⟩:=id I.loc
 obtain⟨sl,hL⟩:=u.any ho I.free fun z=>(hch _ z).2.1 rfl
 exact I.step (ch:=ch) hch (fun b o hL hb hc e n=>u.keep b o e n (fun z=>(List.mem_cons.mp (I.stkSub b z)).elim hL hb) hc) (fun b o _ _ hc e n=>u.any e n hc) (fun b o hc e n=>u.free b o e n hc) (fun b o hc e=>u.there b o e hc) u.tups u.frzs u.tbls (fun m' hm=>by
  obtain⟨o',es',ep',ho',r'⟩:=hm
  rw[ho]at ho';cases ho'
  exact⟨_,es',ep',hL,r'⟩) hok hg
theorem Inv.turned {t':Nat} {it:Addr} (I:Inv X pins σ H s) (k:∀b o,b ≠ it->s.heap.get? b=some o->h'.get? b=some o) (hn:H it=none) (hL:it ≠ X.env.locals)
  (h1:it ∈ X.ex\/X.s₀.heap.objs.size<=it) (h2:∀x c,X.env.cells.lookup x=some c->c ≠ it) (h3:∀p ∈ X.pn++pins,p.1 ≠ it):Inv X pins σ H {s with heap:=h',toks:=t'}:=by
 have nit:∀b u,H b=some u->b ≠ it:=fun b u e z=>by rw[z,hn]at e;cases e
 refine I.step (g':=s.gens) (d':=s.drawn) (ch:=[it]) (fun b hb=>?_) (fun b o _ _ hc e _=>k b o (fun z=>hc (by simp[z])) e) (fun b o _ _ hc e _=>⟨o.slots,k b o (fun z=>hc (by simp[z])) e⟩) (fun _ _ _ _ n=>n)
  (fun b o hc e=>⟨o,k b o (fun z=>hc (by simp[z])) e⟩) (fun _ _ e=>e) (fun _ _ _ e=>e) (fun b ps e=>⟨#[],by rw[e];simp⟩) (fun m hm=>?_) (fun b u e=>?_) I.bare
 ·have e:b=it:=by simpa using hb
  subst e
  exact⟨h1,hL,h2,h3⟩
 ·obtain⟨o,es,ep,ho,r⟩:=hm
  exact⟨o,es,ep,k _ o (Ne.symm hL) ho,r⟩
 ·refine(I.hok b u e).stay (fun c v hc q=>k c v ?_ q) (fun _ q=>q) fun _ _ q=>q
  rcases hc with z | z
  ·rw[z];exact nit b u e
  ·exact nit c _ z
theorem Inv.tok (I:Inv X pins σ H s) (t:Nat):Inv X pins σ H {s with toks:=t}:=I.un (h':=s.heap) (t':=t) Un.refl I.hok
theorem Inv.kept {t':Nat} (I:Inv X pins σ H s) (k:∀b u,s.heap.get? b=some u->h'.get? b=some u):Inv X pins σ H {s with heap:=h',toks:=t'}:=I.un (Un.kept k) (I.hok.kept k)
theorem Inv.laid {a:Addr} {o:HO} {t':Nat} (I:Inv X pins σ H s) (k:∀b u,s.heap.get? b=some u->h'.get? b=some u) (hp:s.heap.objs.size<=a) (new:ObjOk X.prog X.w (upd H a o) h' a o):
  Inv X pins σ (upd H a o) {s with heap:=h',toks:=t'}:=I.un (Un.laid k hp (I.hok.fresh hp)) (I.hok.laid k hp new)
theorem Inv.write {x e:Addr} {o:HO} {t':Nat} (I:Inv X pins σ H s) (mu:Mut (H x)) (he:e=x\/H e=some (.own x)) (k:∀b u,b ≠ e->s.heap.get? b=some u->h'.get? b=some u) (heo:∃u,h'.get? e=some u)
  (new:ObjOk X.prog X.w (upd H x o) h' x o):Inv X pins σ (upd H x o) {s with heap:=h',toks:=t'}:=I.un (Un.write mu he k heo) (I.hok.write mu he k heo new)
theorem Inv.pins_of {pins':List (Addr × Obj)} (I:Inv X pins σ H s) (h:∀p ∈ pins',s.heap.get? p.1=some p.2/\H p.1=none/\p.1 ≠ X.env.locals/\p.1 ∉ X.fs/\∀v,p.2.data ≠ .cell v):Inv X pins' σ H s:=
 ⟨I.ok,I.os,I.bare,I.base,I.loc,I.cell,I.free,I.freeC,fun p hp=>(List.mem_append.mp hp).elim (fun z=>I.pin p (List.mem_append_left _ z)) (h p),I.hok,I.len⟩
theorem nodup_ix {N:List Str} (hN:N.Nodup) {i j:Nat} {x:Str} (a:N[i]?=some x) (b:N[j]?=some x):i=j:=by
 obtain⟨h1,e1⟩:=List.getElem?_eq_some_iff.mp a
 obtain⟨h2,e2⟩:=List.getElem?_eq_some_iff.mp b
 exact(List.getElem_inj hN).mp (e1.trans e2.symm)
theorem store_ok2 {M:Model} {A:Around} {E:Value->Shared->Prop} {i:Nat} {x:Str} {v:V} {u:Value} {Q:Unit->Shared->Prop} (I:Inv X pins σ H s) (hN:X.N.Nodup) (hi:X.N[i]?=some x) (hx:Loc X.env.scope x) (r:RelV v u)
  (h:∀s',Inv X pins (σ.set i (some v)) H s'->(∃ a,Heap.SameBut a s.heap s'.heap/\(a=X.env.locals\/X.env.cells.lookup x=some a))->Q () s') (hf:X.fn x=true\/X.env.scope.names.lookup x=some .local:=by first | exact .inl rfl | exact .inr rfl | assumption):wpAny M A (storeName X.env x u) Q E s:=by
 obtain⟨m,hn,hl⟩:=id I.loc
 have hcls:(X.env.scope.kind == .class || (X.env.scope.kind == .module && X.env.locals != X.env.globals))=false:=by rw[I.ok.kind];rfl
 have hiσ:i < σ.length:=by rw[I.len];exact(List.getElem?_eq_some_iff.mp hi).1
 have cne:=I.cne
 have tracked:∀ {a:Addr} {h':Heap},(∃ o,s.heap.get? a=some o/\H a=none)->Heap.SameBut a s.heap h'->HOk X.prog X.w H h':=fun{a h'} ha hs b ob e=>by
  obtain⟨_,_,hfree⟩:=ha
  refine(I.hok b ob e).stay (fun c w' hc q=>(hs.2 c ?_).trans q) (fun _ q=>q) fun _ _ q=>q
  rintro rfl
  rcases hc with rfl | hc
  ·rw[hfree]at e;cases e
  ·rw[hfree]at hc;cases hc
 rcases hx with hk | hk
 ·refine wpAny_storeName_local hk hn (fun h' hn' hs=>?_) hcls
  obtain⟨oL,_,_,hoL,_⟩:=id hn
  refine h _ ⟨I.ok,I.os,I.bare,⟨fun b o e n hb hx=>?_,fun b o e n hb hx=>?_,I.base.free,fun b o e hx=>?_,I.base.tups,I.base.frzs,I.base.tbls⟩,⟨_,hn',fun j y v' e1 e2 e3=>?_⟩,fun y c e=>?_,I.free,I.freeC,fun p hp=>?_,tracked ⟨oL,hoL,I.free⟩ hs,by simpa using I.len⟩ ⟨_,hs,.inl rfl⟩
  ·exact(hs.2 b (Nat.ne_of_lt (Nat.lt_of_lt_of_le (Heap.lt_size e) I.ok.above))).trans (I.base.keep b o e n hb hx)
  ·obtain⟨sl,e1⟩:=I.base.slot b o e n hb hx
   exact⟨sl,(hs.2 b (Nat.ne_of_lt (Nat.lt_of_lt_of_le (Heap.lt_size e) I.ok.above))).trans e1⟩
  ·obtain⟨o',e1⟩:=I.base.there b o e hx
   exact⟨o',(hs.2 b (Nat.ne_of_lt (Nat.lt_of_lt_of_le (Heap.lt_size e) I.ok.above))).trans e1⟩
  ·by_cases hj:j=i
   ·subst hj
    rw[hi]at e1;cases e1
    rw[List.getElem?_set_self hiσ]at e2
    cases e2
    exact⟨u,r,.inl ⟨hk,by simp⟩⟩
   ·rw[List.getElem?_set_ne (Ne.symm hj)]at e2
    obtain⟨u',r',q⟩:=hl j y v' e1 e2 e3
    refine⟨u',r',?_⟩
    rcases q with ⟨k,e⟩ | ⟨k,c,e,z⟩
    ·refine .inl ⟨k,?_⟩
     have:y ≠ x:=fun e=>hj (nodup_ix hN e1 (e ▸ hi))
     simp[this,e]
    ·exact .inr ⟨k,c,e,z.sameBut hs (cne y c e)⟩
  ·obtain⟨w',z⟩:=I.cell y c e
   exact⟨w',z.sameBut hs (cne y c e)⟩
  ·obtain⟨e,n,ne,nf,d⟩:=I.pin p hp
   exact⟨(hs.2 p.1 ne).trans e,n,ne,nf,d⟩
 ·have hfn:X.fn x=true:=by
   rcases hf with z | z
   ·exact z
   ·rw[z]at hk;cases hk
  obtain⟨c,hc⟩:=I.ok.has x (.inl hk)
  obtain⟨w',z⟩:=I.cell x c hc
  refine wpAny_storeName_cell I.ok.kind hk hc z (fun h' hc' hs=>?_)
  obtain⟨oc,hoc,hocd⟩:=id z
  refine h {s with heap:=h'} ⟨I.ok,I.os,I.bare,⟨fun b o e n hb hx=>?_,fun b o e n hb hx=>?_,I.base.free,fun b o e hx=>?_,I.base.tups,I.base.frzs,I.base.tbls⟩,⟨m,hn.sameBut hs (Ne.symm (cne x c hc)),fun j y v' e1 e2 e3=>?_⟩,fun y c' e=>?_,I.free,I.freeC,fun p hp=>?_,tracked ⟨oc,hoc,I.freeC x c hc⟩ hs,by simpa using I.len⟩ ⟨c,hs,.inr hc⟩
  ·exact(hs.2 b (Nat.ne_of_lt (Nat.lt_of_lt_of_le (Heap.lt_size e) (I.ok.cab x c hfn hc)))).trans (I.base.keep b o e n hb hx)
  ·obtain⟨sl,e1⟩:=I.base.slot b o e n hb hx
   exact⟨sl,(hs.2 b (Nat.ne_of_lt (Nat.lt_of_lt_of_le (Heap.lt_size e) (I.ok.cab x c hfn hc)))).trans e1⟩
  ·obtain⟨o',e1⟩:=I.base.there b o e hx
   exact⟨o',(hs.2 b (Nat.ne_of_lt (Nat.lt_of_lt_of_le (Heap.lt_size e) (I.ok.cab x c hfn hc)))).trans e1⟩
  ·by_cases hj:j=i
   ·subst hj
    rw[hi]at e1;cases e1
    rw[List.getElem?_set_self hiσ]at e2
    cases e2
    exact⟨u,r,.inr ⟨.inl hk,c,hc,hc'⟩⟩
   ·rw[List.getElem?_set_ne (Ne.symm hj)]at e2
    obtain⟨u',r',q⟩:=hl j y v' e1 e2 e3
    refine⟨u',r',?_⟩
    rcases q with q | ⟨k,c',e,z'⟩
    ·exact .inl q
    ·refine .inr ⟨k,c',e,z'.sameBut hs ?_⟩
     rintro rfl
     exact hj (nodup_ix hN e1 (I.ok.inj _ _ _ e hc ▸ hi))
  ·by_cases hcc:c'=c
   ·subst hcc;exact⟨_,hc'⟩
   ·obtain⟨w2,z2⟩:=I.cell y c' e
    exact⟨w2,z2.sameBut hs hcc⟩
  ·obtain⟨e,n,ne,nf,d⟩:=I.pin p hp
   refine⟨(hs.2 p.1 ?_).trans e,n,ne,nf,d⟩
   intro q
   rw[q,hoc]at e
   have q':oc=p.2:=Option.some.inj e
   exact d w' (by rw[<-q'];exact hocd)
theorem store_ok {M:Model} {A:Around} {E:Value->Shared->Prop} {i:Nat} {x:Str} {v:V} {u:Value} {Q:Unit->Shared->Prop} (I:Inv X pins σ H s) (hN:X.N.Nodup) (hi:X.N[i]?=some x) (hx:Loc X.env.scope x) (r:RelV v u)
  (h:∀s',Inv X pins (σ.set i (some v)) H s'->Q () s') (hf:X.fn x=true\/X.env.scope.names.lookup x=some .local:=by first | exact .inl rfl | exact .inr rfl | assumption):wpAny M A (storeName X.env x u) Q E s:=
 store_ok2 I hN hi hx r (fun s' I' _=>h s' I') hf
theorem Inv.call' {s':Shared} {ch:List Addr} (I:Inv X pins σ H s) (ho:s'.os=s.os) (u:Un (frs X.stack) ch H H' s.heap s'.heap) (hok:HOk X.prog X.w H' s'.heap) (hg:AllBare s'.gens)
  (hch:∀b ∈ ch,(b ∈ X.ex\/X.s₀.heap.objs.size<=b)/\b ≠ X.env.locals/\(∀ x c,X.env.cells.lookup x=some c->c ≠ b)/\∀p ∈ X.pn++pins,p.1 ≠ b):Inv X pins σ H' s':=by
 obtain⟨h',g',d',t',o'⟩:=s'
 have e:o'=s.os:=ho
 subst e
 exact I.call (g':=g') (t':=t') (d':=d') u hok hg hch
end
@[reducible] noncomputable def XK:=Value->Option Addr->Hp->Prop
@[reducible] noncomputable def St:=List (Option V)
@[reducible] noncomputable def VK:=V->Hp->Prop
@[reducible] noncomputable def TE:=St->Hp->VK->Prop
@[reducible] noncomputable def TT:=St->Hp->(Bool->Hp->Prop)->Prop
@[reducible] noncomputable def TA:=St->Hp->(List V->Hp->Prop)->Prop
structure Ends where
 nx:St->Hp->Prop
 rt:VK
 bk:St->Hp->Prop:=fun _ _=>False
 ct:St->Hp->Prop:=fun _ _=>False
@[reducible] noncomputable def TS:=Ends->St->Hp->Prop
noncomputable def EP (X:Cx) (pins:List (Addr × Obj)) (σ:St) (Q:VK) (u:Value) (s':Shared):Prop:=∃v H',Inv X pins σ H' s'/\RelV v u/\Q v H'
noncomputable def TP (X:Cx) (pins:List (Addr × Obj)) (σ:St) (Q:Bool->Hp->Prop) (b:Bool) (s':Shared):Prop:=∃H',Inv X pins σ H' s'/\Q b H'
noncomputable def AP (X:Cx) (pins:List (Addr × Obj)) (σ:St) (Q:List V->Hp->Prop) (us:List Value) (s':Shared):Prop:=∃vs H',Inv X pins σ H' s'/\Vals vs us/\Q vs H'
noncomputable def SP (X:Cx) (pins:List (Addr × Obj)) (D:Ends) (f:Flow) (s':Shared):Prop:=
 match f with
 | .next=>∃σ' H',Inv X pins σ' H' s'/\D.nx σ' H'
 | .brk=>∃σ' H',Inv X pins σ' H' s'/\D.bk σ' H'
 | .cont=>∃σ' H',Inv X pins σ' H' s'/\D.ct σ' H'
 | .ret u=>∃v σ' H',Inv X pins σ' H' s'/\RelV v u/\D.rt v H'
noncomputable def PE (X:Cx) (e:Expr) (t:TE):Prop:=
 ∀ (pins:List (Addr × Obj)) (s:Shared) (σ:St) (H:Hp) (Q:VK),Inv X pins σ H s->t σ H Q->wpAny (model X.prog X.w) X.A (eval e X.env) (EP X pins σ Q) X.xe s
noncomputable def PT (X:Cx) (e:Expr) (t:TT):Prop:=
 ∀ (pins:List (Addr × Obj)) (s:Shared) (σ:St) (H:Hp) (Q:Bool->Hp->Prop),Inv X pins σ H s->t σ H Q->wpAny (model X.prog X.w) X.A (isTrue e X.env (eval e X.env)) (TP X pins σ Q) X.xe s
noncomputable def PW (X:Cx) (e:Expr) (t:TT):Prop:=
 ∀ (whole:Sem Value) (pins:List (Addr × Obj)) (s:Shared) (σ:St) (H:Hp) (Q:Bool->Hp->Prop),Inv X pins σ H s->t σ H Q->wpAny (model X.prog X.w) X.A (isTrue e X.env whole) (TP X pins σ Q) X.xe s
theorem PW.pt {X:Cx} {e:Expr} {t:TT} (h:PW X e t):PT X e t:=h _
noncomputable def PA (X:Cx) (es:List Expr) (t:TA):Prop:=
 ∀ (pos:Pos) (pins:List (Addr × Obj)) (s:Shared) (σ:St) (H:Hp) (Q:List V->Hp->Prop),Inv X pins σ H s->t σ H Q->wpAny (model X.prog X.w) X.A (spliced (backTo pos (starEach es X.env))) (AP X pins σ Q) X.xe s
noncomputable def PS (X:Cx) (st:Stmt) (t:TS):Prop:=
 ∀ (pins:List (Addr × Obj)) (s:Shared) (σ:St) (H:Hp) (D:Ends),Inv X pins σ H s->t D σ H->wpAny (model X.prog X.w) X.A (exec st X.env) (SP X pins D) X.xe s
noncomputable def PSs (X:Cx) (st:List Stmt) (t:TS):Prop:=
 ∀ (pins:List (Addr × Obj)) (s:Shared) (σ:St) (H:Hp) (D:Ends),Inv X pins σ H s->t D σ H->wpAny (model X.prog X.w) X.A (execs st X.env) (SP X pins D) X.xe s
theorem thn {α:Type} {t:Sem α} {Q Q':α->Shared->Prop} {M:Model} {A:Around} {E:Value->Shared->Prop} {s:Shared} (h:wpAny M A t Q E s) (hQ:∀a s,Q a s->Q' a s):wpAny M A t Q' E s:=wpAny_mono h hQ fun _ _ x=>x
end L2
namespace L2
set_option genInjectivity false
open PySem PySem.Spec PyProof.Rows
section
variable {X:Cx}
noncomputable def tVar (i:Nat):TE:=fun σ H Q=>∃v,σ[i]?=some (some v)/\Q v H
noncomputable def tC (v:V):TE:=fun _ H Q=>Q v H
theorem pe_var {i:Nat} {x:Str} {pos:Pos} (hN:X.N[i]?=some x) (hv:Vis X.env.scope x) (hd:(x == ("__debug__" :Str))=false:=by decide) (hcd:(x == ("__classdict__" :Str))=false:=by decide):PE X (.Name x pos) (tVar i):=by
 intro pins s σ H Q I h
 obtain⟨v,e,h⟩:=h
 obtain⟨m,hn,hl⟩:=I.loc
 obtain⟨u,r,l⟩:=hl i x v hN e hv
 have fin:EP X pins σ Q u s:=⟨v,H,I,r,h⟩
 rcases l with ⟨hk,hm⟩ | ⟨hk,c,hc,hcell⟩
 ·exact wpAny_Name (wpAny_loadName_local I.ok.kind hk hn hm fin) hd
 ·rcases hk with hk | hk
  ·exact wpAny_Name (wpAny_loadName_cell I.ok.kind hk hc hcell fin) hd
  ·exact wpAny_Name (wpAny_loadName_free I.ok.kind hk hc hcell fin hcd) hd
theorem pe_int {i j pos}:PE X (.Constant (.int i) j pos) (tC (.int i)):=fun _ _ _ H _ I h=>wpAny_Constant_int ⟨.int i,H,I.tok _,⟨_,rfl⟩,h⟩
theorem pe_bl {b j pos}:PE X (.Constant (.bool b) j pos) (tC (.bl b)):=fun _ _ _ H _ I h=>Constant_bool ⟨.bl b,H,I,rfl,h⟩
theorem pe_non {j pos}:PE X (.Constant .none j pos) (tC .non):=fun _ _ _ H _ I h=>Constant_none ⟨.non,H,I,rfl,h⟩
theorem pe_str {x j pos}:PE X (.Constant (.str x) j pos) (tC (.str x)):=fun _ _ _ H _ I h=>Calls.Constant_str ⟨.str x,H,I.tok _,⟨_,rfl⟩,h⟩
noncomputable def Gl (X:Cx) (x:Str):Prop:=X.env.kindOf x=some .globalImplicit
theorem ld_glob {E:Value->Shared->Prop} {pins:List (Addr × Obj)} {s:Shared} {σ:St} {H:Hp} {x:Str} {u:Value} {pos:Pos} {Q:Value->Shared->Prop} (I:Inv X pins σ H s) (hg:Gl X x) (hm:X.mg x=some u) (h:Q u s)
  (hd:(x == ("__debug__" :Str))=false:=by decide):wpAny (model X.prog X.w) X.A (eval (.Name x pos) X.env) Q E s:=
 Calls.Name_function_global I.ok.kind hg (Calls.loadGlobal_global (by rw[I.ok.glob];exact I.mod.glob.keeps I.bk) hm h) hd
theorem ld_blt {E:Value->Shared->Prop} {pins:List (Addr × Obj)} {s:Shared} {σ:St} {H:Hp} {x:Str} {u:Value} {pos:Pos} {Q:Value->Shared->Prop} (I:Inv X pins σ H s) (hg:Gl X x) (hm:X.mg x=none) (hv:bootBuiltins x=some u) (h:Q u s)
  (hn:x ≠ "__name__" :=by decide) (hd:(x == ("__debug__" :Str))=false:=by decide):wpAny (model X.prog X.w) X.A (eval (.Name x pos) X.env) Q E s:=by
 obtain⟨mb,h1,h2⟩:=I.mod.blt
 exact Calls.Name_function_global I.ok.kind hg (Calls.loadGlobal_builtin (by rw[I.ok.glob];exact I.mod.glob.keeps I.bk) hm (by rw[I.ok.blt];exact h1.keeps I.bk) ((h2 x hn).trans hv) h) hd
variable {a b:Expr} {ta tb:TE} {pos:Pos}
variable {tA tB':TT} {rest:List Expr}
noncomputable def tAnd (t u:TT):TT:=fun σ H Q=>t σ H fun c H1=>if c=true then u σ H1 Q else Q false H1
noncomputable def tOr (t u:TT):TT:=fun σ H Q=>t σ H fun c H1=>if c=true then Q true H1 else u σ H1 Q
noncomputable def tNot (t:TT):TT:=fun σ H Q=>t σ H fun c H1=>Q (!c) H1
theorem pw_and1 (ha:PT X a tA):PW X (.BoolOp .And [a] pos) tA:=by
 intro wh pins s σ H Q I h
 refine isTrue_and (thn (ha pins s σ H Q I h) fun c s1 e=>?_)
 cases c with
 | true=>exact isTrue_and_nil e
 | false=>exact e
theorem pw_or1 (ha:PT X a tA):PW X (.BoolOp .Or [a] pos) tA:=by
 intro wh pins s σ H Q I h
 refine isTrue_or (thn (ha pins s σ H Q I h) fun c s1 e=>?_)
 cases c with
 | false=>exact isTrue_or_nil e
 | true=>exact e
theorem pw_and (ha:PT X a tA) (hb:PW X (.BoolOp .And (b::rest) pos) tB'):PW X (.BoolOp .And (a::b::rest) pos) (tAnd tA tB'):=by
 intro wh pins s σ H Q I h
 refine isTrue_and (thn (ha pins s σ H _ I h) fun c s1 z2q=>?_)
 obtain⟨H1,I1,q1⟩:=z2q
 cases c with
 | true=>exact hb wh pins s1 σ H1 Q I1 q1
 | false=>exact⟨H1,I1,q1⟩
theorem pw_or (ha:PT X a tA) (hb:PW X (.BoolOp .Or (b::rest) pos) tB'):PW X (.BoolOp .Or (a::b::rest) pos) (tOr tA tB'):=by
 intro wh pins s σ H Q I h
 refine isTrue_or (thn (ha pins s σ H _ I h) fun c s1 z3q=>?_)
 obtain⟨H1,I1,q1⟩:=z3q
 cases c with
 | true=>exact⟨H1,I1,q1⟩
 | false=>exact hb wh pins s1 σ H1 Q I1 q1
theorem pt_not (ha:PT X a tA):PT X (.UnaryOp .Not a pos) (tNot tA):=by
 intro pins s σ H Q I h
 exact isTrue_not (ha pins s σ H (fun c H1=>Q (!c) H1) I h)
theorem pe_one {op} {t:TE} (h:PE X a t):PE X (.BoolOp op [a] pos) t:=fun pins s σ H Q I hw=>BoolOp_one (h pins s σ H Q I hw)
noncomputable def tIf (t:TT) (ta tb:TE):TE:=fun σ H Q=>t σ H fun c H1=>if c=true then ta σ H1 Q else tb σ H1 Q
theorem pe_ifExp {c:Expr} (hc:PT X c tA) (ha:PE X a ta) (hb:PE X b tb):PE X (.IfExp c a b pos) (tIf tA ta tb):=by
 intro pins s σ H Q I h
 refine wpAny_IfExp (thn (hc pins s σ H _ I h) fun d s1 z4q=>?_)
 obtain⟨H1,I1,q1⟩:=z4q
 cases d with
 | true=>exact ha pins s1 σ H1 Q I1 q1
 | false=>exact hb pins s1 σ H1 Q I1 q1
end
end L2
namespace L2
set_option genInjectivity false
open PySem PySem.Spec PyProof.Rows
noncomputable def SqL (K:PySem.W.Frag) (H:Hp) (a:Addr) (xs:List V):Prop:=
 Rd H a (.lst xs)\/
  ∃ (o:Obj) (its:Array Value) (n:Nat),K.lookup a=some o/\o.cls=.type "list" /\o.dict=none/\o.data=.seq its n/\its.size<=sizeLine/\Vals xs its.toList
noncomputable def SqT (K:PySem.W.Frag) (H:Hp) (a:Addr) (xs:List V):Prop:=
 Rd H a (.tup xs)\/
  ∃ (o:Obj) (its:Array Value) (n:Nat),K.lookup a=some o/\o.cls=.type "tuple" /\o.data=.seq its n/\its.size<=sizeLine/\Vals xs its.toList
noncomputable def absV:Value->Option V
 | .none=>some .non
 | .bool b=>some (.bl b)
 | .int i _=>some (.int i)
 | .str x _=>some (.str x)
 | .bytes b _=>some (.byt b)
 | .float b _=>some (.flt b)
 | .ref a=>some (.ref a)
 | .type n=>some (.ty n)
 | _=>none
theorem RelV.abs {x:V} {u:Value} (r:RelV x u):absV u=some x:=by
 cases x with
 | non=>cases r;rfl
 | bl _=>cases r;rfl
 | int _=>obtain⟨t,rfl⟩:=r;rfl
 | str _=>obtain⟨t,rfl⟩:=r;rfl
 | byt _=>obtain⟨t,rfl⟩:=r;rfl
 | flt _=>obtain⟨t,rfl⟩:=r;rfl
 | ref _=>cases r;rfl
 | ty _=>cases r;rfl
theorem RelV.inj {x y:V} {u:Value} (r:RelV x u) (q:RelV y u):x=y:=Option.some.inj (r.abs.symm.trans q.abs)
theorem Vals.inj:∀ {xs ys:List V} {us:List Value},Vals xs us->Vals ys us->xs=ys
 | _,_,_,.nil,.nil=>rfl
 | _,_,_,.cons r t,.cons r' t'=>by rw[r.inj r',Vals.inj t t']
section
variable {X:Cx} {pins:List (Addr × Obj)} {σ:St} {H:Hp} {s:Shared} {a:Addr} {xs ys:List V}
theorem Inv.list (I:Inv X pins σ H s) (h:SqL X.K H a xs):∃its:List Value,Vals xs its/\PlainL s.heap a its.toArray/\xs.length<=sizeLine:=by
 rcases h with h | ⟨o,its,n,hk,hc,hd,hs,hz,r⟩
 ·obtain⟨z,its,n,r,e⟩:=h.ok I.hok
  exact⟨its,r,⟨_,n,e,rfl,rfl,rfl⟩,z⟩
 ·refine⟨its.toList,r,⟨o,n,I.kIn a o hk,hc,hd,by simpa using hs⟩,?_⟩
  have e:=r.length
  simp only[Array.length_toList]at e
  omega
theorem Inv.tuple (I:Inv X pins σ H s) (h:SqT X.K H a xs):∃its:List Value,Vals xs its/\IsTup s.heap a its.toArray/\xs.length<=sizeLine:=by
 rcases h with h | ⟨o,its,n,hk,hc,hs,hz,r⟩
 ·obtain⟨z,its,r,p⟩:=h.ok I.hok
  exact⟨its,r,p,z⟩
 ·refine⟨its.toList,r,⟨o,I.kIn a o hk,hc,n,by simpa using hs⟩,?_⟩
  have e:=r.length
  simp only[Array.length_toList]at e
  omega
theorem Inv.list_inj (I:Inv X pins σ H s) (h:SqL X.K H a xs) (h':SqL X.K H a ys):xs=ys:=by
 obtain⟨its,r,⟨o,n,e,_,_,d⟩,_⟩:=I.list h
 obtain⟨its',r',⟨o',n',e',_,_,d'⟩,_⟩:=I.list h'
 rw[e]at e';cases e'
 rw[d]at d'
 injection d' with d1 _
 have:its=its':=by simpa using congrArg Array.toList d1
 subst this
 exact r.inj r'
end
@[reducible] noncomputable def Cx.wish (X:Cx) (E:Value->Shared->Prop):Cx:={X with xe:=E}
@[reducible] noncomputable def Cx.nox (X:Cx):Cx:=X.wish fun _ _=>False
theorem Cx.Ok.wish {X:Cx} (ok:X.Ok) (E:Value->Shared->Prop):(X.wish E).Ok:=
 ⟨ok.mod,ok.kind,ok.glob,ok.blt,ok.above,ok.inj,ok.has,ok.cab,ok.hd,ok.frames,ok.stk,ok.exf,ok.bs,ok.bsz,ok.noex,ok.exfs,ok.funs,ok.frf⟩
theorem Cx.Ok.unwish {X:Cx} {E:Value->Shared->Prop} (ok:(X.wish E).Ok):X.Ok:=
 ⟨ok.mod,ok.kind,ok.glob,ok.blt,ok.above,ok.inj,ok.has,ok.cab,ok.hd,ok.frames,ok.stk,ok.exf,ok.bs,ok.bsz,ok.noex,ok.exfs,ok.funs,ok.frf⟩
section
variable {X:Cx} {pins:List (Addr × Obj)} {σ:St} {H:Hp} {s:Shared} {E:Value->Shared->Prop}
theorem Inv.wish (I:Inv X pins σ H s) (E:Value->Shared->Prop):Inv (X.wish E) pins σ H s:=⟨I.ok.wish E,I.os,I.bare,I.base,I.loc,I.cell,I.free,I.freeC,I.pin,I.hok,I.len⟩
theorem Inv.unwish (I:Inv (X.wish E) pins σ H s):Inv X pins σ H s:=⟨I.ok.unwish,I.os,I.bare,I.base,I.loc,I.cell,I.free,I.freeC,I.pin,I.hok,I.len⟩
theorem SP.unwish {D:Ends} {f:Flow} {s':Shared} (h:SP (X.wish E) pins D f s'):SP X pins D f s':=by
 cases f with
 | next=>obtain⟨σ',H',I,q⟩:=h;exact⟨σ',H',I.unwish,q⟩
 | brk=>obtain⟨σ',H',I,q⟩:=h;exact⟨σ',H',I.unwish,q⟩
 | cont=>obtain⟨σ',H',I,q⟩:=h;exact⟨σ',H',I.unwish,q⟩
 | ret u=>obtain⟨v,σ',H',I,r,q⟩:=h;exact⟨v,σ',H',I.unwish,r,q⟩
end
section
variable {X:Cx} {st:Stmt} {rest:List Stmt} {t u:TS} {e:Expr} {te:TE} {pos:Pos}
noncomputable def tNext:TS:=fun D σ H=>D.nx σ H
noncomputable def tSeq (t u:TS):TS:=fun D σ H=>t {D with nx:=u D} σ H
theorem pss_nil:PSs X [] tNext:=fun _ _ σ H _ I h=>wpAny_execs_nil ⟨σ,H,I,h⟩
theorem pss_cons (h1:PS X st t) (h2:PSs X rest u):PSs X (st::rest) (tSeq t u):=by
 intro pins s σ H D I h
 refine wpAny_execs_cons (thn (h1 pins s σ H {D with nx:=u D} I h) fun f s1 q=>?_)
 cases f with
 | next=>
  obtain⟨σ',H',I',q⟩:=q
  exact h2 pins s1 σ' H' D I' q
 | ret v=>exact q
 | brk=>exact q
 | cont=>exact q
theorem pss_one (h1:PS X st t):PSs X [st] t:=by
 intro pins s σ H D I h
 refine wpAny_execs_cons (thn (h1 pins s σ H D I h) fun f s1 q=>?_)
 cases f with
 | next=>exact wpAny_execs_nil q
 | ret v=>exact q
 | brk=>exact q
 | cont=>exact q
theorem Inv.quiet {pins:List (Addr × Obj)} {σ:St} {H:Hp} {s:Shared} (I:Inv X pins σ H s):interactive X.env=false:=by simp[interactive,I.ok.kind]
noncomputable def tDrop (te:TE):TS:=fun D σ H=>te σ H fun _ H1=>D.nx σ H1
theorem ps_expr (he:PE X e te) (hs:swapsWith e none pos.line X.env=pure false:=by rfl):PS X (.Expr e pos) (tDrop te):=by
 intro pins s σ H D I h
 exact wpAny_Expr_any (thn (he pins s σ H _ I h) fun v s1 z5q=>by obtain⟨x,H1,I1,r1,q1⟩:=z5q;exact⟨σ,H1,I1,q1⟩) I.quiet hs
noncomputable def tRet (te:TE):TS:=fun D σ H=>te σ H D.rt
theorem ps_ret (he:PE X e te):PS X (.Return (some e) pos) (tRet te):=by
 intro pins s σ H D I h
 exact wpAny_Return_some (thn (he pins s σ H _ I h) fun v s1 z6q=>by obtain⟨x,H1,I1,r1,q1⟩:=z6q;exact⟨x,σ,H1,I1,r1,q1⟩)
noncomputable def tIfS (c:TT) (t u:TS):TS:=fun D σ H=>c σ H fun b H1=>if b=true then t D σ H1 else u D σ H1
theorem ps_if {c:Expr} {a b:List Stmt} {tc:TT} (hc:PT X c tc) (ha:PSs X a t) (hb:PSs X b u):PS X (.If c a b pos) (tIfS tc t u):=by
 intro pins s σ H D I h
 refine wpAny_If (thn (hc pins s σ H _ I h) fun d s1 z7q=>?_)
 obtain⟨H1,I1,q1⟩:=z7q
 cases d with
 | true=>exact ha pins s1 σ H1 D I1 q1
 | false=>exact hb pins s1 σ H1 D I1 q1
end
@[reducible] noncomputable def TG:=V->St->Hp->(St->Hp->Prop)->Prop
@[reducible] noncomputable def TGs:=List V->St->Hp->(St->Hp->Prop)->Prop
noncomputable def PG (X:Cx) (target:Expr) (t:TG):Prop:=
 ∀ (pins:List (Addr × Obj)) (s:Shared) (σ:St) (H:Hp) (v:V) (u:Value) (Q:St->Hp->Prop),Inv X pins σ H s->RelV v u->t v σ H Q->
  wpAny (model X.prog X.w) X.A (assign target X.env u) (fun _ s'=>∃σ' H',Inv X pins σ' H' s'/\Q σ' H') X.xe s
noncomputable def PGs (X:Cx) (ts:List Expr) (t:TGs):Prop:=
 ∀ (pins:List (Addr × Obj)) (s:Shared) (σ:St) (H:Hp) (vs:List V) (us:List Value) (Q:St->Hp->Prop),Inv X pins σ H s->Vals vs us->t vs σ H Q->
  wpAny (model X.prog X.w) X.A (assignInOrder ((assignEach ts X.env).map (·.2)) us) (fun _ s'=>∃σ' H',Inv X pins σ' H' s'/\Q σ' H') X.xe s
@[reducible] noncomputable def TSet:=V->V->V->Hp->(Hp->Prop)->Prop
noncomputable def PSet (X:Cx) (t:TSet):Prop:=
 ∀ (pins:List (Addr × Obj)) (s:Shared) (σ:St) (H:Hp) (o i v:V) (ov iv u:Value) (Q:Hp->Prop),Inv X pins σ H s->RelV o ov->RelV i iv->RelV v u->t o i v H Q->
  wpAny (model X.prog X.w) X.A (setItem ov iv u) (fun _ s'=>∃H',Inv X pins σ H' s'/\Q H') X.xe s
section
variable {X:Cx} {pos:Pos}
noncomputable def gName (i:Nat):TG:=fun v σ H Q=>Q (σ.set i (some v)) H
theorem pg_name {i:Nat} {x:Str} (hN:X.N.Nodup) (hi:X.N[i]?=some x) (hx:Loc X.env.scope x) (hf:X.fn x=true\/X.env.scope.names.lookup x=some .local:=by first | exact .inl rfl | exact .inr rfl | assumption):PG X (.Name x pos) (gName i):=by
 intro pins s σ H v u Q I r h
 exact wpAny_assign_Name (store_ok I hN hi hx r (fun s' I'=>⟨_,H,I',h⟩) hf)
noncomputable def gNil:TGs:=fun vs σ H Q=>vs=[]/\Q σ H
noncomputable def gCons (t:TG) (u:TGs):TGs:=fun vs σ H Q=>∃v r,vs=v::r/\t v σ H fun σ' H'=>u r σ' H' Q
theorem pgs_nil:PGs X [] gNil:=by
 intro pins s σ H vs us Q I r h
 obtain⟨e,h⟩:=h
 subst e
 cases r
 exact assignInOrder_nil ⟨σ,H,I,h⟩
theorem pgs_cons {e:Expr} {es:List Expr} {t:TG} {u:TGs} (h1:PG X e t) (h2:PGs X es u)
  (hs:(assignEach (e::es) X.env).map (·.2)=assign e X.env::(assignEach es X.env).map (·.2):=by rfl):PGs X (e::es) (gCons t u):=by
 intro pins s σ H vs us Q I r h
 obtain⟨v,vr,e1,h⟩:=h
 subst e1
 cases r with
 | cons r rr=>
  rw[hs]
  refine assignInOrder_cons (thn (h1 pins s σ H _ _ _ I r h) fun _ s1 z8q=>?_)
  obtain⟨σ1,H1,I1,q1⟩:=z8q
  exact h2 pins s1 σ1 H1 _ _ Q I1 rr q1
noncomputable def gTup (K:PySem.W.Frag) (n:Nat) (t:TGs):TG:=fun v σ H Q=>∃a xs,v=.ref a/\SqT K H a xs/\xs.length=n/\t xs σ H Q
theorem pg_tup {es:List Expr} {k:Nat} {t:TGs} {n:Nat} (hc:X.calm=true) (h:PGs X es t)
  (hn:(assignEach es X.env).length=n:=by rfl) (hst:(assignEach es X.env).findIdx? (·.1)=none:=by rfl):PG X (.Tuple es k pos) (gTup X.K n t):=by
 intro pins s σ H v u Q I r hw
 obtain⟨a,xs,e1,hq,hl,hw⟩:=hw
 subst e1
 cases r
 obtain⟨its,rv,ht,hz⟩:=I.tuple hq
 refine assign_Tuple_tuple (I.ok.hd hc) ht (by simp[hn,<-hl,rv.length]) hst fun h' hx=>?_
 have I1:Inv X pins σ H {s with heap:=h'}:=I.kept (t':=s.toks) fun b o e=>hx b o (Nat.ne_of_lt (Heap.lt_size e)) e
 exact h pins _ σ H xs _ Q I1 (by simpa using rv) hw
noncomputable def tAsg (te:TE) (g:TG):TS:=fun D σ H=>te σ H fun x H1=>g x σ H1 D.nx
theorem ps_set {i:Nat} {x:Str} {e:Expr} {te:TE} {pos':Pos} (hN:X.N.Nodup) (hi:X.N[i]?=some x) (hx:Loc X.env.scope x) (he:PE X e te) (hs:swapsWith e (some (.Name x pos')) pos.line X.env=pure false:=by rfl) (hf:X.fn x=true\/X.env.scope.names.lookup x=some .local:=by first | exact .inl rfl | exact .inr rfl | assumption):
  PS X (.Assign [.Name x pos'] e pos) (tAsg te (gName i)):=by
 intro pins s σ H D I h
 refine wpAny_Assign_Name (thn (he pins s σ H _ I h) fun v s1 z9q=>?_) hs
 obtain⟨y,H1,I1,r1,q1⟩:=z9q
 exact store_ok I1 hN hi hx r1 (fun s2 I2=>⟨_,H1,I2,q1⟩) hf
end
section
variable {X:Cx} {pos:Pos}
noncomputable def tWhile (c:TT) (tb:TS):TS:=fun D σ H=>∃W:Nat->St->Hp->Prop,(∃ m,W m σ H)/\∀m σ H,W m σ H->
 c σ H fun b H1=>if b=true then ∃N:St->Hp->Prop,(∀ σ' H',N σ' H'->∃m',m' < m/\W m' σ' H')/\tb {D with nx:=N,ct:=N,bk:=D.nx} σ H1 else D.nx σ H1
theorem ps_while {c:Expr} {body:List Stmt} {tc:TT} {tb:TS} (hp:PassesOwn (model X.prog X.w) X.A X.env X.xe) (hc:PT X c tc) (hb:PSs X body tb):PS X (.While c body [] pos) (tWhile tc tb):=by
 intro pins s σ H D I h
 obtain⟨W,⟨m0,w0⟩,turn⟩:=h
 refine wpAny_While (codeAny_whileLoop (fun n s'=>∃σ' H',Inv X pins σ' H' s'/\W n σ' H') ?_ m0 ⟨σ,H,I,w0⟩)
 rintro n s1 ⟨σ1,H1,I1,w1⟩
 refine wpAny_passesOwn hp (thn (hc pins s1 σ1 H1 _ I1 (turn n σ1 H1 w1)) fun b s2 z10q=>?_)
 obtain⟨H2,I2,q2⟩:=z10q
 cases b with
 | true=>
  obtain⟨N,hN,q2⟩:=q2
  (first | with_reducible refine Eq.mpr (if_pos rfl) ?_ | rw[if_pos rfl])
  refine wpAny_passesOwn hp (thn (hb pins s2 σ1 H2 _ I2 q2) fun f s3 q3=>?_)
  cases f with
  | next=>
   obtain⟨σ3,H3,I3,n3⟩:=q3
   obtain⟨m',hm,w3⟩:=hN σ3 H3 n3
   exact⟨m',hm,σ3,H3,I3,w3⟩
  | cont=>
   obtain⟨σ3,H3,I3,n3⟩:=q3
   obtain⟨m',hm,w3⟩:=hN σ3 H3 n3
   exact⟨m',hm,σ3,H3,I3,w3⟩
  | brk=>exact q3
  | ret v=>exact q3
 | false=>
  (first | with_reducible refine Eq.mpr (if_neg Bool.false_ne_true) ?_ | rw[if_neg Bool.false_ne_true])
  exact wpAny_execs_nil ⟨σ1,H2,I2,q2⟩
end
structure It where
 go:Nat->Hp->Prop
 yld:Nat->Hp->V->Hp->Prop
 stop:Nat->Hp->Prop
noncomputable def FpOk (X:Cx) (pins:List (Addr × Obj)) (H:Hp) (b:Addr):Prop:=
 H b=none/\b ≠ X.env.locals/\b ∉ X.fs/\(b ∈ X.ex\/X.s₀.heap.objs.size<=b)/\(∀ x c,X.env.cells.lookup x=some c->c ≠ b)/\∀p ∈ X.pn++pins,p.1 ≠ b
theorem Inv.fpOk {X:Cx} {pins:List (Addr × Obj)} {σ:St} {H H':Hp} {s:Shared} {b:Addr} (I:Inv X pins σ H s) (hb:s.heap.objs.size<=b) (hn:H' b=none):FpOk X pins H' b:=by
 refine⟨hn,Nat.ne_of_gt (Nat.lt_of_lt_of_le I.lt hb),I.nofs hb,.inr (Nat.le_trans I.sz hb),fun x c e z=>?_,fun p hp z=>?_⟩
 ·obtain⟨v,q⟩:=I.cell x c e
  exact absurd (Nat.lt_of_lt_of_le q.lt (by rw[z];exact hb)) (Nat.lt_irrefl _)
 ·exact absurd (Nat.lt_of_lt_of_le (Heap.lt_size (I.pin p hp).1) (by rw[z];exact hb)) (Nat.lt_irrefl _)
structure Turn (P:Program) (w:World) (K:PySem.W.Frag) (tg:Expr) (J:It) (fp:List Addr) (it:Addr) (tn:Nat->Heap->Prop):Prop where
 mem:it ∈ fp
 obj:∀i h,tn i h->∀b ∈ fp,∃o,h.get? b=some o/\∀v,o.data ≠ .cell v
 keep:∀i h h',tn i h->(∀ b ∈ fp,∀o,h.get? b=some o->h'.get? b=some o)->tn i h'
 item:∀ (X:Cx),X.prog=P->X.w=w->X.K=K->X.calm=true->∀ (i:Nat) (pins:List (Addr × Obj)) (s:Shared) (σ:St) (H:Hp) (E:Value->Shared->Prop),Inv X pins σ H s->(∀ b ∈ fp,FpOk X pins H b)->tn i s.heap->J.go i H->
  wpAny (model P w) X.A (pyNext (.ref it)) (fun r s1=>∃u,r=some u/\
   wpAny (model P w) X.A (letOwnedTupleGo tg (.ref it) u) (fun _ s2=>∃x H',Inv X pins σ H' s2/\RelV x u/\J.yld i H x H'/\tn (i + 1) s2.heap/\∀b ∈ fp,H' b=none) E s1) E s
 done:∀ (X:Cx),X.prog=P->X.w=w->X.K=K->X.calm=true->∀ (i:Nat) (pins:List (Addr × Obj)) (s:Shared) (σ:St) (H:Hp) (E:Value->Shared->Prop),Inv X pins σ H s->(∀ b ∈ fp,FpOk X pins H b)->tn i s.heap->J.stop i H->
  wpAny (model P w) X.A (pyNext (.ref it)) (fun r s1=>r=none/\Inv X pins σ H s1) E s
 self:∀ (A:Around) (i:Nat) (s:Shared) (Q:Value->Shared->Prop) (E:Value->Shared->Prop),tn i s.heap->Q (.ref it) s->wpAny (model P w) A (pyIter (.ref it)) Q E s
@[reducible] noncomputable def TI:=St->Hp->(It->Hp->Prop)->Prop
noncomputable def PIE (X:Cx) (pins:List (Addr × Obj)) (σ:St) (tg:Expr) (R:It->Hp->Prop) (itv:Value) (s2:Shared):Prop:=
 ∃ (it:Addr) (fp:List Addr) (tn:Nat->Heap->Prop) (J:It) (H':Hp),itv=.ref it/\Inv X pins σ H' s2/\Turn X.prog X.w X.K tg J fp it tn/\tn 0 s2.heap/\(∀ b ∈ fp,FpOk X pins H' b)/\R J H'
noncomputable def PI (X:Cx) (tg iter:Expr) (wi:TI):Prop:=
 ∀ (pins:List (Addr × Obj)) (s:Shared) (σ:St) (H:Hp) (R:It->Hp->Prop),Inv X pins σ H s->wi σ H R->
  wpAny (model X.prog X.w) X.A (eval iter X.env) (fun v s1=>wpAny (model X.prog X.w) X.A (pyIter v) (PIE X pins σ tg R) X.xe s1) X.xe s
theorem go_of {M:Model} {A:Around} {E:Value->Shared->Prop} {s:Shared} {tg:Expr} {it:Addr} {u:Value} {o:Obj} {n:String} {vs:Array Value} {Q:Unit->Shared->Prop} (ho:s.heap.get? it=some o) (hc:o.cls=.type n) (hd:o.data=.fields vs)
  (hn:["enumerate","zip","dict_itemiterator","dict_reverseitemiterator","odict_iterator","itertools.zip_longest","itertools.pairwise"].contains n=false) (hQ:Q () s):wpAny M A (letOwnedTupleGo tg (.ref it) u) Q E s:=by
 unfold letOwnedTupleGo
 cases tg<;>first
  | exact wpAny_pure hQ
  | (cases u<;>first
    | exact wpAny_pure hQ
    | (refine wpAny_bind (wpAny_load ho ?_)
       rw[hc,hd]
       show wpAny M A (if(["enumerate","zip","dict_itemiterator","dict_reverseitemiterator","odict_iterator","itertools.zip_longest","itertools.pairwise"].contains n && vs[0]? == some (rawInt _))=true then _ else _) Q E s
       (first | with_reducible refine Eq.mpr (if_neg (by intro h;rw[hn,Bool.false_and]at h;cases h)) ?_ | rw[if_neg (by intro h;rw[hn,Bool.false_and]at h;cases h)])
       exact wpAny_pure hQ))
noncomputable def Itl (K:PySem.W.Frag) (a:Addr):It:=
 ⟨fun i H=>∃xs x,SqL K H a xs/\xs[i]?=some x,fun i H x H'=>H'=H/\∀xs,SqL K H a xs->xs[i]?=some x,fun i H=>∃xs,SqL K H a xs/\xs.length<=i⟩
noncomputable def Itr (lo:Int) (n:Nat):It:=⟨fun i _=>i < n,fun i H x H'=>H'=H/\x=.int (lo + i),fun i _=>n<=i⟩
theorem turn_list {P:Program} {w:World} {K:PySem.W.Frag} {tg:Expr} (a it:Addr):Turn P w K tg (Itl K a) [it] it (fun i h=>h.IsListIter it a i) where
 mem:=by simp
 obj:=fun i h st b hb=>by
  have e:b=it:=by simpa using hb
  subst e
  obtain⟨o,e,c,d⟩:=st
  exact⟨o,e,fun v z=>by rw[d]at z;cases z⟩
 keep:=fun i h h' st k=>st.at fun o e=>k it (by simp) o e
 item:=by
  intro X hP hw hK hc i pins s σ H E I hf st hg
  subst hP hw hK
  obtain⟨xs,x,hq,hx⟩:=hg
  obtain⟨its,rv,p,hz⟩:=I.list hq
  obtain⟨u,hu,ru⟩:=rv.get hx
  obtain⟨f0,f1,f2,f3,f4,f5⟩:=hf it (by simp)
  refine wpAny_pyNext_list_item st p.isList (x:=u) (by simpa using hu) fun h' st' sb=>?_
  have I1:Inv X pins σ H {s with heap:=h'}:=I.turned (t':=s.toks) (fun b o hb e=>(sb.2 b hb).trans e) f0 f1 f3 f4 f5
  obtain⟨o,e,c,d⟩:=id st'
  exact⟨u,rfl,go_of (s:={s with heap:=h'}) e c d (by decide) ⟨x,H,I1,ru,⟨rfl,fun ys hy=>by rw[I.list_inj hy hq];exact hx⟩,st',fun b hb=>(hf b hb).1⟩⟩
 done:=by
  intro X hP hw hK hc i pins s σ H E I hf st hg
  subst hP hw hK
  obtain⟨xs,hq,hx⟩:=hg
  obtain⟨its,rv,p,hz⟩:=I.list hq
  obtain⟨f0,f1,f2,f3,f4,f5⟩:=hf it (by simp)
  have hl:=rv.length
  exact wpAny_pyNext_list_end (I.ok.hd hc) st p.isList (by simp;omega) fun h' eb=>⟨rfl,I.turned (t':=s.toks) (fun b o hb e=>eb b o hb e) f0 f1 f3 f4 f5⟩
 self:=fun _ _ _ _ _ st h=>wpAny_pyIter_listiter st h
theorem turn_range {P:Program} {w:World} {K:PySem.W.Frag} {tg:Expr} (it:Addr) (lo:Int) (n:Nat):Turn P w K tg (Itr lo n) [it] it (fun i h=>IsRangeIter h it (lo + (i:Nat) * 1) ((n:Int) - (i:Nat)) 1) where
 mem:=by simp
 obj:=fun i h st b hb=>by
  have e:b=it:=by simpa using hb
  subst e
  exact⟨_,st,fun v z=>by
   have z':Data.fields _=Data.cell v:=z
   cases z'⟩
 keep:=fun i h h' st k=>k it (by simp) _ st
 item:=by
  intro X hP hw hK hc i pins s σ H E I hf st hg
  subst hP hw hK
  obtain⟨f0,f1,f2,f3,f4,f5⟩:=hf it (by simp)
  have W:=Walks.range (prog:=X.prog) (w:=X.w) (I.ok.hd hc) it lo 1 n
  refine W.item i s _ _ hg st fun v h' tk hv st' kk=>?_
  obtain⟨t,rfl⟩:=hv
  have I1:Inv X pins σ H {s with heap:=h',toks:=tk}:=I.turned (fun b o hb e=>kk b o (by simpa using hb) e) f0 f1 f3 f4 f5
  refine⟨_,rfl,go_of (s:={s with heap:=h',toks:=tk}) (n:= "range_iterator") st' rfl rfl (by decide) ⟨.int (lo + i),H,I1,⟨t,?_⟩,⟨rfl,rfl⟩,st',fun b hb=>(hf b hb).1⟩⟩
  rw[Int.mul_one]
 done:=by
  intro X hP hw hK hc i pins s σ H E I hf st hg
  subst hP hw hK
  obtain⟨f0,f1,f2,f3,f4,f5⟩:=hf it (by simp)
  exact wpAny_pyNext_range_end (I.ok.hd hc) st (by have:n<=i:=hg;omega) fun h' eb=>⟨rfl,I.turned (t':=s.toks) (fun b o hb e=>eb b o hb e) f0 f1 f3 f4 f5⟩
 self:=fun _ _ _ _ _ st h=>wpAny_pyIter_rangeiter st h
end L2
namespace L2
set_option genInjectivity false
open PySem PySem.Spec PyProof.Rows
section
variable {X:Cx} {tg:Expr}
theorem range_it {pins:List (Addr × Obj)} {σ:St} {H:Hp} {s:Shared} {R:It->Hp->Prop} {E:Value->Shared->Prop} {lo hi:Int} {t u v:Tok} {tk:Nat} (I:Inv X pins σ H s) (h1: -(2 ^ 62)<=lo) (h2:lo < 2 ^ 62) (h3: -(2 ^ 62)<=hi) (h4:hi < 2 ^ 62)
  (q:R (Itr lo (hi - lo).toNat) H):wpAny (model X.prog X.w) X.A (pyIter (.ref s.heap.objs.size)) (PIE X pins σ tg R) E {s with heap:=s.heap.push {cls:=.type "range",data:=.fields #[.int lo t,.int hi u,.int 1 v]},toks:=tk}:=by
 refine wpAny_pyIter_range (IsRange.new ..) (small_one h1 h2 h3 h4) ?_
 have I1:Inv X pins σ H {s with heap:=s.heap.push {cls:=.type "range",data:=.fields #[.int lo t,.int hi u,.int 1 v]},toks:=tk}:=I.kept fun b o e=>Heap.get?_push_of_some _ e
 refine⟨(s.heap.push {cls:=.type "range",data:=.fields #[.int lo t,.int hi u,.int 1 v]}).objs.size,[(s.heap.push {cls:=.type "range",data:=.fields #[.int lo t,.int hi u,.int 1 v]}).objs.size],_,_,H,rfl,
  I1.kept (t':=tk) fun b o e=>Heap.get?_push_of_some _ e,turn_range _ lo (hi - lo).toNat,?_,fun b hb=>?_,q⟩
 ·have e1:lo + ((0:Nat):Int) * 1=lo:=by simp
  have e2:(((hi - lo).toNat:Nat):Int) - ((0:Nat):Int)=Builtin.Range.rangeSize lo hi 1:=by rw[rangeSize_one];split<;>omega
  show IsRangeIter _ _ (lo + ((0:Nat):Int) * 1) ((((hi - lo).toNat:Nat):Int) - ((0:Nat):Int)) 1
  rw[e1,e2]
  exact Heap.get?_push_size _ rfl
 ·have e:b=(s.heap.push {cls:=.type "range",data:=.fields #[.int lo t,.int hi u,.int 1 v]}).objs.size:=by simpa using hb
  subst e
  exact I1.fpOk (Nat.le_refl _) (I1.hok.fresh (Nat.le_refl _))
noncomputable def tFor (wi:TI) (g:TG) (tb:TS):TS:=fun D σ H=>wi σ H fun J H1=>∃W:Nat->Nat->St->Hp->Prop,(∃ m,W 0 m σ H1)/\∀i m σ H,W i m σ H->
 (J.stop i H/\D.nx σ H)\/(J.go i H/\∃N:St->Hp->Prop,(∀ σ' H',N σ' H'->∃m',m' < m/\W (i + 1) m' σ' H')/\∀x H',J.yld i H x H'->g x σ H' fun σ2 H2=>tb {D with nx:=N,ct:=N,bk:=D.nx} σ2 H2)
noncomputable def pinsAt (fp:List Addr) (h:Heap):List (Addr × Obj):=fp.filterMap fun b=>(h.get? b).map fun o=>(b,o)
theorem mem_pinsAt {fp:List Addr} {h:Heap} {b:Addr} {o:Obj} (hb:b ∈ fp) (e:h.get? b=some o):(b,o) ∈ pinsAt fp h:=List.mem_filterMap.mpr ⟨b,hb,by rw[e];rfl⟩
theorem of_pinsAt {fp:List Addr} {h:Heap} {p:Addr × Obj} (hp:p ∈ pinsAt fp h):p.1 ∈ fp/\h.get? p.1=some p.2:=by
 obtain⟨b,hb,e⟩:=List.mem_filterMap.mp hp
 cases q:h.get? b with
 | none=>rw[q]at e;cases e
 | some o=>
  rw[q]at e
  have e':(b,o)=p:=Option.some.inj e
  subst e'
  exact⟨hb,q⟩
theorem Inv.pinned {pins:List (Addr × Obj)} {σ:St} {H:Hp} {s:Shared} {fp:List Addr} (I:Inv X pins σ H s) (hf:∀b ∈ fp,FpOk X pins H b) (ho:∀b ∈ fp,∃o,s.heap.get? b=some o/\∀v,o.data ≠ .cell v):Inv X (pins++pinsAt fp s.heap) σ H s:=
 I.pins_of fun p hp=>(List.mem_append.mp hp).elim (fun z=>I.pin p (List.mem_append_right _ z)) fun z=>by
  obtain⟨hb,e⟩:=of_pinsAt z
  obtain⟨f0,f1,f2,_⟩:=hf p.1 hb
  obtain⟨o,e',d⟩:=ho p.1 hb
  rw[e]at e';cases e'
  exact⟨e,f0,f1,f2,d⟩
theorem Inv.unpinned {pins pl:List (Addr × Obj)} {σ:St} {H:Hp} {s:Shared} (I:Inv X (pins++pl) σ H s):Inv X pins σ H s:=I.pins_of fun p hp=>I.pin p (List.mem_append_right _ (List.mem_append_left _ hp))
theorem ps_for {iter:Expr} {body:List Stmt} {wi:TI} {g:TG} {tb:TS} {pos:Pos} (hp:PassesOwn (model X.prog X.w) X.A X.env X.xe) (hc:X.calm=true) (hi:PI X tg iter wi) (hg:PG X tg g) (hb:PSs X body tb)
  (hs:∀x,foldedSetIterable iter X.env x=pure x:=by intro _;rfl):PS X (.For tg iter body [] pos) (tFor wi g tb):=by
 intro pins s σ H D I h
 refine wpAny_For (thn (hi pins s σ H _ I h) fun v s1 h1=>thn h1 fun itv s2 h2=>?_) hs
 obtain⟨it,fp,tn,J,H2,e,I2,T,st2,f2,W,⟨m0,w0⟩,turn⟩:=h2
 subst e
 -- what stays true of the iterator's objects through the loop
 have stat:∀ {H':Hp},(∀ b ∈ fp,H' b=none)->∀b ∈ fp,FpOk X pins H' b:=fun hn b hb=>⟨hn b hb,(f2 b hb).2⟩
 refine codeAny_forLoop_any (fun n s'=>∃i σ' H',Inv X pins σ' H' s'/\tn i s'.heap/\(∀ b ∈ fp,H' b=none)/\W i n σ' H') ?_ m0 ⟨0,σ,H2,I2,st2,fun b hb=>(f2 b hb).1,w0⟩
 rintro n s3 ⟨i,σ3,H3,I3,st3,fr3,w3⟩
 rcases turn i n σ3 H3 w3 with ⟨stop,qn⟩ | ⟨go,N,hN,step⟩
 ·refine wpAny_passesOwn hp (thn (T.done X rfl rfl rfl hc i pins s3 σ3 H3 X.xe I3 (stat fr3) st3 stop) fun r s4 z11q=>?_)
  obtain⟨hr,I4⟩:=z11q
  subst hr
  exact wpAny_execs_nil ⟨σ3,H3,I4,qn⟩
 ·refine wpAny_passesOwn hp (thn (T.item X rfl rfl rfl hc i pins s3 σ3 H3 X.xe I3 (stat fr3) st3 go) fun r s4 z12q=>?_)
  obtain⟨u,hr,h4⟩:=z12q
  subst hr
  refine wpAny_passesOwn hp (thn h4 fun _ s5 z13q=>?_)
  obtain⟨x,H5,I5,r5,y5,st5,fr5⟩:=z13q
  have I5':=I5.pinned (stat fr5) (T.obj _ _ st5)
  refine wpAny_passesOwn hp (thn (hg _ s5 σ3 H5 x u _ I5' r5 (step x H5 y5)) fun _ s6 z14q=>?_)
  obtain⟨σ6,H6,I6,q6⟩:=z14q
  refine wpAny_passesOwn hp (thn (hb _ s6 σ6 H6 _ I6 q6) fun f s7 q7=>?_)
  have again:∀ {σ7:St} {H7:Hp},Inv X (pins++pinsAt fp s5.heap) σ7 H7 s7->N σ7 H7->∃m,m < n/\∃i σ' H',Inv X pins σ' H' s7/\tn i s7.heap/\(∀ b ∈ fp,H' b=none)/\W i m σ' H':=fun{σ7 H7} I7 n7=>by
   obtain⟨m',hm,w7⟩:=hN σ7 H7 n7
   refine⟨m',hm,i + 1,σ7,H7,I7.unpinned,T.keep _ _ _ st5 fun b hb o e=>(I7.pin (b,o) (List.mem_append_right _ (List.mem_append_right _ (mem_pinsAt hb e)))).1,fun b hb=>?_,w7⟩
   obtain⟨o,e,d⟩:=T.obj _ _ st5 b hb
   exact(I7.pin (b,o) (List.mem_append_right _ (List.mem_append_right _ (mem_pinsAt hb e)))).2.1
  cases f with
  | next=>obtain⟨σ7,H7,I7,n7⟩:=q7;exact again I7 n7
  | cont=>obtain⟨σ7,H7,I7,n7⟩:=q7;exact again I7 n7
  | brk=>obtain⟨σ7,H7,I7,q7⟩:=q7;exact⟨σ7,H7,I7.unpinned,q7⟩
  | ret v=>obtain⟨x7,σ7,H7,I7,r7,q7⟩:=q7;exact⟨x7,σ7,H7,I7.unpinned,r7,q7⟩
end
end L2
namespace L2
set_option genInjectivity false
open PySem PySem.Spec PyProof.Rows
@[reducible] noncomputable def R2:=V->V->Hp->VK->Prop
noncomputable def OpR (X:Cx) (f:Value->Value->Sem Value) (r:R2):Prop:=
 ∀ (pins:List (Addr × Obj)) (s:Shared) (σ:St) (H:Hp) (x y:V) (v u:Value) (Q:VK),Inv X pins σ H s->RelV x v->RelV y u->r x y H Q->
  wpAny (model X.prog X.w) X.A (f v u) (EP X pins σ Q) X.xe s
noncomputable def UnR (X:Cx) (f:Value->Sem Value) (r:V->Hp->VK->Prop):Prop:=
 ∀ (pins:List (Addr × Obj)) (s:Shared) (σ:St) (H:Hp) (x:V) (v:Value) (Q:VK),Inv X pins σ H s->RelV x v->r x H Q->
  wpAny (model X.prog X.w) X.A (f v) (EP X pins σ Q) X.xe s
noncomputable def CallR (X:Cx) (f:Value) (r:List V->Hp->VK->Prop):Prop:=
 ∀ (pins:List (Addr × Obj)) (s:Shared) (σ:St) (H:Hp) (xs:List V) (us:List Value) (Q:VK),Inv X pins σ H s->Vals xs us->r xs H Q->
  wpAny (model X.prog X.w) X.A (call f us) (EP X pins σ Q) X.xe s
noncomputable def TruR (X:Cx) (r:V->Hp->(Bool->Hp->Prop)->Prop):Prop:=
 ∀ (pins:List (Addr × Obj)) (s:Shared) (σ:St) (H:Hp) (x:V) (v:Value) (Q:Bool->Hp->Prop),Inv X pins σ H s->RelV x v->r x H Q->
  wpAny (model X.prog X.w) X.A (truthy v) (TP X pins σ Q) X.xe s
noncomputable def tOp (r:R2) (ta tb:TE):TE:=fun σ H Q=>ta σ H fun x H1=>tb σ H1 fun y H2=>r x y H2 Q
noncomputable def tUn (r:V->Hp->VK->Prop) (ta:TE):TE:=fun σ H Q=>ta σ H fun x H1=>r x H1 Q
noncomputable def rI (C:Int->Int->Prop) (g:Int->Int->V):R2:=fun x y H Q=>∃i j,x=.int i/\y=.int j/\C i j/\Q (g i j) H
noncomputable def rI0 (g:Int->Int->V):R2:=fun x y H Q=>∃i j,x=.int i/\y=.int j/\Q (g i j) H
noncomputable def rU (g:Int->V):V->Hp->VK->Prop:=fun x H Q=>∃i,x=.int i/\Q (g i) H
section
variable {X:Cx} {a b c:Expr} {ta tb tc:TE} {pos:Pos}
theorem binT (ha:PE X a ta) (hb:PE X b tb) {pins:List (Addr × Obj)} {s:Shared} {σ:St} {H:Hp} {R:V->V->Hp->Prop} (I:Inv X pins σ H s)
  (h:ta σ H fun x H1=>tb σ H1 fun y H2=>R x y H2) {Q:Value->Shared->Prop} {f:Value->Value->Sem Value}
  (hf:∀v u s2 x y H2,Inv X pins σ H2 s2->RelV x v->RelV y u->R x y H2->wpAny (model X.prog X.w) X.A (f v u) Q X.xe s2):
  wpAny (model X.prog X.w) X.A (eval a X.env) (fun v s₁=>wpAny (model X.prog X.w) X.A (eval b X.env) (fun u s₂=>wpAny (model X.prog X.w) X.A (f v u) Q X.xe s₂) X.xe s₁) X.xe s:=by
 refine thn (ha pins s σ H _ I h) fun v s1 z15q=>?_
 obtain⟨x,H1,I1,r1,q1⟩:=z15q
 refine thn (hb pins s1 σ H1 _ I1 q1) fun u s2 z16q=>?_
 obtain⟨y,H2,I2,r2,q2⟩:=z16q
 exact hf v u s2 x y H2 I2 r1 r2 q2
theorem pe_op {op:Operator} {r:R2} (ho:OpR X (binaryOp op) r) (ha:PE X a ta) (hb:PE X b tb):PE X (.BinOp a op b pos) (tOp r ta tb):=by
 intro pins s σ H Q I h
 exact wpAny_BinOp (binT ha hb I h fun v u s2 x y H2 I2 rx ry q=>ho pins s2 σ H2 x y v u Q I2 rx ry q)
theorem pe_un {op:UnaryOp} {r:V->Hp->VK->Prop} (ho:UnR X (unaryOp op) r) (ha:PE X a ta):PE X (.UnaryOp op a pos) (tUn r ta):=by
 intro pins s σ H Q I h
 exact UnaryOp_ (thn (ha pins s σ H _ I h) fun v s1 z17q=>by obtain⟨x,H1,I1,r1,q1⟩:=z17q;exact ho pins s1 σ H1 x v Q I1 r1 q1)
theorem opI {f:Value->Value->Sem Value} {C:Int->Int->Prop} {g:Int->Int->Int}
  (rule:∀ (i j:Int) (t u:Tok) (s:Shared) (Q:Value->Shared->Prop) (E:Value->Shared->Prop),C i j->Q (.int (g i j) s.toks) {s with toks:=s.toks + 1}->wpAny (model X.prog X.w) X.A (f (.int i t) (.int j u)) Q E s):
  OpR X f (rI C fun i j=>.int (g i j)):=by
 intro pins s σ H x y v u Q I rx ry h
 obtain⟨i,j,rfl,rfl,hc,q⟩:=h
 obtain⟨t,rfl⟩:=rx
 obtain⟨t',rfl⟩:=ry
 exact rule i j t t' s _ _ hc ⟨.int (g i j),H,I.tok _,⟨_,rfl⟩,q⟩
theorem opI0 {f:Value->Value->Sem Value} {g:Int->Int->Int}
  (rule:∀ (i j:Int) (t u:Tok) (s:Shared) (Q:Value->Shared->Prop) (E:Value->Shared->Prop),Q (.int (g i j) s.toks) {s with toks:=s.toks + 1}->wpAny (model X.prog X.w) X.A (f (.int i t) (.int j u)) Q E s):
  OpR X f (rI0 fun i j=>.int (g i j)):=by
 intro pins s σ H x y v u Q I rx ry h
 obtain⟨i,j,rfl,rfl,q⟩:=h
 obtain⟨t,rfl⟩:=rx
 obtain⟨t',rfl⟩:=ry
 exact rule i j t t' s _ _ ⟨.int (g i j),H,I.tok _,⟨_,rfl⟩,q⟩
theorem opB0 {f:Value->Value->Sem Value} {g:Int->Int->Bool}
  (rule:∀ (i j:Int) (t u:Tok) (s:Shared) (Q:Value->Shared->Prop) (E:Value->Shared->Prop),Q (.bool (g i j)) s->wpAny (model X.prog X.w) X.A (f (.int i t) (.int j u)) Q E s):
  OpR X f (rI0 fun i j=>.bl (g i j)):=by
 intro pins s σ H x y v u Q I rx ry h
 obtain⟨i,j,rfl,rfl,q⟩:=h
 obtain⟨t,rfl⟩:=rx
 obtain⟨t',rfl⟩:=ry
 exact rule i j t t' s _ _ ⟨.bl (g i j),H,I,rfl,q⟩
noncomputable def CDiv (i j:Int):Prop:=0 < j/\j < 1073741824
noncomputable def CMul (i j:Int):Prop:=(-(2 ^ 64) < i/\i < 2 ^ 64)\/(-(2 ^ 64) < j/\j < 2 ^ 64)
theorem CMul.ok {i j:Int} (h:CMul i j):IntMulOk i j:=by
 rcases h with ⟨h1,h2⟩ | ⟨h1,h2⟩
 ·exact .of_left (intBits_le_64 h1 h2)
 ·exact .of_right (intBits_le_64 h1 h2)
theorem op_add:OpR X (binaryOp .Add) (rI0 fun i j=>.int (i + j)):=opI0 fun _ _ _ _ _ _ _ q=>add_int q
theorem op_sub:OpR X (binaryOp .Sub) (rI0 fun i j=>.int (i - j)):=opI0 fun _ _ _ _ _ _ _ q=>sub_int q
theorem op_mul:OpR X (binaryOp .Mult) (rI CMul fun i j=>.int (i * j)):=opI fun _ _ _ _ _ _ _ hc q=>mul_int q hc.ok
theorem op_fdiv:OpR X (binaryOp .FloorDiv) (rI CDiv fun i j=>.int (i / j)):=opI fun i j _ _ _ _ _ hc q=>by
 have h1:(0:Int) < j:=hc.1
 have h2:j < 1073741824:=hc.2
 exact floordiv_int (by omega) (by rw[Int.fdiv_eq_ediv_of_nonneg i (by omega)];exact q) (.inl (PyProof.noPylong_small (by omega)))
theorem op_mod:OpR X (binaryOp .Mod) (rI (fun _ j=>0 < j) fun i j=>.int (i % j)):=opI fun i j _ _ _ _ _ hc q=>by
 have h1:(0:Int) < j:=hc
 exact mod_int' (by omega) (by rw[Int.fmod_eq_emod_of_nonneg i (by omega)];exact q)
theorem unI {f:Value->Sem Value} {g:Int->Int}
  (rule:∀ (i:Int) (t:Tok) (s:Shared) (Q:Value->Shared->Prop) (E:Value->Shared->Prop),Q (.int (g i) s.toks) {s with toks:=s.toks + 1}->wpAny (model X.prog X.w) X.A (f (.int i t)) Q E s):
  UnR X f (rU fun i=>.int (g i)):=by
 intro pins s σ H x v Q I rx h
 obtain⟨i,rfl,q⟩:=h
 obtain⟨t,rfl⟩:=rx
 exact rule i t s _ _ ⟨.int (g i),H,I.tok _,⟨_,rfl⟩,q⟩
theorem un_neg:UnR X (unaryOp .USub) (rU fun i=>.int (-i)):=unI fun _ _ _ _ _ q=>neg_int q
end
noncomputable def scal:V->V->Bool
 | .non,.non=>true | .non,.int _=>true | .int _,.non=>true | .non,.bl _=>true | .bl _,.non=>true | .non,.str _=>true | .str _,.non=>true
 | .int _,.int _=>true | .bl _,.bl _=>true | .str _,.str _=>true | .byt _,.byt _=>true
 | .int _,.str _=>true | .str _,.int _=>true | .bl _,.str _=>true | .str _,.bl _=>true
 | _,_=>false
noncomputable def rEq:R2:=fun x y H Q=>scal x y=true/\Q (.bl (decide (x=y))) H
noncomputable def rNe:R2:=fun x y H Q=>scal x y=true/\Q (.bl (!decide (x=y))) H
theorem dec_int {i j:Int}:decide (V.int i=V.int j)=(i == j):=by
 rw[Bool.eq_iff_iff]
 simp
theorem dec_bl {i j:Bool}:decide (V.bl i=V.bl j)=(i == j):=by
 rw[Bool.eq_iff_iff]
 simp
theorem dec_str {i j:Str}:decide (V.str i=V.str j)=(i == j):=by
 rw[Bool.eq_iff_iff]
 simp
theorem dec_byt {i j:Array UInt8}:decide (V.byt i=V.byt j)=(i.toList == j.toList):=by
 rw[Bool.eq_iff_iff]
 cases i
 cases j
 simp
section
variable {X:Cx} {a b c:Expr} {ta tb tc:TE} {pos:Pos}
theorem fin_bl {pins:List (Addr × Obj)} {σ:St} {H:Hp} {s:Shared} {Q:VK} {k k':Bool} (I:Inv X pins σ H s) (q:Q (.bl k) H) (e:k=k'):EP X pins σ Q (.bool k') s:=by
 subst e
 exact⟨.bl k,H,I,rfl,q⟩
theorem op_eq:OpR X (compareOp .Eq) rEq:=by
 intro pins s σ H x y v u Q I rx ry h
 obtain⟨hs,q⟩:=h
 cases x with
 | non=>
  cases rx
  cases y with
  | non=>cases ry;exact PySem.EqNone.eq_none_none (fin_bl I q (by simp))
  | bl j=>cases ry;exact PySem.EqNone.eq_none_bool (fin_bl I q (by simp))
  | int j=>obtain⟨t',rfl⟩:=ry;exact PySem.EqNone.eq_none_int (fin_bl I q (by simp))
  | str j=>obtain⟨t',rfl⟩:=ry;exact PySem.EqNone.eq_none_str (fin_bl I q (by simp))
  | _=>exact absurd (show false=true from hs) Bool.false_ne_true
 | bl i=>
  cases rx
  cases y with
  | non=>cases ry;exact PySem.EqNone.eq_bool_none (fin_bl I q (by simp))
  | bl j=>cases ry;exact eq_bool (fin_bl I q dec_bl)
  | str j=>obtain⟨t',rfl⟩:=ry;exact PySem.EqMixed.eq_bool_str (fin_bl I q (by simp))
  | _=>exact absurd (show false=true from hs) Bool.false_ne_true
 | int i=>
  obtain⟨t,rfl⟩:=rx
  cases y with
  | non=>cases ry;exact PySem.EqNone.eq_int_none (fin_bl I q (by simp))
  | int j=>obtain⟨t',rfl⟩:=ry;exact eq_int (fin_bl I q dec_int)
  | str j=>obtain⟨t',rfl⟩:=ry;exact PySem.EqMixed.eq_int_str (fin_bl I q (by simp))
  | _=>exact absurd (show false=true from hs) Bool.false_ne_true
 | str i=>
  obtain⟨t,rfl⟩:=rx
  cases y with
  | non=>cases ry;exact PySem.EqNone.eq_str_none (fin_bl I q (by simp))
  | bl j=>cases ry;exact PySem.EqMixed.eq_str_bool (fin_bl I q (by simp))
  | int j=>obtain⟨t',rfl⟩:=ry;exact PySem.EqMixed.eq_str_int (fin_bl I q (by simp))
  | str j=>obtain⟨t',rfl⟩:=ry;exact eq_str (fin_bl I q dec_str)
  | _=>exact absurd (show false=true from hs) Bool.false_ne_true
 | byt i=>
  obtain⟨t,rfl⟩:=rx
  cases y with
  | byt j=>obtain⟨t',rfl⟩:=ry;exact PySem.W.eq_bytes (fin_bl I q dec_byt)
  | _=>exact absurd (show false=true from hs) Bool.false_ne_true
 | _=>cases y<;>exact absurd (show false=true from hs) Bool.false_ne_true
theorem op_ne:OpR X (compareOp .NotEq) rNe:=by
 intro pins s σ H x y v u Q I rx ry h
 obtain⟨hs,q⟩:=h
 cases x with
 | non=>
  cases rx
  cases y with
  | non=>cases ry;exact PySem.EqNone.ne_none_none (fin_bl I q (by simp))
  | bl j=>cases ry;exact PySem.EqNone.ne_none_bool (fin_bl I q (by simp))
  | int j=>obtain⟨t',rfl⟩:=ry;exact PySem.EqNone.ne_none_int (fin_bl I q (by simp))
  | str j=>obtain⟨t',rfl⟩:=ry;exact PySem.EqNone.ne_none_str (fin_bl I q (by simp))
  | _=>exact absurd (show false=true from hs) Bool.false_ne_true
 | bl i=>
  cases rx
  cases y with
  | non=>cases ry;exact PySem.EqNone.ne_bool_none (fin_bl I q (by simp))
  | bl j=>cases ry;exact ne_bool (fin_bl I q (congrArg not dec_bl))
  | str j=>obtain⟨t',rfl⟩:=ry;exact PySem.EqMixed.ne_bool_str (fin_bl I q (by simp))
  | _=>exact absurd (show false=true from hs) Bool.false_ne_true
 | int i=>
  obtain⟨t,rfl⟩:=rx
  cases y with
  | non=>cases ry;exact PySem.EqNone.ne_int_none (fin_bl I q (by simp))
  | int j=>obtain⟨t',rfl⟩:=ry;exact ne_int (fin_bl I q (congrArg not dec_int))
  | str j=>obtain⟨t',rfl⟩:=ry;exact PySem.EqMixed.ne_int_str (fin_bl I q (by simp))
  | _=>exact absurd (show false=true from hs) Bool.false_ne_true
 | str i=>
  obtain⟨t,rfl⟩:=rx
  cases y with
  | non=>cases ry;exact PySem.EqNone.ne_str_none (fin_bl I q (by simp))
  | bl j=>cases ry;exact PySem.EqMixed.ne_str_bool (fin_bl I q (by simp))
  | int j=>obtain⟨t',rfl⟩:=ry;exact PySem.EqMixed.ne_str_int (fin_bl I q (by simp))
  | str j=>obtain⟨t',rfl⟩:=ry;exact ne_str (fin_bl I q (congrArg not dec_str))
  | _=>exact absurd (show false=true from hs) Bool.false_ne_true
 | byt i=>
  obtain⟨t,rfl⟩:=rx
  cases y with
  | byt j=>obtain⟨t',rfl⟩:=ry;exact PySem.W.ne_bytes (fin_bl I q (congrArg not dec_byt))
  | _=>exact absurd (show false=true from hs) Bool.false_ne_true
 | _=>cases y<;>exact absurd (show false=true from hs) Bool.false_ne_true
theorem op_lt:OpR X (compareOp .Lt) (rI0 fun i j=>.bl (decide (i < j))):=opB0 fun _ _ _ _ _ _ _ q=>lt_int q
theorem op_le:OpR X (compareOp .LtE) (rI0 fun i j=>.bl (decide (i<=j))):=opB0 fun _ _ _ _ _ _ _ q=>le_int q
theorem op_gt:OpR X (compareOp .Gt) (rI0 fun i j=>.bl (decide (j < i))):=opB0 fun _ _ _ _ _ _ _ q=>gt_int q
theorem op_lt_str:OpR X (compareOp .Lt) (fun x y H Q=>∃i j,x=.str i/\y=.str j/\Q (.bl (decide (i.cps.toList < j.cps.toList))) H):=by
 intro pins s σ H x y v u Q I rx ry h
 obtain⟨i,j,rfl,rfl,q⟩:=h
 obtain⟨t,rfl⟩:=rx
 obtain⟨t',rfl⟩:=ry
 exact lt_str (fin_bl I q rfl)
theorem op_in_str:OpR X (compareOp .In) (fun x y H Q=>∃i j,x=.str i/\y=.str j/\Q (.bl (!(Builtin.Str.occurrences j i 0 j.length 1).isEmpty)) H):=by
 intro pins s σ H x y v u Q I rx ry h
 obtain⟨i,j,rfl,rfl,q⟩:=h
 obtain⟨t,rfl⟩:=rx
 obtain⟨t',rfl⟩:=ry
 exact in_str (fin_bl I q rfl)
theorem op_isN:OpR X (compareOp .Is) (fun x y H Q=>y=.non/\Q (.bl (decide (x=.non))) H):=by
 intro pins s σ H x y v u Q I rx ry h
 obtain⟨rfl,q⟩:=h
 cases ry
 refine is_none_gen (fin_bl I q ?_)
 cases x<;>first
  | (cases rx;rfl)
  | (obtain⟨t,rfl⟩:=rx;rfl)
theorem op_notN:OpR X (compareOp .IsNot) (fun x y H Q=>y=.non/\Q (.bl (!decide (x=.non))) H):=by
 intro pins s σ H x y v u Q I rx ry h
 obtain⟨rfl,q⟩:=h
 cases ry
 refine isnot_none_gen (fin_bl I q ?_)
 cases x<;>first
  | (cases rx;rfl)
  | (obtain⟨t,rfl⟩:=rx;rfl)
theorem pe_cmpR {op:CmpOp} {r:R2} (ho:OpR X (compareOp op) r) (ha:PE X a ta) (hb:PE X b tb) (hm:behindInMarks op b=false):PE X (.Compare a [op] [b] pos) (tOp r ta tb):=by
 intro pins s σ H Q I h
 exact wpAny_Compare1 (binT ha hb I h fun v u s2 x y H2 I2 rx ry q=>ho pins s2 σ H2 x y v u Q I2 rx ry q) hm
noncomputable def tTest (t:TE):TT:=fun σ H Q=>t σ H fun x H'=>∃k,x=.bl k/\Q k H'
theorem pt_cmpR {op:CmpOp} {r:R2} (ho:OpR X (compareOp op) r) (ha:PE X a ta) (hb:PE X b tb) (hm:behindInMarks op b=false):PT X (.Compare a [op] [b] pos) (tTest (tOp r ta tb)):=by
 intro pins s σ H Q I h
 refine wpAny_isTrue_Compare1 (thn (ha pins s σ H _ I h) fun v s1 ⟨x,H1,I1,r1,q1⟩=>thn (hb pins s1 σ H1 _ I1 q1) fun u s2 ⟨y,H2,I2,r2,q2⟩=>
  thn (ho pins s2 σ H2 x y v u _ I2 r1 r2 q2) fun c s3 ⟨z,H3,I3,r3,k,e,q3⟩=>?_) hm
 subst e
 cases r3
 exact wpAny_truthy_bool ⟨H3,I3,q3⟩
noncomputable def tChain (r r':R2) (ta tb tc:TE):TE:=fun σ H Q=>ta σ H fun x H1=>tb σ H1 fun y H2=>r x y H2 fun z H3=>∃k,z=.bl k/\
 (if k=true then tc σ H3 fun w' H4=>r' y w' H4 Q else Q (.bl false) H3)
theorem pe_chain {op op':CmpOp} {r r':R2} (ho:OpR X (compareOp op) r) (ho':OpR X (compareOp op') r') (ha:PE X a ta) (hb:PE X b tb) (hc:PE X c tc)
  (hm:lastMarks [op,op'] [b,c]=false:=by with_unfolding_all rfl):PE X (.Compare a [op,op'] [b,c] pos) (tChain r r' ta tb tc):=by
 intro pins s σ H Q I h
 refine Compare_chain (thn (ha pins s σ H _ I h) fun v s1 ⟨x,H1,I1,r1,q1⟩=>chain_link (thn (hb pins s1 σ H1 _ I1 q1) fun u s2 ⟨y,H2,I2,r2,q2⟩=>
  thn (ho pins s2 σ H2 x y v u _ I2 r1 r2 q2) fun d s3 ⟨z,H3,I3,r3,k,e,q3⟩=>?_)) hm
 subst e
 cases r3
 refine wpAny_truthy_bool ?_
 cases k with
 | false=>exact ite_ff ⟨.bl false,H3,I3,rfl,q3⟩
 | true=>exact ite_tt (chain_last (thn (hc pins s3 σ H3 _ I3 q3) fun w' s4 z24q=>by obtain⟨z',H4,I4,r4,q4⟩:=z24q;exact ho' pins s4 σ H4 y z' u w' Q I4 r2 r4 q4))
theorem pt_chain {op op':CmpOp} {r r':R2} (ho:OpR X (compareOp op) r) (ho':OpR X (compareOp op') r') (ha:PE X a ta) (hb:PE X b tb) (hc:PE X c tc)
  (hm:lastMarks [op,op'] [b,c]=false:=by with_unfolding_all rfl):PT X (.Compare a [op,op'] [b,c] pos) (tTest (tChain r r' ta tb tc)):=by
 intro pins s σ H Q I h
 refine isTrue_chain (thn (ha pins s σ H _ I h) fun v s1 ⟨x,H1,I1,r1,q1⟩=>test_link (thn (hb pins s1 σ H1 _ I1 q1) fun u s2 ⟨y,H2,I2,r2,q2⟩=>
  thn (ho pins s2 σ H2 x y v u _ I2 r1 r2 q2) fun d s3 ⟨z,H3,I3,r3,k,e,q3⟩=>?_)) hm
 subst e
 cases r3
 refine wpAny_truthy_bool ?_
 cases k with
 | false=>
  obtain⟨k',e',q'⟩:=q3
  cases e'
  exact ite_ff ⟨H3,I3,q'⟩
 | true=>
  refine ite_tt (test_last (thn (hc pins s3 σ H3 _ I3 q3) fun w' s4 ⟨z',H4,I4,r4,q4⟩=>thn (ho' pins s4 σ H4 y z' u w' _ I4 r2 r4 q4) fun d' s5 z29q=>?_))
  obtain⟨z2,H5,I5,r5,k2,e2,q5⟩:=z29q
  subst e2
  cases r5
  exact wpAny_truthy_bool ⟨H5,I5,q5⟩
noncomputable def TruV (K:PySem.W.Frag) (x:V) (H:Hp) (k:Bool):Prop:=
 match x with
 | .non=>k=false
 | .bl b=>k=b
 | .int i=>k=(i != 0)
 | .str y=>y.length<=sizeLine/\k=((y.length:Int) != 0)
 | .byt y=>y.size<=sizeLine/\k=((y.size:Int) != 0)
 | .ref p=>(∃ xs,SqL K H p xs/\k=!xs.isEmpty)\/(∃ xs,SqT K H p xs/\k=!xs.isEmpty)\/∃kvs,H p=some (.dK kvs)/\k=!kvs.isEmpty
 | _=>False
theorem isEmpty_kv {κ:Type} {kvs:List (κ × V)} {vs:List (κ × Value)} (r:KV kvs vs):(!vs.isEmpty)=!kvs.isEmpty:=by
 cases r<;>rfl
theorem isEmpty_of {xs:List V} {its:List Value} (r:Vals xs its):(!its.toArray.isEmpty)=!xs.isEmpty:=by
 cases r<;>simp
theorem line63:(sizeLine:Nat) < 2 ^ 63:=by rw[sizeLine_eq];decide
theorem tru_ok:TruR X (fun x H Q=>∃k,TruV X.K x H k/\Q k H):=by
 intro pins s σ H x v Q I rx h
 obtain⟨k,e,q⟩:=h
 have hl:=line63
 have hs:sizeLine=16777216:=sizeLine_eq
 cases x with
 | non=>
  cases rx
  have e':k=false:=e
  subst e'
  exact truthy_none ⟨H,I,q⟩
 | bl b=>
  cases rx
  have e':k=b:=e
  subst e'
  exact wpAny_truthy_bool ⟨H,I,q⟩
 | int i=>
  obtain⟨t,rfl⟩:=rx
  have e':k=(i != 0):=e
  subst e'
  exact PySem.P.truthy_int ⟨H,I,q⟩
 | str y=>
  obtain⟨t,rfl⟩:=rx
  obtain⟨hy,e'⟩:y.length<=sizeLine/\k=((y.length:Int) != 0):=e
  subst e'
  exact PySem.P.truthy_str (by omega) ⟨H,I.tok _,q⟩
 | byt y=>
  obtain⟨t,rfl⟩:=rx
  obtain⟨hy,e'⟩:y.size<=sizeLine/\k=((y.size:Int) != 0):=e
  subst e'
  exact PySem.W.truthy_bytes (by omega) ⟨H,I.tok _,q⟩
 | ref p=>
  cases rx
  have e':(∃ xs,SqL X.K H p xs/\k=!xs.isEmpty)\/(∃ xs,SqT X.K H p xs/\k=!xs.isEmpty)\/∃kvs,H p=some (.dK kvs)/\k=!kvs.isEmpty:=e
  rcases e' with ⟨xs,hx,e'⟩ | ⟨xs,hx,e'⟩ | ⟨kvs,hx,e'⟩
  ·subst e'
   obtain⟨its,r,pl,hz⟩:=I.list hx
   have hlen:=r.length
   exact wpAny_truthy_list pl.isList (by simp only[List.size_toArray];omega) ⟨H,I.tok _,by rw[isEmpty_of r];exact q⟩
  ·subst e'
   obtain⟨its,r,pl,hz⟩:=I.tuple hx
   have hlen:=r.length
   exact truthy_tuple pl (by simp only[List.size_toArray];omega) ⟨H,I.tok _,by rw[isEmpty_of r];exact q⟩
  ·subst e'
   obtain⟨hz,hS,vs,r,m⟩:kvs.length<=sizeLine/\(p == sysModules)=false/\∃vs,KV kvs vs/\s.heap.DictOf (mixKind X.prog X.w) p vs:=I.hok p _ hx
   have hlen:kvs.length=vs.length:=Paired.length r
   exact wpAny_truthy_dict hS m (by omega) ⟨H,I.tok _,by rw[isEmpty_kv r];exact q⟩
 | _=>exact(show False from e).elim
theorem op_add_str:OpR X (binaryOp .Add) (fun x y H Q=>∃i j,x=.str i/\y=.str j/\i.length + j.length<=sizeLine/\Q (.str (i++j)) H):=by
 intro pins s σ H x y v u Q I rx ry h
 obtain⟨i,j,rfl,rfl,hz,q⟩:=h
 obtain⟨t,rfl⟩:=rx
 obtain⟨t',rfl⟩:=ry
 exact add_str (fun t' tk=>⟨.str (i++j),H,I.tok _,⟨_,rfl⟩,q⟩) hz
theorem vals1 {x:V} {us:List Value} (r:Vals [x] us):∃u,us=[u]/\RelV x u:=by
 cases r with
 | cons r1 r2=>cases r2;exact⟨_,rfl,r1⟩
theorem vals2 {x y:V} {us:List Value} (r:Vals [x,y] us):∃u w',us=[u,w']/\RelV x u/\RelV y w':=by
 cases r with
 | cons r1 r2=>
  cases r2 with
  | cons r3 r4=>cases r4;exact⟨_,_,rfl,r1,r3⟩
theorem call_abs:CallR X (.builtin "abs") (fun xs H Q=>∃i,xs=[.int i]/\Q (.int (if i < 0 then -i else i)) H):=by
 intro pins s σ H xs us Q I r h
 obtain⟨i,rfl,q⟩:=h
 obtain⟨u,rfl,t,rfl⟩:=vals1 r
 exact call_abs_int fun u tk=>⟨.int (if i < 0 then -i else i),H,I.tok _,⟨_,rfl⟩,q⟩
theorem call_max2 (hc:X.calm=true):CallR X (.builtin "max") (fun xs H Q=>∃i j,xs=[.int i,.int j]/\Q (.int (if j > i then j else i)) H):=by
 intro pins s σ H xs us Q I r h
 obtain⟨i,j,rfl,q⟩:=h
 obtain⟨u,w',rfl,⟨t,rfl⟩,⟨t',rfl⟩⟩:=vals2 r
 refine max_two_ints (I.ok.hd hc) fun h' tk k=>⟨_,H,I.kept k,?_,q⟩
 by_cases hj:j > i
 ·((first | with_reducible refine Eq.mpr (if_pos hj) ?_ | rw[if_pos hj]);(first | with_reducible refine Eq.mpr (if_pos hj) ?_ | rw[if_pos hj]));exact⟨_,rfl⟩
 ·((first | with_reducible refine Eq.mpr (if_neg hj) ?_ | rw[if_neg hj]);(first | with_reducible refine Eq.mpr (if_neg hj) ?_ | rw[if_neg hj]));exact⟨_,rfl⟩
theorem call_min2 (hc:X.calm=true):CallR X (.builtin "min") (fun xs H Q=>∃i j,xs=[.int i,.int j]/\Q (.int (if j < i then j else i)) H):=by
 intro pins s σ H xs us Q I r h
 obtain⟨i,j,rfl,q⟩:=h
 obtain⟨u,w',rfl,⟨t,rfl⟩,⟨t',rfl⟩⟩:=vals2 r
 refine min_two_ints (I.ok.hd hc) fun h' tk k=>⟨_,H,I.kept k,?_,q⟩
 by_cases hj:j < i
 ·((first | with_reducible refine Eq.mpr (if_pos hj) ?_ | rw[if_pos hj]);(first | with_reducible refine Eq.mpr (if_pos hj) ?_ | rw[if_pos hj]));exact⟨_,rfl⟩
 ·((first | with_reducible refine Eq.mpr (if_neg hj) ?_ | rw[if_neg hj]);(first | with_reducible refine Eq.mpr (if_neg hj) ?_ | rw[if_neg hj]));exact⟨_,rfl⟩
theorem call_int1:CallR X (.type "int") (fun xs H Q=>(∃ i,xs=[.int i]/\Q (.int i) H)\/∃k,xs=[.bl k]/\Q (.int (if k then 1 else 0)) H):=by
 intro pins s σ H xs us Q I r h
 rcases h with ⟨i,rfl,q⟩ | ⟨k,rfl,q⟩
 ·obtain⟨u,rfl,t,rfl⟩:=vals1 r
  exact call_int_int ⟨.int i,H,I,⟨_,rfl⟩,q⟩
 ·obtain⟨u,rfl,r1⟩:=vals1 r
  cases r1
  exact call_int_bool ⟨.int (if k then 1 else 0),H,I.tok _,⟨_,rfl⟩,q⟩
theorem call_str_int:CallR X (.type "str") (fun xs H Q=>∃i,xs=[.int i]/\i.natAbs.log2 < 1920/\Q (.str (toString i)) H):=by
 intro pins s σ H xs us Q I r h
 obtain⟨i,rfl,hz,q⟩:=h
 obtain⟨u,rfl,t,rfl⟩:=vals1 r
 exact PySem.P.str_of_int hz ⟨.str _,H,I.tok _,⟨_,rfl⟩,q⟩
end
end L2
namespace L2
set_option genInjectivity false
open PySem PySem.Spec PyProof.Rows
structure ObjM (h:Heap) (x dx C:Addr) (mA:Str->Option Value):Prop where
 obj:h.get? x=some (PySem.W.instObj C dx)
 ns:h.Ns1 dx mA
 ne:dx ≠ x
theorem lookIn_ns {h:Heap} {dx:Addr} {mA:Str->Option Value} (n:h.Ns1 dx mA):∃od,h.get? dx=some od/\∀name,PySem.W.lookIn name od=some (mA name):=by
 obtain⟨o,es,ep,ho,hd,hk,_,hm⟩:=n
 refine⟨o,ho,fun name=>?_⟩
 have e:=hm name
 unfold nsFind findBy at e
 rw[<-Array.find?_toList]at e
 unfold PySem.W.lookIn
 rw[hd]
 dsimp only
 split
 ·rename_i y q
  rw[q]at e
  exact congrArg some e
 ·rename_i q
  rw[q]at e
  have a:es.toList.any (·.refKey)=false:=by
   rw[List.any_eq_false]
   intro y hy
   obtain⟨z,t,hkey⟩:=hk y (Array.mem_toList_iff.mp hy)
   simp[DictEntry.refKey,hkey]
  have a':¬es.toList.any (·.refKey)=true:=by rw[a];exact Bool.false_ne_true
  (first | with_reducible refine Eq.mpr (if_neg a') ?_ | rw[if_neg a'])
  exact congrArg some e
section
variable {prog:Program} {w:World} {A:Around} {E:Value->Shared->Prop} {s:Shared} {K:PySem.W.Frag} {x dx C f:Addr} {mA:Str->Option Value} {name:Str} {v:Value}
end
theorem RelO.some_of {v:V} {o:Option Value} (r:RelO (some v) o):∃u,o=some u/\RelV v u:=by
 cases o with
 | none=>exact(show False from r).elim
 | some u=>exact⟨u,rfl,r⟩
theorem handed_of {v:V} {u:Value} (r:RelV v u):PySem.W.handedIn u=true:=by
 cases v with
 | non=>cases (show u=Value.none from r);rfl
 | bl b=>cases (show u=Value.bool b from r);rfl
 | int i=>obtain⟨t,e⟩:=(show ∃t,u=Value.int i t from r);cases e;rfl
 | str x=>obtain⟨t,e⟩:=(show ∃t,u=Value.str x t from r);cases e;rfl
 | byt b=>obtain⟨t,e⟩:=(show ∃t,u=Value.bytes b t from r);cases e;rfl
 | flt b=>obtain⟨t,e⟩:=(show ∃t,u=Value.float b t from r);cases e;rfl
 | ref a=>cases (show u=Value.ref a from r);rfl
 | ty n=>cases (show u=Value.type n from r);rfl
section
variable {P:Program} {w:World} {H H':Hp} {h h':Heap} {a C dx:Addr} {fs fs':List (Str × V)}
end
structure Cls (K:PySem.W.Frag) (C:Addr):Prop where
 pg:PySem.W.plainGet K C Str.empty=true
 hd:PySem.W.hasDictIn K C=true
 po:PySem.W.plainOver K C=true
 sa:PySem.W.findIn K (.ref C) "__setattr__" =some (some (.builtin "object.__setattr__"))
theorem Cls.get {K:PySem.W.Frag} {C:Addr} (c:Cls K C) (f:Str):PySem.W.plainGet K C f=true:=c.pg
noncomputable def NoAttr (K:PySem.W.Frag) (C:Addr) (f:Str):Prop:=PySem.W.findIn K (.ref C) f=some none
structure Con (K:PySem.W.Frag) (C:Addr) (f:Str) (v:V) (u:Value):Prop where
 at_:PySem.W.findIn K (.ref C) f=some (some u)
 rel:RelV v u
 get:PySem.W.specialIn K u "__get__" =some none
 cp:PySem.W.copiedNames.contains f=false
structure Meth (K:PySem.W.Frag) (C:Addr) (m:Str) (f:Addr):Prop where
 at_:PySem.W.findIn K (.ref C) m=some (some (.ref f))
 fn:PySem.W.isFn K (.ref f)=true
 kp:PySem.W.keepIn K (.ref f)=true
section
variable {X:Cx} {pins:List (Addr × Obj)} {σ:St} {H:Hp} {s:Shared} {a C dx:Addr} {fs:List (Str × V)} {f:Str} {v:V} {A:Around} {E:Value->Shared->Prop}
theorem attr_of {prog:Program} {w:World} {env:Env} {e:Expr} {f:Str} {pos:Pos} {s:Shared} {Q:Value->Shared->Prop} (hb:attributeBase e f env (eval e env)=eval e env)
  (h:wpAny (model prog w) A (eval e env) (fun o s₁=>wpAny (model prog w) A (getAttr o f true) Q E s₁) E s):wpAny (model prog w) A (eval (.Attribute e f pos) env) Q E s:=
 Attribute_any_ h (by rw[arm_eval_Attribute,hb])
end
section
variable {X:Cx} {o e value:Expr} {f:Str} {pos pos' tpos:Pos} {ta tv:TE}
end
section
variable {X:Cx} {pins:List (Addr × Obj)} {σ:St} {H:Hp} {s:Shared} {A:Around} {E:Value->Shared->Prop} {Q:Value->Shared->Prop} {c:Value} {b:Bool}
end
end L2
namespace L2
set_option genInjectivity false
open PySem PySem.Spec PyProof.Rows
structure Room (k:Nat) (A:Around):Prop where
 hd:A.handled=none
 dp:A.depth + 3 * k + 5 < recursionLimit
 un:A.units + 16 * k + 200 < cLine
theorem Room.mono {j k:Nat} {A:Around} (r:Room k A) (h:j<=k):Room j A:=⟨r.hd,by have:=r.dp;omega,by have:=r.un;omega⟩
theorem Room.deeper {k:Nat} {A:Around} (r:Room (k + 1) A) (env:Env):Room k (A.deeper env):=
 ⟨r.hd,by have:=r.dp;show A.depth + 1 + 3 * k + 5 < _;omega,by have:=r.un;show A.units + 3 + 16 * k + 200 < _;omega⟩
theorem make_depth {A:Around} {C:Addr} {us:List Value} {kw:List (Str × Value)}:(A.under (.builtin "type.__call__" ⟨.ref C::us,kw⟩)).depth=A.depth + 1:=by
 first | rfl | simp[Around.under,Code.weight,Code.isCreation,Code.isGuard,Code.isCaller,Code.frames,Code.isFrame,guardIds]
theorem make_units {A:Around} {C:Addr} {us:List Value} {kw:List (Str × Value)}:(A.under (.builtin "type.__call__" ⟨.ref C::us,kw⟩)).units=A.units + 1:=by
 first | rfl | simp[Around.under,Code.cUnits,Code.frames,Code.isFrame]
theorem Room.depth {k:Nat} {A:Around} (r:Room k A):A.depth < recursionLimit:=by have:=r.dp;omega
theorem Room.units {k:Nat} {A:Around} (r:Room k A):A.units + 64 < cLine:=by have:=r.un;omega
noncomputable def tNil:TA:=fun _ H Q=>Q [] H
noncomputable def tCons (ta:TE) (tr:TA):TA:=fun σ H Q=>ta σ H fun x H1=>tr σ H1 fun xs H2=>Q (x::xs) H2
section
variable {X:Cx} {e:Expr} {es:List Expr} {te:TE} {t:TA} {pos:Pos}
theorem pa_nil:PA X [] tNil:=fun _ _ _ _ H Q I h=>Calls.spliced_nil ⟨[],H,I,.nil,h⟩
theorem pa_cons (ha:PE X e te) (hr:PA X es t) (hs:starEach (e::es) X.env=(false,eval e X.env)::starEach es X.env:=by rfl):PA X (e::es) (tCons te t):=by
 intro pos pins s σ H Q I h
 rw[hs]
 show wpAny _ _ (spliced ((false,eval e X.env)::backTo pos (starEach es X.env))) _ _ s
 refine Calls.spliced_cons (thn (ha pins s σ H _ I h) fun u s1 z30q=>?_)
 obtain⟨x,H1,I1,r1,q1⟩:=z30q
 exact thn (hr pos pins s1 σ H1 _ I1 q1) fun us s2 z31q=>by obtain⟨xs,H2,I2,r2,q2⟩:=z31q;exact⟨x::xs,H2,I2,.cons r1 r2,q2⟩
end
@[reducible] noncomputable def Sp:=List V->Hp->VK->XK->Prop
@[reducible] noncomputable def CXT:=List Env->Hp->Shared->XK->Value->Shared->Prop
structure Env0 (P:Program) (w:World) (K:PySem.W.Frag) (mg:Str->Option Value) (base:Heap) (A:Around) (outer:List Env) (s:Shared) (H:Hp):Prop where
 frames:A.frames=some outer
 mod:Mod K mg base
 bs:∀b o,base.get? b=some o->s.heap.get? b=some o/\H b=none
 bsz:base.objs.size<=s.heap.objs.size
 funs:s.heap.FunFrames base outer
 frf:∀b ∈ frs outer,H b=none
 hok:HOk P w H s.heap
 bare:AllBare s.gens
noncomputable def CE (outer:List Env) (P:Program) (w:World) (H:Hp) (s:Shared) (Q:VK) (u:Value) (s':Shared):Prop:=
 ∃v H',s'.os=s.os/\AllBare s'.gens/\Un (frs outer) [] H H' s.heap s'.heap/\HOk P w H' s'.heap/\RelV v u/\Q v H'
noncomputable def CR (CX:CXT) (outer:List Env) (P:Program) (w:World) (H:Hp) (s:Shared) (Q:VK) (E:XK) (r:Result) (s':Shared):Prop:=
 match r with
 | .ok (.ret u)=>CE outer P w H s Q u s'
 | .ok _=>False
 | .error e=>CX outer H s E e s'
structure FnOk (P:Program) (w:World) (K:PySem.W.Frag) (mg:Str->Option Value) (base:Heap) (CX:CXT) (k:Nat) (f:Addr) (fd:FuncData) (ps:List Str) (sp:Sp):Prop where
 len:∀vs H Q E,sp vs H Q E->vs.length=ps.length
 run:∀ (A:Around) (outer:List Env) (s:Shared) (H:Hp) (args:Args) (us:List Value) (vs:List V) (Q:VK) (E:XK),Room k A->Env0 P w K mg base A outer s H->BindsTo s fd args (ps.zip us)->Vals vs us->sp vs H Q E->
  codeAny (model P w) A (.call (.ref f) args) (CR CX outer P w H s Q E) s
theorem FnOk.mono {P:Program} {w:World} {K:PySem.W.Frag} {mg:Str->Option Value} {base:Heap} {CX:CXT} {j k:Nat} {f:Addr} {fd:FuncData} {ps:List Str} {sp:Sp} (F:FnOk P w K mg base CX j f fd ps sp) (h:j<=k):
  FnOk P w K mg base CX k f fd ps sp:=⟨F.len,fun A outer s H args us vs Q E hr=>F.run A outer s H args us vs Q E (hr.mono h)⟩
theorem FnOk.imp {P:Program} {w:World} {K:PySem.W.Frag} {mg:Str->Option Value} {base:Heap} {CX:CXT} {k:Nat} {f:Addr} {fd:FuncData} {ps:List Str} {sp sp':Sp} (F:FnOk P w K mg base CX k f fd ps sp)
  (h:∀vs H Q E,sp' vs H Q E->sp vs H Q E):FnOk P w K mg base CX k f fd ps sp':=
 ⟨fun vs H Q E q=>F.len vs H Q E (h _ _ _ _ q),fun A outer s H args us vs Q E hr he hb hv hs=>F.run A outer s H args us vs Q E hr he hb hv (h _ _ _ _ hs)⟩
theorem Env0.make {P:Program} {w:World} {K:PySem.W.Frag} {mg:Str->Option Value} {base:Heap} {A:Around} {outer:List Env} {s:Shared} {H:Hp} (e:Env0 P w K mg base A outer s H) (C:Addr) (us:List Value) (kw:List (Str × Value)):
  Env0 P w K mg base (A.under (.builtin "type.__call__" ⟨.ref C::us,kw⟩)) outer s H:=⟨by first | exact e.frames | (simpa[Around.under,Code.envs,Code.isFrame,pushEnvs]using e.frames),e.mod,e.bs,e.bsz,e.funs,e.frf,e.hok,e.bare⟩
section
variable {X:Cx} {pins:List (Addr × Obj)} {σ:St} {H:Hp} {s s':Shared}
theorem Inv.env0 (I:Inv X pins σ H s):Env0 X.prog X.w X.K X.mg X.base X.A X.stack s H:=
 ⟨I.ok.frames,I.ok.mod,I.bs,Nat.le_trans I.ok.bsz I.sz,I.stack,I.stkFree,I.hok,I.bare⟩
theorem Inv.after {Q:VK} {u:Value} (I:Inv X pins σ H s) (h:CE X.stack X.prog X.w H s Q u s'):EP X pins σ Q u s':=by
 obtain⟨v,H',os,bare,un,hok,r,q⟩:=h
 obtain⟨hh,g,d,t,os'⟩:=s'
 obtain rfl:os'=s.os:=os
 exact⟨v,H',I.call (h':=hh) (g':=g) (d':=d) (t':=t) (ch:=[]) un hok bare (fun b z=>absurd z (by simp)),r,q⟩
end
noncomputable def Binds (K:PySem.W.Frag) (fd:FuncData) (ps:List Str) (ds:List Value):Prop:=
 ∀ (s:Shared) (us:List Value),K.In s.heap->(us++ds).length=ps.length->BindsTo s fd ⟨us,[]⟩ (ps.zip (us++ds))
theorem Binds.all {K:PySem.W.Frag} {fd:FuncData} {ps:List Str} (h:∀us:List Value,us.length=ps.length->bindArgs fd ⟨us,[]⟩=pure (ps.zip us)):Binds K fd ps []:=fun s us _ hl=>by
 rw[List.append_nil]at hl ⊢
 exact .of_eq (h us hl)
section
variable {X:Cx} {CX:CXT} {k:Nat} {f C:Addr} {fd:FuncData} {ps:List Str} {sp:Sp} {dvs:List V} {ds:List Value} {E:XK} {x m:Str} {p pos apos:Pos} {e o:Expr} {es:List Expr} {ta:TE} {t:TA}
structure Mk (K:PySem.W.Frag) (C f:Addr):Prop where
 makes:PySem.W.makesIn K C=true
 init:PySem.W.findIn K (.ref C) "__init__" =some (some (.ref f))
 fn:PySem.W.isFn K (.ref f)=true
 kp:PySem.W.keepIn K (.ref C)=true
end
section
variable {X:Cx} {CX:CXT} {k:Nat} {f C:Addr} {fd:FuncData} {ps ks:List Str} {sp:Sp} {E:XK} {x m:Str} {p pos apos kpos:Pos} {e o:Expr} {es:List Expr} {kws:List Keyword} {te ta:TE} {t tk:TA} {nm:Option Str}
structure KBinds (K:PySem.W.Frag) (fd:FuncData) (ps ks:List Str) (g:List Value->List Value->List Value) (gV:List V->List V->List V):Prop where
 to:∀ (s:Shared) (us ws:List Value),K.In s.heap->(g us ws).length=ps.length->BindsTo s fd ⟨us,ks.zip ws⟩ (ps.zip (g us ws))
 rel:∀ {vs:List V} {us:List Value} {zs:List V} {ws:List Value},Vals vs us->Vals zs ws->Vals (gV vs zs) (g us ws)
variable {g:List Value->List Value->List Value} {gV:List V->List V->List V}
end
structure FnScope (N P:List Str) (sc:Scope):Prop where
 kind:sc.kind=.function
 co:sc.isCoroutine=false
 gen:sc.isGenerator=false
 nd:N.Nodup
 pre:N.take P.length=P
 par:∀x ∈ P,sc.names.lookup x=some .local\/sc.names.lookup x=some .cell
 nofree:∀y ∈ sc.names,y.2 ≠ .free
theorem bindL_out {kindOf:Str->Option NameKind} {x:Str}:∀ {binds:List (Str × Value)} {m:Str->Option Value},(∀ v,(x,v) ∉ binds)->bindL kindOf binds m x=m x
 | [],_,_=>rfl
 | (n,v)::r,m,h=>by
  unfold bindL
  rw[bindL_out fun w hw=>h w (List.mem_cons_of_mem _ hw)]
  split
  ·have:x ≠ n:=by rintro rfl;exact h v List.mem_cons_self
   simp[this]
  ·rfl
theorem bindC_out {kindOf:Str->Option NameKind} {x:Str}:∀ {binds:List (Str × Value)} {m:Str->Option Value},(∀ v,(x,v) ∉ binds)->bindC kindOf binds m x=m x
 | [],_,_=>rfl
 | (n,v)::r,m,h=>by
  unfold bindC
  rw[bindC_out fun w hw=>h w (List.mem_cons_of_mem _ hw)]
  split
  ·rfl
  ·have:x ≠ n:=by rintro rfl;exact h v List.mem_cons_self
   simp[this]
theorem bindL_get {kindOf:Str->Option NameKind} {x:Str} {v:Value}:∀ {P:List Str} {vs:List Value} {i:Nat} {m:Str->Option Value},P.Nodup->P[i]?=some x->vs[i]?=some v->kindOf x=some .local->
  bindL kindOf (P.zip vs) m x=some v
 | [],_,_,_,_,h,_,_=>by simp at h
 | _::_,[],_,_,_,_,h,_=>by simp at h
 | p::P,w::vs,0,m,nd,h1,h2,hk=>by
  simp at h1 h2;subst h1;subst h2
  show bindL kindOf ((p,w)::P.zip vs) m p=_
  unfold bindL
  (rw[bindL_out fun v hv=>(List.nodup_cons.mp nd).1 (List.of_mem_zip hv).1];(first | with_reducible refine Eq.mpr (if_pos hk) ?_ | rw[if_pos hk]))
  simp
 | p::P,w::vs,i + 1,m,nd,h1,h2,hk=>by
  show bindL kindOf ((p,w)::P.zip vs) m x=_
  unfold bindL
  exact bindL_get (i:=i) (List.nodup_cons.mp nd).2 (by simpa using h1) (by simpa using h2) hk
theorem bindC_get {kindOf:Str->Option NameKind} {x:Str} {v:Value}:∀ {P:List Str} {vs:List Value} {i:Nat} {m:Str->Option Value},P.Nodup->P[i]?=some x->vs[i]?=some v->kindOf x ≠ some .local->
  bindC kindOf (P.zip vs) m x=some v
 | [],_,_,_,_,h,_,_=>by simp at h
 | _::_,[],_,_,_,_,h,_=>by simp at h
 | p::P,w::vs,0,m,nd,h1,h2,hk=>by
  simp at h1 h2;subst h1;subst h2
  show bindC kindOf ((p,w)::P.zip vs) m p=_
  unfold bindC
  (rw[bindC_out fun v hv=>(List.nodup_cons.mp nd).1 (List.of_mem_zip hv).1];(first | with_reducible refine Eq.mpr (if_neg hk) ?_ | rw[if_neg hk]))
  simp
 | p::P,w::vs,i + 1,m,nd,h1,h2,hk=>by
  show bindC kindOf ((p,w)::P.zip vs) m x=_
  unfold bindC
  exact bindC_get (i:=i) (List.nodup_cons.mp nd).2 (by simpa using h1) (by simpa using h2) hk
noncomputable def start (N:List Str) (vs:List V):St:=vs.map some++List.replicate (N.length - vs.length) none
noncomputable def cxOf (CX:CXT) (P:Program) (w:World) (K:PySem.W.Frag) (mg:Str->Option Value) (base:Heap) (N:List Str) (qual:Str) (scope:Scope) (f:Addr) (cd:Value) (A:Around) (outer:List Env) (s:Shared) (H:Hp) (E:XK):Cx where
 prog:=P
 w:=w
 K:=K
 mg:=mg
 base:=base
 A:=A.deeper (envOfC qual scope s.heap.objs.size f cd)
 N:=N
 s₀:=s
 H₀:=H
 env:=envOfC qual scope s.heap.objs.size f cd
 outer:=outer
 stack:=envOfC qual scope s.heap.objs.size f cd::outer
 ex:=[]
 calm:=true
 fn:=fun _=>true
 pn:=[]
 xe:=fun e s'=>wpAny (model P w) (A.deeper (envOfC qual scope s.heap.objs.size f cd)) (leaving (envOfC qual scope s.heap.objs.size f cd) e) (fun _ s''=>CX outer H s E e s'') (fun e' s''=>CX outer H s E e' s'') s'
theorem cell_has {sc:Scope} {n:Nat} {x:Str} (h:sc.names.lookup x=some .cell):∃c,(cellsFrom n sc.names []).lookup x=some c:=by
 have q:=PySem.W.cellsFrom_some sc.names n [] (.inl h)
 exact Option.isSome_iff_exists.mp q
theorem inv_start {CX:CXT} {P:Program} {w:World} {K:PySem.W.Frag} {mg:Str->Option Value} {base:Heap} {N ps:List Str} {qual:Str} {scope:Scope} {f:Addr} {cd:Value} {A:Around} {outer:List Env} {s s1:Shared} {H:Hp} {E:XK} {us:List Value} {vs:List V}
  (S:FnScope N ps scope) (hd:A.handled=none) (e0:Env0 P w K mg base A outer s H) (hl:vs.length=ps.length) (r:Vals vs us)
  (x:InCallC s s.heap.objs.size (bindL (envOfC qual scope s.heap.objs.size f cd).kindOf (ps.zip us) fun _=>none) (cellsFrom (s.heap.objs.size + 1) scope.names []) (bindC (envOfC qual scope s.heap.objs.size f cd).kindOf (ps.zip us) fun _=>none) s1):
  Inv (cxOf CX P w K mg base N qual scope f cd A outer s H E) [] (start N vs) H s1:=by
 have hpl:ps.length<=N.length:=by have:=congrArg List.length S.pre;rw[List.length_take]at this;omega
 obtain⟨h1,tk,rfl,hk⟩:=x.done
 have noA:∀b:Addr,b ∉ (cxOf CX P w K mg base N qual scope f cd A outer s H E).ex:=fun b z=>absurd (show b ∈ ([]:List Addr)from z) (by simp)
 refine⟨⟨e0.mod,S.kind,rfl,rfl,Nat.le_refl _,fun y z c h1 h2=>?_,fun y hy=>?_,fun y c _ h=>?_,fun _=>hd,Around.frames_deeper e0.frames,.inr ⟨rfl,rfl⟩,fun b z=>absurd z (noA b),e0.bs,e0.bsz,fun b _ _=>noA b,fun b z=>absurd z (noA b),e0.funs,e0.frf⟩,
  rfl,e0.bare,Un.kept hk,⟨_,x.toInCall.ns,fun i y v h1 h2 h3=>?_⟩,fun y c h=>⟨_,x.cell y c h⟩,e0.hok.fresh (Nat.le_refl _),fun y c h=>?_,fun p hp=>absurd (show p ∈ ([]:List (Addr × Obj))from hp) (by simp),e0.hok.kept hk,?_⟩
 ·exact name_of_addr x.apart (PySem.mem_of_lookup h1) (PySem.mem_of_lookup h2)
 ·have hy:scope.names.lookup y=some .cell\/scope.names.lookup y=some .free:=hy
  rcases hy with hy | hy
  ·exact cell_has hy
  ·exact absurd rfl (S.nofree _ (PySem.mem_of_lookup hy))
 ·exact Nat.le_of_lt (x.above y c (PySem.mem_of_lookup h))
 ·have hi:i < vs.length:=by
   unfold start at h2
   by_cases hi:i < vs.length
   ·exact hi
   ·rw[List.getElem?_append_right (by simpa using hi)]at h2
    rw[List.getElem?_replicate]at h2
    split at h2<;>cases h2
  have ha:vs[i]?=some v:=by
   unfold start at h2
   rw[List.getElem?_append_left (by simpa using hi),List.getElem?_map]at h2
   cases e:vs[i]? with
   | none=>rw[e]at h2;cases h2
   | some a=>rw[e]at h2;cases h2;rfl
  obtain⟨u,hu,rv⟩:=r.get ha
  have hp:ps[i]?=some y:=by
   rw[<-S.pre,List.getElem?_take_of_lt (by omega)];exact h1
  have ndP:ps.Nodup:=by rw[<-S.pre];exact S.nd.sublist (List.take_sublist _ _)
  refine⟨u,rv,?_⟩
  rcases S.par y (List.mem_of_getElem? hp)with k | k
  ·exact .inl ⟨k,bindL_get ndP hp hu k⟩
  ·obtain⟨c,e⟩:=cell_has (n:=s.heap.objs.size + 1) k
   refine .inr ⟨.inl k,c,e,?_⟩
   have q:=x.cell y c e
   rw[bindC_get ndP hp hu (by show scope.names.lookup y ≠ _;rw[k];decide)]at q
   exact q
 ·exact e0.hok.fresh (Nat.le_of_lt (x.above y c (PySem.mem_of_lookup h)))
 ·unfold start
  show _=N.length
  rw[List.length_append,List.length_map,List.length_replicate]
  omega
theorem fn_of {CX:CXT} {P:Program} {w:World} {K:PySem.W.Frag} {mg:Str->Option Value} {base:Heap} {k:Nat} {f:Addr} {name qual:Str} {params:Arguments} {body:List Stmt} {scope:Scope} {dV kV doc pm cdv ct oc:Value} {an od:Option Addr}
  {osl:Array (Option Value)} {N ps:List Str} {sp:Sp} (lk:K.lookup f=some ⟨oc,od,.func (PySem.W.fnOf name qual params body scope dV kV doc pm an cdv ct),osl⟩) (hcd:PySem.W.codeIn K cdv qual=true) (S:FnScope N ps scope)
  (len:∀vs H Q E,sp vs H Q E->vs.length=ps.length)
  (hbody:∀ (A:Around) (outer:List Env) (s:Shared) (H:Hp) (vs:List V) (Q:VK) (E:XK),Room k (A.deeper (envOfC qual scope s.heap.objs.size f cdv))->sp vs H Q E->
   ∃t,PSs (cxOf CX P w K mg base N qual scope f cdv A outer s H E) body t/\t {nx:=fun _ H'=>Q .non H',rt:=Q} (start N vs) H):
  FnOk P w K mg base CX (k + 1) f (PySem.W.fnOf name qual params body scope dV kV doc pm an cdv ct) ps sp:=by
 refine⟨len,fun A outer s H args us vs Q E hr e0 hb r hsp=>?_⟩
 have hl:=len _ _ _ _ hsp
 have KX:K.In s.heap:=e0.mod.kin.keeps fun b o e=>(e0.bs b o e).1
 have lim:s.heap.NoLimit:=e0.mod.nolimit.keeps fun b o e=>(e0.bs b o e).1
 have hkind:∀y ∈ ps.zip us,scope.names.lookup y.1=some .local\/(scope.names.lookup y.1=some .cell/\((cellsFrom (s.heap.objs.size + 1) scope.names []).lookup y.1).isSome=true):=fun z32q hy=>by
  obtain⟨n,v⟩:=z32q
  rcases S.par n (List.of_mem_zip hy).1 with q | q
  ·exact .inl q
  ·exact .inr ⟨q,PySem.W.cellsFrom_some _ _ _ (.inl q)⟩
 refine codeAny_call_function hr.depth (KX _ _ lk) rfl S.co S.gen rfl (PySem.W.codeRec_of KX hcd) (hb _ _ _ _ ?_)
 refine wpAny_newFunctionEnv_cells S.kind hkind fun env he s1 x=>?_
 subst he
 refine⟨lim.keeps x.toInCall.keep,codeAny_func ?_⟩
 obtain⟨t,ht,hq⟩:=hbody A outer s H vs Q E (hr.deeper _) hsp
 have I:Inv (cxOf CX P w K mg base N qual scope f cdv A outer s H E) [] (start N vs) H s1:=inv_start S hr.hd e0 hl r x
 refine wpAny_mono (ht [] s1 (start N vs) H _ I hq) (fun fl s' hs=>?_) fun e s' hs=>hs
 have fin:∀ {σ':St} {H':Hp} {v:V} {u:Value},Inv (cxOf CX P w K mg base N qual scope f cdv A outer s H E) [] σ' H' s'->RelV v u->Q v H'->CE outer P w H s Q u s':=
  fun{σ' H' v u} J rv q=>⟨v,H',J.os,J.bare,J.base,J.hok,rv,q⟩
 cases fl with
 | ret u=>
  obtain⟨v,σ',H',J,rv,q⟩:=hs
  exact fin J rv q
 | next=>
  obtain⟨σ',H',J,q⟩:=hs
  exact fin (v:=V.non) (u:=Value.none) J rfl q
 | brk=>
  obtain⟨_,_,_,q⟩:=hs
  exact False.elim q
 | cont=>
  obtain⟨_,_,_,q⟩:=hs
  exact False.elim q
end L2
namespace L2
set_option genInjectivity false
open PySem PySem.Spec PyProof.Rows
section
variable {X:Cx} {x:Str} {p pos:Pos} {e:Expr} {es:List Expr} {t:TA} {id T:String} {r:List V->Hp->VK->Prop}
noncomputable def tCB (r:List V->Hp->VK->Prop) (t:TA):TE:=fun σ H Q=>t σ H fun vs H1=>r vs H1 Q
theorem pe_callB (hc:CallR X (.builtin id) r) (hg:Gl X x) (hm:X.mg x=none) (hv:bootBuiltins x=some (.builtin id)) (ha:PA X (e::es) t) (hn:x ≠ "__name__" :=by decide) (hdb:(x == ("__debug__" :Str))=false:=by decide)
  (he:starEach (e::es) X.env=(false,eval e X.env)::starEach es X.env:=by rfl) (hpl:(backTo pos (starEach es X.env)).any (·.1)=false:=by rfl):PE X (.Call (.Name x p) (e::es) [] pos) (tCB r t):=by
 intro pins s σ H Q I h
 refine wpAny_Call_Name_kw (ld_blt I hg hm hv ?_ hn hdb)
 exact PyProof.Rows.callWith_builtin1 (thn (ha pos pins s σ H _ I h) fun us s1 z33q=>by obtain⟨vs,H1,I1,r1,q1⟩:=z33q;exact hc pins s1 σ H1 vs us Q I1 r1 q1) he hpl
theorem pe_callTy (hc:CallR X (.type T) r) (hg:Gl X x) (hm:X.mg x=none) (hv:bootBuiltins x=some (.type T)) (ha:PA X (e::es) t) (hn:x ≠ "__name__" :=by decide) (hdb:(x == ("__debug__" :Str))=false:=by decide)
  (he:starEach (e::es) X.env=(false,eval e X.env)::starEach es X.env:=by rfl) (hpl:(backTo pos (starEach es X.env)).any (·.1)=false:=by rfl):PE X (.Call (.Name x p) (e::es) [] pos) (tCB r t):=by
 intro pins s σ H Q I h
 refine wpAny_Call_Name_kw (ld_blt I hg hm hv ?_ hn hdb)
 exact PyProof.Rows.callWith_type1 (thn (ha pos pins s σ H _ I h) fun us s1 z34q=>by obtain⟨vs,H1,I1,r1,q1⟩:=z34q;exact hc pins s1 σ H1 vs us Q I1 r1 q1) he hpl
end
end L2
namespace L2
set_option genInjectivity false
open PySem PySem.Spec PyProof.Rows
section
variable {κ:Type} [DecidableEq κ]
noncomputable def valV (kvs:List (κ × V)) (k:κ):Option V:=(kvs.find? fun kv=>decide (kv.1=k)).map (·.2)
theorem valV_pos {p:κ × V} {r:List (κ × V)} {k:κ} (e:p.1=k):valV (p::r) k=some p.2:=by simp[valV,List.find?_cons,e]
theorem valV_neg {p:κ × V} {r:List (κ × V)} {k:κ} (e:¬p.1=k):valV (p::r) k=valV r k:=by simp[valV,List.find?_cons,e]
theorem KV.val {kvs:List (κ × V)} {vs:List (κ × Value)} (r:KV kvs vs) (k:κ):RelO (valV kvs k) (valueAt vs k):=by
 unfold KV at r
 induction r with
 | nil=>exact True.intro
 | @cons p q ps qs h t ih=>
  obtain⟨h1,h2⟩:=h
  by_cases e:p.1=k
  ·have e':q.1=k:=h1.symm.trans e
   have b:valueAt (q::qs) k=some q.2:=by simp[valueAt,List.find?_cons,e']
   rw[valV_pos e,b];exact h2
  ·have e':¬q.1=k:=fun z=>e (h1.trans z)
   have b:valueAt (q::qs) k=valueAt qs k:=by simp[valueAt,List.find?_cons,e']
   rw[valV_neg e,b];exact ih
theorem KV.any {kvs:List (κ × V)} {vs:List (κ × Value)} (r:KV kvs vs) (k:κ):(kvs.any fun kv=>decide (kv.1=k))=vs.any fun kv=>decide (kv.1=k):=by
 unfold KV at r
 induction r with
 | nil=>rfl
 | cons h t ih=>rw[List.any_cons,List.any_cons,ih,h.1]
theorem KV.length {kvs:List (κ × V)} {vs:List (κ × Value)} (r:KV kvs vs):kvs.length=vs.length:=Paired.length r
end
theorem kV_is {P:Program} {w:World} {k:Key} {u:Value} (r:RelV (kV k) u):(mixKind P w).is k u=true:=by
 cases k with
 | inl i=>obtain⟨t,e⟩:=(show ∃t,u=Value.int i t from r);subst e;exact mixKind_int P w i t
 | inr x=>obtain⟨t,e⟩:=(show ∃t,u=Value.str x t from r);subst e;exact mixKind_str P w x t
section
variable {P:Program} {w:World} {H:Hp} {h:Heap} {a:Addr}
end
section
variable {X:Cx} {pins:List (Addr × Obj)} {σ:St} {H:Hp} {s:Shared} {a:Addr} {y v:V} {u r:Value} {o:Option V} {A:Around} {E:Value->Shared->Prop}
end
section
variable {X:Cx} {pins:List (Addr × Obj)} {σ:St} {H:Hp} {s:Shared} {a:Addr} {kvs:List (Key × V)} {k:Key} {u:Value} {A:Around} {E:Value->Shared->Prop}
end
section
variable {X:Cx} {o i e value:Expr} {pos pos' tpos:Pos} {td ty tv:TE}
end
section
variable {X:Cx} {pos:Pos}
end
structure M1 (X:Cx) (o:Expr) (m:Str) (apos:Pos) (e:Expr) (cpos:Pos):Prop where
 base:attributeBase o m X.env (eval o X.env)=eval o X.env
 few:((backTo cpos (starEach [e] X.env)).all (fun x=>!x.1) && (backToKw cpos (keywordEach [] X.env)).all (fun x=>x.1.isSome)
  && decide (([e]:List Expr).length + ([]:List Keyword).length + (if([]:List Keyword).isEmpty then 0 else 1) < 30))=true
 line:(apos.endLine == cpos.line)=true
 trees:backTo cpos (starEach [e] X.env)=[(false,eval e X.env)]
structure M2 (X:Cx) (o:Expr) (m:Str) (apos:Pos) (e f:Expr) (cpos:Pos):Prop where
 base:attributeBase o m X.env (eval o X.env)=eval o X.env
 few:((backTo cpos (starEach [e,f] X.env)).all (fun x=>!x.1) && (backToKw cpos (keywordEach [] X.env)).all (fun x=>x.1.isSome)
  && decide (([e,f]:List Expr).length + ([]:List Keyword).length + (if([]:List Keyword).isEmpty then 0 else 1) < 30))=true
 line:(apos.endLine == cpos.line)=true
 trees:backTo cpos (starEach [e,f] X.env)=[(false,eval e X.env),(false,eval f X.env)]
section
variable {X:Cx} {pins:List (Addr × Obj)} {σ:St} {H:Hp} {s:Shared} {a:Addr} {y d:V} {u r:Value} {o:Option V} {A:Around} {E:Value->Shared->Prop}
end
section
variable {X:Cx} {o e f:Expr} {apos cpos:Pos} {td ty tx:TE}
end
section
variable {X:Cx} {pins:List (Addr × Obj)} {σ:St} {H:Hp} {s:Shared} {a:Addr} {kvs:List (Key × V)} {A:Around} {E:Value->Shared->Prop}
end
section
variable {X:Cx} {pins:List (Addr × Obj)} {σ:St} {H:Hp} {s:Shared} {a:Addr} {y:V} {u:Value} {A:Around} {E:Value->Shared->Prop}
end
end L2
namespace HT
set_option genInjectivity false
open PySem PyProof.Rows
section
open PySem.SeqAt
open PySem.AutoSeq1 (wpAny_loadPart')
open PySem.MeetsSeq PySem.MeetsSeq2 PySem.MeetsSeq3
end
section
variable {prog:Program} {w:World} {A:Around} {E:Value->Shared->Prop} {s:Shared}
noncomputable def sIx (n d:Nat):Option Int->Nat
 | none=>d
 | some v=>if v < 0 then(v + (n:Int)).toNat else min v.toNat n
theorem sIx_none (n d:Nat):sIx n d none=d:=rfl
theorem sIx_nat (n d k:Nat):sIx n d (some (k:Int))=min k n:=by
 show(if(k:Int) < 0 then((k:Int) + (n:Int)).toNat else min (k:Int).toNat n)=min k n
 ((first | with_reducible refine Eq.mpr (if_neg (by omega)) ?_ | rw[if_neg (by omega)]);rw[Int.toNat_natCast])
end
end HT
namespace L2
set_option genInjectivity false
open PySem PySem.Spec PyProof.Rows
@[reducible] noncomputable def TO:=St->Hp->(Option Int->Hp->Prop)->Prop
noncomputable def PO (X:Cx) (e:Option Expr) (t:TO):Prop:=
 ∀ (pins:List (Addr × Obj)) (s:Shared) (σ:St) (H:Hp) (Q:Option Int->Hp->Prop),Inv X pins σ H s->t σ H Q->
  wpAny (model X.prog X.w) X.A (evalPart e X.env) (fun u s'=>∃o H',Inv X pins σ H' s'/\IsPart u o/\Q o H') X.xe s
noncomputable def tNoPart:TO:=fun _ H Q=>Q none H
section
variable {X:Cx} {e:Expr} {te:TE} {lo hi:Option Expr} {tl th:TO} {pos p2:Pos}
theorem po_none:PO X none tNoPart:=by
 intro pins s σ H Q I h
 rw[evalPart_none]
 exact wpAny_pure ⟨none,H,I,.none,h⟩
noncomputable def SlR (X:Cx) (r:V->Option Int->Option Int->Hp->VK->Prop):Prop:=
 ∀ (pins:List (Addr × Obj)) (s:Shared) (σ:St) (H:Hp) (x:V) (v vl vu:Value) (lo hi:Option Int) (sl:Addr) (Q:VK),Inv X pins σ H s->RelV x v->s.heap.IsSliceOf sl vl vu .none->IsPart vl lo->IsPart vu hi->r x lo hi H Q->
  ∃T id,typeLookup (.type T) "__getitem__" =pure (some (.builtin id))/\s.TypeIs v T/\wpAny (model X.prog X.w) X.A (getItem v (.ref sl)) (EP X pins σ Q) X.xe s
noncomputable def tSl (r:V->Option Int->Option Int->Hp->VK->Prop) (te:TE) (tl th:TO):TE:=fun σ H Q=>te σ H fun x H1=>tl σ H1 fun l H2=>th σ H2 fun u H3=>r x l u H3 Q
theorem pe_slice {r:V->Option Int->Option Int->Hp->VK->Prop} (hr:SlR X r) (he:PE X e te) (hl:PO X lo tl) (hu:PO X hi th):PE X (.Subscript e (.Slice lo hi none p2) pos) (tSl r te tl th):=by
 intro pins s σ H Q I h
 refine Subscript_ (thn (he pins s σ H _ I h) fun v s1 z35q=>?_)
 obtain⟨x,H1,I1,r1,q1⟩:=z35q
 refine wpAny_Slice (thn (hl pins s1 σ H1 _ I1 q1) fun vl s2 ⟨l,H2,I2,pl,q2⟩=>thn (hu pins s2 σ H2 _ I2 q2) fun vu s3 z37q=>?_)
 obtain⟨u,H3,I3,pu,q3⟩:=z37q
 rw[evalPart_none]
 refine wpAny_pure ?_
 have I4:Inv X pins σ H3 {s3 with heap:=s3.heap.push {cls:=.type "slice",data:=.fields #[vl,vu,.none]}}:=I3.kept (t':=s3.toks) fun b ob q=>Heap.get?_push_of_some _ q
 obtain⟨T,id,hT,ht,hg⟩:=hr pins {s3 with heap:=s3.heap.push {cls:=.type "slice",data:=.fields #[vl,vu,.none]}} σ H3 x v vl vu l u s3.heap.objs.size Q I4 r1 (Heap.IsSliceOf.new ..) pl pu q3
 show wpAny (model X.prog X.w) X.A (subscriptTail e (.Slice lo hi none p2) v (.ref s3.heap.objs.size)) (EP X pins σ Q) X.xe {s3 with heap:=s3.heap.push {cls:=.type "slice",data:=.fields #[vl,vu,.none]}}
 exact tail_any (ops:=[.ref s3.heap.objs.size,v]) ht hT hg (by with_unfolding_all rfl)
noncomputable def cutV (xs:List V) (lo hi:Option Int):List V:=(xs.drop (HT.sIx xs.length 0 lo)).take (HT.sIx xs.length xs.length hi - HT.sIx xs.length 0 lo)
theorem cutV_length (xs:List V) (lo hi:Option Int):(cutV xs lo hi).length<=xs.length:=by
 unfold cutV
 rw[List.length_take,List.length_drop]
 omega
end
end L2
namespace L2
set_option genInjectivity false
open PySem PySem.Spec PyProof.Rows
noncomputable def ixN (n:Nat) (i:Int):Option Nat:=if 0<=i then(if i < n then some i.toNat else none)else if -(n:Int)<=i then some (i + n).toNat else none
noncomputable def atI {α:Type} (xs:List α) (i:Int):Option α:=(ixN xs.length i).bind fun j=>xs[j]?
theorem ixN_seq {n:Nat} {i:Int} {j:Nat} (h:ixN n i=some j):seqIndex? i n=some j/\j < n/\-(n:Int)<=i/\i < n:=by
 unfold ixN at h
 by_cases h0:0<=i
 ·rw[if_pos h0]at h
  by_cases h1:i < n
  ·rw[if_pos h1]at h
   have e:i.toNat=j:=Option.some.inj h
   exact⟨by rw[seqIndex_of h0 h1,e],by omega,by omega,h1⟩
  ·rw[if_neg h1]at h;cases h
 ·rw[if_neg h0]at h
  by_cases h1: -(n:Int)<=i
  ·rw[if_pos h1]at h
   have e:(i + n).toNat=j:=Option.some.inj h
   exact⟨by rw[seqIndex_neg (by omega) h1,e],by omega,h1,by omega⟩
  ·rw[if_neg h1]at h;cases h
theorem atI_get {α:Type} {xs:List α} {i:Int} {v:α} (h:atI xs i=some v):∃j,seqIndex? i xs.length=some j/\xs[j]?=some v/\j < xs.length/\-(xs.length:Int)<=i/\i < xs.length:=by
 unfold atI at h
 cases e:ixN xs.length i with
 | none=>rw[e]at h;cases h
 | some j=>
  rw[e]at h
  obtain⟨h1,h2,h3,h4⟩:=ixN_seq e
  exact⟨j,h1,h,h2,h3,h4⟩
noncomputable def PlainIx (b:Expr):Prop:=∀o i,subscripted b false o i=operate [o,i] (getItem o i)
noncomputable def IxR (X:Cx) (r:R2):Prop:=
 ∀ (value slice:Expr) (pins:List (Addr × Obj)) (s:Shared) (σ:St) (H:Hp) (x y:V) (v u:Value) (Q:VK),Inv X pins σ H s->RelV x v->RelV y u->r x y H Q->
  subscripted slice false v u=operate [v,u] (getItem v u)->wpAny (model X.prog X.w) X.A (subscriptTail value slice v u) (EP X pins σ Q) X.xe s
noncomputable def MtR (X:Cx) (id:String) (r:V->List V->Hp->VK->Prop):Prop:=
 ∀ (pins:List (Addr × Obj)) (s:Shared) (σ:St) (H:Hp) (x:V) (xs:List V) (v:Value) (us:List Value) (Q:VK),Inv X pins σ H s->RelV x v->Vals xs us->r x xs H Q->
  wpAny (model X.prog X.w) X.A (call (.builtin id) (v::us)) (EP X pins σ Q) X.xe s
section
variable {X:Cx} {a b:Expr} {ta tb:TE} {pos:Pos}
theorem IxR.or {r r':R2} (h:IxR X r) (h':IxR X r'):IxR X (fun x y H Q=>r x y H Q\/r' x y H Q):=by
 intro value slice pins s σ H x y v u Q I rx ry q hs
 rcases q with q | q
 ·exact h value slice pins s σ H x y v u Q I rx ry q hs
 ·exact h' value slice pins s σ H x y v u Q I rx ry q hs
theorem pe_ix {r:R2} (hr:IxR X r) (ha:PE X a ta) (hb:PE X b tb) (hs:PlainIx b):PE X (.Subscript a b pos) (tOp r ta tb):=by
 intro pins s σ H Q I h
 exact Subscript_ (binT ha hb I h fun v u s2 x y H2 I2 rx ry q=>hr a b pins s2 σ H2 x y v u Q I2 rx ry q (hs _ _))
noncomputable def rIxL (K:PySem.W.Frag):R2:=fun x y H Q=>∃p xs i v,x=.ref p/\y=.int i/\SqL K H p xs/\atI xs i=some v/\Q v H
noncomputable def rIxT (K:PySem.W.Frag):R2:=fun x y H Q=>∃p xs i v,x=.ref p/\y=.int i/\SqT K H p xs/\atI xs i=some v/\Q v H
noncomputable def rIxS:R2:=fun x y H Q=>∃z i c,x=.str z/\y=.int i/\z.length<=sizeLine/\atI z.cps.toList i=some c/\Q (.str ⟨#[c]⟩) H
theorem ix_list:IxR X (rIxL X.K):=by
 intro value slice pins s σ H x y v u Q I rx ry h hs
 obtain⟨p,xs,i,z,rfl,rfl,hq,he,q⟩:=h
 cases rx
 obtain⟨t,rfl⟩:=ry
 obtain⟨its,r,pl,hz⟩:=I.list hq
 obtain⟨j,h1,h2,h3,h4,h5⟩:=atI_get he
 obtain⟨w,ew,rw'⟩:=r.get h2
 have hl:=r.length
 have hn:=line63
 have fin:EP X pins σ Q w s:=⟨z,H,I,rw',q⟩
 by_cases h0:0<=i
 ·have hj:i.toNat=j:=by
   rw[seqIndex_of h0 h5]at h1
   exact Option.some.inj h1
  exact item_listR pl.isList h0 (by omega) (by rw[hj];simpa using ew) fin hs
 ·have hj:(i + (its.toArray.size:Int)).toNat=j:=by
   rw[seqIndex_neg (by omega) h4]at h1
   rw[List.size_toArray,<-hl]
   exact Option.some.inj h1
  exact subscriptTail_builtinR (x:=w) pl.isList.typeIs slot_list_getitem.lookup
   (wpAny_getItem_list_neg (Q:=fun r s'=>r=w/\EP X pins σ Q r s') pl.isList (by omega) (by rw[List.size_toArray]<;>omega) (by omega) (by rw[hj];simpa using ew) ⟨rfl,fin⟩) hs
theorem ix_tup:IxR X (rIxT X.K):=by
 intro value slice pins s σ H x y v u Q I rx ry h hs
 obtain⟨p,xs,i,z,rfl,rfl,hq,he,q⟩:=h
 cases rx
 obtain⟨t,rfl⟩:=ry
 obtain⟨its,r,pl,hz⟩:=I.tuple hq
 obtain⟨j,h1,h2,h3,h4,h5⟩:=atI_get he
 obtain⟨w,ew,rw'⟩:=r.get h2
 have hl:=r.length
 have hn:=line63
 have fin:EP X pins σ Q w s:=⟨z,H,I,rw',q⟩
 exact subscriptTail_builtinR (x:=w) pl.typeIs slot_tuple_getitem.lookup
  (getItem_tuple (j:=j) (Q:=fun r s'=>r=w/\EP X pins σ Q r s') pl (by omega) (by omega) (by rw[List.size_toArray,<-hl];exact h1) (by simpa using ew) ⟨rfl,fin⟩) hs
theorem ix_str:IxR X rIxS:=by
 intro value slice pins s σ H x y v u Q I rx ry h hs
 obtain⟨z,i,c,rfl,rfl,hz,he,q⟩:=h
 obtain⟨t,rfl⟩:=rx
 obtain⟨t',rfl⟩:=ry
 obtain⟨j,h1,h2,h3,h4,h5⟩:=atI_get he
 have hl:z.cps.toList.length=z.length:=by simp[Str.length]
 rw[hl]at h1 h4 h5
 have hn:=line63
 exact tail_any (typeIs_str s z t) slot_str_getitem.lookup (getItem_str (c:=c) (by
  have e1:decide (i < -(2 ^ 63:Int))=false:=decide_eq_false (by omega)
  have e2:decide (i ≥ 2 ^ 63)=false:=decide_eq_false (by omega)
  rw[e1,e2,Bool.or_false]) (by rw[h1];simpa using h2) ⟨.str ⟨#[c]⟩,H,I.tok _,⟨_,rfl⟩,q⟩) hs
noncomputable def rIx (K:PySem.W.Frag):R2:=fun x y H Q=>rIxL K x y H Q\/rIxT K x y H Q\/rIxS x y H Q
theorem ix_seq:IxR X (rIx X.K):=ix_list.or (ix_tup.or ix_str)
theorem mapSeq_set (its:List Value) (n j:Nat) (u:Value):Obj.mapSeq (·.setIfInBounds j u) {cls:=.type "list",data:=.seq its.toArray n}={cls:=.type "list",data:=.seq (its.set j u).toArray n}:=by
 simp[Obj.mapSeq]
theorem Inv.lst {pins:List (Addr × Obj)} {σ:St} {H:Hp} {s:Shared} {p:Addr} {xs:List V} (I:Inv X pins σ H s) (h:H p=some (.lst xs)):
  ∃ (its:List Value) (n:Nat),Vals xs its/\s.heap.get? p=some {cls:=.type "list",data:=.seq its.toArray n}/\xs.length<=sizeLine:=by
 obtain⟨z,its,n,r,e⟩:=I.hok p _ h
 exact⟨its,n,r,e,z⟩
theorem Inv.lstUpd {pins:List (Addr × Obj)} {σ:St} {H:Hp} {s:Shared} {p:Addr} {xs ys:List V} {its its':List Value} {n n':Nat} {f:Obj->Obj} (I:Inv X pins σ H s) (h:H p=some (.lst xs))
  (ho:s.heap.get? p=some {cls:=.type "list",data:=.seq its.toArray n}) (hf:f {cls:=.type "list",data:=.seq its.toArray n}={cls:=.type "list",data:=.seq its'.toArray n'}) (r:Vals ys its') (hz:ys.length<=sizeLine) (t:Nat):
  Inv X pins σ (upd H p (.lst ys)) {s with heap:=s.heap.update p f,toks:=t}:=by
 have e:(s.heap.update p f).get? p=some {cls:=.type "list",data:=.seq its'.toArray n'}:=by
  rw[Heap.get?_update_self f ho (by rw[hf]<;>rfl),hf]
 refine I.write (x:=p) (e:=p) (by rw[h];trivial) (.inl rfl) (fun b u hb q=>(Heap.get?_update_other _ _ (Ne.symm hb)).trans q) ⟨_,e⟩ ?_
 exact⟨hz,its',n',r,e⟩
noncomputable def rSetL:V->V->V->Hp->(Hp->Prop)->Prop:=fun o i v H Q=>∃p xs k j,o=.ref p/\i=.int k/\H p=some (.lst xs)/\ixN xs.length k=some j/\Q (upd H p (.lst (xs.set j v)))
theorem set_list:PSet X rSetL:=by
 intro pins s σ H o i v ov iv u Q I ro ri rv h
 obtain⟨p,xs,k,j,rfl,rfl,hp,hj,q⟩:=h
 cases ro
 obtain⟨t,rfl⟩:=ri
 obtain⟨its,n,r,ho,hz⟩:=I.lst hp
 obtain⟨h1,h2,h3,h4⟩:=ixN_seq hj
 have hl:=r.length
 have hn:=line63
 have I':Inv X pins σ (upd H p (.lst (xs.set j v))) {s with heap:=s.heap.update p (Obj.mapSeq (·.setIfInBounds j u))}:=
  I.lstUpd hp ho (mapSeq_set its n j u) (r.set rv j) (by rw[List.length_set];exact hz) s.toks
 by_cases h0:0<=k
 ·have hk:k.toNat=j:=by
   rw[seqIndex_of h0 h4]at h1
   exact Option.some.inj h1
  exact PySem.W.ki_setAt ho h0 (by omega) (by rw[List.size_toArray,<-hl];exact h4) (by rw[hk];exact⟨_,I',q⟩)
 ·have hk:(k + (its.toArray.size:Int)).toNat=j:=by
   rw[seqIndex_neg (by omega) h3]at h1
   rw[List.size_toArray,<-hl]
   exact Option.some.inj h1
  exact PySem.W.ki_setBack ho (by omega) (by rw[List.size_toArray,<-hl];exact h3) (by omega) (by rw[hk];exact⟨_,I',q⟩)
theorem slice_bounds (lo hi:Option Int) (n:Nat):(sliceBounds lo hi none n).1=((HT.sIx n 0 lo:Nat):Int)/\(sliceBounds lo hi none n).2.1=((HT.sIx n n hi:Nat):Int)/\(sliceBounds lo hi none n).2.2=1:=by
 refine⟨?_,?_,rfl⟩
 ·cases lo with
  | none=>simp[sliceBounds,HT.sIx]
  | some i=>
   simp only[sliceBounds,HT.sIx,Option.getD_none,show(1:Int) > 0 by decide,if_true]
   by_cases h:i < 0
   ·simp only[h,if_true]<;>omega
   ·simp only[h,if_false]<;>omega
 ·cases hi with
  | none=>simp[sliceBounds,HT.sIx]
  | some i=>
   simp only[sliceBounds,HT.sIx,Option.getD_none,show(1:Int) > 0 by decide,if_true]
   by_cases h:i < 0
   ·simp only[h,if_true]<;>omega
   ·simp only[h,if_false]<;>omega
theorem slicePick_cut (its:List Value) (lo hi:Option Int):slicePick its.toArray lo hi none=((its.drop (HT.sIx its.length 0 lo)).take (HT.sIx its.length its.length hi - HT.sIx its.length 0 lo)).toArray:=by
 obtain⟨h1,h2,h3⟩:=slice_bounds lo hi its.toArray.size
 unfold slicePick
 rw[h1,h2,h3]
 simp only[sliceRange_one,pick_run,List.size_toArray]<;>rfl
noncomputable def rSlL (K:PySem.W.Frag):V->Option Int->Option Int->Hp->VK->Prop:=fun x lo hi H Q=>∃a xs,x=.ref a/\SqL K H a xs/\∀p,H p=none->Q (.ref p) (upd H p (.lst (cutV xs lo hi)))
theorem sl_list:SlR X (rSlL X.K):=by
 intro pins s σ H x v vl vu lo hi sl Q I rx hs pl pu h
 obtain⟨a,xs,rfl,hx,q⟩:=h
 cases rx
 obtain⟨its,r,ht,hz⟩:=I.list hx
 have hlen:=r.length
 refine⟨"list",_,slot_list_getitem.lookup,ht.isList.typeIs,?_⟩
 refine wpAny_getItem_list_slice ht.isList hs pl pu .none (by simp) ?_ (by rw[List.size_toArray]<;>omega)
 rw[slicePick_cut,<-hlen]
 refine⟨.ref s.heap.objs.size,_,I.laid (t':=s.toks) (o:=.lst (cutV xs lo hi)) (fun b ob q=>Heap.get?_push_of_some _ q) (Nat.le_refl _) ?_,rfl,q _ (I.hok.fresh (Nat.le_refl _))⟩
 exact⟨Nat.le_trans (cutV_length xs lo hi) hz,_,0,(r.drop (HT.sIx xs.length 0 lo)).take (HT.sIx xs.length xs.length hi - HT.sIx xs.length 0 lo),Heap.get?_push_size _ rfl⟩
noncomputable def flatV:V->Bool
 | .non=>true
 | .bl _=>true
 | .int _=>true
 | .str _=>true
 | _=>false
noncomputable def eqV:V->V->Bool
 | .non,.non=>true
 | .bl a,.bl b=>a == b
 | .bl a,.int b=>(if a then 1 else 0) == b
 | .int a,.bl b=>a == (if b then 1 else 0)
 | .int a,.int b=>a == b
 | .str a,.str b=>a == b
 | _,_=>false
theorem eqAt_V {A:Around} {s:Shared} {y x:V} {u v:Value} (ry:RelV y u) (rx:RelV x v) (fy:flatV y=true) (fx:flatV x=true):SeqAt.EqAt A s u v (eqV y x):=by
 cases y with
 | non=>
  cases ry
  cases x with
  | non=>cases rx;exact SeqAt.EqAt.same _
  | bl b=>cases rx;exact SeqAt.EqAt.none_bool b
  | int b=>obtain⟨t,rfl⟩:=rx;exact SeqAt.EqAt.none_int b t
  | str b=>obtain⟨t,rfl⟩:=rx;exact SeqAt.EqAt.none_str b t
  | _=>exact absurd (show false=true from fx) Bool.false_ne_true
 | bl a=>
  cases ry
  cases x with
  | non=>cases rx;exact SeqAt.EqAt.bool_none a
  | bl b=>cases rx;exact SeqAt.EqAt.bool_bool a b
  | int b=>obtain⟨t,rfl⟩:=rx;exact SeqAt.EqAt.bool_int a b t
  | str b=>obtain⟨t,rfl⟩:=rx;exact SeqAt.EqAt.bool_str a b t
  | _=>exact absurd (show false=true from fx) Bool.false_ne_true
 | int a=>
  obtain⟨t',rfl⟩:=ry
  cases x with
  | non=>cases rx;exact SeqAt.EqAt.int_none a t'
  | bl b=>cases rx;exact SeqAt.EqAt.int_bool a t' b
  | int b=>obtain⟨t,rfl⟩:=rx;exact SeqAt.EqAt.int_int a t' b t
  | str b=>obtain⟨t,rfl⟩:=rx;exact SeqAt.EqAt.int_str a t' b t
  | _=>exact absurd (show false=true from fx) Bool.false_ne_true
 | str a=>
  obtain⟨t',rfl⟩:=ry
  cases x with
  | non=>cases rx;exact SeqAt.EqAt.str_none a t'
  | bl b=>cases rx;exact SeqAt.EqAt.str_bool a t' b
  | int b=>obtain⟨t,rfl⟩:=rx;exact SeqAt.EqAt.str_int a t' b t
  | str b=>obtain⟨t,rfl⟩:=rx;exact SeqAt.EqAt.str_str a t' b t
  | _=>exact absurd (show false=true from fx) Bool.false_ne_true
 | _=>exact absurd (show false=true from fy) Bool.false_ne_true
noncomputable def eqU (x:V) (u:Value):Bool:=match u with
 | .none=>eqV .non x
 | .bool b=>eqV (.bl b) x
 | .int i _=>eqV (.int i) x
 | .str z _=>eqV (.str z) x
 | _=>false
theorem eqU_of {x y:V} {u:Value} (r:RelV y u) (f:flatV y=true):eqU x u=eqV y x:=by
 cases y with
 | non=>cases r;rfl
 | bl b=>cases r;rfl
 | int i=>obtain⟨t,rfl⟩:=r;rfl
 | str z=>obtain⟨t,rfl⟩:=r;rfl
 | _=>exact absurd (show false=true from f) Bool.false_ne_true
theorem any_eqU {x:V}:∀ {xs:List V} {us:List Value},Vals xs us->xs.all flatV=true->us.any (eqU x)=xs.any fun y=>eqV y x
 | _,_,.nil,_=>rfl
 | y::xs,u::us,.cons r t,f=>by
  rw[List.all_cons,Bool.and_eq_true]at f
  rw[List.any_cons,List.any_cons,eqU_of r f.1,any_eqU t f.2]
theorem mem_eqAt {A:Around} {s:Shared} {x:V} {v:Value} (rx:RelV x v) (fx:flatV x=true):∀ {xs:List V} {us:List Value},Vals xs us->xs.all flatV=true->∀u ∈ us,SeqAt.EqAt A s u v (eqU x u)
 | _,_,.nil,_=>fun u hu=>by cases hu
 | y::xs,u::us,.cons r t,f=>fun u' hu=>by
  rw[List.all_cons,Bool.and_eq_true]at f
  rcases List.mem_cons.mp hu with rfl | hu
  ·rw[eqU_of r f.1];exact eqAt_V r rx f.1 fx
  ·exact mem_eqAt rx fx t f.2 u' hu
noncomputable def inV (x:V) (xs:List V):Bool:=xs.any fun y=>eqV y x
noncomputable def rIn (K:PySem.W.Frag) (neg:Bool):R2:=fun x y H Q=>∃p xs,y=.ref p/\(SqL K H p xs\/SqT K H p xs)/\flatV x=true/\xs.all flatV=true/\Q (.bl (if neg then !inV x xs else inV x xs)) H
theorem op_in_seq:OpR X (compareOp .In) (rIn X.K false):=by
 intro pins s σ H x y v u Q I rx ry h
 obtain⟨p,xs,rfl,hq,fx,fs,q⟩:=h
 cases ry
 rcases hq with hq | hq
 ·obtain⟨its,r,pl,hz⟩:=I.list hq
  refine SeqAt.in_listAt (eqU x) pl.isList (fun w hw=>mem_eqAt rx fx r fs w (by simpa using hw)) ⟨.bl _,H,I,rfl,?_⟩
  rw[show its.toArray.any (eqU x)=its.any (eqU x) by simp,any_eqU r fs]
  exact q
 ·obtain⟨its,r,pl,hz⟩:=I.tuple hq
  refine SeqAt.in_tupleAt (eqU x) pl (fun w hw=>mem_eqAt rx fx r fs w (by simpa using hw)) ⟨.bl _,H,I,rfl,?_⟩
  rw[show its.toArray.any (eqU x)=its.any (eqU x) by simp,any_eqU r fs]
  exact q
theorem call_len_seq:CallR X (.builtin "len") (fun xs H Q=>∃p ys,xs=[.ref p]/\(SqL X.K H p ys\/SqT X.K H p ys)/\Q (.int ys.length) H):=by
 intro pins s σ H xs us Q I r h
 obtain⟨p,ys,rfl,hq,q⟩:=h
 obtain⟨u,rfl,rx⟩:=vals1 r
 cases rx
 have hn:=line63
 rcases hq with hq | hq
 ·obtain⟨its,r',pl,hz⟩:=I.list hq
  have hlen:=r'.length
  exact Calls.call_len_list pl.isList (by simp only[List.size_toArray]<;>omega) ⟨.int ys.length,H,I.tok _,⟨s.toks + 1,by rw[List.size_toArray,hlen]⟩,q⟩
 ·obtain⟨its,r',pl,hz⟩:=I.tuple hq
  have hlen:=r'.length
  exact len_tuple pl (by simp only[List.size_toArray]<;>omega) ⟨.int ys.length,H,I.tok _,⟨s.toks + 1,by rw[List.size_toArray,hlen]⟩,q⟩
theorem call_len_str:CallR X (.builtin "len") (fun xs H Q=>∃z,xs=[.str z]/\z.length<=sizeLine/\Q (.int z.length) H):=by
 intro pins s σ H xs us Q I r h
 obtain⟨z,rfl,hz,q⟩:=h
 obtain⟨u,rfl,t,rfl⟩:=vals1 r
 have hn:=line63
 exact len_str (by omega) ⟨.int z.length,H,I.tok _,⟨_,rfl⟩,q⟩
noncomputable def tyV (K:PySem.W.Frag) (T:String) (x:V) (H:Hp):Prop:=match x with
 | .str _=>T= "str"
 | .ref p=>T= "list" /\∃xs,SqL K H p xs
 | _=>False
theorem tyV_is {pins:List (Addr × Obj)} {σ:St} {H:Hp} {s:Shared} {T:String} {x:V} {v:Value} (I:Inv X pins σ H s) (r:RelV x v) (ty:tyV X.K T x H):
  s.TypeIs v T/\∀a,v=.ref a->∃ob,s.heap.get? a=some ob/\ob.dict=none:=by
 cases x with
 | str z=>
  obtain⟨t,rfl⟩:=r
  cases (show T= "str" from ty)
  exact⟨typeIs_str s z t,fun _ e=>nomatch e⟩
 | ref p=>
  cases r
  obtain⟨rfl,xs,hq⟩:=ty
  obtain⟨its,_,pl,_⟩:=I.list hq
  refine⟨pl.isList.typeIs,fun a e=>?_⟩
  cases e
  obtain⟨o,n,e,c,hd,_⟩:=pl
  exact⟨o,e,hd⟩
 | _=>exact False.elim ty
variable {o e:Expr} {es:List Expr} {to:TE} {t:TA} {name:Str} {apos cpos:Pos} {T id:String} {r:V->List V->Hp->VK->Prop}
end
end L2
namespace L2
set_option genInjectivity false
open PySem PySem.Spec PyProof.Rows
noncomputable def MtM (X:Cx) (id:String) (r:V->List V->Hp->VK->Prop):Prop:=
 ∀ (pins:List (Addr × Obj)) (s:Shared) (σ:St) (H:Hp) (x:V) (xs:List V) (v:Value) (us:List Value) (Q:VK),Inv X pins σ H s->RelV x v->Vals xs us->r x xs H Q->
  wpAny (model X.prog X.w) X.A (call (.builtin id) (v::us)) (EP X pins σ Q) X.xe s
theorem Vals.one:∀ {x:V} {us:List Value},Vals [x] us->∃u,us=[u]/\RelV x u
 | _,_,.cons r .nil=>⟨_,rfl,r⟩
section
variable {X:Cx} {pins:List (Addr × Obj)} {σ:St} {H:Hp} {s:Shared} {l b:Addr} {xs ys zs:List V}
theorem Inv.lset {its its':List Value} {n:Nat} {f:Array Value->Array Value} {t':Nat} (I:Inv X pins σ H s) (hH:H l=some (.lst xs))
  (e:s.heap.get? l=some {cls:=.type "list",data:=.seq its.toArray n}) (hf:f its.toArray=its'.toArray) (hv:Vals ys its') (hz:ys.length<=sizeLine):
  Inv X pins σ (upd H l (.lst ys)) {s with heap:=s.heap.update l (Obj.mapSeq f),toks:=t'}:=by
 have q:=PySem.IsL.update e f
 rw[hf]at q
 refine I.write (x:=l) (e:=l) (by rw[hH];exact trivial) (.inl rfl) (fun b' u hb hu=>(Heap.get?_update_other s.heap (Obj.mapSeq f) (Ne.symm hb)).trans hu) ⟨_,q⟩ ?_
 exact⟨hz,its',_,hv,q⟩
theorem Inv.lnew {its:List Value} {t':Nat} (I:Inv X pins σ H s) (hv:Vals ys its) (hz:ys.length<=sizeLine):
  Inv X pins σ (upd H s.heap.objs.size (.lst ys)) {s with heap:=s.heap.push {cls:=.type "list",data:=.seq its.toArray},toks:=t'}:=
 I.laid (fun _ _ q=>Heap.get?_push_of_some _ q) (Nat.le_refl _) ⟨hz,its,0,hv,Heap.get?_push_size _ rfl⟩
theorem Inv.fresh (I:Inv X pins σ H s):H s.heap.objs.size=none:=I.hok.fresh (Nat.le_refl _)
theorem Inv.lstM (I:Inv X pins σ H s) (hH:H l=some (.lst xs)):xs.length<=sizeLine/\∃ (its:List Value) (n:Nat),Vals xs its/\xs.length=its.length/\s.heap.get? l=some {cls:=.type "list",data:=.seq its.toArray n}:=by
 obtain⟨z,its,n,r,e⟩:=I.hok l _ hH
 exact⟨z,its,n,r,r.length,e⟩
end
section
variable {X:Cx}
noncomputable def rAppend:V->List V->Hp->VK->Prop:=fun x vs H Q=>∃l xs y,x=.ref l/\vs=[y]/\H l=some (.lst xs)/\xs.length < sizeLine/\Q .non (upd H l (.lst (xs++[y])))
theorem mt_append:MtM X "list.append" rAppend:=by
 intro pins s σ H x vs v us Q I rx rv h
 obtain⟨l,xs,y,rfl,rfl,hH,hz,q⟩:=h
 cases rx
 obtain⟨u,rfl,ru⟩:=rv.one
 obtain⟨z,its,n,r,hl,e⟩:=I.lstM hH
 refine call_meets F.slot_list_append ⟨_,e,rfl⟩ F.entry_list_append (F.args_list_append_2 _ _) (PySem.list_append l its.toArray n u (by rw[List.size_toArray];omega)) ⟨e,?_⟩
 refine⟨.non,_,I.lset (its':=its++[u]) hH e (by simp) (r.append (.cons ru .nil)) ?_,rfl,q⟩
 rw[List.length_append,List.length_singleton]
 omega
end
section
variable {prog:Program} {w:World} {A:Around} {E:Value->Shared->Prop} {s:Shared}
end
section
variable {X:Cx}
end
end L2
namespace Att
set_option genInjectivity false
open PySem PySem.W PySem.Calls PyProof.Rows
theorem ints_of_wellAll {P:Params} {h:Heap}:∀ (ns:List Int) (vs:List Value),WellAll P h vs (ns.map WData.int)->IntsAre vs ns:=by
 intro ns
 induction ns with
 | nil=>
  intro vs w
  rw[List.map_nil]at w
  cases w
  exact .nil
 | cons n ns ih=>
  intro vs w
  rw[List.map_cons]at w
  cases w with
  | cons a b=>
   cases a
   exact .cons _ _ (ih _ b)
theorem script_of {l:OpenLaw} {n:Nat} (hn:l.most=some n) {P:Params} {h:Heap} {args:List WData} {vals:List Value}
  (hpre:l.row.toRowW.claim.pre args=true) (hwl:WellAll P h vals args):
  ∃a vs ns,vals=[Value.ref a]/\args=[WData.list (ns.map WData.int)]/\h.get? a=some {cls:=.type "list",data:=.seq vs.toArray}/\IntsAre vs ns/\ns.length<=n:=by
 have hsh:WShape.hasAll [] args [.list .int]=true:=(pre_splitW hpre).1
 have hc:l.pre.holds [] {args:=args}=true:=(pre_splitW hpre).2
 obtain⟨d,r,rfl,h1,h2⟩:=hasAllW_cons hsh
 obtain rfl:=hasAllW_nil h2
 obtain⟨xs,rfl,h3⟩:=hasW_list h1
 obtain⟨ns,rfl⟩:=items_int h3
 have hlen:ns.length<=n:=by
  unfold OpenLaw.pre at hc
  have h4:(WTm.not (.lt (.lit (.int (n:Int))) (.len (.arg 0)))).holds [] {args:=[.list (ns.map .int)]}=true:=by
   have h4:=(holds_andW hc).1
   rw[hn]at h4
   exact h4
  have h5:=condW_of h4 (w_not (w_lt w_lit (w_len_list (w_arg rfl))))
  rw[List.length_map]at h5
  refine Nat.le_of_not_lt fun q=>?_
  have q':(n:Int) < ((ns.length:Nat):Int):=by omega
  first
   | (rw[decide_eq_true q']at h5;exact absurd h5 (by decide))
   | (simp at h5;omega)
 cases hwl with
 | cons w1 w2=>
  cases w2
  cases w1 with
  | list ho hall=>exact⟨_,_,ns,rfl,rfl,ho,ints_of_wellAll ns _ hall,hlen⟩
theorem post_true (l:OpenLaw) (args:List WData):l.row.toRowW.claim.post args (.bool true) args=true:=
 postW_of (r:=l.row.toRowW) (X:=(true == true))
  (show WShape.has [] (.bool true) .bool=true by first | rfl | decide | simp[WShape.has,WShape.arms,WShape.armsAll])
  (show(WTm.eq .res (.lit (.bool true))).value [] {args:=args,res:=some (.bool true),after:=args}=some (.bool (true == true))from w_eq_bool (w_res rfl) w_lit) rfl
theorem attach_call {l:OpenLaw} {n:Nat} {q:Program} {loose:List Str} {XP:(Str->Option Value)->Heap->Prop} {YP:World->Heap->Prop} {d:DefRec}
  (hn:l.most=some n) (hdf:d.params.defaults=[])
  (call:∀ (w:World) (s₀ s₁:Shared) (mg mb:Str->Option Value) (fa:Addr) (o:Obj) (pm cd doc:Value) (a:Addr) (vs:List Value) (ns:List Int),
   Ground q loose [] XP w s₀ mg mb s₁.heap->YP w s₁.heap->
   s₁.heap.get? fa=some o->o.data=.func (docDef d.name d.params d.body d.scope pm cd doc)->s₁.heap.CodeRec cd d.name->mg d.name=some (.ref fa)->
   s₁.heap.get? a=some {cls:=.type "list",data:=.seq vs.toArray}->IntsAre vs ns->ns.length<=n->s₁.gens=#[]->
   codeAny (model l.prog w) callerA (.call (.ref fa) ⟨[.ref a],[]⟩) (fun r s'=>r=.ok (.ret (.bool true))/\OldK s₁.heap s'.heap/\s'.os=s₁.os/\AllBare s'.gens) s₁):
  WalkO q loose XP YP l.row.toRowW d [] (fun f vs=>PySem.call f vs):=by
 intro w s₀ s₁ mg mb G Y fa o pm cd doc dV kV ho hd hcd hD hmg hg args vals as hpre hlay hrd hwl hlo
 obtain rfl:dV=.none:=Dflts.none hD hdf
 obtain rfl:kV=.none:=Dflts.noKw hD
 obtain⟨a,vs,ns,rfl,rfl,hobj,hints,hlen⟩:=script_of hn hpre hwl
 refine enter_call (codeAny_mono (call w s₀ s₁ mg mb fa o pm cd doc a vs ns G Y ho (fd_plain hd) hcd hmg hobj hints hlen hg) fun r s' hq=>?_)
 obtain⟨rfl,h2,h3,h4⟩:=hq
 exact⟨.inl ⟨.bool true,.bool true,[],rfl,fun _=>rfl,.bool true,post_true l _,fun _=>⟨List.Pairwise.nil,fun _ hm=>(nomatch hm)⟩⟩,h2,h3,h4⟩
section
variable {prog:Program} {w:World} {A:Around} {E:Value->Shared->Prop} {s:Shared} {K:Frag}
end
end Att
namespace L2
set_option genInjectivity false
open PySem PySem.Spec PyProof.Rows
theorem vals_ints:∀ {vs:List Value} {ns:List Int},IntsAre vs ns->Vals (ns.map V.int) vs
 | _,_,.nil=>.nil
 | _,_,.cons n t h=>.cons ⟨t,rfl⟩ (vals_ints h)
end L2
namespace L2
set_option genInjectivity false
open PySem PySem.Spec PyProof.Rows
end L2
namespace L2
set_option genInjectivity false
open PySem PySem.Spec PyProof.Rows
noncomputable def inClass (s:Stmt) (j:Nat):Stmt:=match s with
 | .ClassDef _ _ _ body _ _ _ _ _ _ _=>body.getD j (.Pass ⟨0,0,0,0⟩)
 | _=>.Pass ⟨0,0,0,0⟩
noncomputable def defArgs (s:Stmt):Arguments:=match s with
 | .FunctionDef _ a _ _ _ _ _ _ _ _=>a
 | _=>{posonlyargs:=[],args:=[],vararg:=none,kwonlyargs:=[],kw_defaults:=[],kwarg:=none,defaults:=[]}
noncomputable def defBody (s:Stmt):List Stmt:=match s with
 | .FunctionDef _ _ b _ _ _ _ _ _ _=>b
 | _=>[]
noncomputable def defScope (s:Stmt):Scope:=match s with
 | .FunctionDef _ _ _ _ _ _ sc _ _ _=>sc
 | _=>{kind:=.function,names:=[],isGenerator:=false,isCoroutine:=false}
structure Fun (K:PySem.W.Frag) (x qual:Str) (st:Stmt) (f:Addr) (fd:FuncData):Prop where
 ex:∃ (oc:Value) (od:Option Addr) (kV doc pm:Value) (an:Option Addr) (cdv ct:Value) (osl:Array (Option Value)),
  fd=PySem.W.fnOf x qual (defArgs st) (defBody st) (defScope st) .none kV doc pm an cdv ct/\K.lookup f=some ⟨oc,od,.func fd,osl⟩/\PySem.W.codeIn K cdv qual=true
 kp:PySem.W.keepIn K (.ref f)=true
section
variable {P:Program} {w:World} {K:PySem.W.Frag} {mg:Str->Option Value} {base:Heap}
theorem Fun.binds {x qual:Str} {st:Stmt} {f:Addr} {fd:FuncData} {ps:List Str} (F:Fun K x qual st f fd)
  (h:∀ (kV doc pm:Value) (an:Option Addr) (cdv ct:Value) (us:List Value),us.length=ps.length->bindArgs (PySem.W.fnOf x qual (defArgs st) (defBody st) (defScope st) .none kV doc pm an cdv ct) ⟨us,[]⟩=pure (ps.zip us)):Binds K fd ps []:=by
 obtain⟨oc,od,kV,doc,pm,an,cdv,ct,osl,rfl,lk,hcd⟩:=F.ex
 exact .all (h kV doc pm an cdv ct)
theorem fun_mk {x qual:Str} {st:Stmt} {f:Addr} {oc:Value} {od an:Option Addr} {osl:Array (Option Value)} {kV doc pm cdv ct:Value} (l:K.lookup f=some ⟨oc,od,.func (PySem.W.fnOf x qual (defArgs st) (defBody st) (defScope st) .none kV doc pm an cdv ct),osl⟩)
  (c:PySem.W.codeIn K cdv qual=true) (k:PySem.W.keepIn K (.ref f)=true):Fun K x qual st f (PySem.W.fnOf x qual (defArgs st) (defBody st) (defScope st) .none kV doc pm an cdv ct):=⟨⟨oc,od,kV,doc,pm,an,cdv,ct,osl,rfl,l,c⟩,k⟩
end
section
variable {X:Cx}
end
end L2
namespace L2
set_option genInjectivity false
open PySem PySem.Spec PyProof.Rows
section
variable {X:Cx}
end
section
variable {κ:Type} [DecidableEq κ]
end
end L2
set_option maxHeartbeats 4000000
namespace PySem.Sg
set_option genInjectivity false
open PySem PySem.Spec PyProof.Rows
section tables
end tables
noncomputable def putIn (τ:List Str) (k:Str):List Str:=if k ∈ τ then τ else τ++[k]
section add
variable {prog:Program} {w:World} {A:Around} {E:Value->Shared->Prop} {s:Shared}
end add
section loop
variable {prog:Program} {w:World} {A:Around} {R:Result->Shared->Prop} {I:Addr} {fp wr:List Addr} {G:Array GenState->Array GenState->Prop} {n:Nat} {P:Nat->Value->Prop} {St:Nat->Shared->Prop}
end loop
section new
variable {prog:Program} {w:World} {A:Around} {E:Value->Shared->Prop} {s:Shared}
end new
end PySem.Sg
namespace PySem.Sg
set_option genInjectivity false
open PySem PySem.Spec PyProof.Rows
section orders
variable {prog:Program} {w:World} {A:Around} {E:Value->Shared->Prop}
end orders
namespace F
set_option genInjectivity false
end F
section walk
variable {prog:Program} {w:World} {A:Around} {E:Value->Shared->Prop} {s:Shared}
end walk
end PySem.Sg
namespace PySem.Sg
set_option genInjectivity false
open PySem PySem.Spec PyProof.Rows
section walks
variable {prog:Program} {w:World} {A:Around}
end walks
end PySem.Sg
namespace PySem.Sg
set_option genInjectivity false
open PySem PySem.Spec PyProof.Rows
section iter
variable {prog:Program} {w:World} {A:Around} {E:Value->Shared->Prop} {s:Shared}
end iter
end PySem.Sg
namespace Sw
set_option genInjectivity false
open PySem PySem.Spec PyProof.Rows L2
@[reducible] noncomputable def Mo:=Addr->Option HO
noncomputable def rd (M:Mo) (H:Hp) (a:Addr):Option HO:=match H a with
 | some (.frz _ u)=>some u
 | some o=>some o
 | none=>M a
noncomputable def ModOk (K:PySem.W.Frag) (M:Mo):Prop:=∀a o,M a=some o->match o with
 | .lst xs=>∃ (o:Obj) (its:Array Value) (n:Nat),K.lookup a=some o/\o.cls=.type "list" /\o.dict=none/\o.data=.seq its n/\its.size<=sizeLine/\Vals xs its.toList
 | .tup xs=>∃ (o:Obj) (its:Array Value) (n:Nat),K.lookup a=some o/\o.cls=.type "tuple" /\o.data=.seq its n/\its.size<=sizeLine/\Vals xs its.toList
 | _=>False
theorem rd_cases {M:Mo} {H:Hp} {a:Addr} {u:HO} (h:rd M H a=some u):Rd H a u\/(H a=none/\M a=some u):=by
 unfold rd at h
 cases e:H a with
 | none=>rw[e]at h;exact .inr ⟨rfl,h⟩
 | some o=>
  rw[e]at h
  cases o<;>first | (injection h with h;subst h;exact .inl (.inl e)) | (injection h with h;subst h;exact .inl (.inr ⟨_,e⟩))
theorem rd_lst {K:PySem.W.Frag} {M:Mo} (m:ModOk K M) {H:Hp} {a:Addr} {xs:List V} (h:rd M H a=some (.lst xs)):SqL K H a xs:=by
 rcases rd_cases h with h | ⟨_,h⟩
 ·exact .inl h
 ·exact .inr (m a _ h)
theorem rd_tup {K:PySem.W.Frag} {M:Mo} (m:ModOk K M) {H:Hp} {a:Addr} {xs:List V} (h:rd M H a=some (.tup xs)):SqT K H a xs:=by
 rcases rd_cases h with h | ⟨_,h⟩
 ·exact .inl h
 ·exact .inr (m a _ h)
noncomputable def allM {α:Type} (f:V->Option α):List V->Option (List α)
 | []=>some []
 | x::r=>match f x,allM f r with
  | some a,some l=>some (a::l)
  | _,_=>none
noncomputable def data (M:Mo) (H:Hp):Nat->V->Option PyData
 | 0,.bl b=>some (.bool b)
 | 0,.str x=>some (.str x)
 | n + 1,.ref p=>match rd M H p with
  | some (.lst xs)=>(allM (data M H n) xs).map .list
  | some (.tup xs)=>(allM (data M H n) xs).map .tuple
  | _=>none
 | _,_=>none
theorem allM_cons {α:Type} {f:V->Option α} {x:V} {r:List V} {l:List α} (h:allM f (x::r)=some l):∃a t,f x=some a/\allM f r=some t/\l=a::t:=by
 unfold allM at h
 split at h
 ·rename_i a t h1 h2
  exact⟨a,t,h1,h2,(Option.some.inj h).symm⟩
 ·cases h
theorem allM_nil {α:Type} {f:V->Option α} {l:List α} (h:allM f []=some l):l=[]:=(Option.some.inj h).symm
theorem allM_get {α:Type} {f:V->Option α}:∀ {xs:List V} {bs:List α} {i:Nat} {x:V},allM f xs=some bs->xs[i]?=some x->∃b,bs[i]?=some b/\f x=some b
 | [],bs,i,x,h,e=>by simp at e
 | y::r,bs,i,x,h,e=>by
  obtain⟨a,t,h1,h2,rfl⟩:=allM_cons h
  cases i with
  | zero=>
   simp at e
   subst e
   exact⟨a,rfl,h1⟩
  | succ i=>exact allM_get (i:=i) h2 (by simpa using e)
theorem allM_length {α:Type} {f:V->Option α}:∀ {xs:List V} {bs:List α},allM f xs=some bs->bs.length=xs.length
 | [],bs,h=>by rw[allM_nil h];rfl
 | y::r,bs,h=>by
  obtain⟨a,t,h1,h2,rfl⟩:=allM_cons h
  simp[allM_length h2]
theorem Vals.back {xs:List V} {us:List Value} {i:Nat} {u:Value} (r:Vals xs us) (e:us[i]?=some u):∃x,xs[i]?=some x/\RelV x u:=by
 cases h:xs[i]? with
 | none=>
  have:=Vals.none_of r h
  rw[this]at e;cases e
 | some x=>
  obtain⟨u',e',rx⟩:=Vals.get r h
  rw[e']at e
  cases e
  exact⟨x,rfl,rx⟩
inductive Lies (M:Mo) (H:Hp) (h:Heap) (n:Nat):V->Value->PyData->Prop where
 | bl (b:Bool):n=0->Lies M H h n (.bl b) (.bool b) (.bool b)
 | str (x:Str) (t:Tok):n=0->Lies M H h n (.str x) (.str x t) (.str x)
 | lst {p:Addr} {xs:List V} {its:List Value} {l:List PyData} {m:Nat}:n=m + 1->h.IsList p its.toArray->Vals xs its->allM (data M H m) xs=some l->Lies M H h n (.ref p) (.ref p) (.list l)
 | tup {p:Addr} {xs:List V} {its:List Value} {l:List PyData} {m:Nat}:n=m + 1->h.IsTuple p its.toArray->Vals xs its->allM (data M H m) xs=some l->Lies M H h n (.ref p) (.ref p) (.tuple l)
section
open PySem.SeqAt
variable {X:Cx} {M:Mo} {pins:List (Addr × Obj)} {σ:L2.St} {H:Hp} {s:Shared}
theorem lies (m:ModOk X.K M) (I:Inv X pins σ H s) {n:Nat} {x:V} {v:Value} {d:PyData} (rx:RelV x v) (h:data M H n x=some d):Lies M H s.heap n x v d:=by
 cases x with
 | bl b=>cases (show v=Value.bool b from rx);cases n<;>cases h;exact .bl b rfl
 | str x=>obtain⟨t,e⟩:=(show ∃t,v=Value.str x t from rx);subst e;cases n<;>cases h;exact .str x t rfl
 | ref p=>
  cases (show v=Value.ref p from rx)
  cases n with
  | zero=>cases h
  | succ n=>
   unfold data at h
   split at h
   ·rename_i xs e
    obtain⟨l,hl,rfl⟩:=Option.map_eq_some_iff.mp h
    obtain⟨its,rv,pl,_⟩:=I.list (rd_lst m e)
    exact .lst rfl pl.isList rv hl
   ·rename_i xs e
    obtain⟨l,hl,rfl⟩:=Option.map_eq_some_iff.mp h
    obtain⟨its,rv,pl,_⟩:=I.tuple (rd_tup m e)
    exact .tup rfl pl rv hl
   ·cases h
 | _=>cases n<;>cases h
theorem item_eqAt {n:Nat} {A:Around} (ih:∀ (x y:V) (v u:Value) (d e:PyData),RelV x v->RelV y u->data M H n x=some d->data M H n y=some e->EqAt A s v u (PyData.eqv d e))
  {xs ys:List V} {vs us:List Value} {l l':List PyData} (r1:Vals xs vs) (r2:Vals ys us) (h1:allM (data M H n) xs=some l) (h2:allM (data M H n) ys=some l'):
  ∀j (q1:j < vs.toArray.size) (q2:j < us.toArray.size),EqAt A s vs.toArray[j] us.toArray[j] (pairEq l l' j):=by
 intro j q1 q2
 have q1':j < vs.length:=by simpa using q1
 have q2':j < us.length:=by simpa using q2
 obtain⟨x,ex,rx⟩:=Vals.back r1 (List.getElem?_eq_getElem q1')
 obtain⟨y,ey,ry⟩:=Vals.back r2 (List.getElem?_eq_getElem q2')
 obtain⟨d,ed,fd⟩:=allM_get h1 ex
 obtain⟨e,ee,fe⟩:=allM_get h2 ey
 have:=ih x y _ _ d e rx ry fd fe
 show EqAt A s vs.toArray[j] us.toArray[j] (PyData.eqv (l.getD j .none) (l'.getD j .none))
 rw[List.getD_eq_getElem?_getD,List.getD_eq_getElem?_getD,ed,ee]
 simpa using this
theorem rc_lists {n:Nat} {A:Around} (hu:A.units < cLine) (ih:∀ (x y:V) (v u:Value) (d e:PyData),RelV x v->RelV y u->data M H n x=some d->data M H n y=some e->EqAt A.in1 s v u (PyData.eqv d e))
  {p q:Addr} {xs ys:List V} {vs us:List Value} {l l':List PyData} (hp:s.heap.IsList p vs.toArray) (hq:s.heap.IsList q us.toArray) (r1:Vals xs vs) (r2:Vals ys us) (h1:allM (data M H n) xs=some l) (h2:allM (data M H n) ys=some l'):
  RcAt A s (.ref p) (.ref q) (PyData.eqvAll l l')/\RcNeAt A s (.ref p) (.ref q) (!PyData.eqvAll l l'):=by
 have n1:vs.length=l.length:=by rw[allM_length h1];exact r1.length.symm
 have n2:us.length=l'.length:=by rw[allM_length h2];exact r2.length.symm
 by_cases hz:l.length=l'.length
 ·have hs:vs.toArray.size=us.toArray.size:=by simp;omega
  have e1:=RcAt.lists hp hq hs hu (item_eqAt ih r1 r2 h1 h2)
  have e2:=RcNeAt.lists hp hq hs hu (item_eqAt ih r1 r2 h1 h2)
  rw[List.size_toArray,n1,eqvAll_same_length hz]at e1 e2
  exact⟨e1,e2⟩
 ·have hs:(vs.toArray.size != us.toArray.size)=true:=by simp;omega
  rw[eqvAll_other_length hz]
  exact⟨RcAt.lists_lengths hp hq hs hu,RcNeAt.lists_lengths hp hq hs hu⟩
theorem rc_tuples {n:Nat} {A:Around} (hu:A.units < cLine) (ih:∀ (x y:V) (v u:Value) (d e:PyData),RelV x v->RelV y u->data M H n x=some d->data M H n y=some e->EqAt A.in1 s v u (PyData.eqv d e))
  {p q:Addr} {xs ys:List V} {vs us:List Value} {l l':List PyData} (hp:s.heap.IsTuple p vs.toArray) (hq:s.heap.IsTuple q us.toArray) (r1:Vals xs vs) (r2:Vals ys us) (h1:allM (data M H n) xs=some l) (h2:allM (data M H n) ys=some l'):
  RcAt A s (.ref p) (.ref q) (PyData.eqvAll l l')/\RcNeAt A s (.ref p) (.ref q) (!PyData.eqvAll l l'):=by
 have n1:vs.length=l.length:=by rw[allM_length h1];exact r1.length.symm
 have n2:us.length=l'.length:=by rw[allM_length h2];exact r2.length.symm
 have e1:=RcAt.tuples hp hq hu (item_eqAt ih r1 r2 h1 h2)
 have e2:=RcNeAt.tuples hp hq hu (item_eqAt ih r1 r2 h1 h2)
 rw[List.size_toArray,List.size_toArray,n1,n2,eqvAll_eq]at e1 e2
 exact⟨e1,e2⟩
theorem eqAt_data (m:ModOk X.K M) (I:Inv X pins σ H s) (A:Around) (x y:V) (v u:Value) (d e:PyData) (rx:RelV x v) (ry:RelV y u) (h1:data M H 0 x=some d) (h2:data M H 0 y=some e):EqAt A s v u (PyData.eqv d e):=by
 cases lies m I rx h1 with
 | bl b1 z1=>
  cases lies m I ry h2 with
  | bl b2 z2=>exact EqAt.bool_bool b1 b2
  | str x2 t2 z2=>exact EqAt.bool_str b1 x2 t2
  | lst z2 hl2 r2 a2=>exact absurd z2 (by omega)
  | tup z2 hl2 r2 a2=>exact absurd z2 (by omega)
 | str x1 t1 z1=>
  cases lies m I ry h2 with
  | bl b2 z2=>exact EqAt.str_bool x1 t1 b2
  | str x2 t2 z2=>exact EqAt.str_str x1 t1 x2 t2
  | lst z2 hl2 r2 a2=>exact absurd z2 (by omega)
  | tup z2 hl2 r2 a2=>exact absurd z2 (by omega)
 | lst z1 hl1 r1 a1=>exact absurd z1 (by omega)
 | tup z1 hl1 r1 a1=>exact absurd z1 (by omega)
theorem rcAt_data (m:ModOk X.K M) (I:Inv X pins σ H s) {A:Around} {x y:V} {v u:Value} {d e:PyData} (hu:A.units < cLine) (rx:RelV x v) (ry:RelV y u) (h1:data M H 1 x=some d) (h2:data M H 1 y=some e):
  RcAt A s v u (PyData.eqv d e)/\RcNeAt A s v u (!PyData.eqv d e):=by
 have ih1:∀ (x y:V) (v u:Value) (d e:PyData),RelV x v->RelV y u->data M H 0 x=some d->data M H 0 y=some e->EqAt A.in1 s v u (PyData.eqv d e):=eqAt_data m I A.in1
 cases lies m I rx h1 with
 | bl b1 z1=>cases z1
 | str x1 t1 z1=>cases z1
 | lst z1 hl1 r1 a1=>
  cases lies m I ry h2 with
  | bl b2 z2=>cases z2
  | str x2 t2 z2=>cases z2
  | lst z2 hl2 r2 a2=>
   cases z1;cases z2
   exact rc_lists hu ih1 hl1 hl2 r1 r2 a1 a2
  | tup z2 hl2 r2 a2=>exact⟨RcAt.list_tuple hl1 hl2 hu,RcNeAt.list_tuple hl1 hl2 hu⟩
 | tup z1 hl1 r1 a1=>
  cases lies m I ry h2 with
  | bl b2 z2=>cases z2
  | str x2 t2 z2=>cases z2
  | lst z2 hl2 r2 a2=>exact⟨RcAt.tuple_list hl1 hl2 hu,RcNeAt.tuple_list hl1 hl2 hu⟩
  | tup z2 hl2 r2 a2=>
   cases z1;cases z2
   exact rc_tuples hu ih1 hl1 hl2 r1 r2 a1 a2
end
section
variable (M:Mo)
noncomputable def bnd (i:Int):Bool:=decide (-(2 ^ 64) < i) && decide (i < 2 ^ 64)
noncomputable def binV (op:Operator) (x y:V) (H:Hp) (Q:VK):Prop:=match op,x,y with
 | .Add,.int i,.int j=>Q (.int (i + j)) H
 | .Add,.str i,.str j=>i.length + j.length<=sizeLine/\Q (.str (i++j)) H
 | .Add,.ref a,.ref b=>match rd M H a,rd M H b with
  | some (.lst xs),some (.lst ys)=>xs.length + ys.length<=sizeLine/\∀p,H p=none->M p=none->Q (.ref p) (upd H p (.lst (xs++ys)))
  | _,_=>False
 | .Sub,.int i,.int j=>Q (.int (i - j)) H
 | .Mult,.int i,.int j=>(bnd i || bnd j)=true/\Q (.int (i * j)) H
 | .Mult,.str x,.int k=>(-(2 ^ 63)<=k/\k < 2 ^ 63/\x.length * k.toNat<=16777216)/\Q (.str (Txt.mul x k)) H
 | .FloorDiv,.int i,.int j=>0 < j/\j < 1073741824/\Q (.int (i / j)) H
 | .Mod,.int i,.int j=>0 < j/\Q (.int (i % j)) H
 | _,_,_=>False
noncomputable def cmpV (op:CmpOp) (x y:V) (H:Hp) (Q:VK):Prop:=match op,x,y with
 | .Eq,_,_=>if scal x y=true then Q (.bl (decide (x=y))) H else match data M H 1 x,data M H 1 y with
  | some d,some e=>Q (.bl (PyData.eqv d e)) H
  | _,_=>False
 | .NotEq,_,_=>if scal x y=true then Q (.bl (!decide (x=y))) H else match data M H 1 x,data M H 1 y with
  | some d,some e=>Q (.bl (!PyData.eqv d e)) H
  | _,_=>False
 | .Lt,.int i,.int j=>Q (.bl (decide (i < j))) H
 | .LtE,.int i,.int j=>Q (.bl (decide (i<=j))) H
 | .Gt,.int i,.int j=>Q (.bl (decide (j < i))) H
 | .Lt,.str i,.str j=>Q (.bl (decide (i.cps.toList < j.cps.toList))) H
 | .LtE,.str i,.str j=>Q (.bl (!decide (j.cps.toList < i.cps.toList))) H
 | .Gt,.str i,.str j=>Q (.bl (decide (j.cps.toList < i.cps.toList))) H
 | .In,.str i,.str j=>Q (.bl (!(Builtin.Str.occurrences j i 0 j.length 1).isEmpty)) H
 | .In,_,.ref p=>match rd M H p with
  | some (.lst xs)=>flatV x=true/\xs.all flatV=true/\Q (.bl (inV x xs)) H
  | some (.tup xs)=>flatV x=true/\xs.all flatV=true/\Q (.bl (inV x xs)) H
  | _=>False
 | .Is,_,.non=>Q (.bl (decide (x=.non))) H
 | .IsNot,_,.non=>Q (.bl (!decide (x=.non))) H
 | _,_,_=>False
noncomputable def truV (x:V) (H:Hp) (Q:Bool->Prop):Prop:=match x with
 | .non=>Q false
 | .bl b=>Q b
 | .int i=>Q (i != 0)
 | .str y=>y.length<=sizeLine/\Q ((y.length:Int) != 0)
 | .ref p=>match rd M H p with
  | some (.lst xs)=>Q (!xs.isEmpty)
  | some (.tup xs)=>Q (!xs.isEmpty)
  | _=>False
 | _=>False
noncomputable def idxV (x y:V) (H:Hp) (Q:VK):Prop:=match x,y with
 | .str z,.int i=>z.length<=sizeLine/\match atI z.cps.toList i with | some c=>Q (.str ⟨#[c]⟩) H | none=>False
 | .ref p,.int i=>match rd M H p with
  | some (.lst xs)=>match atI xs i with | some v=>Q v H | none=>False
  | some (.tup xs)=>match atI xs i with | some v=>Q v H | none=>False
  | _=>False
 | _,_=>False
end
section
variable {X:Cx} {M:Mo}
theorem bnd_ok {i j:Int} (h:(bnd i || bnd j)=true):CMul i j:=by
 unfold bnd at h
 simp only[Bool.or_eq_true,Bool.and_eq_true,decide_eq_true_eq]at h
 exact h
noncomputable def OffM (M:Mo) (H:Hp):Prop:=∀a,M a ≠ none->H a=none
theorem ModOk.look {K:PySem.W.Frag} {M:Mo} (m:ModOk K M) {a:Addr} (h:M a ≠ none):∃o,K.lookup a=some o:=by
 cases e:M a with
 | none=>exact absurd e h
 | some u=>
  have z:=m a u e
  cases u<;>first | exact z.elim | (obtain⟨o,_,_,h1,_⟩:=z;exact⟨o,h1⟩)
theorem Inv.offM (m:ModOk X.K M) {pins:List (Addr × Obj)} {σ:L2.St} {H:Hp} {s:Shared} (I:Inv X pins σ H s):OffM M H:=fun a h=>by
 obtain⟨o,e⟩:=m.look h
 exact(I.bs a o (I.ok.mod.kin a o e)).2
theorem OffM.new {H:Hp} {p:Addr} {o:HO} (h:OffM M (upd H p o)):M p=none:=by
 cases e:M p with
 | none=>rfl
 | some u=>
  have z:=h p (by rw[e];intro z;cases z)
  rw[upd_same]at z
  cases z
theorem ep_off (m:ModOk X.K M) {pins:List (Addr × Obj)} {σ:L2.St} {Q:VK} {u:Value} {s:Shared} (h:EP X pins σ (fun v H'=>OffM M H'->Q v H') u s):EP X pins σ Q u s:=by
 obtain⟨v,H',I,r,q⟩:=h
 exact⟨v,H',I,r,q (Inv.offM m I)⟩
theorem cat_lists (m:ModOk X.K M) {pins:List (Addr × Obj)} {s:Shared} {σ:L2.St} {H:Hp} {l b:Addr} {xs ys:List V} {Q:VK} (I:Inv X pins σ H s) (ha:SqL X.K H l xs) (hb:SqL X.K H b ys) (hz:xs.length + ys.length<=sizeLine)
  (h:∀p,H p=none->M p=none->Q (.ref p) (upd H p (.lst (xs++ys)))):wpAny (model X.prog X.w) X.A (binaryOp .Add (.ref l) (.ref b)) (EP X pins σ Q) X.xe s:=by
 obtain⟨its,r1,p1,_⟩:=I.list ha
 obtain⟨its2,r2,p2,_⟩:=I.list hb
 obtain⟨⟨c1,d1,da1,sl1⟩,n1,o1,hc1,hd1,hda1⟩:=p1
 obtain⟨⟨c2,d2,da2,sl2⟩,n2,o2,hc2,hd2,hda2⟩:=p2
 simp only at hc1 hda1 hc2 hda2
 subst hc1 hda1 hc2 hda2
 have hsz:its.toArray.size + its2.toArray.size<=sizeLine:=by rw[List.size_toArray,List.size_toArray,<-r1.length,<-r2.length];exact hz
 refine concat_meets ⟨_,o1,rfl⟩ ⟨_,o2,rfl⟩ noFill_list_add seq_list_add PySem.F.slot_list_add PySem.F.entry_list_add (PySem.F.args_list_add_2 _ _) (list_addW l b its.toArray its2.toArray n1 n2 d1 d2 sl1 sl2 hsz) ⟨o1,o2,?_⟩
 have ea:its.toArray++its2.toArray=(its++its2).toArray:=by simp
 rw[ea]
 have I2:=I.lnew (t':=s.toks) (r1.append r2) (by rw[List.length_append];exact hz)
 exact⟨.ref _,_,I2,rfl,h _ I.fresh (OffM.new (Inv.offM m I2))⟩
theorem mul_ok {x:Str} {k:Int} (h: -(2 ^ 63)<=k/\k < 2 ^ 63/\x.length * k.toNat<=16777216):MulOk x k:=by
 obtain⟨h1,h2,h3⟩:=h
 refine⟨by simp;omega,fun z _=>?_,fun z _=>?_⟩
 ·have hk:0 < k:=by omega
  intro hc
  have:=Int.lt_of_lt_of_le (Int.lt_mul_of_ediv_lt hk hc) (Int.le_refl _)
  have e:(x.length:Int) * k=((x.length * k.toNat:Nat):Int):=by
   rw[Int.natCast_mul]
   congr 1
   omega
  rw[e]at this
  omega
 ·unfold Builtin.Str.tooLong
  rw[decide_eq_false_iff_not,sizeLine_eq]
  omega
theorem bin_ok (m:ModOk X.K M) (op:Operator):OpR X (binaryOp op) (binV M op):=by
 intro pins s σ H x y v u Q I rx ry h
 cases op with
 | Add=>
  cases x with
  | int i=>
   cases y with
   | int j=>
    exact op_add pins s σ H _ _ v u Q I rx ry ⟨_,_,rfl,rfl,h⟩
   | _=>exact False.elim h
  | str i=>
   cases y with
   | str j=>
    exact op_add_str pins s σ H _ _ v u Q I rx ry ⟨_,_,rfl,rfl,h.1,h.2⟩
   | _=>exact False.elim h
  | ref a=>
   cases y with
   | ref b=>
    unfold binV at h
    dsimp only at h
    split at h
    ·rename_i xs ys ea eb
     cases rx
     cases ry
     exact cat_lists m I (rd_lst m ea) (rd_lst m eb) h.1 h.2
    ·exact h.elim
   | _=>exact False.elim h
  | _=>first | exact False.elim h | (cases y<;>exact False.elim h)
 | Sub=>
  cases x with
  | int i=>
   cases y with
   | int j=>
    exact op_sub pins s σ H _ _ v u Q I rx ry ⟨_,_,rfl,rfl,h⟩
   | _=>exact False.elim h
  | _=>first | exact False.elim h | (cases y<;>exact False.elim h)
 | Mult=>
  cases x with
  | int i=>
   cases y with
   | int j=>
    exact op_mul pins s σ H _ _ v u Q I rx ry ⟨_,_,rfl,rfl,bnd_ok h.1,h.2⟩
   | _=>exact False.elim h
  | str z=>
   cases y with
   | int k=>
    obtain⟨t,rfl⟩:=rx
    obtain⟨t',rfl⟩:=ry
    exact PySem.SB.mul (mul_ok h.1) fun t' k=>⟨.str _,H,I.tok _,⟨_,rfl⟩,h.2⟩
   | _=>exact False.elim h
  | _=>first | exact False.elim h | (cases y<;>exact False.elim h)
 | FloorDiv=>
  cases x with
  | int i=>
   cases y with
   | int j=>
    exact op_fdiv pins s σ H _ _ v u Q I rx ry ⟨_,_,rfl,rfl,⟨h.1,h.2.1⟩,h.2.2⟩
   | _=>exact False.elim h
  | _=>first | exact False.elim h | (cases y<;>exact False.elim h)
 | Mod=>
  cases x with
  | int i=>
   cases y with
   | int j=>
    exact op_mod pins s σ H _ _ v u Q I rx ry ⟨_,_,rfl,rfl,h.1,h.2⟩
   | _=>exact False.elim h
  | _=>first | exact False.elim h | (cases y<;>exact False.elim h)
 | Pow=>first | exact False.elim h | (cases x<;>first | exact False.elim h | (cases y<;>exact False.elim h))
 | _=>exact False.elim h
theorem in_any {x y:V} {H:Hp} {Q:VK} (h:cmpV M .In x y H Q):(∃ i j,x=.str i/\y=.str j)\/∃p,y=.ref p:=by
 cases y with
 | ref p=>exact .inr ⟨p,rfl⟩
 | str j=>cases x with
  | str i=>exact .inl ⟨i,j,rfl,rfl⟩
  | _=>exact False.elim h
 | _=>cases x<;>exact False.elim h
theorem is_any {op:CmpOp} {x y:V} {H:Hp} {Q:VK} (h:cmpV M op x y H Q) (e:op=.Is\/op=.IsNot):y=.non:=by
 cases y with
 | non=>rfl
 | _=>rcases e with e | e<;>(subst e;first | exact False.elim h | (cases x<;>exact False.elim h))
theorem lt_any {op:CmpOp} {x y:V} {H:Hp} {Q:VK} (h:cmpV M op x y H Q) (e:op=.Lt\/op=.LtE\/op=.Gt):(∃ i j,x=.int i/\y=.int j)\/∃i j,x=.str i/\y=.str j:=by
 cases x with
 | int i=>cases y with
  | int j=>exact .inl ⟨i,j,rfl,rfl⟩
  | _=>rcases e with e | e | e<;>(subst e;exact False.elim h)
 | str i=>cases y with
  | str j=>exact .inr ⟨i,j,rfl,rfl⟩
  | _=>rcases e with e | e | e<;>(subst e;exact False.elim h)
 | _=>rcases e with e | e | e<;>(subst e;exact False.elim h)
theorem cmp_ok (hu:X.A.units + 64 < cLine) (m:ModOk X.K M) (op:CmpOp):OpR X (compareOp op) (cmpV M op):=by
 intro pins s σ H x y v u Q I rx ry h
 cases op with
 | Eq=>
  by_cases hs:scal x y=true
  ·exact op_eq pins s σ H _ _ v u Q I rx ry ⟨hs,Eq.mp (if_pos hs) (show(if scal x y=true then _ else _)from h)⟩
  ·have h:=Eq.mp (if_neg hs) (show(if scal x y=true then _ else _)from h)
   split at h
   ·rename_i d e h1 h2
    exact(rcAt_data m I (by omega) rx ry h1 h2).1 X.prog X.w X.xe _ ⟨.bl _,H,I,rfl,h⟩
   ·exact h.elim
 | NotEq=>
  by_cases hs:scal x y=true
  ·exact op_ne pins s σ H _ _ v u Q I rx ry ⟨hs,Eq.mp (if_pos hs) (show(if scal x y=true then _ else _)from h)⟩
  ·have h:=Eq.mp (if_neg hs) (show(if scal x y=true then _ else _)from h)
   split at h
   ·rename_i d e h1 h2
    exact(rcAt_data m I (by omega) rx ry h1 h2).2 X.prog X.w X.xe _ ⟨.bl _,H,I,rfl,h⟩
   ·exact h.elim
 | Lt=>
  obtain⟨i,j,rfl,rfl⟩ | ⟨i,j,rfl,rfl⟩:=lt_any h (.inl rfl)
  ·exact op_lt pins s σ H _ _ v u Q I rx ry ⟨_,_,rfl,rfl,h⟩
  ·exact op_lt_str pins s σ H _ _ v u Q I rx ry ⟨_,_,rfl,rfl,h⟩
 | LtE=>
  obtain⟨i,j,rfl,rfl⟩ | ⟨i,j,rfl,rfl⟩:=lt_any h (.inr (.inl rfl))
  ·exact op_le pins s σ H _ _ v u Q I rx ry ⟨_,_,rfl,rfl,h⟩
  ·obtain⟨t,rfl⟩:=rx
   obtain⟨t',rfl⟩:=ry
   exact PySem.P.le_str (fin_bl I h rfl)
 | Gt=>
  obtain⟨i,j,rfl,rfl⟩ | ⟨i,j,rfl,rfl⟩:=lt_any h (.inr (.inr rfl))
  ·exact op_gt pins s σ H _ _ v u Q I rx ry ⟨_,_,rfl,rfl,h⟩
  ·obtain⟨t,rfl⟩:=rx
   obtain⟨t',rfl⟩:=ry
   exact PySem.P.gt_str (fin_bl I h rfl)
 | In=>
  obtain⟨i,j,rfl,rfl⟩ | ⟨p,rfl⟩:=in_any h
  ·exact op_in_str pins s σ H _ _ v u Q I rx ry ⟨_,_,rfl,rfl,h⟩
  ·have h:(match rd M H p with
    | some (.lst xs)=>flatV x=true/\xs.all flatV=true/\Q (.bl (inV x xs)) H
    | some (.tup xs)=>flatV x=true/\xs.all flatV=true/\Q (.bl (inV x xs)) H
    | _=>False):=by cases x<;>exact h
   split at h
   ·rename_i e;exact op_in_seq pins s σ H _ _ v u Q I rx ry ⟨_,_,rfl,.inl (rd_lst m e),h.1,h.2.1,h.2.2⟩
   ·rename_i e;exact op_in_seq pins s σ H _ _ v u Q I rx ry ⟨_,_,rfl,.inr (rd_tup m e),h.1,h.2.1,h.2.2⟩
   ·exact h.elim
 | NotIn=>first | exact False.elim h | (cases x<;>first | exact False.elim h | (cases y<;>exact False.elim h))
 | Is=>
  obtain rfl:=is_any h (.inl rfl)
  exact op_isN pins s σ H _ _ v u Q I rx ry ⟨rfl,by cases x<;>exact h⟩
 | IsNot=>
  obtain rfl:=is_any h (.inr rfl)
  exact op_notN pins s σ H _ _ v u Q I rx ry ⟨rfl,by cases x<;>exact h⟩
 | _=>exact False.elim h
theorem tru_of (m:ModOk X.K M):TruR X (fun x H Q=>truV M x H fun k=>Q k H):=by
 intro pins s σ H x v Q I rx h
 refine tru_ok pins s σ H x v Q I rx ?_
 unfold truV at h
 split at h
 ·exact⟨_,rfl,h⟩
 ·exact⟨_,rfl,h⟩
 ·exact⟨_,rfl,h⟩
 ·exact⟨_,⟨h.1,rfl⟩,h.2⟩
 ·split at h
  ·rename_i e;exact⟨_,.inl ⟨_,rd_lst m e,rfl⟩,h⟩
  ·rename_i e;exact⟨_,.inr (.inl ⟨_,rd_tup m e,rfl⟩),h⟩
  ·exact h.elim
 ·exact h.elim
theorem idx_ok (m:ModOk X.K M):IxR X (idxV M):=by
 intro value slice pins s σ H x y v u Q I rx ry h hs
 refine ix_seq value slice pins s σ H x y v u Q I rx ry ?_ hs
 unfold idxV at h
 split at h
 ·obtain⟨h1,h⟩:=h
  split at h
  ·rename_i e;exact .inr (.inr ⟨_,_,_,rfl,rfl,h1,e,h⟩)
  ·exact h.elim
 ·split at h
  ·rename_i e
   split at h
   ·rename_i e2;exact .inl ⟨_,_,_,_,rfl,rfl,rd_lst m e,e2,h⟩
   ·exact h.elim
  ·rename_i e
   split at h
   ·rename_i e2;exact .inr (.inl ⟨_,_,_,_,rfl,rfl,rd_tup m e,e2,h⟩)
   ·exact h.elim
  ·exact h.elim
 ·exact h.elim
end
end Sw
namespace Sw
set_option genInjectivity false
open PySem PySem.Spec PyProof.Rows L2
inductive Bf where | len | all | any | str | int | abs | sorted | sortset | list | tuple | max | min | sum
 deriving DecidableEq
noncomputable def Bf.name:Bf->Str
 | .len=> "len" | .all=> "all" | .any=> "any" | .str=> "str" | .int=> "int" | .abs=> "abs" | .sorted=> "sorted" | .sortset=> "sorted" | .list=> "list" | .tuple=> "tuple" | .max=> "max" | .min=> "min" | .sum=> "sum"
inductive Mf where | startswith | endswith | split | join | append | pop | extend
 deriving DecidableEq
noncomputable def Mf.name:Mf->Str
 | .startswith=> "startswith" | .endswith=> "endswith" | .split=> "split" | .join=> "join" | .append=> "append" | .pop=> "pop" | .extend=> "extend"
inductive Ty where | str | int | bool | list | tuple | dict | own (x:Str)
 deriving DecidableEq
noncomputable def Ty.name:Ty->Str
 | .str=> "str" | .int=> "int" | .bool=> "bool" | .list=> "list" | .tuple=> "tuple" | .dict=> "dict" | .own x=>x
mutual
inductive Ex where
 | var (i:Nat) | con (v:V) | glob (x:Str)
 | bin (op:Operator) (a b:Ex) | neg (a:Ex)
 | cmp (op:CmpOp) (a b:Ex) | cmp2 (o1 o2:CmpOp) (a b c:Ex)
 | and (a b:Ex) | or (a b:Ex) | not (a:Ex)
 | ite (c a b:Ex)
 | call (f:Str) (args:Exs)
 | blt (f:Bf) (args:Exs)
 | mth (m:Mf) (o:Ex) (args:Exs)
 | isin (a:Ex) (T:Ty)
 | fld (a:Ex) (f:Str)
 | idx (a b:Ex)
 | slc (a:Ex) (lo hi:Exs)
 | tup (es:Exs) | lst (es:Exs)
 | comp (x:Str) (fv:List (Str × Nat)) (it:Ix) (elt:Ex) (ifs:Exs)
 | callv (f:Ex) (args:Exs) | gidx (x:Str) (b:Ex)
inductive Exs where
 | nil | cons (e:Ex) (r:Exs)
inductive Ix where
 | ex (e:Ex) | rng1 (a:Ex)
end
mutual
inductive Sx where
 | asg (i:Nat) (e:Ex)
 | exp (e:Ex) | ret (e:Ex)
 | iff (c:Ex) (a b:Sxs)
 | whl (c:Ex) (b:Sxs)
 | fr (i:Nat) (it:Ix) (b:Sxs)
 | rais (C:Str) (args:Exs)
 | tryx (b:Sxs) (C:Str) (i:Option Nat) (h:Sxs)
 | sto (o i e:Ex) | asgT (is:List Nat) (e:Ex) | frT (is:List Nat) (it:Ix) (b:Sxs) | raisF (C:Str) (args:Exs)
inductive Sxs where
 | nil | cons (s:Sx) (r:Sxs)
end
noncomputable def isVis (sc:Scope) (x:Str):Bool:=match sc.names.lookup x with
 | some .local=>true | some .cell=>true | some .free=>true | _=>false
noncomputable def isLoc (sc:Scope) (x:Str):Bool:=match sc.names.lookup x with
 | some .local=>true | some .cell=>true | _=>false
noncomputable def isGl (sc:Scope) (x:Str):Bool:=match sc.names.lookup x with
 | some .globalImplicit=>true | _=>false
noncomputable def okName (x:Str):Bool:=!(x == ("__debug__" :Str)) && !(x == ("__classdict__" :Str)) && !(decide (x= "__name__"))
noncomputable def plainE:Expr->Bool
 | .Starred _ _=>false | .Set _ _ _=>false | .Slice _ _ _ _=>false | _=>true
noncomputable def noCall0:Expr->Bool
 | .Call (.Name _ _) [] [] _=>false | _=>true
noncomputable def compOk (sc:Scope) (csc:Scope) (N:List Str) (x:Str) (fv:List (Str × Nat)):Bool:=
 decide (csc.kind=.function) && decide (csc.names.lookup x=some .local) && decide (sc.kind=.function)
 && csc.names.all (fun y=>decide (y.2 ≠ .cell) && (decide (y.2 ≠ .local) || decide (csc.names.lookup y.1=some .local)) && (decide (y.2 ≠ .free) || (decide (sc.names.lookup y.1=some .cell) || decide (sc.names.lookup y.1=some .free))))
 && fv.all (fun y=>decide (N[y.2]?=some y.1) && decide (csc.names.lookup y.1=some .free) && decide (y.1 ≠ x))
 && decide (fv.map (·.1)).Nodup
noncomputable def ek:Expr->List Expr
 | .BoolOp _ vs _=>vs
 | .BinOp a _ b _=>[a,b]
 | .UnaryOp _ a _=>[a]
 | .IfExp c a b _=>[c,a,b]
 | .Dict ks vs _=>((ks.zip vs).map fun t=>[t.1.getD default,t.2]).flatten
 | .ListComp e gs _ _=>e::(gs.map fun g=>g.target::g.iter::g.ifs).flatten
 | .Compare a _ bs _=>a::bs
 | .Call f es _ _=>f::es
 | .FormattedValue a _ _ _=>[a]
 | .JoinedStr vs _=>vs
 | .Attribute a _ _=>[a]
 | .Subscript a b _=>[a,b]
 | .List es _=>es
 | .Tuple es _ _=>es
 | .Slice l u _ _=>[l.getD default,u.getD default]
 | _=>[]
noncomputable def kd:Expr->Nat
 | .Constant _ k _=>k
 | .Tuple _ k _=>k
 | _=>0
noncomputable def csc:Expr->Scope
 | .ListComp _ _ sc _=>sc
 | _=>default
noncomputable def kid (e:Expr) (i:Nat):Expr:=(ek e).getD i default
noncomputable def se:Stmt->List Expr
 | .Return v _=>[v.getD default]
 | .Assign ts v _=>ts++[v]
 | .For t it _ _ _=>[t,it]
 | .While c _ _ _=>[c]
 | .If c _ _ _=>[c]
 | .Raise e c _=>[e.getD default,c.getD default]
 | .Try _ hs _ _ _=>hs.map fun h=>match h with | .ExceptHandler t _ _ _=>t.getD default
 | .Expr v _=>[v]
 | _=>[]
noncomputable def sb:Stmt->List Stmt × List Stmt
 | .For _ _ b _ _=>(b,[])
 | .While _ b _ _=>(b,[])
 | .If _ a b _=>(a,b)
 | .Try b hs _ _ _=>(b,(hs.map fun h=>match h with | .ExceptHandler _ _ b _=>b).flatten)
 | _=>([],[])
noncomputable def hpos:Stmt->Pos
 | .Try _ (.ExceptHandler _ _ _ p::_) _ _ _=>p
 | _=>⟨0,0,0,0⟩
noncomputable def sk (s:Stmt) (i:Nat):Expr:=(se s).getD i default
noncomputable def nx (N:List Str) (i:Nat):Str:=N.getD i Str.empty
noncomputable def cOf:V->Const
 | .int i=>.int i | .str x=>.str x | .bl b=>.bool b | _=>.none
noncomputable def isC:V->Bool
 | .int _=>true | .str _=>true | .bl _=>true | .non=>true | _=>false
noncomputable def isAnd:Ex->Bool
 | .and _ _=>true | _=>false
noncomputable def isOr:Ex->Bool
 | .or _ _=>true | _=>false
noncomputable def isComp:Ex->Bool
 | .comp _ _ _ _ _=>true | _=>false
noncomputable def isTup:Ex->Bool
 | .tup _=>true | _=>false
noncomputable def nilX:Sxs->Bool
 | .nil=>false | _=>true
noncomputable def Exs.len:Exs->Nat
 | .nil=>0
 | .cons _ r=>r.len + 1
noncomputable def isFv:Ex->Bool
 | .var _=>true | .idx _ _=>true | _=>false
noncomputable def isIn (fv:List (Str × Nat)) (x:Str):List Str:=x::fv.map (·.1)
mutual
noncomputable def bE (N:List Str):Ex->Expr->Expr
 | .var i,e=>.Name (nx N i) e.pos
 | .con v,e=>.Constant (cOf v) (kd e) e.pos
 | .glob x,e=>.Name x e.pos
 | .bin op a b,e=>.BinOp (bE N a (kid e 0)) op (bE N b (kid e 1)) e.pos
 | .neg a,e=>.UnaryOp .USub (bE N a (kid e 0)) e.pos
 | .cmp op a b,e=>.Compare (bE N a (kid e 0)) [op] [bE N b (kid e 1)] e.pos
 | .cmp2 o1 o2 a b c,e=>.Compare (bE N a (kid e 0)) [o1,o2] [bE N b (kid e 1),bE N c (kid e 2)] e.pos
 | .and a b,e=>.BoolOp .And (bE N a (kid e 0)::(cond (decide ((ek e).length=2)) [bE N b (kid e 1)] (ek (bE N b (.BoolOp .And (ek e).tail e.pos))))) e.pos
 | .or a b,e=>.BoolOp .Or (bE N a (kid e 0)::(cond (decide ((ek e).length=2)) [bE N b (kid e 1)] (ek (bE N b (.BoolOp .Or (ek e).tail e.pos))))) e.pos
 | .not a,e=>.UnaryOp .Not (bE N a (kid e 0)) e.pos
 | .ite c a b,e=>.IfExp (bE N c (kid e 0)) (bE N a (kid e 1)) (bE N b (kid e 2)) e.pos
 | .call f args,e=>.Call (.Name f (kid e 0).pos) (bEs N args (ek e).tail) [] e.pos
 | .blt f args,e=>.Call (.Name f.name (kid e 0).pos) (bEs N args (ek e).tail) [] e.pos
 | .mth m o args,e=>.Call (.Attribute (bE N o (kid (kid e 0) 0)) m.name (kid e 0).pos) (bEs N args (ek e).tail) [] e.pos
 | .isin a T,e=>.Call (.Name "isinstance" (kid e 0).pos) [bE N a (kid e 1),.Name T.name (kid e 2).pos] [] e.pos
 | .fld a f,e=>.Attribute (bE N a (kid e 0)) f e.pos
 | .idx a b,e=>.Subscript (bE N a (kid e 0)) (bE N b (kid e 1)) e.pos
 | .slc a lo hi,e=>.Subscript (bE N a (kid e 0)) (.Slice (bEs N lo [kid (kid e 1) 0]).head? (bEs N hi [kid (kid e 1) 1]).head? none (kid e 1).pos) e.pos
 | .tup es,e=>.Tuple (bEs N es (ek e)) (kd e) e.pos
 | .lst es,e=>.List (bEs N es (ek e)) e.pos
 | .comp x fv it elt ifs,e=>.ListComp (bE (isIn fv x) elt (kid e 0)) [⟨.Name x (kid e 1).pos,bI N it (kid e 2),bEs (isIn fv x) ifs ((ek e).drop 3),0⟩] (csc e) e.pos
 | .callv f args,e=>.Call (bE N f (kid e 0)) (bEs N args (ek e).tail) [] e.pos
 | .gidx x b,e=>.Subscript (.Name x (kid e 0).pos) (bE N b (kid e 1)) e.pos
noncomputable def bEs (N:List Str):Exs->List Expr->List Expr
 | .nil,_=>[]
 | .cons c r,es=>bE N c (es.headD default)::bEs N r es.tail
noncomputable def bI (N:List Str):Ix->Expr->Expr
 | .ex c,e=>bE N c e
 | .rng1 a,e=>.Call (.Name "range" (kid e 0).pos) [bE N a (kid e 1)] [] e.pos
end
mutual
/-- what must hold besides -/
noncomputable def oE (sc:Scope) (N:List Str):Ex->Expr->Bool
 | .var i,_=>decide (i < N.length) && (isVis sc (nx N i) && okName (nx N i))
 | .con v,_=>isC v
 | .glob x,_=>isGl sc x && okName x
 | .bin _ a b,e=>oE sc N a (kid e 0) && oE sc N b (kid e 1)
 | .neg a,e=>oE sc N a (kid e 0)
 | .cmp _ a b,e=>oE sc N a (kid e 0) && oE sc N b (kid e 1)
 | .cmp2 _ _ a b c,e=>oE sc N a (kid e 0) && (oE sc N b (kid e 1) && oE sc N c (kid e 2))
 | .and a b,e=>oE sc N a (kid e 0) && (cond (decide ((ek e).length=2)) (oE sc N b (kid e 1)) (isAnd b && oE sc N b (.BoolOp .And (ek e).tail e.pos)))
 | .or a b,e=>oE sc N a (kid e 0) && (cond (decide ((ek e).length=2)) (oE sc N b (kid e 1)) (isOr b && oE sc N b (.BoolOp .Or (ek e).tail e.pos)))
 | .not a,e=>oE sc N a (kid e 0)
 | .ite c a b,e=>oE sc N c (kid e 0) && (oE sc N a (kid e 1) && oE sc N b (kid e 2))
 | .call f args,e=>(isGl sc f && okName f) && oEs sc N args (ek e).tail
 | .blt f args,e=>(isGl sc f.name && okName f.name) && ((decide (f ≠ .sortset) && decide (args.len ≠ 0)) && oEs sc N args (ek e).tail)
 | .mth _ o args,e=>(noCall0 (bE N o (kid (kid e 0) 0)) && ((kid e 0).pos.endLine == e.pos.line)) && (decide (args.len < 20) && (oE sc N o (kid (kid e 0) 0) && oEs sc N args (ek e).tail))
 | .isin a T,e=>(isGl sc "isinstance" && (isGl sc T.name && okName T.name)) && oE sc N a (kid e 1)
 | .fld a _,e=>noCall0 (bE N a (kid e 0)) && oE sc N a (kid e 0)
 | .idx a b,e=>oE sc N a (kid e 0) && oE sc N b (kid e 1)
 | .slc a lo hi,e=>oE sc N a (kid e 0) && (oEs sc N lo [kid (kid e 1) 0] && oEs sc N hi [kid (kid e 1) 1])
 | .tup es,e=>oEs sc N es (ek e)
 | .lst es,e=>oEs sc N es (ek e)
 | .comp x fv it elt ifs,e=>(compOk sc (csc e) N x fv && decide (ifs.len<=1)) && (oI sc N it (kid e 2) && (oE (csc e) (isIn fv x) elt (kid e 0) && oEs (csc e) (isIn fv x) ifs ((ek e).drop 3)))
 | .callv f args,e=>(isFv f && decide (args.len ≠ 0)) && (oE sc N f (kid e 0) && oEs sc N args (ek e).tail)
 | .gidx x b,e=>(isGl sc x && okName x) && oE sc N b (kid e 1)
noncomputable def oEs (sc:Scope) (N:List Str):Exs->List Expr->Bool
 | .nil,_=>true
 | .cons c r,es=>oE sc N c (es.headD default) && oEs sc N r es.tail
noncomputable def oI (sc:Scope) (N:List Str):Ix->Expr->Bool
 | .ex c,e=>oE sc N c e
 | .rng1 a,e=>isGl sc "range" && oE sc N a (kid e 1)
end
noncomputable def notComp:Expr->Bool
 | .ListComp _ _ _ _=>false | .SetComp _ _ _ _=>false | .DictComp _ _ _ _ _=>false | _=>true
noncomputable def usedOk (sc s:Scope) (x:Str) (tp p:Pos):Bool:=decide (sc.names.lookup x=some .local) && ((tp.line == p.line) && !(s.names.any fun(n,k)=>n == x && (k == .local || k == .cell)))
noncomputable def notTup:Expr->Bool
 | .Tuple _ _ _=>false | _=>true
noncomputable def bN (N:List Str):List Nat->List Expr->List Expr
 | [],_=>[]
 | i::is,ts=>.Name (nx N i) (ts.headD default).pos::bN N is ts.tail
noncomputable def oN (sc:Scope) (N:List Str):List Nat->Bool
 | []=>true
 | i::is=>(decide (i < N.length) && isLoc sc (nx N i)) && oN sc N is
mutual
noncomputable def bS (N:List Str):Sx->Stmt->Stmt
 | .asg i e,st=>.Assign [.Name (nx N i) (sk st 0).pos] (bE N e (sk st 1)) st.pos
 | .exp e,st=>.Expr (bE N e (sk st 0)) st.pos
 | .ret e,st=>.Return (some (bE N e (sk st 0))) st.pos
 | .iff c a b,st=>.If (bE N c (sk st 0)) (bSs N a (sb st).1) (bSs N b (sb st).2) st.pos
 | .whl c b,st=>.While (bE N c (sk st 0)) (bSs N b (sb st).1) [] st.pos
 | .fr i it b,st=>.For (.Name (nx N i) (sk st 0).pos) (bI N it (sk st 1)) (bSs N b (sb st).1) [] st.pos
 | .rais C args,st=>.Raise (some (.Call (.Name C (kid (sk st 0) 0).pos) (bEs N args (ek (sk st 0)).tail) [] (sk st 0).pos)) none st.pos
 | .tryx b C i h,st=>.Try (bSs N b (sb st).1) [.ExceptHandler (some (.Name C (sk st 0).pos)) (i.map (nx N)) (bSs N h (sb st).2) (hpos st)] [] [] st.pos
 | .sto o i e,st=>.Assign [.Subscript (bE N o (kid (sk st 0) 0)) (bE N i (kid (sk st 0) 1)) (sk st 0).pos] (bE N e (sk st 1)) st.pos
 | .asgT is e,st=>.Assign [.Tuple (bN N is (ek (sk st 0))) (kd (sk st 0)) (sk st 0).pos] (bE N e (sk st 1)) st.pos
 | .frT is it b,st=>.For (.Tuple (bN N is (ek (sk st 0))) (kd (sk st 0)) (sk st 0).pos) (bI N it (sk st 1)) (bSs N b (sb st).1) [] st.pos
 | .raisF C args,st=>.Raise (some (.Call (.Name C (kid (sk st 0) 0).pos) (bEs N args (ek (sk st 0)).tail) [] (sk st 0).pos)) (some (.Constant .none (kd (sk st 1)) (sk st 1).pos)) st.pos
noncomputable def bSs (N:List Str):Sxs->List Stmt->List Stmt
 | .nil,_=>[]
 | .cons c r,ss=>bS N c (ss.headD default)::bSs N r ss.tail
end
mutual
noncomputable def oS (sc:Scope) (N:List Str):Sx->Stmt->Bool
 | .asg i e,st=>(decide (i < N.length) && isLoc sc (nx N i)) && ((!isComp e || usedOk sc (csc (sk st 1)) (nx N i) (sk st 0).pos (sk st 1).pos) && oE sc N e (sk st 1))
 | .exp e,st=>!isComp e && oE sc N e (sk st 0)
 | .ret e,st=>oE sc N e (sk st 0)
 | .iff c a b,st=>oE sc N c (sk st 0) && (oSs sc N a (sb st).1 && oSs sc N b (sb st).2)
 | .whl c b,st=>oE sc N c (sk st 0) && oSs sc N b (sb st).1
 | .fr i it b,st=>(decide (i < N.length) && isLoc sc (nx N i)) && (oI sc N it (sk st 1) && oSs sc N b (sb st).1)
 | .rais C args,st=>(isGl sc C && okName C) && oEs sc N args (ek (sk st 0)).tail
 | .tryx b C i h,st=>(isGl sc C && okName C) && (i.all (fun j=>decide (j < N.length) && decide (sc.names.lookup (nx N j)=some .local)) && (oSs sc N b (sb st).1 && (nilX h && oSs sc N h (sb st).2)))
 | .sto o i e,st=>(!isComp e && oE sc N o (kid (sk st 0) 0)) && (oE sc N i (kid (sk st 0) 1) && oE sc N e (sk st 1))
 | .asgT is e,st=>((!isComp e && !isTup e) && oN sc N is) && oE sc N e (sk st 1)
 | .frT is it b,st=>oN sc N is && (oI sc N it (sk st 1) && oSs sc N b (sb st).1)
 | .raisF C args,st=>(isGl sc C && okName C) && oEs sc N args (ek (sk st 0)).tail
noncomputable def oSs (sc:Scope) (N:List Str):Sxs->List Stmt->Bool
 | .nil,_=>true
 | .cons c r,ss=>oS sc N c (ss.headD default) && oSs sc N r ss.tail
end
noncomputable def mSs (sc:Scope) (N:List Str) (b:Sxs) (ss:List Stmt):Prop:=bSs N b ss=ss/\oSs sc N b ss=true
end Sw
namespace Sw
set_option genInjectivity false
open PySem PySem.Spec PyProof.Rows L2
@[reducible] noncomputable def St:=L2.St
@[reducible] noncomputable def XS:=Value->Option Addr->St->Hp->Prop
noncomputable def X0:XS:=fun _ _ _ _=>False
structure Gam where
 con:Str->Option V
 mod:Mo
 has:Str->Bool
 fn:Str->Sp
 exc:Str->Option (Addr × List Str)
 cm:Bool:=true
 /-- is an exception of this class one of that name's class -/
 sub:Addr->Str->Option Bool
 /-- a class that may be caught -/
 cat:Str->Bool
 /-- a value of such an exception that may be read -/
 fo:Addr->Str->Bool
 /-- an exception is in hand: raise .. from None -/
 hd:Bool:=false
 /-- what a call of the function at an address promises -/
 vc:Addr->Sp:=fun _ _ _ _ _=>False
 /-- the module's dicts -/
 gd:Str->Option (List (Key × V)):=fun _=>none
noncomputable def keyOf:V->Option Key
 | .int i=>some (.inl i)
 | .str x=>some (.inr x)
 | _=>none
noncomputable def asB:V->Option Bool
 | .bl b=>some b
 | _=>none
noncomputable def asS:V->Option Str
 | .str x=>some x
 | _=>none
noncomputable def hasXd (H:Hp):Option Addr->Bool
 | none=>true
 | some d=>match H d with | some (.xd _)=>true | _=>false
noncomputable def known (M:Mo) (H:Hp):V->Bool
 | .ref p=>match H p with
  | some (.lst _)=>true | some (.tup _)=>true | some (.dK _)=>true | some (.frz _ (.lst _))=>true | _=>false
 | .non=>true | .bl _=>true | .int _=>true | .str _=>true
 | _=>false
section
variable (M:Mo)
noncomputable def bltV (f:Bf) (vs:List V) (H:Hp) (Q:VK):Prop:=match f,vs with
 | .len,[.str y]=>y.length<=sizeLine/\Q (.int y.length) H
 | .len,[.ref p]=>match rd M H p with
  | some (.lst xs)=>Q (.int xs.length) H
  | some (.tup xs)=>Q (.int xs.length) H
  | _=>False
 | .all,[.ref p]=>match rd M H p with
  | some (.lst xs)=>match allM asB xs with | some bs=>Q (.bl (bs.all id)) H | none=>False
  | _=>False
 | .any,[.ref p]=>match rd M H p with
  | some (.lst xs)=>match allM asB xs with | some bs=>Q (.bl (bs.any id)) H | none=>False
  | _=>False
 | .str,[.int i]=>i.natAbs.log2 < 1920/\Q (.str (toString i)) H
 | .int,[.str x]=>x.length<=640/\match PySem.intText? x with | some n=>Q (.int n) H | none=>False
 | .abs,[.int i]=>Q (.int (if i < 0 then -i else i)) H
 | .int,[.bl b]=>Q (.int (if b then 1 else 0)) H
 | .max,[.int i,.int j]=>Q (.int (if j > i then j else i)) H
 | .min,[.int i,.int j]=>Q (.int (if j < i then j else i)) H
 | _,_=>False
noncomputable def mthV (m:Mf) (x:V) (vs:List V) (H:Hp) (Q:VK):Prop:=match m,x,vs with
 | .startswith,.str x,[.str y]=>Q (.bl (Txt.startswith x y)) H
 | .join,.str x,[.ref p]=>match rd M H p with
  | some (.lst xs)=>match allM asS xs with
   | some ts=>JoinOk x ts=true/\Q (.str (Txt.join x ts)) H
   | none=>False
  | _=>False
 | .split,.str x,[.str y]=>(y.length == 0)=false/\x.length<=1000000/\∀l,H l=none->M l=none->Q (.ref l) (upd H l (.lst ((Txt.split x y).map V.str)))
 | .append,.ref p,[v]=>match H p with
  | some (.lst xs)=>xs.length < sizeLine/\Q .non (upd H p (.lst (xs++[v])))
  | _=>False
 | _,_,_=>False
noncomputable def mty (m:Mf) (x:V) (H:Hp):Bool:=match m with
 | .append=>(match x with | .ref p=>(match rd M H p with | some (.lst _)=>true | _=>false) | _=>false)
 | .pop=>(match x with | .ref p=>(match rd M H p with | some (.lst _)=>true | _=>false) | _=>false)
 | .extend=>(match x with | .ref p=>(match rd M H p with | some (.lst _)=>true | _=>false) | _=>false)
 | _=>(match x with | .str _=>true | _=>false)
noncomputable def slcV (x:V) (lo hi:Option Int) (H:Hp) (Q:VK):Prop:=match x with
 | .str z=>z.length<=sizeLine/\Q (.str (Txt.slice z lo hi)) H
 | .ref p=>match rd M H p with
  | some (.lst xs)=>∀l,H l=none->M l=none->Q (.ref l) (upd H l (.lst (cutV xs lo hi)))
  | _=>False
 | _=>False
noncomputable def iterV (x:V) (H:Hp) (k:List V->(Hp->Prop)->Prop):Prop:=match x with
 | .str z=>z.length<=sizeLine/\k (z.cps.toList.map fun c=>.str ⟨#[c]⟩) (fun _=>True)
 | .ref p=>match rd M H p with
  | some (.lst xs)=>k xs (fun H'=>rd M H' p=some (.lst xs))
  | _=>False
 | _=>False
end
noncomputable def compW (te:TE) (tt:TT) (fvs:St) (D:Addr) (stay:Hp->Prop):List V->List V->Hp->(Hp->Prop)->Prop
 | [],acc,H,k=>stay H/\H D=some (.lst acc)/\k H
 | v::r,acc,H,k=>stay H/\tt (some v::fvs) H fun ok H1=>
  if ok=true then te (some v::fvs) H1 fun y H2=>H2 D=some (.lst acc)/\acc.length < sizeLine/\compW te tt fvs D stay r (acc++[y]) (upd H2 D (.lst (acc++[y]))) k
  else compW te tt fvs D stay r acc H1 k
noncomputable def forW (i:Nat) (tb:TS) (stay:Hp->Prop):List V->TS
 | [],D,σ,H=>stay H/\D.nx σ H
 | v::r,D,σ,H=>stay H/\tb {D with nx:=forW i tb stay r D,ct:=forW i tb stay r D,bk:=D.nx} (σ.set i (some v)) H
noncomputable def setAll:St->List Nat->List V->St
 | σ,i::is,x::xs=>setAll (σ.set i (some x)) is xs
 | σ,_,_=>σ
noncomputable def forWT (M:Mo) (is:List Nat) (tb:TS) (stay:Hp->Prop):List V->TS
 | [],D,σ,H=>stay H/\D.nx σ H
 | v::r,D,σ,H=>stay H/\match v with
  | .ref p=>(match rd M H p with
   | some (.tup xs)=>xs.length=is.length/\tb {D with nx:=forWT M is tb stay r D,ct:=forWT M is tb stay r D,bk:=D.nx} (setAll σ is xs) H
   | _=>False)
  | _=>False
noncomputable def stoV (x k v:V) (H:Hp) (Q:Hp->Prop):Prop:=match x with
 | .ref p=>(match H p with
  | some (.lst xs)=>(match k with | .int j=>(match ixN xs.length j with | some n=>Q (upd H p (.lst (xs.set n v))) | none=>False) | _=>False)
  | _=>False)
 | _=>False
noncomputable def vars (σ:St) (fv:List (Str × Nat)):St:=fv.map fun y=>(σ[y.2]?).join
mutual
noncomputable def wE (Γ:Gam):Ex->XS->TE
 | .var i,_=>fun σ H Q=>match σ[i]? with | some (some v)=>Q v H | _=>False
 | .con v,_=>fun _ H Q=>Q v H
 | .glob x,_=>fun _ H Q=>match Γ.con x with | some v=>Q v H | none=>False
 | .bin op a b,Ξ=>fun σ H Q=>wE Γ a Ξ σ H fun x H1=>wE Γ b Ξ σ H1 fun y H2=>binV Γ.mod op x y H2 Q
 | .neg a,Ξ=>fun σ H Q=>wE Γ a Ξ σ H fun x H1=>match x with | .int i=>Q (.int (-i)) H1 | _=>False
 | .cmp op a b,Ξ=>fun σ H Q=>wE Γ a Ξ σ H fun x H1=>wE Γ b Ξ σ H1 fun y H2=>cmpV Γ.mod op x y H2 Q
 | .cmp2 o1 o2 a b c,Ξ=>fun σ H Q=>wE Γ a Ξ σ H fun x H1=>wE Γ b Ξ σ H1 fun y H2=>cmpV Γ.mod o1 x y H2 fun z H3=>∃k,z=.bl k/\
  if k=true then wE Γ c Ξ σ H3 fun u H4=>cmpV Γ.mod o2 y u H4 Q else Q (.bl false) H3
 | .and a b,Ξ=>fun σ H Q=>wE Γ a Ξ σ H fun x H1=>truV Γ.mod x H1 fun k=>if k=true then wE Γ b Ξ σ H1 Q else Q x H1
 | .or a b,Ξ=>fun σ H Q=>wE Γ a Ξ σ H fun x H1=>truV Γ.mod x H1 fun k=>if k=true then Q x H1 else wE Γ b Ξ σ H1 Q
 | .not a,Ξ=>fun σ H Q=>wE Γ a Ξ σ H fun x H1=>truV Γ.mod x H1 fun k=>Q (.bl (!k)) H1
 | .ite c a b,Ξ=>fun σ H Q=>wT Γ c Ξ σ H fun k H1=>if k=true then wE Γ a Ξ σ H1 Q else wE Γ b Ξ σ H1 Q
 | .call f args,Ξ=>fun σ H Q=>(Γ.cm=true/\Γ.has f=true)/\wEs Γ args Ξ σ H fun vs H1=>Γ.fn f vs H1 Q fun C d H'=>Ξ C d σ H'
 | .blt f args,Ξ=>fun σ H Q=>Γ.cm=true/\wEs Γ args Ξ σ H fun vs H1=>bltV Γ.mod f vs H1 Q
 | .mth m o args,Ξ=>fun σ H Q=>wE Γ o Ξ σ H fun x H1=>mty Γ.mod m x H1=true/\wEs Γ args Ξ σ H1 fun vs H2=>mthV Γ.mod m x vs H2 Q
 | .isin a T,Ξ=>fun σ H Q=>wE Γ a Ξ σ H fun x H1=>match T with
  | .own c=>(match x with | .ref p=>(match H1 p with | some (.exo C d)=>hasXd H1 d=true/\(match Γ.sub C c with | some b=>Q (.bl b) H1 | none=>False) | _=>False) | _=>False)
  | _=>False
 | .fld a f,Ξ=>fun σ H Q=>wE Γ a Ξ σ H fun x H1=>match x with
  | .ref p=>match H1 p with
   | some (.exo C (some d))=>match H1 d with | some (.xd fs)=>Γ.fo C f=true/\(match fs.lookup f with | some v=>Q v H1 | none=>False) | _=>False
   | _=>False
  | _=>False
 | .idx a b,Ξ=>fun σ H Q=>wE Γ a Ξ σ H fun x H1=>wE Γ b Ξ σ H1 fun y H2=>idxV Γ.mod x y H2 Q
 | .slc a lo hi,Ξ=>fun σ H Q=>wE Γ a Ξ σ H fun x H1=>wP Γ lo Ξ σ H1 fun l H2=>wP Γ hi Ξ σ H2 fun u H3=>slcV Γ.mod x l u H3 Q
 | .tup es,Ξ=>fun σ H Q=>wEs Γ es Ξ σ H fun xs H1=>xs.length<=sizeLine/\∀p,H1 p=none->Γ.mod p=none->Q (.ref p) (upd H1 p (.tup xs))
 | .lst es,Ξ=>fun σ H Q=>wEs Γ es Ξ σ H fun xs H1=>xs.length<=sizeLine/\∀p,H1 p=none->Γ.mod p=none->Q (.ref p) (upd H1 p (.lst xs))
 | .comp _ fv it elt ifs,Ξ=>fun σ H Q=>Γ.cm=true/\wI Γ it Ξ σ H fun xs stay H1=>∀D,H1 D=none->Γ.mod D=none->
  compW (wE Γ elt fun C d _ H'=>Ξ C d σ H') (wTs Γ ifs X0) (vars σ fv) D stay xs [] (upd H1 D (.lst [])) fun H'=>Q (.ref D) H'
 | .callv f args,Ξ=>fun σ H Q=>Γ.cm=true/\wE Γ f Ξ σ H fun x H1=>match x with
  | .ref a=>wEs Γ args Ξ σ H1 fun vs H2=>Γ.vc a vs H2 Q fun C d H'=>Ξ C d σ H'
  | _=>False
 | .gidx x b,Ξ=>fun σ H Q=>match Γ.gd x with
  | some kvs=>wE Γ b Ξ σ H fun y H1=>(match keyOf y with | some k=>(match valV kvs k with | some v=>Q v H1 | none=>False) | none=>False)
  | none=>False
noncomputable def wT (Γ:Gam):Ex->XS->TT
 | .and a b,Ξ=>fun σ H Q=>wT Γ a Ξ σ H fun k H1=>if k=true then wT Γ b Ξ σ H1 Q else Q false H1
 | .or a b,Ξ=>fun σ H Q=>wT Γ a Ξ σ H fun k H1=>if k=true then Q true H1 else wT Γ b Ξ σ H1 Q
 | .not a,Ξ=>fun σ H Q=>wT Γ a Ξ σ H fun k H1=>Q (!k) H1
 | .ite c a b,Ξ=>fun σ H Q=>wT Γ c Ξ σ H fun k H1=>if k=true then wT Γ a Ξ σ H1 Q else wT Γ b Ξ σ H1 Q
 | .var i,_=>fun σ H Q=>match σ[i]? with | some (some v)=>truV Γ.mod v H fun k=>Q k H | _=>False
 | .cmp op a b,Ξ=>fun σ H Q=>wE Γ a Ξ σ H fun x H1=>wE Γ b Ξ σ H1 fun y H2=>cmpV Γ.mod op x y H2 fun x H'=>∃k,x=.bl k/\Q k H'
 | .cmp2 o1 o2 a b c,Ξ=>fun σ H Q=>wE Γ a Ξ σ H fun x H1=>wE Γ b Ξ σ H1 fun y H2=>cmpV Γ.mod o1 x y H2 fun z H3=>∃k,z=.bl k/\
  if k=true then wE Γ c Ξ σ H3 fun u H4=>cmpV Γ.mod o2 y u H4 fun x H'=>∃k,x=.bl k/\Q k H' else ∃k,V.bl false=.bl k/\Q k H3
 | .call f args,Ξ=>fun σ H Q=>(Γ.cm=true/\Γ.has f=true)/\wEs Γ args Ξ σ H fun vs H1=>Γ.fn f vs H1 (fun x H1=>truV Γ.mod x H1 fun k=>Q k H1) fun C d H'=>Ξ C d σ H'
 | .blt f args,Ξ=>fun σ H Q=>Γ.cm=true/\wEs Γ args Ξ σ H fun vs H1=>bltV Γ.mod f vs H1 fun x H1=>truV Γ.mod x H1 fun k=>Q k H1
 | .mth m o args,Ξ=>fun σ H Q=>wE Γ o Ξ σ H fun x H1=>mty Γ.mod m x H1=true/\wEs Γ args Ξ σ H1 fun vs H2=>mthV Γ.mod m x vs H2 fun x H1=>truV Γ.mod x H1 fun k=>Q k H1
 | .isin a T,Ξ=>fun σ H Q=>wE Γ a Ξ σ H fun x H1=>match T with
  | .own c=>(match x with | .ref p=>(match H1 p with | some (.exo C d)=>hasXd H1 d=true/\(match Γ.sub C c with | some b=>Q b H1 | none=>False) | _=>False) | _=>False)
  | _=>False
 | .idx a b,Ξ=>fun σ H Q=>wE Γ a Ξ σ H fun x H1=>wE Γ b Ξ σ H1 fun y H2=>idxV Γ.mod x y H2 fun x H1=>truV Γ.mod x H1 fun k=>Q k H1
 | .con v,_=>fun _ H Q=>truV Γ.mod v H fun k=>Q k H
 | _,_=>fun _ _ _=>False
noncomputable def wEs (Γ:Gam):Exs->XS->TA
 | .nil,_=>fun _ H Q=>Q [] H
 | .cons e r,Ξ=>fun σ H Q=>wE Γ e Ξ σ H fun x H1=>wEs Γ r Ξ σ H1 fun xs H2=>Q (x::xs) H2
noncomputable def wP (Γ:Gam):Exs->XS->St->Hp->(Option Int->Hp->Prop)->Prop
 | .nil,_=>fun _ H Q=>Q none H
 | .cons e .nil,Ξ=>fun σ H Q=>wE Γ e Ξ σ H fun x H1=>match x with | .int i=>Q (some i) H1 | _=>False
 | _,_=>fun _ _ _=>False
noncomputable def wTs (Γ:Gam):Exs->XS->TT
 | .nil,_=>fun _ H Q=>Q true H
 | .cons e _,Ξ=>wT Γ e Ξ
noncomputable def wI (Γ:Gam):Ix->XS->St->Hp->(List V->(Hp->Prop)->Hp->Prop)->Prop
 | .ex e,Ξ,σ,H,k=>wE Γ e Ξ σ H fun x H1=>iterV Γ.mod x H1 fun xs stay=>k xs stay H1
 | .rng1 a,Ξ,σ,H,k=>wE Γ a Ξ σ H fun x H1=>match x with
  | .int j=>-(2 ^ 62)<=j/\j < 2 ^ 62/\k ((List.range j.toNat).map fun i:Nat=>.int i) (fun _=>True) H1
  | _=>False
end
noncomputable def Gam.hush (Γ:Gam):Gam:={Γ with cm:=false,hd:=false}
noncomputable def Gam.grip (Γ:Gam):Gam:={Γ with cm:=false,hd:=true}
noncomputable def gone (D:Ends) (j:Nat):Ends:={nx:=fun σ=>D.nx (σ.set j none),rt:=D.rt,bk:=fun σ=>D.bk (σ.set j none),ct:=fun σ=>D.ct (σ.set j none)}
noncomputable def handW (M:Mo) (sub:Addr->Bool) (th:TS) (i:Option Nat) (D:Ends):XS:=fun C' d σ' H'=>match C' with
 | .ref c=>if sub c=true then
   (match i with
    | none=>th D σ' H'
    | some j=>∀e,H' e=none->M e=none->th (gone D j) (σ'.set j (some (.ref e))) (upd H' e (.exo c d)))
  else False
 | .int n _=>if sub n.toNat=true then
   (match i with
    | none=>False
    | some j=>∀e,H' e=none->M e=none->th (gone D j) (σ'.set j (some (.ref e))) (upd H' e (.exo n.toNat d)))
  else False
 | _=>False
mutual
noncomputable def wS:Sx->Gam->XS->TS
 | .asg i e,Γ,Ξ=>fun D σ H=>wE Γ e Ξ σ H fun v H1=>D.nx (σ.set i (some v)) H1
 | .exp e,Γ,Ξ=>fun D σ H=>wE Γ e Ξ σ H fun _ H1=>D.nx σ H1
 | .ret e,Γ,Ξ=>fun D σ H=>wE Γ e Ξ σ H D.rt
 | .iff c a b,Γ,Ξ=>fun D σ H=>wT Γ c Ξ σ H fun k H1=>if k=true then wSs a Γ Ξ D σ H1 else wSs b Γ Ξ D σ H1
 | .whl c b,Γ,_=>fun D σ H=>∃W:Nat->St->Hp->Prop,(∃ m,W m σ H)/\∀m σ H,W m σ H->wT Γ c X0 σ H fun k H1=>
  if k=true then ∃N:St->Hp->Prop,(∀ σ' H',N σ' H'->∃m',m' < m/\W m' σ' H')/\wSs b Γ X0 {D with nx:=N,ct:=N,bk:=D.nx} σ H1 else D.nx σ H1
 | .fr i it b,Γ,_=>fun D σ H=>Γ.cm=true/\wI Γ it X0 σ H fun xs stay H1=>forW i (wSs b Γ X0) stay xs D σ H1
 | .rais C args,Γ,Ξ=>fun D σ H=>Γ.cm=true/\match Γ.exc C with
  | some (c,[f])=>(match args with
   | .cons e .nil=>wE Γ e Ξ σ H fun v H1=>∀d,H1 d=none->Γ.mod d=none->Ξ (.ref c) (some d) σ (upd H1 d (.xd [(f,v)]))
   | _=>False)
  | _=>False
 | .tryx b C i h,Γ,Ξ=>fun D σ H=>Γ.cm=true/\Γ.cat C=true/\wSs b Γ (handW Γ.mod (fun c=>Γ.sub c C == some true) (match i with | none=>wSs h Γ.grip Ξ | some _=>wSs h Γ.hush X0) i D) D σ H
 | .sto o i e,Γ,Ξ=>fun D σ H=>wE Γ e Ξ σ H fun v H1=>wE Γ o Ξ σ H1 fun x H2=>wE Γ i Ξ σ H2 fun k H3=>stoV x k v H3 (D.nx σ)
 | .asgT is e,Γ,Ξ=>fun D σ H=>Γ.cm=true/\wE Γ e Ξ σ H fun x H1=>match x with
  | .ref p=>(match rd Γ.mod H1 p with | some (.tup xs)=>xs.length=is.length/\D.nx (setAll σ is xs) H1 | _=>False)
  | _=>False
 | .frT is it b,Γ,_=>fun D σ H=>Γ.cm=true/\wI Γ it X0 σ H fun xs stay H1=>forWT Γ.mod is (wSs b Γ X0) stay xs D σ H1
 | .raisF C args,Γ,Ξ=>fun D σ H=>Γ.hd=true/\match Γ.exc C with
  | some (c,[f])=>(match args with
   | .cons e .nil=>wE Γ e Ξ σ H fun v H1=>∀d,H1 d=none->Γ.mod d=none->Ξ (rawInt c) (some d) σ (upd H1 d (.xd [(f,v)]))
   | _=>False)
  | _=>False
noncomputable def wSs:Sxs->Gam->XS->TS
 | .nil,_,_=>fun D σ H=>D.nx σ H
 | .cons s r,Γ,Ξ=>fun D σ H=>wS s Γ Ξ {D with nx:=wSs r Γ Ξ D} σ H
end
end Sw
namespace Sw
set_option genInjectivity false
open PySem PySem.Spec PyProof.Rows L2
section
variable {X:Cx} {M:Mo} {pins:List (Addr × Obj)} {σ:L2.St} {H:Hp} {s:Shared}
theorem all_list (I:Inv X pins σ H s) (hc:X.calm=true) {a:Addr} {xs:List V} {bs:List Bool} (hq:SqL X.K H a xs) (eb:allM asB xs=some bs) {Q:VK} (h:Q (.bl (bs.all id)) H):
  wpAny (model X.prog X.w) X.A (call (.builtin "all") [.ref a]) (EP X pins σ Q) X.xe s:=by
 obtain⟨its,rv,pl,hz⟩:=I.list hq
 have hl:=pl.isList
 have hlt:a < s.heap.objs.size:=by obtain⟨_,e,_⟩:=hl;exact Heap.lt_size e
 refine call_all_walk (wpAny_pyIter_list hl ?_)
 refine⟨s.heap.objs.size,[s.heap.objs.size,a],[s.heap.objs.size],its.toArray.size,_,_,fun i=>(bs[i]?).getD true,rfl,Walks.list (A:=X.A.in1) (I.ok.hd hc) _ a (Nat.ne_of_lt hlt) its.toArray,
  ⟨⟨_,Heap.get?_push_size _ rfl,rfl,rfl⟩,hl.push _⟩,fun i v s' Q' E' hP hQ=>?_,fun h' tk hk=>?_⟩
 ·obtain⟨x,ex,rx⟩:=Vals.back rv (by simpa using hP)
  obtain⟨b,e,fx⟩:=allM_get eb ex
  cases x<;>first | (cases fx;cases rx;simp only[e,Option.getD_some]at hQ;exact wpAny_truthy_bool hQ) | cases fx
 ·have e:((List.range its.toArray.size).all fun i=>(bs[i]?).getD true)=bs.all id:=by
   rw[List.size_toArray,<-rv.length,<-allM_length eb];exact LSm.range_all bs
  rw[e]
  exact⟨.bl _,H,I.kept (t':=tk) (LSm.kept_iter hk),rfl,h⟩
theorem any_list (I:Inv X pins σ H s) (hc:X.calm=true) {a:Addr} {xs:List V} {bs:List Bool} (hq:SqL X.K H a xs) (eb:allM asB xs=some bs) {Q:VK} (h:Q (.bl (bs.any id)) H):
  wpAny (model X.prog X.w) X.A (call (.builtin "any") [.ref a]) (EP X pins σ Q) X.xe s:=by
 obtain⟨its,rv,pl,hz⟩:=I.list hq
 have hl:=pl.isList
 have hlt:a < s.heap.objs.size:=by obtain⟨_,e,_⟩:=hl;exact Heap.lt_size e
 refine call_any_walk (wpAny_pyIter_list hl ?_)
 refine⟨s.heap.objs.size,[s.heap.objs.size,a],[s.heap.objs.size],its.toArray.size,_,_,fun i=>(bs[i]?).getD false,rfl,Walks.list (A:=X.A.in1) (I.ok.hd hc) _ a (Nat.ne_of_lt hlt) its.toArray,
  ⟨⟨_,Heap.get?_push_size _ rfl,rfl,rfl⟩,hl.push _⟩,fun i v s' Q' E' hP hQ=>?_,fun h' tk hk=>?_⟩
 ·obtain⟨x,ex,rx⟩:=Vals.back rv (by simpa using hP)
  obtain⟨b,e,fx⟩:=allM_get eb ex
  cases x<;>first | (cases fx;cases rx;simp only[e,Option.getD_some]at hQ;exact wpAny_truthy_bool hQ) | cases fx
 ·have e:((List.range its.toArray.size).any fun i=>(bs[i]?).getD false)=bs.any id:=by
   rw[List.size_toArray,<-rv.length,<-allM_length eb];exact LSm.range_any bs
  rw[e]
  exact⟨.bl _,H,I.kept (t':=tk) (LSm.kept_iter hk),rfl,h⟩
noncomputable def bfV:Bf->Value
 | .str=>.type "str" | .int=>.type "int" | .list=>.type "list" | .tuple=>.type "tuple"
 | .len=>.builtin "len" | .all=>.builtin "all" | .any=>.builtin "any" | .abs=>.builtin "abs" | .sorted=>.builtin "sorted" | .sortset=>.builtin "sorted"
 | .max=>.builtin "max" | .min=>.builtin "min" | .sum=>.builtin "sum"
theorem blt_ok (hc:X.calm=true) (m:ModOk X.K M) (f:Bf):CallR X (bfV f) (bltV M f):=by
 intro pins s σ H xs us Q I r h
 cases f with
 | len=>
  cases xs with
  | nil=>exact False.elim h
  | cons x t=>
   cases t with
   | cons _ _=>first | exact False.elim h | (cases x<;>exact False.elim h)
   | nil=>
    cases x with
    | str y=>
     exact call_len_str pins s σ H _ _ Q I r ⟨_,rfl,h.1,h.2⟩
    | ref p=>
     unfold bltV at h
     dsimp only at h
     split at h
     ·rename_i e;exact call_len_seq pins s σ H _ _ Q I r ⟨_,_,rfl,.inl (rd_lst m e),h⟩
     ·rename_i e;exact call_len_seq pins s σ H _ _ Q I r ⟨_,_,rfl,.inr (rd_tup m e),h⟩
     ·exact h.elim
    | _=>exact False.elim h
 | all=>
  cases xs with
  | nil=>exact False.elim h
  | cons x t=>
   cases t with
   | cons _ _=>first | exact False.elim h | (cases x<;>exact False.elim h)
   | nil=>
    cases x with
    | ref p=>
     obtain⟨u,rfl,ru⟩:=vals1 r
     cases ru
     unfold bltV at h
     dsimp only at h
     split at h
     ·rename_i e
      split at h
      ·rename_i eb;exact all_list I hc (rd_lst m e) eb h
      ·exact h.elim
     ·exact h.elim
    | _=>exact False.elim h
 | any=>
  cases xs with
  | nil=>exact False.elim h
  | cons x t=>
   cases t with
   | cons _ _=>first | exact False.elim h | (cases x<;>exact False.elim h)
   | nil=>
    cases x with
    | ref p=>
     obtain⟨u,rfl,ru⟩:=vals1 r
     cases ru
     unfold bltV at h
     dsimp only at h
     split at h
     ·rename_i e
      split at h
      ·rename_i eb;exact any_list I hc (rd_lst m e) eb h
      ·exact h.elim
     ·exact h.elim
    | _=>exact False.elim h
 | str=>
  cases xs with
  | nil=>exact False.elim h
  | cons x t=>
   cases t with
   | cons _ _=>first | exact False.elim h | (cases x<;>exact False.elim h)
   | nil=>
    cases x with
    | int i=>
     exact call_str_int pins s σ H _ _ Q I r ⟨_,rfl,h.1,h.2⟩
    | _=>exact False.elim h
 | int=>
  cases xs with
  | nil=>exact False.elim h
  | cons x t=>
   cases t with
   | cons _ _=>first | exact False.elim h | (cases x<;>exact False.elim h)
   | nil=>
    cases x with
    | str x=>
     obtain⟨u,rfl,ru⟩:=vals1 r
     obtain⟨t,rfl⟩:=ru
     obtain⟨h1,h⟩:=h
     split at h
     ·rename_i n e
      exact PySem.W.KIN.call_text e h1 ⟨.int n,H,I.tok _,⟨_,rfl⟩,h⟩
     ·exact h.elim
    | bl b=>
     exact call_int1 pins s σ H _ _ Q I r (.inr ⟨_,rfl,h⟩)
    | _=>exact False.elim h
 | abs=>
  cases xs with
  | nil=>exact False.elim h
  | cons x t=>
   cases t with
   | cons _ _=>first | exact False.elim h | (cases x<;>exact False.elim h)
   | nil=>
    cases x with
    | int i=>
     exact call_abs pins s σ H _ _ Q I r ⟨_,rfl,h⟩
    | _=>exact False.elim h
 | max=>
  cases xs with
  | nil=>exact False.elim h
  | cons x t=>
   cases x with
   | int i=>
    cases t with
    | nil=>exact False.elim h
    | cons y t=>
     cases t with
     | cons _ _=>first | exact False.elim h | (cases y<;>exact False.elim h)
     | nil=>
      cases y with
      | int j=>exact call_max2 hc pins s σ H _ _ Q I r ⟨_,_,rfl,h⟩
      | _=>exact False.elim h
   | _=>exact False.elim h
 | min=>
  cases xs with
  | nil=>exact False.elim h
  | cons x t=>
   cases x with
   | int i=>
    cases t with
    | nil=>exact False.elim h
    | cons y t=>
     cases t with
     | cons _ _=>first | exact False.elim h | (cases y<;>exact False.elim h)
     | nil=>
      cases y with
      | int j=>exact call_min2 hc pins s σ H _ _ Q I r ⟨_,_,rfl,h⟩
      | _=>exact False.elim h
   | _=>exact False.elim h
 | _=>exact False.elim h
noncomputable def mfT:Mf->String
 | .append=> "list" | .pop=> "list" | .extend=> "list" | _=> "str"
noncomputable def mfId:Mf->String
 | .startswith=> "str.startswith" | .endswith=> "str.endswith" | .split=> "str.split" | .join=> "str.join" | .append=> "list.append" | .pop=> "list.pop" | .extend=> "list.extend"
theorem strs_of:∀ {xs:List V} {us:List Value} {ts:List Str},Vals xs us->allM asS xs=some ts->∃l:List (Str × Tok),strValues l=us/\l.map (·.1)=ts
 | [],_,ts,.nil,h=>by rw[allM_nil h];exact⟨[],rfl,rfl⟩
 | x::xs,_,ts,.cons r t,h=>by
  obtain⟨a,l,h1,h2,rfl⟩:=allM_cons h
  obtain⟨q,e1,e2⟩:=strs_of t h2
  cases x<;>first | cases h1 | skip
  obtain⟨tk,rfl⟩:=r
  exact⟨(_,tk)::q,by rw[<-e1];rfl,by rw[<-e2];rfl⟩
theorem vals_strs:∀ (l:List (Str × Tok)),Vals ((l.map (·.1)).map V.str) (strValues l)
 | []=>.nil
 | p::r=>.cons ⟨p.2,rfl⟩ (vals_strs r)
theorem split_ok (mo:ModOk X.K M) {pins:List (Addr × Obj)} {σ:L2.St} {H:Hp} {s:Shared} {x y:Str} {t u:Tok} {Q:VK} (I:Inv X pins σ H s) (hy:(y.length == 0)=false) (hx:x.length<=1000000)
  (h:∀l,H l=none->M l=none->Q (.ref l) (upd H l (.lst ((Txt.split x y).map V.str)))):wpAny (model X.prog X.w) X.A (call (.builtin "str.split") [.str x t,.str y u]) (EP X pins σ Q) X.xe s:=by
 have hsz:x.length<=sizeLine:=by rw[sizeLine_eq];omega
 have hsz2:(Builtin.Str.partsBetween x (Builtin.Str.occurrences x y 0 x.length (x.length + 1)) y.length).length<=sizeLine:=by
  rw[PyProof.Rows.len_partsBetween]
  have:=PySem.StrLaws.occ_length_le x y 0 x.length (x.length + 1)
  rw[sizeLine_eq]
  omega
 have fin:∀ (l:List (Str × Tok)) (k:Nat),l.map (·.1)=Txt.split x y->l.length<=sizeLine->EP X pins σ Q (.ref s.heap.objs.size) {s with heap:=s.heap.push {cls:=.type "list",data:=.seq (strValues l).toArray},toks:=k}:=fun l k e hl=>by
  have I2:=I.lnew (t':=k) (ys:=(Txt.split x y).map V.str) (its:=strValues l) (by rw[<-e];exact vals_strs l) (by rw[<-e,List.length_map,List.length_map];exact hl)
  exact⟨.ref _,_,I2,rfl,h _ I.fresh (OffM.new (Inv.offM mo I2))⟩
 cases q1:(decide (x.length < y.length) || decide (Builtin.Str.strKind x < Builtin.Str.strKind y))with
 | true=>exact call_meets PySem.F.slot_str_split (typeIs_str _ _ _) PySem.F.entry_str_split (PySem.F.args_str_split_2 _ _) (meets_str_split_cannot_occur x y t u q1) (fin [(x,t)] s.toks (by unfold Txt.split;(first | with_reducible refine Eq.mpr (if_pos q1) ?_ | rw[if_pos q1]);rfl) (by show 1<=_;decide))
 | false=>
  have n1:¬ (decide (x.length < y.length) || decide (Builtin.Str.strKind x < Builtin.Str.strKind y))=true:=by rw[q1];decide
  cases q2:(Builtin.Str.occurrences x y 0 x.length (x.length + 1)).isEmpty with
  | true=>exact call_meets PySem.F.slot_str_split (typeIs_str _ _ _) PySem.F.entry_str_split (PySem.F.args_str_split_2 _ _) (meets_str_split_not_found x y t u q1 hy q2) (fin [(x,t)] s.toks (by unfold Txt.split;((first | with_reducible refine Eq.mpr (if_neg n1) ?_ | rw[if_neg n1]);(first | with_reducible refine Eq.mpr (if_pos q2) ?_ | rw[if_pos q2]));rfl) (by show 1<=_;decide))
  | false=>
   have n2:¬ (Builtin.Str.occurrences x y 0 x.length (x.length + 1)).isEmpty=true:=by rw[q2];decide
   refine call_meets PySem.F.slot_str_split (typeIs_str _ _ _) PySem.F.entry_str_split (PySem.F.args_str_split_2 _ _) (meets_str_split_sep x y t u q1 hy q2 hsz hsz2) ?_
   have z:=fin (numbered s.toks (Builtin.Str.partsBetween x (Builtin.Str.occurrences x y 0 x.length (x.length + 1)) y.length)) (s.toks + (Builtin.Str.partsBetween x (Builtin.Str.occurrences x y 0 x.length (x.length + 1)) y.length).length)
    (by unfold Txt.split;((first | with_reducible refine Eq.mpr (if_neg n1) ?_ | rw[if_neg n1]);(first | with_reducible refine Eq.mpr (if_neg n2) ?_ | rw[if_neg n2]));exact numbered_texts _ _) (by have:=congrArg List.length (numbered_texts s.toks (Builtin.Str.partsBetween x (Builtin.Str.occurrences x y 0 x.length (x.length + 1)) y.length));rw[List.length_map]at this;rw[this];exact hsz2)
   rw[<-strsFrom_eq]at z
   exact z
theorem mth_ok (mo:ModOk X.K M) (m:Mf):MtR X (mfId m) (mthV M m):=by
 intro pins s σ H x xs v us Q I rx r h
 cases m with
 | startswith=>
  cases x with
  | str x=>
   cases xs with
   | nil=>exact False.elim h
   | cons y t=>
    cases t with
    | cons _ _=>first | exact False.elim h | (cases y<;>exact False.elim h)
    | nil=>
     cases y with
     | str y=>
      obtain⟨u,rfl,ru⟩:=vals1 r
      obtain⟨t,rfl⟩:=rx
      obtain⟨t',rfl⟩:=ru
      exact PySem.SC.startswith ⟨.bl _,H,I,rfl,h⟩
     | _=>exact False.elim h
  | _=>exact False.elim h
 | split=>
  cases x with
  | str x=>
   cases xs with
   | nil=>exact False.elim h
   | cons y t=>
    cases t with
    | cons _ _=>first | exact False.elim h | (cases y<;>exact False.elim h)
    | nil=>
     cases y with
     | str y=>
      obtain⟨u,rfl,ru⟩:=vals1 r
      obtain⟨t,rfl⟩:=rx
      obtain⟨t',rfl⟩:=ru
      exact split_ok mo I h.1 h.2.1 h.2.2
     | _=>exact False.elim h
  | _=>exact False.elim h
 | join=>
  cases x with
  | str x=>
   cases xs with
   | nil=>exact False.elim h
   | cons y t=>
    cases t with
    | cons _ _=>first | exact False.elim h | (cases y<;>exact False.elim h)
    | nil=>
     cases y with
     | ref p=>
      obtain⟨u,rfl,ru⟩:=vals1 r
      obtain⟨t,rfl⟩:=rx
      cases ru
      unfold mthV at h
      dsimp only at h
      split at h
      ·rename_i e
       split at h
       ·rename_i ts et
        obtain⟨its,rv,pl,_⟩:=I.list (rd_lst mo e)
        obtain⟨l,e1,e2⟩:=strs_of rv et
        exact PySem.SC.join (l:=l) (texts:=ts) (by rw[e1];exact pl.isList) e2 h.1 fun t' k=>⟨.str _,H,I.tok _,⟨_,rfl⟩,h.2⟩
       ·exact h.elim
      ·exact h.elim
     | _=>exact False.elim h
  | _=>exact False.elim h
 | append=>
  cases x with
  | ref p=>
   cases xs with
   | nil=>exact False.elim h
   | cons y t=>
    cases t with
    | cons _ _=>first | exact False.elim h | (cases y<;>exact False.elim h)
    | nil=>
     obtain⟨u,rfl,ru⟩:=vals1 r
     unfold mthV at h
     dsimp only at h
     split at h
     ·rename_i e
      exact mt_append pins s σ H _ _ _ _ Q I rx r ⟨_,_,_,rfl,rfl,e,h.1,h.2⟩
     ·exact h.elim
  | _=>exact False.elim h
 | _=>exact False.elim h
theorem isl_ty {K:PySem.W.Frag} (mo:ModOk K M) {x:V} {H:Hp} (h:(match x with | .ref p=>(match rd M H p with | some (.lst _)=>true | _=>false) | _=>false)=true):tyV K "list" x H:=by
 cases x with
 | ref p=>
  dsimp only at h
  split at h
  ·rename_i e;exact⟨rfl,_,rd_lst mo e⟩
  ·cases h
 | _=>cases h
theorem mth_ty {K:PySem.W.Frag} (mo:ModOk K M) {m:Mf} {x:V} {H:Hp} (h:mty M m x H=true):tyV K (mfT m) x H:=by
 cases m with
 | append=>exact isl_ty mo h
 | extend=>exact isl_ty mo h
 | pop=>exact isl_ty mo h
 | _=>cases x<;>first | exact rfl | cases h
theorem sl_str:SlR X (fun x lo hi H Q=>∃z,x=.str z/\z.length<=sizeLine/\Q (.str (Txt.slice z lo hi)) H):=by
 intro pins s σ H x v vl vu lo hi sl Q I rx hs pl pu h
 obtain⟨z,rfl,hz,q⟩:=h
 obtain⟨t,rfl⟩:=rx
 refine⟨"str",_,F.slot_str_getitem.lookup,typeIs_str _ _ _,?_⟩
 cases pl with
 | none=>
  cases pu with
  | none=>exact wpAny_getItem_str_slice (l:=none) (u:=none) (st:=none) hs rfl (post_val_or_str ⟨Nat.le_trans (Txt.slice_le z _ _) hz,fun t' k=>⟨.str _,H,I.tok _,⟨_,rfl⟩,q⟩⟩)
  | int j uj=>exact wpAny_getItem_str_slice (l:=none) (u:=some (j,uj)) (st:=none) hs rfl (post_val_or_str ⟨Nat.le_trans (Txt.slice_le z _ _) hz,fun t' k=>⟨.str _,H,I.tok _,⟨_,rfl⟩,q⟩⟩)
 | int i ui=>
  cases pu with
  | none=>exact wpAny_getItem_str_slice (l:=some (i,ui)) (u:=none) (st:=none) hs rfl (post_val_or_str ⟨Nat.le_trans (Txt.slice_le z _ _) hz,fun t' k=>⟨.str _,H,I.tok _,⟨_,rfl⟩,q⟩⟩)
  | int j uj=>exact wpAny_getItem_str_slice (l:=some (i,ui)) (u:=some (j,uj)) (st:=none) hs rfl (post_val_or_str ⟨Nat.le_trans (Txt.slice_le z _ _) hz,fun t' k=>⟨.str _,H,I.tok _,⟨_,rfl⟩,q⟩⟩)
theorem slc_ok (m:ModOk X.K M):SlR X (slcV M):=by
 intro pins s σ H x v vl vu lo hi sl Q I rx hs pl pu h
 unfold slcV at h
 split at h
 ·exact sl_str pins s σ H _ v vl vu lo hi sl Q I rx hs pl pu ⟨_,rfl,h.1,h.2⟩
 ·split at h
  ·rename_i e
   obtain⟨T,id,h1,h2,h3⟩:=sl_list pins s σ H _ v vl vu lo hi sl (fun v H'=>OffM M H'->Q v H') I rx hs pl pu ⟨_,_,rfl,rd_lst m e,fun p hp of=>h p hp of.new⟩
   exact⟨T,id,h1,h2,thn h3 fun _ _=>ep_off m⟩
  ·exact h.elim
 ·exact h.elim
end
structure SeqIt (J:It) (xs:List V) (stay:Hp->Prop):Prop where
 go:∀i H,stay H->i < xs.length->J.go i H
 yld:∀i H x H',i < xs.length->J.yld i H x H'->stay H->H'=H/\xs[i]?=some x
 stop:∀i H,stay H->xs.length<=i->J.stop i H
theorem seq_list {K:PySem.W.Frag} {M:Mo} (m:ModOk K M) {a:Addr} {xs:List V}:SeqIt (Itl K a) xs (fun H=>rd M H a=some (.lst xs)) where
 go:=fun i H st e=>⟨xs,xs[i],rd_lst m st,List.getElem?_eq_getElem e⟩
 yld:=fun i H x H' _ y st=>⟨y.1,y.2 xs (rd_lst m st)⟩
 stop:=fun i H st h=>⟨xs,rd_lst m st,h⟩
theorem seq_range (lo:Int) (n:Nat):SeqIt (Itr lo n) ((List.range n).map fun i:Nat=>.int (lo + i)) (fun _=>True) where
 go:=fun i H st e=>by
  show i < n
  simpa using e
 yld:=fun i H x H' e y st=>by
  obtain⟨y1,y2⟩:=y
  subst y2
  refine⟨y1,?_⟩
  have e:i < n:=by simpa using e
  rw[List.getElem?_map,List.getElem?_range e]
  rfl
 stop:=fun i H st h=>by
  show n<=i
  simpa using h
noncomputable def Its (z:Str):It:=⟨fun i _=>i < z.cps.size,fun i H x H'=>H'=H/\∃c,z.cps[i]?=some c/\x=.str ⟨#[c]⟩,fun i _=>z.cps.size<=i⟩
theorem seq_str (z:Str):SeqIt (Its z) (z.cps.toList.map fun c=>.str ⟨#[c]⟩) (fun _=>True) where
 go:=fun i H st e=>by
  show i < z.cps.size
  simpa using e
 yld:=fun i H x H' e y st=>by
  obtain⟨y1,c,y2,y3⟩:=y
  subst y3
  refine⟨y1,?_⟩
  rw[List.getElem?_map]
  simp[y2]
 stop:=fun i H st h=>by
  show z.cps.size<=i
  simpa using h
theorem turn_str {P:Program} {w:World} {K:PySem.W.Frag} {tg:Expr} (it:Addr) (z:Str) (t:Tok):Turn P w K tg (Its z) [it] it (fun i h=>h.IsStrIter it (strIterType z) z t i) where
 mem:=by simp
 obj:=fun i h st b hb=>by
  have e:b=it:=by simpa using hb
  subst e
  obtain⟨o,ho,hc,hd⟩:=st
  exact⟨o,ho,fun v q=>by rw[hd]at q;cases q⟩
 keep:=fun i h h' st k=>by
  obtain⟨o,ho,r⟩:=st
  exact⟨o,k it (by simp) _ ho,r⟩
 item:=by
  intro X hP hw hK hc i pins s σ H E I hf st hg
  subst hP hw hK
  obtain⟨f0,f1,f2,f3,f4,f5⟩:=hf it (by simp)
  have hg:i < z.cps.size:=hg
  have hx:z.cps[i]?=some z.cps[i]:=Array.getElem?_eq_getElem hg
  have fin:∀ (ty:String),ty ≠ "x" ->strIterType z=ty->(["enumerate","zip","dict_itemiterator","dict_reverseitemiterator","odict_iterator","itertools.zip_longest","itertools.pairwise"].contains ty=false)->∀h',h'.IsStrIter it ty z t (i + 1)->Heap.SameBut it s.heap h'->
    ∃u,some (Value.str ⟨#[z.cps[i]]⟩ s.toks)=some u/\wpAny (model X.prog X.w) X.A (letOwnedTupleGo tg (.ref it) u) (fun _ s2=>∃x H',Inv X pins σ H' s2/\RelV x u/\(Its z).yld i H x H'/\s2.heap.IsStrIter it (strIterType z) z t (i + 1)/\∀b ∈ [it],H' b=none) E {s with heap:=h',toks:=s.toks + 1}:=by
   intro ty _ e hn h' st' sb
   have I1:Inv X pins σ H {s with heap:=h',toks:=s.toks + 1}:=I.turned (fun b o hb e=>sb.extBut b o hb e) f0 f1 f3 f4 f5
   obtain⟨o,ho,hcl,hd⟩:=id st'
   refine⟨_,rfl,go_of (s:={s with heap:=h',toks:=s.toks + 1}) ho hcl hd hn ⟨.str ⟨#[z.cps[i]]⟩,H,I1,⟨_,rfl⟩,⟨rfl,_,hx,rfl⟩,by rw[e];exact st',fun b hb=>(hf b hb).1⟩⟩
  cases ha:z.cps.all (·< 128)
  ·have e:strIterType z= "str_iterator" :=by simp[strIterType,ha]
   rw[e]at st
   exact wpAny_pyNext_wide_item st hx fun h' st' sb=>fin _ (by decide) e (by decide) h' st' sb
  ·have e:strIterType z= "str_ascii_iterator" :=by simp[strIterType,ha]
   rw[e]at st
   exact wpAny_pyNext_ascii_item st hx fun h' st' sb=>fin _ (by decide) e (by decide) h' st' sb
 done:=by
  intro X hP hw hK hc i pins s σ H E I hf st hg
  subst hP hw hK
  obtain⟨f0,f1,f2,f3,f4,f5⟩:=hf it (by simp)
  have hg:z.cps.size<=i:=hg
  have hx:z.cps[i]?=none:=by simp[hg]
  cases ha:z.cps.all (·< 128)
  ·have e:strIterType z= "str_iterator" :=by simp[strIterType,ha]
   rw[e]at st
   exact wpAny_pyNext_wide_end (I.ok.hd hc) st hx fun h' eb=>⟨rfl,I.turned (t':=s.toks) (fun b o hb e=>eb b o hb e) f0 f1 f3 f4 f5⟩
  ·have e:strIterType z= "str_ascii_iterator" :=by simp[strIterType,ha]
   rw[e]at st
   exact wpAny_pyNext_ascii_end (I.ok.hd hc) st hx fun h' eb=>⟨rfl,I.turned (t':=s.toks) (fun b o hb e=>eb b o hb e) f0 f1 f3 f4 f5⟩
 self:=fun A i s Q E st h=>by
  cases ha:z.cps.all (·< 128)
  ·have e:strIterType z= "str_iterator" :=by simp[strIterType,ha]
   rw[e]at st
   exact wpAny_pyIter_striter_wide st h
  ·have e:strIterType z= "str_ascii_iterator" :=by simp[strIterType,ha]
   rw[e]at st
   exact wpAny_pyIter_striter_ascii st h
section
variable {X:Cx} {tg:Expr}
noncomputable def iSeq (wi:L2.St->Hp->(List V->(Hp->Prop)->Hp->Prop)->Prop):TI:=fun σ H R=>∃k,wi σ H k/\∀J xs stay H1,SeqIt J xs stay->k xs stay H1->R J H1
theorem iterV_mono {M:Mo} {x:V} {H:Hp} {k k':List V->(Hp->Prop)->Prop} (h:iterV M x H k) (hk:∀xs stay,k xs stay->k' xs stay):iterV M x H k':=by
 unfold iterV at h ⊢
 split at h
 ·exact⟨h.1,hk _ _ h.2⟩
 ·split at h
  ·first | exact hk _ _ h | (rename_i e;rw[e];exact hk _ _ h)
  ·exact h.elim
 ·exact h.elim
theorem pi_str {pins:List (Addr × Obj)} {σ:L2.St} {H:Hp} {s:Shared} {R:It->Hp->Prop} {z:Str} {t:Tok} (I:Inv X pins σ H s) (q:R (Its z) H):
  wpAny (model X.prog X.w) X.A (pyIter (.str z t)) (PIE X pins σ tg R) X.xe s:=by
 refine wpAny_pyIter_strU ?_
 refine⟨s.heap.objs.size,[s.heap.objs.size],_,_,H,rfl,I.kept (t':=s.toks) fun b o e=>Heap.get?_push_of_some _ e,turn_str _ z t,⟨_,Heap.get?_push_size _ rfl,rfl,rfl⟩,fun b hb=>?_,q⟩
 have e:b=s.heap.objs.size:=by simpa using hb
 subst e
 exact I.fpOk (Nat.le_refl _) (I.hok.fresh (Nat.le_refl _))
theorem pi_val {M:Mo} (m:ModOk X.K M) {pins:List (Addr × Obj)} {σ:L2.St} {H:Hp} {s:Shared} {R:It->Hp->Prop} {x:V} {v:Value} (I:Inv X pins σ H s) (rx:RelV x v)
  (h:iterV M x H fun xs stay=>∀J,SeqIt J xs stay->R J H):wpAny (model X.prog X.w) X.A (pyIter v) (PIE X pins σ tg R) X.xe s:=by
 unfold iterV at h
 split at h
 ·obtain⟨t,rfl⟩:=rx
  exact pi_str I (h.2 _ (seq_str _))
 ·cases rx
  split at h
  ·rename_i xs e
   obtain⟨its,rv,p,hz⟩:=I.list (rd_lst m e)
   refine wpAny_pyIter_list p.isList ?_
   refine⟨s.heap.objs.size,[s.heap.objs.size],_,_,H,rfl,I.kept (t':=s.toks) fun b o e=>Heap.get?_push_of_some _ e,turn_list _ _,⟨_,Heap.get?_push_size _ rfl,rfl,rfl⟩,fun b hb=>?_,h _ (seq_list m)⟩
   have e:b=s.heap.objs.size:=by simpa using hb
   subst e
   exact I.fpOk (Nat.le_refl _) (I.hok.fresh (Nat.le_refl _))
  ·exact h.elim
 ·exact h.elim
end
end Sw
namespace Sw
set_option genInjectivity false
open PySem PySem.Spec PyProof.Rows L2
theorem closure_go (env:Env):∀ (names:List (Str × NameKind)) (acc:List (Str × Addr)),(∀ y ∈ names,y.2=.free->∃c,env.cells.lookup y.1=some c)->
  ∃cl,((forIn names acc (fun(x:Str × NameKind) (r:List (Str × Addr))=>if(x.2 == .free)=true then(do let a<-cellOf env x.1;pure (ForInStep.yield ((x.1,a)::r)))else pure (ForInStep.yield r)):Sem (List (Str × Addr)))=pure (cl++acc))/\
   (∀ y ∈ cl,env.cells.lookup y.1=some y.2)/\(∀ y ∈ names,y.2=.free->∃c,(y.1,c) ∈ cl):=by
 intro names
 induction names with
 | nil=>intro acc _;exact⟨[],rfl,(fun _ h=>by cases h),(fun _ h=>by cases h)⟩
 | cons x r ih=>
  intro acc h
  obtain⟨n,k⟩:=x
  cases hk:(k == NameKind.free)with
  | false=>
   obtain⟨cl,e,h1,h2⟩:=ih acc fun y hy=>h y (List.mem_cons_of_mem _ hy)
   refine⟨cl,?_,h1,fun y hy hf=>?_⟩
   ·simp only[List.forIn_cons,hk,Bool.false_eq_true,if_false]
    exact e
   ·rcases List.mem_cons.mp hy with rfl | hy
    ·have hf:k=.free:=hf
     rw[hf]at hk;cases hk
    ·exact h2 y hy hf
  | true=>
   have hkf:k=.free:=by simpa using hk
   obtain⟨c,hc⟩:=h (n,k) List.mem_cons_self hkf
   obtain⟨cl,e,h1,h2⟩:=ih ((n,c)::acc) fun y hy=>h y (List.mem_cons_of_mem _ hy)
   refine⟨cl++[(n,c)],?_,fun y hy=>?_,fun y hy hf=>?_⟩
   ·simp only[List.forIn_cons,hk,if_true]
    unfold cellOf
    have hc':env.cells.lookup n=some c:=hc
    rw[hc']
    simp only[List.append_assoc,List.singleton_append]
    exact e
   ·rcases List.mem_append.mp hy with hy | hy
    ·exact h1 y hy
    ·have ey:y=(n,c):=by simpa using hy
     subst ey;exact hc
   ·rcases List.mem_cons.mp hy with rfl | hy
    ·exact⟨c,List.mem_append_right _ (by simp)⟩
    ·obtain⟨d,hd⟩:=h2 y hy hf
     exact⟨d,List.mem_append_left _ hd⟩
theorem closure_ok {env:Env} {csc:Scope} (h:∀y ∈ csc.names,y.2=.free->∃c,env.cells.lookup y.1=some c):
  ∃cl,closureFor csc env=pure cl/\(∀ y c,cl.lookup y=some c->env.cells.lookup y=some c)/\(∀ y,(y,NameKind.free) ∈ csc.names->∃c,cl.lookup y=some c):=by
 obtain⟨cl,e,h1,h2⟩:=closure_go env csc.names [] h
 refine⟨cl,?_,fun y c hl=>h1 (y,c) (PySem.mem_of_lookup hl),fun y hy=>?_⟩
 ·rw[List.append_nil]at e
  unfold closureFor
  simp only[e]
  rfl
 ·obtain⟨c,hc⟩:=h2 (y,.free) hy rfl
  cases q:cl.lookup y with
  | some d=>exact⟨d,rfl⟩
  | none=>
   exfalso
   clear h1 h2 e
   induction cl with
   | nil=>cases hc
   | cons z r ih=>
    obtain⟨a,b⟩:=z
    simp only[List.lookup_cons]at q
    cases hb:(y == a)with
    | true=>rw[hb]at q;cases q
    | false=>
     rw[hb]at q
     rcases List.mem_cons.mp hc with hc | hc
     ·cases hc
      simp at hb
     ·exact ih hc q
theorem relabel_vis {csc:Scope} {env:Env} {y:Str}:(relabel csc env).names.lookup y=(csc.names.lookup y).map fun k=>if(k == .free && env.scope.kind == .function && env.kindOf y == some .cell)then .cell else k:=by
 unfold relabel
 dsimp only
 generalize csc.names=names
 induction names with
 | nil=>rfl
 | cons z r ih=>
  obtain⟨n,k⟩:=z
  simp only[List.map_cons,List.lookup_cons]
  cases hb:(y == n)with
  | true=>
   have e:y=n:=by simpa using hb
   subst e
   by_cases hc:(k == NameKind.free && env.scope.kind == .function && env.kindOf y == some .cell)=true
   ·simp only[hc,if_true,List.lookup_cons,hb,Option.map_some]
   ·simp only[hc,if_false,List.lookup_cons,hb,Option.map_some,Bool.false_eq_true]
  | false=>
   by_cases hc:(k == NameKind.free && env.scope.kind == .function && env.kindOf n == some .cell)=true
   ·simp only[hc,if_true,List.lookup_cons,hb];exact ih
   ·simp only[hc,if_false,List.lookup_cons,hb,Bool.false_eq_true];exact ih
theorem mem_of_look {α β:Type} [BEq α] [LawfulBEq α] {l:List (α × β)} {a:α} {b:β} (h:l.lookup a=some b):(a,b) ∈ l:=by
 induction l with
 | nil=>cases h
 | cons x r ih=>
  obtain⟨c,d⟩:=x
  simp only[List.lookup_cons]at h
  cases hb:(a == c)with
  | true=>
   rw[hb]at h
   have e:a=c:=by simpa using hb
   subst e
   cases h
   exact List.mem_cons_self
  | false=>rw[hb]at h;exact List.mem_cons_of_mem _ (ih h)
structure CompOf (X X':Cx) (csc:Scope) (N':List Str):Prop where
 prog:X'.prog=X.prog
 w:X'.w=X.w
 K:X'.K=X.K
 mg:X'.mg=X.mg
 base:X'.base=X.base
 A:X'.A=X.A
 calm:X'.calm=true
 stack:X'.stack=X.stack
 frame:X'.env.frame=X.env.frame
 N:X'.N=N'
 scope:X'.env.scope=relabel csc X.env
noncomputable def PTs (X:Cx) (ifs:List Expr) (tt:TT):Prop:=
 ∀ (pins:List (Addr × Obj)) (s:Shared) (σ:L2.St) (H:Hp) (Q:Bool->Hp->Prop),Inv X pins σ H s->tt σ H Q->
  wpAny (model X.prog X.w) X.A (forIn ifs true fun c r=>if r=true then do let ok<-isTrue c X.env (eval c X.env);pure (ForInStep.yield ok)else pure (ForInStep.yield r)) (TP X pins σ Q) X.xe s
theorem vars_get {σ:L2.St} {fv:List (Str × Nat)} {i:Nat} {v:V} (h:(vars σ fv)[i]?=some (some v)):∃y,fv[i]?=some y/\σ[y.2]?=some (some v):=by
 unfold vars at h
 rw[List.getElem?_map]at h
 cases e:fv[i]? with
 | none=>rw[e]at h;cases h
 | some y=>
  rw[e]at h
  refine⟨y,rfl,?_⟩
  have h:(σ[y.2]?).join=some v:=by simpa using h
  cases q:σ[y.2]? with
  | none=>rw[q]at h;cases h
  | some z=>rw[q]at h;simp at h;rw[h]
set_option maxHeartbeats 8000000 in
theorem Inv.letgo {X:Cx} {pins:List (Addr × Obj)} {σ:L2.St} {H:Hp} {s:Shared} {C:Addr} {h':Heap} (I:Inv X pins σ H s) (f:FpOk X pins H C) (sb:Heap.SameBut C s.heap h'):Inv X pins σ H {s with heap:=h'}:=by
 have same:∀b o,b ≠ C->s.heap.get? b=some o->h'.get? b=some o:=fun b o hb e=>sb.extBut b o hb e
 obtain⟨f0,f1,f2,f3,f4,f5⟩:=f
 refine I.call' (ch:=[C]) (s':={s with heap:=h'}) rfl ⟨fun b o e n hb hx=>same b o (by simpa using hx) e,fun b o e n hb hx=>⟨o.slots,same b o (by simpa using hx) e⟩,fun b o e n _=>n,fun b o e hb=>⟨o,same b o (by simpa using hb) e⟩,fun _ _ q=>q,fun _ _ _ q=>q,fun b ps q=>⟨#[],by simpa using q⟩⟩ (fun b o e=>?_) I.bare (fun b hb=>?_)
 ·refine(I.hok b o e).stay (fun c u hcu q=>same c u (fun z=>?_) q) (fun _ q=>q) fun _ _ q=>q
  subst z
  rcases hcu with z | z
  ·rw[<-z,f0]at e;cases e
  ·rw[f0]at z;cases z
 ·rw[show b=C by simpa using hb]
  exact⟨f3,f1,f4,f5⟩
end Sw
namespace Sw
set_option genInjectivity false
open PySem PySem.Spec PyProof.Rows L2
theorem mapFields_eq {o:Obj} {vs:Array Value} (h:o.data=.fields vs) (f:Array Value->Array Value):Obj.mapFields f o={o with data:=.fields (f vs)}:=by
 obtain⟨c,d,da,sl⟩:=o
 have h:da=.fields vs:=h
 subst h
 rfl
structure Landed (fs:List Addr) (h h':Heap) (e:Addr) (oe:Obj):Prop where
 keep:∀b o,b ∉ fs->b ≠ e->h.get? b=some o->h'.get? b=some o
 slot:∀b o,b ≠ e->h.get? b=some o->∃sl,h'.get? b=some {o with slots:=sl}
 exc:∃vs T oT ts,h'.get? e=some {oe with data:=.fields vs}/\vs[1]?=some (.ref T)/\h.objs.size<=T/\h'.get? T=some oT/\oT.data=.fields ts/\3 < ts.size/\vs.size=6/\∀vs0:Array Value,oe.data=.fields vs0->vs[2]?=vs0[2]?
section
variable {M:Model} {A:Around} {E:Value->Shared->Prop} {s:Shared}
theorem entry_D {base:Heap} {env:Env} {outer:List Env} {L e:Addr} {oe:Obj} {vs:Array Value} {head:Value} {hadNext:Bool} {Q:Unit->Shared->Prop}
  (hfr:A.frames=some (env::outer)) (hl:s.heap.FunFrames base (env::outer)) (hf:env.frame=some L)
  (he:s.heap.get? e=some oe) (hd:oe.data=.fields vs) (hsz:vs.size=6)
  (h:∀h',Landed (frs (env::outer)) s.heap h' e oe->Q () {s with heap:=h'}):
  wpAny M A (do let a<-frameOf env;let pl<-entryPlaceOf L hadNext;let b<-EntryCells.newEntry head a .none (rawInt L) .none pl;setField (.ref e) 1 b) Q E s:=by
 have hene:e ∉ (env::outer).filterMap (·.frame):=fun hm=>by
  obtain⟨_,o,ho,hnf⟩:=hl.mem hm
  rw[he]at ho;injection ho with ho;subst ho;exact hnf vs hd
 refine wpAny_bind (wpAny_frameOf_fun hfr hl hf fun h₁ hs₁=>?_)
 refine wpAny_bind (wpAny_entryPlaceOf fun pl hpl=>?_)
 unfold EntryCells.newEntry newFields
 refine wpAny_bind (wpAny_newObj_type ?_ (hpl.sizeOk5 _ _ _ _ _))
 have he₁:h₁.get? e=some oe:=(hs₁.2.1 e hene).trans he
 generalize hTO:({cls:=.type "traceback",dict:=none,data:=.fields ([head,.ref L,.none,rawInt L,.none]++(if pl.isEmpty then List.replicate 6 Value.none else pl)).toArray}:Obj)=TO
 have he₂:=Heap.get?_push_of_some (h:=h₁) TO he₁
 have hTd:∃ts,TO.data=.fields ts/\3 < ts.size:=by
  subst hTO
  exact⟨_,rfl,by simp only[List.size_toArray,List.length_append,List.length_cons,List.length_nil]<;>omega⟩
 obtain⟨ts,hTd,hT3⟩:=hTd
 refine wpAny_setField he₂ hd (by omega) (h _ ?_)
 have hTe:h₁.objs.size ≠ e:=Nat.ne_of_gt (Heap.lt_size he₁)
 have hd₃:=Obj.data_mapFields hd (·.setIfInBounds 1 (Value.ref h₁.objs.size))
 have he₃:=Heap.get?_update_self (Obj.mapFields (·.setIfInBounds 1 (Value.ref h₁.objs.size))) he₂ (Obj.isFreed_of_fields hd₃)
 have hfT:TO.isFreed=false:=Obj.isFreed_of_fields hTd
 have hT₃:=(Heap.get?_update_other (h₁.push TO) (Obj.mapFields (·.setIfInBounds 1 (Value.ref h₁.objs.size))) (Ne.symm hTe)).trans (Heap.get?_push_size h₁ hfT)
 have keep:∀b o,b ≠ e->h₁.get? b=some o->((h₁.push TO).update e (Obj.mapFields (·.setIfInBounds 1 (Value.ref h₁.objs.size)))).get? b=some o:=fun b o hbe hb=>by
  rw[Heap.get?_update_other _ _ (Ne.symm hbe)]
  exact Heap.get?_push_of_some _ hb
 refine⟨fun b o hbf hbe hb=>keep b o hbe ((hs₁.2.1 b hbf).trans hb),fun b o hbe hb=>?_,?_⟩
 ·obtain⟨sl,hs⟩:=hs₁.2.2 b o hb
  exact⟨sl,keep b _ hbe hs⟩
 ·refine⟨vs.setIfInBounds 1 (Value.ref h₁.objs.size),h₁.objs.size,_,ts,?_,by simp[hsz],Nat.le_of_eq hs₁.1.symm,hT₃,hTd,hT3,by simp[hsz],fun vs0 h0=>?_⟩
  ·rw[he₃,mapFields_eq hd]
  ·rw[hd]at h0;cases h0;simp[Array.getElem?_setIfInBounds]
noncomputable def ClsOf (Cv:Value) (oe:Obj) (vs:Array Value):Prop:=(∃ c,Cv=.ref c/\oe.cls=.ref c/\vs[2]?=some .none)\/∃c:Addr,Cv=rawInt c/\oe.cls=.ref c
theorem ClsOf.any {Cv:Value} {oe:Obj} {vs:Array Value} (h:ClsOf Cv oe vs):∃c:Addr,oe.cls=.ref c/\(Cv=.ref c\/Cv=rawInt c):=by
 rcases h with ⟨c,e,h,_⟩ | ⟨c,e,h⟩
 ·exact⟨c,h,.inl e⟩
 ·exact⟨c,h,.inr e⟩
theorem ClsOf.same {Cv:Value} {oe oe':Obj} {vs vs':Array Value} (h:ClsOf Cv oe vs) (h1:oe'.cls=oe.cls) (h2:vs'[2]?=vs[2]?):ClsOf Cv oe' vs':=by
 rcases h with ⟨c,e,h,k⟩ | ⟨c,e,h⟩
 ·exact .inl ⟨c,e,h1.trans h,h2.trans k⟩
 ·exact .inr ⟨c,e,h1.trans h⟩
noncomputable def XTb (h:Heap) (e:Addr) (Cv:Value) (d:Option Addr) (P:Addr->Prop):Prop:=
 ∃oe vs,h.get? e=some oe/\ClsOf Cv oe vs/\oe.dict=d/\oe.data=.fields vs/\vs.size=6/\∃T oT ts,vs[1]?=some (.ref T)/\P T/\T ≠ e/\h.get? T=some oT/\oT.data=.fields ts/\3 < ts.size
noncomputable def XAt (L:Option Addr) (h:Heap) (e:Addr) (Cv:Value) (d:Option Addr) (P:Addr->Prop):Prop:=
 ∃oe vs,h.get? e=some oe/\ClsOf Cv oe vs/\oe.dict=d/\oe.data=.fields vs/\vs.size=6/\(vs[1]?=some .none\/∃T oT ts,vs[1]?=some (.ref T)/\P T/\T ≠ e/\h.get? T=some oT/\oT.data=.fields ts/\3 < ts.size)
theorem XTb.at {L:Option Addr} {h:Heap} {e:Addr} {Cv:Value} {d:Option Addr} {P:Addr->Prop} (x:XTb h e Cv d P):XAt L h e Cv d P:=by
 obtain⟨oe,vs,h1,h2,h3,h4,h5,r⟩:=x
 exact⟨oe,vs,h1,h2,h3,h4,h5,.inr r⟩
theorem XTb.imp {h:Heap} {e:Addr} {C:Value} {d:Option Addr} {P P':Addr->Prop} (x:XTb h e C d P) (i:∀T,P T->P' T):XTb h e C d P':=by
 obtain⟨oe,vs,h1,h2,h3,h4,h5,T,oT,ts,r1,r2,r3⟩:=x
 exact⟨oe,vs,h1,h2,h3,h4,h5,T,oT,ts,r1,i T r2,r3⟩
theorem note1 {base:Heap} {env:Env} {outer:List Env} {L e:Addr} {L':Option Addr} {Cv:Value} {d:Option Addr} {P:Addr->Prop} {Q:Unit->Shared->Prop}
  (hfr:A.frames=some (env::outer)) (hl:s.heap.FunFrames base (env::outer)) (hf:env.frame=some L) (x:XAt L' s.heap e Cv d P)
  (h:∀ (h':Heap) (ch:List Addr),(∀ b ∈ ch,b=e\/P b)->(∀ b o,b ∉ frs (env::outer)->b ∉ ch->s.heap.get? b=some o->h'.get? b=some o)->(∀ b o,b ∉ ch->s.heap.get? b=some o->∃sl,h'.get? b=some {o with slots:=sl})->
   (∀ b o,s.heap.get? b=some o->∃o',h'.get? b=some o')->XTb h' e Cv d (fun T=>s.heap.objs.size<=T\/P T)->Q () {s with heap:=h'}):
  wpAny M A (noteFrame (.ref e) env) Q E s:=by
 obtain⟨oe,vs,he,hc,hdi,hd,hsz,r⟩:=x
 have fin:∀ (h1 h':Heap) (ch:List Addr),h1.objs.size=s.heap.objs.size->(∀ b ∈ ch,b=e\/P b)->(∀ b o,b ∉ ch->s.heap.get? b=some o->h1.get? b=some o)->(∀ b ∈ ch,∃o',h1.get? b=some o')->Landed (frs (env::outer)) h1 h' e oe->e ∈ ch->Q () {s with heap:=h'}:=by
  intro h1 h' ch hs hch k1 k2 ld hec
  obtain⟨vs',T,oT,ts,e1,e2,e3,e4,e5,e6,e7,e8⟩:=ld.exc
  have kE:∀b o,b ≠ e->h1.get? b=some o->∃o',h'.get? b=some o':=fun b o hb q=>by
   obtain⟨sl,q'⟩:=ld.slot b o hb q
   exact⟨_,q'⟩
  refine h h' ch hch (fun b o hb hc q=>ld.keep b o hb (fun z=>hc (by rw[z];exact hec)) (k1 b o hc q)) (fun b o hc q=>ld.slot b o (fun z=>hc (by rw[z];exact hec)) (k1 b o hc q))
   (fun b o q=>?_) ⟨_,vs',e1,hc.same rfl (e8 _ hd),hdi,rfl,e7,T,oT,ts,e2,.inl (by rw[<-hs];exact e3),?_,e4,e5,e6⟩
  ·by_cases hb:b=e
   ·subst hb;exact⟨_,e1⟩
   ·by_cases hbc:b ∈ ch
    ·obtain⟨o',q'⟩:=k2 b hbc
     exact kE b o' hb q'
    ·exact kE b o hb (k1 b o hbc q)
  ·exact Nat.ne_of_gt (Nat.lt_of_lt_of_le (Heap.lt_size he) (by rw[<-hs];exact e3))
 unfold noteFrame
 simp only[hf]
 rcases r with r | ⟨T,oT,ts,h1,hP,hTe,hT,hdT,h3⟩
 ·refine wpAny_bind (wpAny_field he hd r ?_)
  (first | with_reducible refine Eq.mpr (if_neg (by decide)) ?_ | rw[if_neg (by decide)])
  exact entry_D hfr hl hf he hd hsz fun h' ld=>fin s.heap h' [e] rfl (fun b hb=>.inl (by simpa using hb)) (fun _ _ _ q=>q) (fun b hb=>⟨oe,by rw[show b=e by simpa using hb];exact he⟩) ld (by simp)
 ·have other:∀ (v:Value) b,b ≠ T->(s.heap.update T (Obj.mapFields (·.setIfInBounds 3 v))).get? b=s.heap.get? b:=fun v b hb=>Heap.get?_update_other _ _ (Ne.symm hb)
  have noRecord:∀b o,s.heap.get? b=some o->(∀ vs,o.data ≠ .fields vs)->b ≠ T:=fun b o hb hnf q=>by
   rw[q,hT]at hb;injection hb with hb;subst hb;exact hnf ts hdT
  refine wpAny_bind (wpAny_field he hd h1 ?_)
  (first | with_reducible refine Eq.mpr (if_pos (show(Value.ref T != Value.none)=true from by simp)) ?_ | rw[if_pos (show(Value.ref T != Value.none)=true from by simp)])
  refine wpAny_bind (wpAny_field hT hdT (Array.getElem?_eq_getElem h3) ?_)
  by_cases hv:(ts[3] == rawInt L)=true
  ·(first | with_reducible refine Eq.mpr (if_pos hv) ?_ | rw[if_pos hv])
   refine wpAny_pure ?_
   exact h s.heap [] (fun b hb=>absurd hb (by simp)) (fun _ _ _ _ q=>q) (fun b o _ q=>⟨o.slots,q⟩) (fun b o q=>⟨o,q⟩) ⟨oe,vs,he,hc,hdi,hd,hsz,T,oT,ts,h1,.inr hP,hTe,hT,hdT,h3⟩
  ·(first | with_reducible refine Eq.mpr (if_neg hv) ?_ | rw [if_neg hv])
   refine wpAny_bind (wpAny_setField hT hdT h3 ?_)
   refine entry_D (base:=base) hfr (hl.of_keeps fun b o hb hnf=>⟨o,(other _ b (noRecord b o hb hnf)).trans hb,rfl⟩) hf ((other _ e (Ne.symm hTe)).trans he) hd hsz fun h' ld=>?_
   refine fin (s.heap.update T (Obj.mapFields (·.setIfInBounds 3 Value.none))) h' [e,T] (Heap.size_update ..) (fun b hb=>?_) (fun b o hb q=>?_) (fun b hb=>?_) ld (by simp)
   ·rcases List.mem_cons.mp hb with z | z
    ·exact .inl z
    ·exact .inr (by rw[show b=T by simpa using z];exact hP)
   ·rw[other _ b (fun z=>hb (by simp[z]))];exact q
   ·rcases List.mem_cons.mp hb with z | z
    ·exact⟨oe,by rw[z,other _ e (Ne.symm hTe)];exact he⟩
    ·exact⟨_,by rw[show b=T by simpa using z];exact Heap.get?_update_self _ hT (Obj.isFreed_of_fields (Obj.data_mapFields hdT _))⟩
theorem set1 {e:Addr} {Cv:Value} {d:Option Addr} {P:Addr->Prop} {fl:Option Addr} {Q:Unit->Shared->Prop} (x:XTb s.heap e Cv d P)
  (h:∀ (h':Heap) (T:Addr),P T->(∀ b,b ≠ T->h'.get? b=s.heap.get? b)->(∃ o',h'.get? T=some o')->XTb h' e Cv d P->Q () {s with heap:=h'}):wpAny M A (setFlight (.ref e) fl) Q E s:=by
 obtain⟨oe,vs,he,hc,hdi,hd,hsz,T,oT,ts,h1,hP,hTe,hT,hdT,h3⟩:=x
 unfold setFlight
 refine wpAny_bind (wpAny_field he hd h1 ?_)
 (first | with_reducible refine Eq.mpr (if_pos (show(Value.ref T != Value.none)=true from by simp)) ?_ | rw[if_pos (show(Value.ref T != Value.none)=true from by simp)])
 have other:∀b,b ≠ T->(s.heap.update T (Obj.mapFields (·.setIfInBounds 3 (fl.elim Value.none fun f=>rawInt f)))).get? b=s.heap.get? b:=fun b hb=>Heap.get?_update_other _ _ (Ne.symm hb)
 have self:=Heap.get?_update_self (Obj.mapFields (·.setIfInBounds 3 (fl.elim Value.none fun f=>rawInt f))) hT (Obj.isFreed_of_fields (Obj.data_mapFields hdT _))
 exact wpAny_setField hT hdT h3 (h _ T hP other ⟨_,self⟩ ⟨oe,vs,(other e (Ne.symm hTe)).trans he,hc,hdi,hd,hsz,T,_,_,h1,hP,hTe,self,Obj.data_mapFields hdT _,by simp[h3]⟩)
theorem XTb.head {h:Heap} {e:Addr} {Cv:Value} {d:Option Addr} {P:Addr->Prop} (x:XTb h e Cv d P):∃oe vs T,h.get? e=some oe/\oe.data=.fields vs/\vs[1]?=some (.ref T):=by
 obtain⟨oe,vs,he,hc,hdi,hd,hsz,T,oT,ts,h1,r⟩:=x
 exact⟨oe,vs,T,he,hd,h1⟩
theorem note_set {A2:Around} {base:Heap} {env:Env} {outer:List Env} {L e:Addr} {L' fl:Option Addr} {Cv:Value} {d:Option Addr} {P:Addr->Prop} {Q:Unit->Shared->Prop} {E0:Value->Shared->Prop} {k:Sem Unit}
  (hfr:A.frames=some (env::outer)) (hl:s.heap.FunFrames base (env::outer)) (hf:env.frame=some L) (x:XAt L' s.heap e Cv d P)
  (hk:∀s' P',XTb s'.heap e Cv d P'->wpAny M A2 (setFlight (.ref e) fl) Q E s'->wpAny M A2 k Q E s')
  (h:∀ (h':Heap) (ch:List Addr),(∀ b ∈ ch,b=e\/P b)->(∀ b o,b ∉ frs (env::outer)->b ∉ ch->s.heap.get? b=some o->h'.get? b=some o)->(∀ b o,b ∉ ch->s.heap.get? b=some o->∃sl,h'.get? b=some {o with slots:=sl})->
   (∀ b o,s.heap.get? b=some o->∃o',h'.get? b=some o')->XAt L' h' e Cv d (fun T=>s.heap.objs.size<=T\/P T)->Q () {s with heap:=h'}):
  wpAny M A (noteFrame (.ref e) env) (fun _ s'=>wpAny M A2 k Q E s') E0 s:=by
 refine note1 hfr hl hf x fun h1 ch hch k1 k2 k3 x1=>?_
 refine hk _ _ x1 (set1 x1 fun h2 T hT ot th x2=>?_)
 refine h h2 (ch++(if s.heap.objs.size<=T then []else [T])) (fun b hb=>?_) (fun b o hb hc q=>?_) (fun b o hc q=>?_) (fun b o q=>?_) x2.at
 ·rcases List.mem_append.mp hb with z | z
  ·exact hch b z
  ·by_cases hs:s.heap.objs.size<=T
   ·rw[if_pos hs]at z;cases z
   ·rw[if_neg hs]at z
    rw[show b=T by simpa using z]
    rcases hT with q | q
    ·exact absurd q hs
    ·exact .inr q
 ·have hbT:b ≠ T:=fun z=>by
   subst z
   rw[if_neg (Nat.not_le.mpr (Heap.lt_size q))]at hc
   exact hc (List.mem_append_right _ (by simp))
  exact(ot b hbT).trans (k1 b o hb (fun z=>hc (List.mem_append_left _ z)) q)
 ·have hbT:b ≠ T:=fun z=>by
   subst z
   rw[if_neg (Nat.not_le.mpr (Heap.lt_size q))]at hc
   exact hc (List.mem_append_right _ (by simp))
  obtain⟨sl,q2⟩:=k2 b o (fun z=>hc (List.mem_append_left _ z)) q
  exact⟨sl,(ot b hbT).trans q2⟩
 ·by_cases hbT:b=T
  ·subst hbT;exact th
  ·obtain⟨o',q2⟩:=k3 b o q
   exact⟨o',(ot b hbT).trans q2⟩
theorem note_land {base:Heap} {env:Env} {outer:List Env} {L e:Addr} {L':Option Addr} {Cv:Value} {d:Option Addr} {P:Addr->Prop} {Q:Unit->Shared->Prop}
  (hfr:A.frames=some (env::outer)) (hl:s.heap.FunFrames base (env::outer)) (hf:env.frame=some L) (x:XAt L' s.heap e Cv d P)
  (h:∀ (h':Heap) (ch:List Addr),(∀ b ∈ ch,b=e\/P b)->(∀ b o,b ∉ frs (env::outer)->b ∉ ch->s.heap.get? b=some o->h'.get? b=some o)->(∀ b o,b ∉ ch->s.heap.get? b=some o->∃sl,h'.get? b=some {o with slots:=sl})->
   (∀ b o,s.heap.get? b=some o->∃o',h'.get? b=some o')->XAt L' h' e Cv d (fun T=>s.heap.objs.size<=T\/P T)->Q () {s with heap:=h'}):
  wpAny M A (noteFrame (.ref e) env) (fun _ s'=>wpAny M A (setFlight (.ref e) none) Q E s') E s:=
 note_set hfr hl hf x (fun _ _ _ q=>q) h
theorem note_back {A2:Around} {base:Heap} {env:Env} {outer:List Env} {L e:Addr} {L':Option Addr} {Cv:Value} {d:Option Addr} {P:Addr->Prop} {R:Value->Shared->Prop}
  (hfr:A.frames=some (env::outer)) (hl:s.heap.FunFrames base (env::outer)) (hf:env.frame=some L) (x:XAt L' s.heap e Cv d P)
  (h:∀ (h':Heap) (ch:List Addr),(∀ b ∈ ch,b=e\/P b)->(∀ b o,b ∉ frs (env::outer)->b ∉ ch->s.heap.get? b=some o->h'.get? b=some o)->(∀ b o,b ∉ ch->s.heap.get? b=some o->∃sl,h'.get? b=some {o with slots:=sl})->
   (∀ b o,s.heap.get? b=some o->∃o',h'.get? b=some o')->XAt L' h' e Cv d (fun T=>s.heap.objs.size<=T\/P T)->R (.ref e) {s with heap:=h'}):
  notedBy M A env (cameBackBy M A2 env R) (.ref e) s:=by
 unfold notedBy
 show wpAny M A (noteFrame (.ref e) env) (fun _ s''=>wpAny M A2 _ _ _ s'') _ s
 refine note_set (fl:=env.frame) hfr hl hf x (fun s' P' x' q=>?_) h
 obtain⟨oe,vs,T,h1,h2,h3⟩:=x'.head
 refine wpAny_bind (wpAny_field h1 h2 h3 ?_)
 (first | with_reducible refine Eq.mpr (if_neg (show ¬ ((Value.ref T == Value.none)=true)from by simp)) ?_ | rw[if_neg (show ¬ ((Value.ref T == Value.none)=true)from by simp)])
 first | exact q | exact wpAny_bind (wpAny_pure q)
end
end Sw
namespace Sw
set_option genInjectivity false
open PySem PySem.Spec PyProof.Rows L2
noncomputable def CXW (P:Program) (w:World):CXT:=fun outer H s E e s'=>∃ea C d H',e=.ref ea/\s'.os=s.os/\AllBare s'.gens/\Un (frs outer) [] H H' s.heap s'.heap/\HOk P w H' s'.heap/\
 s.heap.objs.size<=ea/\H' ea=none/\XAt none s'.heap ea C d (fun T=>s.heap.objs.size<=T/\H' T=none)/\E C d H'
structure Flew (X:Cx) (pins:List (Addr × Obj)) (σ:L2.St) (H:Hp) (e:Addr) (C:Value) (d:Option Addr) (s:Shared):Prop where
 inv:Inv X pins σ H s
 fe:FpOk X pins H e
 at_:XAt (some X.env.locals) s.heap e C d (FpOk X pins H)
noncomputable def XOk (X:Cx) (Ξ:XS):Prop:=∀pins σ H e C d s,Flew X pins σ H e C d s->Ξ C d σ H->X.xe (.ref e) s
theorem XAt.imp {L:Option Addr} {h:Heap} {e:Addr} {C:Value} {d:Option Addr} {P P':Addr->Prop} (x:XAt L h e C d P) (i:∀T,P T->P' T):XAt L h e C d P':=by
 obtain⟨oe,vs,h1,h2,h3,h4,h5,r⟩:=x
 refine⟨oe,vs,h1,h2,h3,h4,h5,r.imp id fun z38q=>by obtain⟨T,oT,ts,r1,r2,r3⟩:=z38q;exact⟨T,oT,ts,r1,i T r2,r3⟩⟩
theorem XAt.fly {l l':Option Addr} {h:Heap} {e:Addr} {C:Value} {d:Option Addr} {P:Addr->Prop} (x:XAt l h e C d P):XAt l' h e C d P:=x
theorem XOk.no {X:Cx}:XOk X X0:=fun _ _ _ _ _ _ _ _ h=>h.elim
section
variable {X:Cx} {pins:List (Addr × Obj)} {σ:L2.St} {H:Hp} {s s':Shared}
theorem flew_of {E:XK} {e:Value} (I:Inv X pins σ H s) (h:CXW X.prog X.w X.stack H s E e s'):∃ea C d H',e=.ref ea/\Flew X pins σ H' ea C d s'/\E C d H':=by
 obtain⟨ea,C,d,H',rfl,ho,hg,u,hok,hs,hn,x,q⟩:=h
 have I':Inv X pins σ H' s':=I.call' (ch:=[]) ho u hok hg (fun b hb=>absurd hb (by simp))
 exact⟨ea,C,d,H',rfl,⟨I',I.fpOk hs hn,(x.imp fun T z39q=>by obtain⟨h1,h2⟩:=z39q;exact I.fpOk h1 h2).fly⟩,q⟩
theorem run_fnX {Q:VK} {us:List Value} {vs:List V} {k:Nat} {f:Addr} {fd:FuncData} {ps:List Str} {sp:Sp} {Ξ:XS} (F:FnOk X.prog X.w X.K X.mg X.base (CXW X.prog X.w) k f fd ps sp) (hr:Room k X.A) (hb:Binds X.K fd ps []) (xo:XOk X Ξ)
  (I:Inv X pins σ H s) (r:Vals vs us) (h:sp vs H Q fun C d H'=>Ξ C d σ H'):wpAny (model X.prog X.w) X.A (call (.ref f) us) (EP X pins σ Q) X.xe s:=by
 have hl:(us++[]).length=ps.length:=by rw[List.append_nil,<-r.length];exact F.len _ _ _ _ h
 refine wpAny_call (codeAny_mono (F.run X.A X.stack s H ⟨us,[]⟩ us vs Q (fun C d H'=>Ξ C d σ H') hr I.env0 (by have:=hb s us I.kIn hl;rwa[List.append_nil]at this) r h) fun r s' hq=>?_)
 cases r with
 | error e=>
  obtain⟨ea,C,d,H',e1,fl,q⟩:=flew_of (E:=fun C d H'=>Ξ C d σ H') (e:=e) (s':=s') I hq
  subst e1
  exact xo pins σ H' ea C d s' fl q
 | ok fl=>
  cases fl with
  | ret u=>exact I.after hq
  | next=>exact False.elim hq
  | brk=>exact False.elim hq
  | cont=>exact False.elim hq
end
theorem hok_land {X:Cx} {pins:List (Addr × Obj)} {σ:L2.St} {H:Hp} {e:Addr} {C:Value} {d:Option Addr} {s:Shared} (F:Flew X pins σ H e C d s) {h':Heap} {ch:List Addr} (hch:∀b ∈ ch,b=e\/FpOk X pins H b)
  (k:∀b o,b ∉ frs X.stack->b ∉ ch->s.heap.get? b=some o->h'.get? b=some o):HOk X.prog X.w H h':=by
 intro a o ea
 have nch:∀c u,H c=some u->c ∉ ch:=fun c u q hc=>by
  rcases hch c hc with z | z
  ·rw[z,F.fe.1]at q;cases q
  ·rw[z.1]at q;cases q
 refine(F.inv.hok a o ea).stay (fun c u hc q=>k c u (fun hm=>?_) (fun hm=>?_) q) (fun _ q=>q) fun _ _ q=>q
 ·have hn:=F.inv.stkFree c hm
  rcases hc with z | z
  ·rw[z,ea]at hn;cases hn
  ·rw[z]at hn;cases hn
 ·rcases hc with z | z
  ·exact nch c o (by rw[z];exact ea) hm
  ·exact nch c _ z hm
theorem xok_def {P:Program} {w:World} {K:PySem.W.Frag} {mg:Str->Option Value} {base:Heap} {N:List Str} {qual:Str} {scope:Scope} {f:Addr} {cd:Value} {A:Around} {outer:List Env} {s:Shared} {H:Hp} {E:XK}:
  XOk (cxOf (CXW P w) P w K mg base N qual scope f cd A outer s H E) (fun C d _ H'=>E C d H'):=by
 intro pins σ H' e C d s' F q
 have I:=F.inv
 show wpAny (model P w) (A.deeper (envOfC qual scope s.heap.objs.size f cd)) (leaving (envOfC qual scope s.heap.objs.size f cd) (.ref e)) _ _ s'
 unfold leaving
 have sz:s.heap.objs.size<=s'.heap.objs.size:=I.sz
 refine wpAny_bind (note_land (base:=base) I.ok.frames I.stack rfl F.at_ fun h' ch hch k1 k2 k3 x'=>?_)
 have fpS:∀b,FpOk (cxOf (CXW P w) P w K mg base N qual scope f cd A outer s H E) pins H' b->s.heap.objs.size<=b:=fun b z=>by
  rcases z.2.2.2.1 with z | z
  ·exact absurd (show b ∈ ([]:List Addr)from z) (by simp)
  ·exact z
 have big:∀b ∈ ch,s.heap.objs.size<=b:=fun b hb=>by
  have fp:∀b,FpOk (cxOf (CXW P w) P w K mg base N qual scope f cd A outer s H E) pins H' b->s.heap.objs.size<=b:=fun b z=>by
   rcases z.2.2.2.1 with z | z
   ·exact absurd (show b ∈ ([]:List Addr)from z) (by simp)
   ·exact z
  rcases hch b hb with z | z
  ·rw[z];exact fp e F.fe
  ·exact fp b z
 have nch:∀b o,s.heap.get? b=some o->b ∉ ch:=fun b o e hb=>absurd (Heap.lt_size e) (Nat.not_lt.mpr (big b hb))
 have B:=I.base
 have hok':HOk P w H' h':=hok_land F hch k1
 have fpe:s.heap.objs.size<=e:=by
  rcases F.fe.2.2.2.1 with z | z
  ·exact absurd (show e ∈ ([]:List Addr)from z) (by simp)
  ·exact z
 have un:Un (frs outer) [] H H' s.heap h':=by
  refine⟨fun b o eb n hb _=>k1 b o (fun hm=>?_) (nch b o eb) (B.keep b o eb n hb (by exact List.not_mem_nil)),fun b o eb n hb _=>?_,fun b o eb n _=>B.free b o eb n List.not_mem_nil,fun b o eb _=>?_,B.tups,B.frzs,B.tbls⟩
  ·rcases List.mem_cons.mp hm with z | z
   ·exact absurd (Heap.lt_size eb) (by rw[z];exact Nat.lt_irrefl _)
   ·exact hb z
  ·obtain⟨sl,q1⟩:=B.slot b o eb n hb List.not_mem_nil
   obtain⟨sl2,q2⟩:=k2 b _ (nch b o eb) q1
   exact⟨sl2,q2⟩
  ·obtain⟨o',q1⟩:=B.there b o eb List.not_mem_nil
   exact k3 b o' q1
 refine⟨e,C,d,H',rfl,I.os,I.bare,un,hok',fpe,F.fe.1,x'.imp fun T hT=>?_,q⟩
 rcases hT with hT | hT
 ·exact⟨Nat.le_trans sz hT,I.hok.fresh hT⟩
 ·exact⟨fpS T hT,hT.1⟩
end Sw
namespace Sw
set_option genInjectivity false
open PySem PySem.Spec PyProof.Rows L2 PySem.W
open Sem (wp)
section
variable {prog:Program} {w:World} {A:Around} {R:Result->Shared->Prop} {h:Heap} {g:Array GenState} {d:Drawn} {t:Nat} {os:OsState}
variable {nm q:Str} {C N:Addr} {bs bm bmB:List Value} {hdct:Bool} {sn:List Str} {sub:List Value} {ab:Bool} {col:Option Bool} {dd:Option Addr} {k0 k1 k2 k3 k5:Option Value} {B newId initId:String}
theorem make_excI {K:Frag} {fI:Addr} (X:K.In h) (F:ExcBaseFacts B newId initId bmB) (hB:bmB.contains (.type B)=true) (T:OwnTail h bmB bm) {mN:Str->Option Value} {rest:List Value}
  (hC:h.get? C=some (excClassObj nm q C N bs bm hdct sn sub ab col dd k0 k1 k2 k3 k5 newId)) (hn:h.Ns N mN) (hni:mN "__init__" =some (.ref fI)) (hfn:typeIn K (.ref fI)=some (.type "function"))
  (hq:codeAny (model prog w) (A.under (.builtin "type.__call__" ⟨.ref C::rest,[]⟩)) (.call (.ref fI) ⟨.ref (h.objs.size + 1)::rest,[]⟩) (InitBack (h.objs.size + 1) R)
   ⟨(h.push {cls:=.type "tuple",data:=.seq rest.toArray}).push {cls:=.ref C,data:=.fields #[.ref h.objs.size,.none,.none,.none,.bool false,.none]},g,d,t,os⟩) (hrest:rest.length<=sizeLine):
  codeAny (model prog w) A (.call (.ref C) ⟨rest,[]⟩) R ⟨h,g,d,t,os⟩:=by
 have f1:=tc_lookup
 have f2:=tc_bind (.ref C)
 have hT:(⟨h,g,d,t,os⟩:Shared).TypeIs (.ref C) "type" :=⟨_,hC,rfl⟩
 refine codeAny_of_tree ?_
 show wpAny _ _ (callAny (.ref C) _) _ _ _
 repeat (any_goals (first | assumption | with_reducible refine wpAny_loadPart_at hC ?_ | wp_step))
 refine⟨rfl,?_⟩
 refine codeAny_call_builtin_at (Code.quiet_builtin _ (by decide +kernel)) entry_typeCall (wpAny_check_type_call_sub hC ?_)
 repeat (first | with_reducible refine wpAny_loadPart_at hC ?_ | with_reducible refine wpAny_madeBy_exc hC ?_ | wp_step)
 refine codeAny_call_builtin_code (Code.quiet_builtin _ F.quiet) (wpAny_check_new_subU F hB T hC ?_)
 refine codeAny_exc_new_subU F hB F T hC ?_ hrest
 show wpAny _ _ _ _ _ _
 have hC₁:=Heap.get?_push_of_some {cls:=.ref C,data:=.fields #[.ref h.objs.size,.none,.none,.none,.bool false,.none]}
  (Heap.get?_push_of_some {cls:=.type "tuple",data:=.seq rest.toArray} hC)
 have hn₁:((h.push {cls:=.type "tuple",data:=.seq rest.toArray}).push {cls:=.ref C,data:=.fields #[.ref h.objs.size,.none,.none,.none,.bool false,.none]}).Ns N mN:=
  by obtain⟨o,es,ep,e,r⟩:=hn;exact⟨o,es,ep,Heap.get?_push_of_some _ (Heap.get?_push_of_some _ e),r⟩
 have hget:((h.push {cls:=.type "tuple",data:=.seq rest.toArray}).push
   {cls:=.ref C,data:=.fields #[.ref h.objs.size,.none,.none,.none,.bool false,.none]}).get? (h.objs.size + 1)=some
   {cls:=.ref C,data:=.fields #[.ref h.objs.size,.none,.none,.none,.bool false,.none]}:=by heap_get
 have hcC:(Value.ref C::bm).contains (.ref C)=true:=by simp
 have T₁:=T.keeps (h':=(h.push {cls:=.type "tuple",data:=.seq rest.toArray}).push {cls:=.ref C,data:=.fields #[.ref h.objs.size,.none,.none,.none,.bool false,.none]})
  fun b o e=>Heap.get?_push_of_some _ (Heap.get?_push_of_some _ e)
 have X₁:K.In ((h.push {cls:=.type "tuple",data:=.seq rest.toArray}).push {cls:=.ref C,data:=.fields #[.ref h.objs.size,.none,.none,.none,.bool false,.none]}):=X.keeps fun b o e=>Heap.get?_push_of_some _ (Heap.get?_push_of_some _ e)
 have b1:=bind_fn (M:=model prog w) X₁ (.ref (h.objs.size + 1)) hfn
 unfold isInstance
 dsimp only[List.nil_append,List.singleton_append,List.append_eq]
 repeat (first | with_reducible refine wpAny_loadPart_at hget ?_ | (with_reducible refine wpAny_isSubtype_exc hC₁ ?_;rw[hcC]) | wp_step)
 show wpAny _ _ (typeLookup (.ref C) _) _ _ _
 refine wpAny_typeLookup_tail hC₁ hn₁ T₁ F.mroIs F.init.lookup ?_
 rw[hni]
 refine wpAny_holding (wpAny_bind (b1.at ?_))
 refine wpAny_bind (wpAny_call (codeAny_mono hq fun r s' z=>?_))
 rcases r with e | (v | _ | _ | _)<;>first | exact z | exact z.elim | skip
 obtain⟨rfl,z⟩:=z
 exact wpAny_pure (wpAny_pure z)
end
noncomputable def excTail:List Value:=[.type "ValueError",.type "Exception",.type "BaseException",.type "object"]
noncomputable def excOnly:List Value->Bool
 | .ref _::r=>excOnly r
 | l=>l == excTail
theorem excOnly_cases:∀ {l:List Value},excOnly l=true->(∃ c r,l=.ref c::r/\excOnly r=true)\/l=excTail
 | [],h=>.inr (beq_iff_eq.mp h)
 | x::r,h=>by
  cases x<;>first | exact .inl ⟨_,_,rfl,h⟩ | exact .inr (beq_iff_eq.mp h)
theorem refuse_tail (self:Value):refuseLoop self "__setattr__" excTail=pure ():=by kernel_rfl
theorem refuse_exc (self:Value):∀ (l:List Value),excOnly l=true->refuseLoop self "__setattr__" l=pure ():=by
 intro l
 induction l with
 | nil=>intro h;exact absurd h (by decide)
 | cons x r ih=>
  intro h
  rcases excOnly_cases h with ⟨c,r',e,h'⟩ | e
  ·injection e with e1 e2
   subst e1 e2
   rw[refuseLoop_ref]
   exact ih h'
  ·rw[e];exact refuse_tail self
theorem exc_has:∀ (l:List Value),excOnly l=true->l.contains (.type "object")=true/\l.isEmpty=false:=by
 intro l
 induction l with
 | nil=>intro h;exact absurd h (by decide)
 | cons x r ih=>
  intro h
  refine⟨?_,rfl⟩
  rcases excOnly_cases h with ⟨c,r',e,h'⟩ | e
  ·injection e with e1 e2
   subst e1 e2
   rw[List.contains_cons,(ih h').1,Bool.or_true]
  ·rw[e];decide +kernel
noncomputable def plainExc (K:Frag) (C:Addr):Bool:=(clsIn K C).any fun cd=>excOnly cd.mro
section
variable {prog:Program} {w:World} {A:Around} {s:Shared} {K:Frag} {x C:Addr}
theorem osa_exc {R:Result->Shared->Prop} {ox:Obj} {od:Option Obj} {name:Str} {tk:Tok} {v:Value} {r:Option Value} (X:K.In s.heap) (I:InstAt s.heap x ox C od) (hp:plainExc K C=true) (ht:takerIn K C name=some r)
  (h:∀b,wpAny (model prog w) A.in1 (match r with | some a=>Builtin.ObjectAttr.setByDescriptor a (.ref x) v | none=>Builtin.ObjectAttr.storeInOwnDict (.ref x) (.ref C) (.str name tk) name v b)
   (fun fin s'=>match fin with | .done f=>R (.ok f) s' | .again c'=>c'.quiet=true/\codeAny (model prog w) A c' R s') (fun e s'=>R (.error e) s') s):
  codeAny (model prog w) A (.call (.builtin "object.__setattr__") ⟨[.ref x,.str name tk,v],[]⟩) R s:=by
 have SF:=PySem.F.store_object
 obtain⟨cd,hc,ho⟩:=any_some hp
 obtain⟨h1,ne⟩:=exc_has _ ho
 have sub:Looks (model prog w) s.heap (isInstance (.ref x) (.type "object")) true:=I.type.andThen (looks_mroIn X (by unfold mroIn;(rw[hc,Option.bind_some];(first | with_reducible refine Eq.mpr (if_neg (by rw[ne];decide)) ?_ | rw[if_neg (by rw[ne];decide)]);rw[h1])))
 refine codeAny_call_builtin SF.slot.plain SF.entry (@check_slot (model prog w) _ _ s "object.__setattr__" "object" "__setattr__" (.ref x) [.str name tk,v] [] _ SF.kind SF.split sub (SF.args (.ref x) (.str name tk) v) ?_)
 obtain⟨attr,ha,hr⟩:=Option.bind_eq_some_iff.mp ht
 have hm:Looks (model prog w) s.heap (mroOf (.ref C)) cd.mro:=(looks_clsIn X hc).andThen .now
 have L3:Looks (model prog w) s.heap (Builtin.ObjectAttr.storeTaker? attr) r:=by
  cases attr with
  | none=>cases hr;exact .now
  | some a=>
   obtain⟨b,hb,rfl⟩:=Option.map_eq_some_iff.mp hr
   refine(looks_takesIn X hb).andThen ?_
   cases b<;>exact .now
 rw[osa_eq,refuse_eq]
 refine wpAny_bind (wpAny_bind (I.type.here (wpAny_bind (hm.here ?_))))
 rw[refuse_exc _ _ ho]
 refine wpAny_pure (wpAny_bind (I.type.here (wpAny_bind ((looks_findIn X ha).here (wpAny_bind (L3.here ?_))))))
 exact h _
theorem set_exc0 {ox:Obj} {vs:Array Value} {name:Str} {v:Value} {E:Value->Shared->Prop} {Q:Unit->Shared->Prop} (X:K.In s.heap) (hx:s.heap.get? x=some ox) (hcl:ox.cls=.ref C) (hdi:ox.dict=none) (hda:ox.data=.fields vs)
  (hs:findIn K (.ref C) "__setattr__" =some (some (.builtin "object.__setattr__"))) (hp:plainExc K C=true) (ht:takerIn K C name=some none) (hh:hasDictIn K C=true)
  (h:∀h',h'.get? x=some {ox with dict:=some s.heap.objs.size}->h'.Ns1 s.heap.objs.size (fun y=>if y=name then some v else none)->(∀ b o,b ≠ x->s.heap.get? b=some o->h'.get? b=some o)->Q () {s with heap:=h',toks:=s.toks + 2}):
  wpAny (model prog w) A (setAttr (.ref x) name v) Q E s:=by
 have J:InstAt s.heap x ox C none:=⟨hx,hcl,by obtain⟨a,b,c,d⟩:=ox;have hda:c=.fields vs:=hda;subst hda;rfl,by rw[hdi];trivial⟩
 refine set_plain X J hs (osa_exc (s:={s with toks:=s.toks + 1}) (r:=none) X J hp ht fun b=>?_)
 obtain⟨cd,hc,hd'⟩:=any_some hh
 refine wpAny_bind (wpAny_pure (wpAny_bind (wpAny_bind (wpAny_loadPart hx ?_))))
 simp only[hcl]
 refine wpAny_bind (Looks.here (s:={s with toks:=s.toks + 1}) (looks_clsIn X hc) ?_)
 rw[hd']
 simp only[hdi,hda]
 ((first | with_reducible refine Eq.mpr (if_neg (by decide)) ?_ | rw[if_neg (by decide)]);(first | with_reducible refine Eq.mpr (if_neg (show ¬ ((!true || !typeHasDict (Value.ref C))=true)from Bool.false_ne_true)) ?_ | rw[if_neg (show ¬ ((!true || !typeHasDict (Value.ref C))=true)from Bool.false_ne_true)]))
 refine wpAny_bind (wpAny_alloc ?_)
 have hx1:=Heap.get?_push_of_some {cls:=Value.type "dict",data:=Data.dict #[]} hx
 refine wpAny_bind (wpAny_update hx1 ?_)
 refine wpAny_pure (a:=some s.heap.objs.size) ?_
 have ne:s.heap.objs.size ≠ x:=Nat.ne_of_gt (Heap.lt_size hx)
 have hx2:=Heap.get?_update_self (fun o=>({cls:=o.cls,dict:=some s.heap.objs.size,data:=o.data,slots:=o.slots}:Obj)) hx1 (Obj.isFreed_of_fields (vs:=vs) hda)
 have hd2:((s.heap.push {cls:=Value.type "dict",data:=Data.dict #[]}).update x fun o=>({cls:=o.cls,dict:=some s.heap.objs.size,data:=o.data,slots:=o.slots}:Obj)).get? s.heap.objs.size=some {cls:=Value.type "dict",data:=Data.dict #[]}:=
  (Heap.get?_update_other _ _ (Ne.symm ne)).trans (Heap.get?_push_size _ rfl)
 have hn:((s.heap.push {cls:=Value.type "dict",data:=Data.dict #[]}).update x fun o=>({cls:=o.cls,dict:=some s.heap.objs.size,data:=o.data,slots:=o.slots}:Obj)).Ns1 s.heap.objs.size (fun _=>none):=
  ⟨_,_,_,hd2,rfl,(by intro e he;simp at he),List.Pairwise.nil,fun _=>rfl⟩
 refine wpAny_bind (wpAny_pure (wpAny_bind ?_))
 refine wpAny_nsSet1 (s:={s with heap:=((s.heap.push {cls:=Value.type "dict",data:=Data.dict #[]}).update x fun o=>({cls:=o.cls,dict:=some s.heap.objs.size,data:=o.data,slots:=o.slots}:Obj)),toks:=s.toks + 1}) hn fun h' hn2 hs2=>?_
 obtain⟨oD,esD,epD,hoD,hdD,hcD⟩:=hn2.count (ns:=[name]) (PySem.Within.cons (ns:=[]) name v (fun _=>by simp))
 refine wpAny_bind (wpAny_lookBehind hoD (by rw[hdD];exact pastItsLine_dict (Nat.le_trans hcD (by show 1<=_;decide))) ?_)
 refine wpAny_pure (h h' ((hs2.2 x (Ne.symm ne)).trans hx2) hn2 fun b o hb e=>?_)
 refine(hs2.2 b (Nat.ne_of_lt (Heap.lt_size e))).trans ?_
 rw[Heap.get?_update_other _ _ (Ne.symm hb)]
 exact Heap.get?_push_of_some _ e
end
end Sw
namespace Sw
set_option genInjectivity false
open PySem PySem.Spec PyProof.Rows L2
open PySem.W (Frag clsIn findIn takerIn hasDictIn typeIn InitBack nsIn nsOkIn tailIn)
noncomputable def excSl (sl:Array (Option Value)):Bool:=decide (sl.toList.length=6) && (match(sl.toList[4]?:Option (Option Value))with | some (some (Value.builtin n))=>n == "ValueError.__new__" | _=>false)
noncomputable def excInI (K:Frag) (C fI:Addr):Bool:=match K.lookup C with
 | some o=>(match o.cls with
  | .type t=>t == "type" && (match o.data with
   | .cls cd=>(match cd.mro with
    | .ref C'::bm=>excSl o.slots && (C' == C && !cd.hasDel && tailIn K excTail bm && nsOkIn K cd.ns && nsIn K cd.ns "__init__" == some (some (.ref fI)))
    | _=>false)
   | _=>false)
  | _=>false)
 | none=>false
theorem excSl_at {sl:Array (Option Value)} (h:excSl sl=true):∃k0 k1 k2 k3 k5,sl=#[k0,k1,k2,k3,some (.builtin "ValueError.__new__"),k5]:=by
 obtain⟨l⟩:=sl
 unfold excSl at h
 rw[Bool.and_eq_true,decide_eq_true_eq]at h
 obtain⟨hl,h⟩:=h
 match l,hl,h with
 | [k0,k1,k2,k3,k4,k5],_,h=>
  cases k4 with
  | none=>exact absurd (show false=true from h) Bool.false_ne_true
  | some v=>
   cases v with
   | builtin n=>
    have e:n= "ValueError.__new__" :=eq_of_beq (show(n == "ValueError.__new__")=true from h)
    subst e
    exact⟨k0,k1,k2,k3,k5,rfl⟩
   | _=>exact absurd (show false=true from h) Bool.false_ne_true
structure XCls (K:Frag) (C fI:Addr) (f:Str):Prop where
 ex:excInI K C fI=true
 fn:typeIn K (.ref fI)=some (.type "function")
 sa:findIn K (.ref C) "__setattr__" =some (some (.builtin "object.__setattr__"))
 pl:plainExc K C=true
 tk:takerIn K C f=some none
 hd:hasDictIn K C=true
noncomputable def rawX (e C t:Addr) (d:Option Addr):Heap->Prop:=fun h=>∃o,h.get? e=some o/\o.cls=.ref C/\o.dict=d/\o.data=.fields #[.ref t,.none,.none,.none,.bool false,.none]
theorem raw_ok {P:Program} {w:World} {H:Hp} {h:Heap} {e C t:Addr} {d:Option Addr} (x:rawX e C t d h):ObjOk P w H h e (.ext (rawX e C t d)):=by
 obtain⟨o,ho,r⟩:=x
 exact⟨⟨o,ho,r⟩,⟨o,ho⟩,fun h1 h2 z40q k=>by obtain⟨o',e',r'⟩:=z40q;exact⟨o',k o' e',r'⟩⟩
section
variable {X:Cx} {pins:List (Addr × Obj)} {σ:L2.St} {H:Hp} {s:Shared}
theorem ps_xset {C fI:Addr} {f:Str} {o value:Expr} {ta tv:TE} {pos pos':Pos} (c:XCls X.K C fI f) (ha:PE X o ta) (hv:PE X value tv) (hs:swapsWith value (some (.Attribute o f pos')) pos.line X.env=pure false):
  PS X (.Assign [.Attribute o f pos'] value pos) (fun D σ H=>tv σ H fun y H1=>ta σ H1 fun x H2=>∃e t,x=.ref e/\H2 e=some (.ext (rawX e C t none))/\∀d,H2 d=none->D.nx σ (upd (upd H2 d (.xd [(f,y)])) e (.ext (rawX e C t (some d))))):=by
 intro pins s σ H D I h
 refine plainObj_wpAny_Assign_Attribute (thn (hv pins s σ H _ I h) fun u s1 ⟨y,H1,I1,ry,q⟩=>thn (ha pins s1 σ H1 _ I1 q) fun ov s2 z42q=>?_) hs
 obtain⟨x,H2,I2,rx,e,t,ex,ee,q2⟩:=z42q
 subst ex
 obtain rfl:ov=Value.ref e:=rx
 obtain⟨⟨ob,hob,hcl,hdi,hda⟩,_,_⟩:(rawX e C t none) s2.heap/\_:=I2.hok e _ ee
 refine set_exc0 I2.kIn hob hcl hdi hda c.sa c.pl c.tk c.hd fun h' e1 e2 e3=>?_
 have fd:H2 s2.heap.objs.size=none:=I2.hok.fresh (Nat.le_refl _)
 have ne:e ≠ s2.heap.objs.size:=Nat.ne_of_lt (I2.hok.lt ee)
 have nx:ObjOk X.prog X.w (upd (upd H2 s2.heap.objs.size (.xd [(f,y)])) e (.ext (rawX e C t (some s2.heap.objs.size)))) h' s2.heap.objs.size (.xd [(f,y)]):=by
  refine⟨_,e2,fun g=>?_⟩
  by_cases hg:g=f
  ·subst hg;simp[List.lookup,RelO];exact ry
  ·have hb:(g == f)=false:=by simpa using hg
   simp[List.lookup,hb,hg,RelO]
 refine⟨σ,_,?_,q2 s2.heap.objs.size fd⟩
 have un:Un X.fs [] H2 (upd (upd H2 s2.heap.objs.size (.xd [(f,y)])) e (.ext (rawX e C t (some s2.heap.objs.size)))) s2.heap h':=by
  have nH:∀b,H2 b=none->b ≠ e:=fun b hb z=>by rw[z,ee]at hb;cases hb
  refine⟨fun b o q n _ _=>e3 b o (nH b n) q,fun b o q n _ _=>⟨o.slots,e3 b o (nH b n) q⟩,fun b o q n _=>?_,fun b o q _=>?_,fun b xs q=>?_,fun b o u q=>?_,fun b ps q=>⟨#[],?_⟩⟩
  ·rw[upd_ne (nH b n),upd_ne (Nat.ne_of_lt (Heap.lt_size q))];exact n
  ·by_cases hb:b=e
   ·subst hb;exact⟨_,e1⟩
   ·exact⟨o,e3 b o hb q⟩
  ·rw[upd_ne (ne_of q ee (by intro z;cases z)),upd_ne (ne_of_none q fd)];exact q
  ·rw[upd_ne (ne_of q ee (by intro z;cases z)),upd_ne (ne_of_none q fd)];exact q
  ·rw[upd_ne (ne_of q ee (by intro z;cases z)),upd_ne (ne_of_none q fd)];simpa using q
 refine I2.un (h':=h') (t':=s2.toks + 2) un fun b u q=>?_
 by_cases hb:b=e
 ·subst hb
  rw[upd_same]at q
  cases q
  exact raw_ok ⟨_,e1,hcl,rfl,hda⟩
 ·rw[upd_ne hb]at q
  by_cases hb2:b=s2.heap.objs.size
  ·subst hb2
   rw[upd_same]at q
   cases q
   exact nx
  ·rw[upd_ne hb2]at q
   refine(I2.hok b u q).stay (fun c v hc z=>e3 c v (fun z2=>?_) z) (fun c z=>?_) fun c xs z=>?_
   ·subst z2
    rcases hc with z3 | z3
    ·exact hb z3.symm
    ·rw[ee]at z3;cases z3
   ·rw[upd_ne (ne_of z ee (by intro z;cases z)),upd_ne (ne_of_none z fd)];exact z
   ·rw[upd_ne (ne_of z ee (by intro z;cases z)),upd_ne (ne_of_none z fd)];exact z
noncomputable def spX (C:Addr) (f:Str):Sp:=fun vs H Q _=>∃e t y,vs=[.ref e,y]/\H e=some (.ext (rawX e C t none))/\∀d,H d=none->Q .non (upd (upd H d (.xd [(f,y)])) e (.ext (rawX e C t (some d))))
end
structure RoomU (k:Nat) (A:Around):Prop where
 dp:A.depth + 3 * k + 5 < recursionLimit
 un:A.units + 16 * k + 200 < cLine
theorem RoomU.of {k:Nat} {A:Around} (r:Room k A):RoomU k A:=⟨r.dp,r.un⟩
theorem RoomU.mono {j k:Nat} {A:Around} (r:RoomU k A) (h:j<=k):RoomU j A:=⟨by have:=r.dp;omega,by have:=r.un;omega⟩
theorem RoomU.make {k:Nat} {A:Around} (r:RoomU (k + 1) A) (C:Addr) (us:List Value) (kw:List (Str × Value)):RoomU k (A.under (.builtin "type.__call__" ⟨.ref C::us,kw⟩)):=
 ⟨by have:=r.dp;rw[make_depth];omega,by have:=r.un;rw[make_units];omega⟩
theorem mark_frames {A:Around} {v:Option Value}:(A.mark v).frames=A.frames:=by
 first | rfl | (unfold Around.mark;rfl) | (cases v<;>rfl)
theorem mark_units {A:Around} {v:Option Value}:(A.mark v).units=A.units:=by
 first | rfl | (unfold Around.mark;rfl) | (cases v<;>rfl)
theorem mark_depth {A:Around} {v:Option Value}:(A.mark v).depth=A.depth:=by
 first | rfl | (unfold Around.mark;rfl) | (cases v<;>rfl)
theorem RoomU.mark {k:Nat} {A:Around} {v:Option Value} (r:RoomU k A):RoomU k (A.mark v):=⟨by rw[mark_depth];exact r.dp,by rw[mark_units];exact r.un⟩
structure FnOkU (P:Program) (w:World) (K:Frag) (mg:Str->Option Value) (base:Heap) (CX:CXT) (k:Nat) (f:Addr) (fd:FuncData) (ps:List Str) (sp:Sp):Prop where
 len:∀vs H Q E,sp vs H Q E->vs.length=ps.length
 run:∀ (A:Around) (outer:List Env) (s:Shared) (H:Hp) (args:Args) (us:List Value) (vs:List V) (Q:VK) (E:XK),RoomU k A->Env0 P w K mg base A outer s H->BindsTo s fd args (ps.zip us)->Vals vs us->sp vs H Q E->
  codeAny (model P w) A (.call (.ref f) args) (CR CX outer P w H s Q E) s
theorem FnOkU.mono {P:Program} {w:World} {K:Frag} {mg:Str->Option Value} {base:Heap} {CX:CXT} {j k:Nat} {f:Addr} {fd:FuncData} {ps:List Str} {sp:Sp} (F:FnOkU P w K mg base CX j f fd ps sp) (h:j<=k):
  FnOkU P w K mg base CX k f fd ps sp:=⟨F.len,fun A outer s H args us vs Q E hr=>F.run A outer s H args us vs Q E (hr.mono h)⟩
@[reducible] noncomputable def cxU (CX:CXT) (P:Program) (w:World) (K:Frag) (mg:Str->Option Value) (base:Heap) (N:List Str) (qual:Str) (scope:Scope) (f:Addr) (cd:Value) (A:Around) (outer:List Env) (s:Shared) (H:Hp) (E:XK):Cx:=
 {cxOf CX P w K mg base N qual scope f cd A outer s H E with calm:=false}
theorem fn_ofU {CX:CXT} {P:Program} {w:World} {K:Frag} {mg:Str->Option Value} {base:Heap} {k:Nat} {f:Addr} {name qual:Str} {params:Arguments} {body:List Stmt} {scope:Scope} {dV kV doc pm cdv ct oc:Value} {an od:Option Addr}
  {osl:Array (Option Value)} {N ps:List Str} {sp:Sp} (lk:K.lookup f=some ⟨oc,od,.func (PySem.W.fnOf name qual params body scope dV kV doc pm an cdv ct),osl⟩) (hcd:PySem.W.codeIn K cdv qual=true) (S:FnScope N ps scope)
  (len:∀vs H Q E,sp vs H Q E->vs.length=ps.length)
  (hbody:∀ (A:Around) (outer:List Env) (s:Shared) (H:Hp) (vs:List V) (Q:VK) (E:XK),sp vs H Q E->
   ∃t,PSs (cxU CX P w K mg base N qual scope f cdv A outer s H E) body t/\t {nx:=fun _ H'=>Q .non H',rt:=Q} (start N vs) H):
  FnOkU P w K mg base CX (k + 1) f (PySem.W.fnOf name qual params body scope dV kV doc pm an cdv ct) ps sp:=by
 refine⟨len,fun A outer s H args us vs Q E hr e0 hb r hsp=>?_⟩
 have hl:=len _ _ _ _ hsp
 have KX:K.In s.heap:=e0.mod.kin.keeps fun b o e=>(e0.bs b o e).1
 have lim:s.heap.NoLimit:=e0.mod.nolimit.keeps fun b o e=>(e0.bs b o e).1
 have hkind:∀y ∈ ps.zip us,scope.names.lookup y.1=some .local\/(scope.names.lookup y.1=some .cell/\((cellsFrom (s.heap.objs.size + 1) scope.names []).lookup y.1).isSome=true):=fun z43q hy=>by
  obtain⟨n,v⟩:=z43q
  rcases S.par n (List.of_mem_zip hy).1 with q | q
  ·exact .inl q
  ·exact .inr ⟨q,PySem.W.cellsFrom_some _ _ _ (.inl q)⟩
 refine codeAny_call_function (by have:=hr.dp;omega) (KX _ _ lk) rfl S.co S.gen rfl (PySem.W.codeRec_of KX hcd) (hb _ _ _ _ ?_)
 refine wpAny_newFunctionEnv_cells S.kind hkind fun env he s1 x=>?_
 subst he
 refine⟨lim.keeps x.toInCall.keep,codeAny_func ?_⟩
 obtain⟨t,ht,hq⟩:=hbody A outer s H vs Q E hsp
 have e0':Env0 P w K mg base {A with handled:=none} outer s H:=⟨e0.frames,e0.mod,e0.bs,e0.bsz,e0.funs,e0.frf,e0.hok,e0.bare⟩
 have I0:Inv (cxOf CX P w K mg base N qual scope f cdv {A with handled:=none} outer s H E) [] (start N vs) H s1:=inv_start S rfl e0' hl r x
 have I:Inv (cxU CX P w K mg base N qual scope f cdv A outer s H E) [] (start N vs) H s1:=by
  have ok:=I0.ok
  exact⟨⟨ok.mod,ok.kind,ok.glob,ok.blt,ok.above,ok.inj,ok.has,ok.cab,fun z=>absurd (show false=true from z) Bool.false_ne_true,Around.frames_deeper e0.frames,ok.stk,ok.exf,ok.bs,ok.bsz,ok.noex,ok.exfs,ok.funs,ok.frf⟩,
   I0.os,I0.bare,I0.base,I0.loc,I0.cell,I0.free,I0.freeC,I0.pin,I0.hok,I0.len⟩
 refine wpAny_mono (ht [] s1 (start N vs) H _ I hq) (fun fl s' hs=>?_) fun e s' hs=>hs
 have fin:∀ {σ':St} {H':Hp} {v:V} {u:Value},Inv (cxU CX P w K mg base N qual scope f cdv A outer s H E) [] σ' H' s'->RelV v u->Q v H'->CE outer P w H s Q u s':=
  fun{σ' H' v u} J rv q=>⟨v,H',J.os,J.bare,J.base,J.hok,rv,q⟩
 cases fl with
 | ret u=>
  obtain⟨v,σ',H',J,rv,q⟩:=hs
  exact fin J rv q
 | next=>
  obtain⟨σ',H',J,q⟩:=hs
  exact fin (v:=V.non) (u:=Value.none) J rfl q
 | brk=>
  obtain⟨_,_,_,q⟩:=hs
  exact False.elim q
 | cont=>
  obtain⟨_,_,_,q⟩:=hs
  exact False.elim q
theorem fn_xinit {P:Program} {w:World} {K:Frag} {mg:Str->Option Value} {base:Heap} {k:Nat} {C fI:Addr} {f y qual:Str} {st:Stmt} {fd:FuncData} {p1 p2 p3 p4:Pos} (c:XCls K C fI f) (F:Fun K "__init__" qual st fI fd) (S:FnScope ["self",y] ["self",y] (defScope st))
  (hb:defBody st=[.Assign [.Attribute (.Name "self" p1) f p2] (.Name y p3) p4]) (v0:isVis (defScope st) "self" =true) (v1:isVis (defScope st) y=true) (o1:okName y=true):FnOkU P w K mg base (CXW P w) (k + 1) fI fd ["self",y] (spX C f):=by
 obtain⟨oc,od,kV,doc,pm,an,cdv,ct,osl,rfl,lk,hcd⟩:=F.ex
 refine fn_ofU lk hcd S (fun vs H Q E h=>?_) fun A outer s H vs Q E hsp=>?_
 ·obtain⟨e,t,y,rfl,_⟩:=h;rfl
 ·obtain⟨e,t,v,rfl,he,q⟩:=hsp
  have vis:∀ {sc:Scope} {x:Str},isVis sc x=true->Vis sc x:=fun{sc x} h=>by
   unfold isVis at h
   unfold Vis
   split at h<;>first | (rename_i e;rw[e];first | exact .inl rfl | exact .inr (.inl rfl) | exact .inr (.inr rfl)) | cases h
  have ok1:(y == ("__debug__" :Str))=false/\(y == ("__classdict__" :Str))=false:=by
   unfold okName at o1
   simp only[Bool.and_eq_true,Bool.not_eq_true']at o1
   exact o1.1
  rw[hb]
  refine⟨_,pss_one (ps_xset (X:=cxU (CXW P w) P w K mg base ["self",y] qual (defScope st) fI cdv A outer s H E) c (pe_var (i:=0) rfl (vis v0)) (pe_var (i:=1) rfl (vis v1) ok1.1 ok1.2) rfl),?_⟩
  exact⟨v,rfl,.ref e,rfl,e,t,rfl,he,q⟩
section
variable {X:Cx} {pins:List (Addr × Obj)} {σ:L2.St} {H:Hp} {s:Shared}
theorem Inv.forget {e:Addr} {φ:Heap->Prop} {H0:Hp} (I:Inv X pins σ H s) (he:H e=some (.ext φ)) (h0:∀b,H0 b=if b=e then none else H b):Inv X pins σ H0 s:=by
 have n0:∀b u,H b=some u->b ≠ e->H0 b=some u:=fun b u q hb=>by (rw[h0];(first | with_reducible refine Eq.mpr (if_neg hb) ?_ | rw[if_neg hb]));exact q
 have nn:∀b,H b=none->H0 b=none:=fun b q=>by
  rw[h0];split
  ·rfl
  ·exact q
 refine⟨I.ok,I.os,I.bare,⟨I.base.keep,I.base.slot,fun b o q n hx=>nn b (I.base.free b o q n hx),I.base.there,fun b xs q=>?_,fun b o u q=>?_,fun b ps q=>?_⟩,I.loc,I.cell,nn _ I.free,fun x c q=>nn _ (I.freeC x c q),fun p hp=>?_,fun b u q=>?_,I.len⟩
 ·exact n0 b _ (I.base.tups b xs q) (ne_of (I.base.tups b xs q) he (by intro z;cases z))
 ·exact n0 b _ (I.base.frzs b o u q) (ne_of (I.base.frzs b o u q) he (by intro z;cases z))
 ·obtain⟨more,z⟩:=I.base.tbls b ps q
  exact⟨more,n0 b _ z (ne_of z he (by intro z;cases z))⟩
 ·obtain⟨p1,p2,p3⟩:=I.pin p hp
  exact⟨p1,nn _ p2,p3⟩
 ·rw[h0]at q
  split at q
  ·cases q
  ·rename_i hb
   refine(I.hok b u q).stay (fun _ _ _ z=>z) (fun c z=>n0 c _ z (ne_of z he (by intro z;cases z))) fun c xs z=>n0 c _ z (ne_of z he (by intro z;cases z))
theorem ns_some_of {K:Frag} {h:Heap} {N:Addr} {mg:Str->Option Value} {n:Str} {v:Value} (X:K.In h) (G:h.Ns N mg) (e:nsIn K N n=some (some v)):mg n=some v:=by
 obtain⟨o,es,ep,ho,hd,_,hf⟩:=G
 unfold nsIn at e
 split at e
 ·rename_i c d es' n' sl q
  have:=X _ _ q
  rw[ho]at this
  cases this
  cases hd
  split at e
  ·rename_i he
   rw[<-hf]
   unfold nsFind findBy
   rw[<-Array.find?_toList,he]
   first | exact Option.some.inj e | (cases e;rfl)
  ·split at e<;>cases e
 ·cases e
theorem exc_obj {K:Frag} {h:Heap} {C fI:Addr} (X:K.In h) (q:excInI K C fI=true):∃nm qn N bs bm hdct sn sub ab col dd k0 k1 k2 k3 k5 mN,
  h.get? C=some (excClassObj nm qn C N bs bm hdct sn sub ab col dd k0 k1 k2 k3 k5 "ValueError.__new__")/\h.Ns N mN/\mN "__init__" =some (.ref fI)/\OwnTail h excTail bm:=by
 unfold excInI at q
 cases ho:K.lookup C with
 | none=>rw[ho]at q;cases q
 | some o=>
  rw[ho]at q
  obtain⟨cls,dd,data,sl⟩:=o
  cases cls with
  | type t=>
   dsimp only at q
   rw[Bool.and_eq_true]at q
   obtain⟨q0,q⟩:=q
   have et:t= "type" :=eq_of_beq q0
   subst et
   cases data with
   | cls cd=>
    obtain⟨nm,bs,mro,ns,qn,hd,sn,sub,ab,col,del⟩:=cd
    cases mro with
    | nil=>cases q
    | cons m0 bm=>
     cases m0 with
     | ref C'=>
      dsimp only at q
      rw[Bool.and_eq_true]at q
      obtain⟨q1,q⟩:=q
      obtain⟨k0,k1,k2,k3,k5,rfl⟩:=excSl_at q1
      simp only[Bool.and_eq_true,beq_iff_eq,Bool.not_eq_true']at q
      obtain⟨⟨⟨⟨rfl,hdel⟩,ht⟩,hok⟩,hni⟩:=q
      subst hdel
      have hNs:=Heap.Ns.of_isNs (PySem.W.isNs_of_in X hok)
      exact⟨nm,qn,ns,bs,bm,hd,sn,sub,ab,col,dd,k0,k1,k2,k3,k5,_,X _ _ ho,hNs,ns_some_of X hNs hni,PySem.W.tail_of_in X ht⟩
     | _=>cases q
   | _=>cases q
  | _=>cases q
structure XRise (X:Cx) (k:Nat) (C fI:Addr) (f:Str):Prop where
 cls:XCls X.K C fI f
 run:∃fd ps,FnOkU X.prog X.w X.K X.mg X.base (CXW X.prog X.w) k fI fd ps (spX C f)/\Binds X.K fd ps []
theorem make_x {k:Nat} {C fI:Addr} {f:Str} {v:V} {u:Value} {Q:Value->Shared->Prop} {E:Value->Shared->Prop} (c:XRise X k C fI f) (hr:RoomU (k + 1) X.A) (I:Inv X pins σ H s) (r:RelV v u)
  (h:∀e t d s',s.heap.objs.size<=e->H e=none->H d=none->e ≠ d->Inv X pins σ (upd (upd H d (.xd [(f,v)])) e (.ext (rawX e C t (some d)))) s'->Q (.ref e) s'):
  wpAny (model X.prog X.w) X.A (call (.ref C) [u]) Q E s:=by
 obtain⟨fd,ps,F,hb⟩:=c.run
 obtain⟨nm,qn,N,bs,bm,hdct,sn,sub,ab,col,dd,k0,k1,k2,k3,k5,mN,hC,hn,hni,T⟩:=exc_obj I.kIn c.cls.ex
 have ne:s.heap.objs.size + 1 ≠ s.heap.objs.size:=by omega
 have fe:H (s.heap.objs.size + 1)=none:=I.hok.fresh (Nat.le_succ _)
 have hget:((s.heap.push {cls:=.type "tuple",data:=.seq [u].toArray}).push {cls:=.ref C,data:=.fields #[.ref s.heap.objs.size,.none,.none,.none,.bool false,.none]}).get? (s.heap.objs.size + 1)=some
   {cls:=.ref C,data:=.fields #[.ref s.heap.objs.size,.none,.none,.none,.bool false,.none]}:=by heap_get
 have I2:Inv X pins σ (upd H (s.heap.objs.size + 1) (.ext (rawX (s.heap.objs.size + 1) C s.heap.objs.size none))) {s with heap:=((s.heap.push {cls:=.type "tuple",data:=.seq [u].toArray}).push {cls:=.ref C,data:=.fields #[.ref s.heap.objs.size,.none,.none,.none,.bool false,.none]})}:=
  I.laid (t':=s.toks) (fun b o q=>Heap.get?_push_of_some _ (Heap.get?_push_of_some _ q)) (Nat.le_succ _) (raw_ok ⟨_,hget,rfl,rfl,rfl⟩)
 have hsp:spX C f [.ref (s.heap.objs.size + 1),v] (upd H (s.heap.objs.size + 1) (.ext (rawX (s.heap.objs.size + 1) C s.heap.objs.size none)))
   (fun z H2=>z=.non/\∃d,H d=none/\s.heap.objs.size + 1 ≠ d/\H2=upd (upd H d (.xd [(f,v)])) (s.heap.objs.size + 1) (.ext (rawX (s.heap.objs.size + 1) C s.heap.objs.size (some d)))) (fun _ _ _=>False):=by
  refine⟨_,_,v,rfl,upd_same,fun d hd=>⟨rfl,d,?_,?_,?_⟩⟩
  ·by_cases z:d=s.heap.objs.size + 1
   ·rw[z,upd_same]at hd;cases hd
   ·rw[upd_ne z]at hd;exact hd
  ·intro z;rw[<-z,upd_same]at hd;cases hd
  ·have nd:d ≠ s.heap.objs.size + 1:=by intro z;rw[z,upd_same]at hd;cases hd
   funext b
   unfold upd
   by_cases hb:b=s.heap.objs.size + 1
   ·simp[hb]
   ·simp[hb]
 have r2:Vals [.ref (s.heap.objs.size + 1),v] [.ref (s.heap.objs.size + 1),u]:=.cons rfl (.cons r .nil)
 have hl:([Value.ref (s.heap.objs.size + 1),u]++[]).length=ps.length:=by
  rw[List.append_nil,<-r2.length];exact F.len _ _ _ _ hsp
 have hbt:=hb {s with heap:=((s.heap.push {cls:=.type "tuple",data:=.seq [u].toArray}).push {cls:=.ref C,data:=.fields #[.ref s.heap.objs.size,.none,.none,.none,.bool false,.none]})} [.ref (s.heap.objs.size + 1),u] I2.kIn hl
 rw[List.append_nil]at hbt
 obtain⟨hp,g,dr,tk,os⟩:=s
 refine wpAny_call (make_excI I.kIn PySem.F.excBase_ValueError (by decide +kernel) T hC hn hni c.cls.fn (codeAny_mono (F.run _ X.stack _ _ ⟨[.ref (hp.objs.size + 1),u],[]⟩ [.ref (hp.objs.size + 1),u] _ _ _ (hr.make C [u] []) (I2.env0.make C [u] []) hbt r2 hsp) fun r s' hq'=>?_) (by show 1<=_;decide))
 cases r with
 | error e=>obtain⟨_,_,_,_,_,_,_,_,_,_,_,_,z⟩:=hq';exact z.elim
 | ok fl=>
  cases fl with
  | ret u'=>
   obtain⟨z,H',I3,rv,ev,d,hd,hne,eH⟩:=I2.after hq'
   subst ev eH
   exact⟨rv,h _ _ d s' (Nat.le_succ _) fe hd hne I3⟩
  | next=>exact False.elim hq'
  | brk=>exact False.elim hq'
  | cont=>exact False.elim hq'
theorem ps_raise {M:Mo} (mo:ModOk X.K M) {k:Nat} {C fI:Addr} {f x:Str} {e:Expr} {te:TE} {np cpos pos:Pos} {Ξ:XS} (c:XRise X k C fI f) (hr:Room (k + 1) X.A) (hc:X.calm=true) (hg:Gl X x) (hm:X.mg x=some (.ref C)) (hk:PySem.W.keepIn X.K (.ref C)=true) (xo:XOk X Ξ)
  (he:PE X e te) (hpl:plainE e=true) (hdb:(x == ("__debug__" :Str))=false):
  PS X (.Raise (some (.Call (.Name x np) [e] [] cpos)) none pos) (fun _ σ H=>te σ H fun v H1=>∀d,H1 d=none->M d=none->Ξ (.ref C) (some d) σ (upd H1 d (.xd [(f,v)]))):=by
 intro pins s σ H D I h
 rw[arm_exec_Raise]
 simp only[evalOpt,Option.map]
 refine wpAny_bind (wpAny_standAt ?_)
 unfold raiseStmt
 refine wpAny_bind (wpAny_bind ?_)
 have st:starEach [e] X.env=(false,eval e X.env)::starEach [] X.env:=by cases e<;>first | rfl | cases hpl
 refine wpAny_Call_Name_kw (ld_glob I hg hm ?_ hdb)
 refine PySem.W.callWith_K (h₀:=X.base) I.ok.mod.kin hk (thn (pa_cons he pa_nil st cpos pins s σ H (fun vs H1=>match vs with | [v]=>∀d,H1 d=none->M d=none->Ξ (.ref C) (some d) σ (upd H1 d (.xd [(f,v)])) | _=>False) I h) fun us s1 ⟨vs,H1,I1,r,q⟩=>⟨I1.kIn,?_⟩) st rfl
 obtain⟨v,rfl⟩:∃v,vs=[v]:=by
  dsimp only at q
  split at q
  ·exact⟨_,rfl⟩
  ·exact q.elim
 obtain⟨u,rfl,ru⟩:=vals1 r
 refine make_x c (RoomU.of hr) I1 ru fun ea t d s2 hsz fe fd hne I2=>?_
 refine wpAny_bind (wpAny_standAt (wpAny_pure ?_))
 obtain⟨⟨ob,hob,hcl,hdi,hda⟩,_,_⟩:(rawX ea C t (some d)) s2.heap/\_:=I2.hok ea _ upd_same
 obtain⟨nm,qn,N,bs,bm,hdct,sn,sub,ab,col,dd,k0,k1,k2,k3,k5,mN,hC,hn,hni,T⟩:=exc_obj I2.kIn c.cls.ex
 have hcB:(Value.ref C::bm).contains (.type "BaseException")=true:=by rw[List.contains_cons,T.hasType (b:=true) (by decide +kernel),Bool.or_true]
 have fin:X.xe (.ref ea) s2:=by
  have ne:∀b o,X.s₀.heap.get? b=some o->b ≠ ea:=fun b o eb=>Nat.ne_of_lt (Nat.lt_of_lt_of_le (Heap.lt_size eb) (Nat.le_trans I1.sz hsz))
  have I3:Inv X pins σ (upd H1 d (.xd [(f,v)])) s2:=Inv.forget I2 upd_same (fun b=>by
   by_cases hb:b=ea
   ·((first | with_reducible refine Eq.mpr (if_pos hb) ?_ | rw[if_pos hb]);rw[hb,upd_ne hne]);exact fe
   ·((first | with_reducible refine Eq.mpr (if_neg hb) ?_ | rw[if_neg hb]);rw[upd_ne hb]))
  refine xo pins σ _ ea (.ref C) (some d) s2 ⟨I3,I1.fpOk hsz (by rw[upd_ne hne];exact fe),ob,_,hob,.inl ⟨C,rfl,hcl,rfl⟩,hdi,hda,rfl,.inl rfl⟩ (q d fd (OffM.new (Inv.offM mo I3)))
 obtain⟨oc,od,oda,osl⟩:=ob
 have hcl:oc=.ref C:=hcl
 have hdi:od=some d:=hdi
 have hda:oda=_:=hda
 subst hcl hdi hda
 obtain⟨hp,g,dr,tk,os⟩:=s2
 repeat (first | with_reducible refine wpAny_loadPart_at hob ?_ | with_reducible refine wpAny_loadPart_at hC ?_ | (with_reducible refine wpAny_isSubtype_exc hC ?_;rw[hcB]) | wp_step)
 exact wpAny_raiseNew_none (I.ok.hd hc) fin
end
end Sw
namespace Sw
set_option genInjectivity false
open PySem PySem.Spec PyProof.Rows L2
open PySem.W (Frag clsIn findIn takerIn hasDictIn typeIn InitBack nsIn nsOkIn tailIn)
theorem entry_unchain:entryFor table "proto.unchain" =some Builtin.«proto.unchain»:=entryFor_of_tree (by kernel_rfl)
section
variable {P:Program} {w:World} {A:Around} {E:Value->Shared->Prop} {s:Shared}
theorem unchain_ok {e:Value} {h0:Addr} {o0:Obj} {vs0:Array Value} {Q:Value->Shared->Prop} (h1:s.heap.get? h0=some o0) (h2:o0.data=.fields vs0) (h3:vs0[2]?=some .none) (hq:Q .none s):
  wpAny (model P w) A (runValue (.builtin "proto.unchain" ⟨[e,.ref h0,.ref h0,.bool false],[]⟩)) Q E s:=by
 refine wpAny_runValue (codeAny_builtin entry_unchain ?_)
 unfold Builtin.«proto.unchain»
 refine wpAny_bind (wpAny_field h1 h2 h3 ?_)
 (first | with_reducible refine Eq.mpr (if_pos (by decide)) ?_ | rw[if_pos (by decide)])
 refine wpAny_bind (wpAny_pure ?_)
 exact wpAny_pure hq
end
section
variable {X:Cx} {pins:List (Addr × Obj)} {σ:L2.St} {H:Hp} {s:Shared}
noncomputable def InHand (X:Cx):Prop:=∃h0 o0 vs0,X.A.handled=some (.ref h0)/\(h0,o0) ∈ X.pn/\o0.data=.fields vs0/\vs0[2]?=some .none
theorem ps_raiseF {M:Mo} (mo:ModOk X.K M) {k:Nat} {C fI:Addr} {f x:Str} {e:Expr} {te:TE} {np cpos pos npos:Pos} {j:Nat} {Ξ:XS} (c:XRise X k C fI f) (hr:RoomU (k + 1) X.A) (hh:InHand X) (hg:Gl X x) (hm:X.mg x=some (.ref C)) (hk:PySem.W.keepIn X.K (.ref C)=true) (xo:XOk X Ξ)
  (he:PE X e te) (hpl:plainE e=true) (hdb:(x == ("__debug__" :Str))=false):
  PS X (.Raise (some (.Call (.Name x np) [e] [] cpos)) (some (.Constant .none j npos)) pos) (fun _ σ H=>te σ H fun v H1=>∀d,H1 d=none->M d=none->Ξ (rawInt C) (some d) σ (upd H1 d (.xd [(f,v)]))):=by
 intro pins s σ H D I h
 rw[arm_exec_Raise]
 simp only[evalOpt,Option.map]
 refine wpAny_bind (wpAny_standAt ?_)
 unfold raiseStmt
 refine wpAny_bind (wpAny_bind ?_)
 have st:starEach [e] X.env=(false,eval e X.env)::starEach [] X.env:=by cases e<;>first | rfl | cases hpl
 refine wpAny_Call_Name_kw (ld_glob I hg hm ?_ hdb)
 refine PySem.W.callWith_K (h₀:=X.base) I.ok.mod.kin hk (thn (pa_cons he pa_nil st cpos pins s σ H (fun vs H1=>match vs with | [v]=>∀d,H1 d=none->M d=none->Ξ (rawInt C) (some d) σ (upd H1 d (.xd [(f,v)])) | _=>False) I h) fun us s1 ⟨vs,H1,I1,r,q⟩=>⟨I1.kIn,?_⟩) st rfl
 obtain⟨v,rfl⟩:∃v,vs=[v]:=by
  dsimp only at q
  split at q
  ·exact⟨_,rfl⟩
  ·exact q.elim
 obtain⟨u,rfl,ru⟩:=vals1 r
 refine make_x c hr I1 ru fun ea t d s2 hsz fe fd hne I2=>?_
 refine wpAny_bind (wpAny_standAt (wpAny_pure ?_))
 obtain⟨⟨ob,hob,hcl,hdi,hda⟩,_,_⟩:(rawX ea C t (some d)) s2.heap/\_:=I2.hok ea _ upd_same
 obtain⟨nm,qn,N,bs,bm,hdct,sn,sub,ab,col,dd,k0,k1,k2,k3,k5,mN,hC,hn,hni,T⟩:=exc_obj I2.kIn c.cls.ex
 have hcB:(Value.ref C::bm).contains (.type "BaseException")=true:=by rw[List.contains_cons,T.hasType (b:=true) (by decide +kernel),Bool.or_true]
 obtain⟨h0,o0,vs0,hh1,hh2,hh3,hh4⟩:=hh
 obtain⟨g1,g2,g3,g4,g5⟩:=I2.pin (h0,o0) (List.mem_append_left _ hh2)
 have hne0:h0 ≠ ea:=fun z=>by rw[z,upd_same]at g2;cases g2
 have fin:∀h' o' vs',h'.get? ea=some o'->o'.cls=.ref C->o'.dict=some d->o'.data=.fields vs'->vs'.size=6->vs'[1]?=some .none->(∀ b,b ≠ ea->h'.get? b=s2.heap.get? b)->X.xe (.ref ea) {s2 with heap:=h'}:=by
  intro h' o' vs' q1 q2 q3 q4 q5 q6 q7
  have ne:∀b o,X.s₀.heap.get? b=some o->b ≠ ea:=fun b o eb=>Nat.ne_of_lt (Nat.lt_of_lt_of_le (Heap.lt_size eb) (Nat.le_trans I1.sz hsz))
  have I3:Inv X pins σ (upd H1 d (.xd [(f,v)])) s2:=Inv.forget I2 upd_same (fun b=>by
   by_cases hb:b=ea
   ·((first | with_reducible refine Eq.mpr (if_pos hb) ?_ | rw[if_pos hb]);rw[hb,upd_ne hne]);exact fe
   ·((first | with_reducible refine Eq.mpr (if_neg hb) ?_ | rw[if_neg hb]);rw[upd_ne hb]))
  have fp:FpOk X pins (upd H1 d (.xd [(f,v)])) ea:=I1.fpOk hsz (by rw[upd_ne hne];exact fe)
  have I4:Inv X pins σ (upd H1 d (.xd [(f,v)])) {s2 with heap:=h'}:=by
   refine I3.call (g':=s2.gens) (t':=s2.toks) (d':=s2.drawn) (ch:=[ea]) ⟨fun b o q n hb hc=>?_,fun b o q n hb hc=>⟨o.slots,?_⟩,fun b o q n _=>n,fun b o q _=>?_,fun _ _ q=>q,fun _ _ _ q=>q,fun b ps q=>⟨#[],by simpa using q⟩⟩ ?_ I3.bare fun b hb=>?_
   ·rw[q7 b (by simpa using hc)];exact q
   ·rw[q7 b (by simpa using hc)];exact q
   ·by_cases hb:b=ea
    ·subst hb;exact⟨_,q1⟩
    ·exact⟨o,by rw[q7 b hb];exact q⟩
   ·intro b u q
    refine(I3.hok b u q).stay (fun z y hz hy=>?_) (fun _ z=>z) fun _ _ z=>z
    rw[q7 z (fun z2=>?_)]
    ·exact hy
    ·subst z2
     rcases hz with z3 | z3
     ·rw[<-z3,fp.1]at q;cases q
     ·rw[fp.1]at z3;cases z3
   ·rw[show b=ea by simpa using hb]
    obtain⟨f0,f1,f2,f3,f4,f5⟩:=fp
    exact⟨f3,f1,f4,f5⟩
  exact xo pins σ _ ea (rawInt C) (some d) _ ⟨I4,fp,o',vs',q1,.inr ⟨C,rfl,q2⟩,q3,q4,q5,.inl q6⟩ (q d fd (OffM.new (Inv.offM mo I3)))
 obtain⟨oc,od,oda,osl⟩:=ob
 have hcl:oc=.ref C:=hcl
 have hdi:od=some d:=hdi
 have hda:oda=_:=hda
 subst hcl hdi hda
 refine wpAny_bind (wpAny_holding (wpAny_bind ?_))
 obtain⟨hp,g,dr,tk,os⟩:=s2
 refine Constant_none ?_
 refine wpAny_bind (wpAny_standAt (wpAny_pure ?_))
 refine wpAny_bind (wpAny_pure ?_)
 dsimp only
 refine wpAny_bind (wpAny_holding ?_)
 repeat (first | with_reducible refine wpAny_loadPart_at hob ?_ | with_reducible refine wpAny_loadPart_at hC ?_ | (with_reducible refine wpAny_isSubtype_exc hC ?_;rw[hcB]) | wp_step)
 have hCe:ea ≠ C:=fun z=>by
  subst z
  rw[hC]at hob
  cases hob
 have hC2:((hp.update ea (Obj.mapFields fun x=>x.setIfInBounds 3 Value.none)).update ea (Obj.mapFields fun x=>x.setIfInBounds 4 (Value.bool true))).get? C=some (excClassObj nm qn C N bs bm hdct sn sub ab col dd k0 k1 k2 k3 k5 "ValueError.__new__"):=by
  rw[Heap.get?_update_other _ _ hCe,Heap.get?_update_other _ _ hCe];exact hC
 have hob1:=Heap.get?_update_self (Obj.mapFields fun x=>x.setIfInBounds 3 Value.none) hob rfl
 have hob2:=Heap.get?_update_self (Obj.mapFields fun x=>x.setIfInBounds 4 (Value.bool true)) hob1 rfl
 refine wpAny_loadPart_at hC2 ?_
 refine wpAny_pure ?_
 (first | with_reducible refine Eq.mpr (if_pos (by rfl)) ?_ | rw[if_pos (by rfl)])
 refine wpAny_pure ?_
 refine wpAny_bind ?_
 unfold setFlight
 refine wpAny_bind (wpAny_field (x:=Value.none) hob2 rfl (by rfl) ?_)
 (first | with_reducible refine Eq.mpr (if_neg (show ¬ ((Value.none != Value.none)=true)from by decide)) ?_ | rw[if_neg (show ¬ ((Value.none != Value.none)=true)from by decide)])
 refine wpAny_pure ?_
 unfold raiseNew
 refine wpAny_bind (wpAny_handled ?_)
 rw[hh1]
 dsimp only
 (first | with_reducible refine Eq.mpr (if_pos (show(Value.ref h0 != Value.ref ea)=true from by simpa using hne0)) ?_ | rw[if_pos (show(Value.ref h0 != Value.ref ea)=true from by simpa using hne0)])
 have hh0:((hp.update ea (Obj.mapFields fun x=>x.setIfInBounds 3 Value.none)).update ea (Obj.mapFields fun x=>x.setIfInBounds 4 (Value.bool true))).get? h0=some o0:=by
  rw[Heap.get?_update_other _ _ (Ne.symm hne0),Heap.get?_update_other _ _ (Ne.symm hne0)];exact g1
 refine wpAny_bind (wpAny_holding (unchain_ok (vs0:=vs0) hh0 hh3 hh4 ?_))
 refine wpAny_bind (wpAny_setField (x:=.ref h0) hob2 rfl (by show 2 < 6;decide) ?_)
 have hob3:=Heap.get?_update_self (Obj.mapFields fun x=>x.setIfInBounds 2 (Value.ref h0)) hob2 rfl
 refine wpAny_throw (fin _ _ _ hob3 rfl rfl rfl rfl rfl fun b hb=>?_)
 rw[Heap.get?_update_other _ _ (Ne.symm hb),Heap.get?_update_other _ _ (Ne.symm hb),Heap.get?_update_other _ _ (Ne.symm hb)]
end
end Sw
namespace Sw
set_option genInjectivity false
open PySem PySem.Spec PyProof.Rows L2
open PySem.W (Frag clsIn findIn takerIn hasDictIn typeIn InitBack nsIn nsOkIn tailIn ktsIn mroIn)
@[reducible] noncomputable def Cx.deep (X:Cx) (pins:List (Addr × Obj)) (E:Value->Shared->Prop):Cx:={X with pn:=X.pn++pins,xe:=E}
@[reducible] noncomputable def Cx.held (X:Cx) (e:Addr):Cx:={X with A:=X.A.mark (some (.ref e)),calm:=false,xe:=fun _ _=>False}
@[reducible] noncomputable def Cx.hold (X:Cx) (e:Addr) (o:Obj):Cx:={X with A:=X.A.mark (some (.ref e)),calm:=false,pn:=X.pn++[(e,o)],xe:=notedBy (model X.prog X.w) (X.A.mark (some (.ref e))) X.env (cameBackBy (model X.prog X.w) X.A X.env X.xe)}
theorem rawInt_inj {a b:Addr} (h:rawInt a=rawInt b):a=b:=by
 unfold rawInt at h
 cases h
 rfl
section
variable {X:Cx} {pins pins':List (Addr × Obj)} {σ:L2.St} {H:Hp} {s:Shared} {E:Value->Shared->Prop} {e:Addr}
theorem Cx.Ok.deep (ok:X.Ok) (pins:List (Addr × Obj)) (E:Value->Shared->Prop):(Cx.deep X pins E).Ok:=
 ⟨ok.mod,ok.kind,ok.glob,ok.blt,ok.above,ok.inj,ok.has,ok.cab,ok.hd,ok.frames,ok.stk,ok.exf,ok.bs,ok.bsz,ok.noex,ok.exfs,ok.funs,ok.frf⟩
theorem Cx.Ok.undeep (ok:(Cx.deep X pins E).Ok):X.Ok:=
 ⟨ok.mod,ok.kind,ok.glob,ok.blt,ok.above,ok.inj,ok.has,ok.cab,ok.hd,ok.frames,ok.stk,ok.exf,ok.bs,ok.bsz,ok.noex,ok.exfs,ok.funs,ok.frf⟩
theorem Inv.deep (I:Inv X pins σ H s) (E:Value->Shared->Prop):Inv (Cx.deep X pins E) [] σ H s:=
 ⟨Cx.Ok.deep I.ok pins E,I.os,I.bare,I.base,I.loc,I.cell,I.free,I.freeC,fun p hp=>I.pin p (by simpa using hp),I.hok,I.len⟩
theorem Inv.undeep (I:Inv (Cx.deep X pins E) pins' σ H s):Inv X pins σ H s:=
 ⟨Cx.Ok.undeep I.ok,I.os,I.bare,I.base,I.loc,I.cell,I.free,I.freeC,fun p hp=>I.pin p (List.mem_append_left _ hp),I.hok,I.len⟩
theorem SP.undeep {D:Ends} {f:Flow} (h:SP (Cx.deep X pins E) pins' D f s):SP X pins D f s:=by
 cases f with
 | next=>obtain⟨σ',H',I,q⟩:=h;exact⟨σ',H',Inv.undeep I,q⟩
 | brk=>obtain⟨σ',H',I,q⟩:=h;exact⟨σ',H',Inv.undeep I,q⟩
 | cont=>obtain⟨σ',H',I,q⟩:=h;exact⟨σ',H',Inv.undeep I,q⟩
 | ret u=>obtain⟨v,σ',H',I,r,q⟩:=h;exact⟨v,σ',H',Inv.undeep I,r,q⟩
theorem FpOk.undeep {b:Addr} (f:FpOk (Cx.deep X pins E) pins' H b):FpOk X pins H b:=
 ⟨f.1,f.2.1,f.2.2.1,f.2.2.2.1,f.2.2.2.2.1,fun p hp=>f.2.2.2.2.2 p (List.mem_append_left _ hp)⟩
theorem Flew.undeep {C:Value} {d:Option Addr} (F:Flew (Cx.deep X pins E) pins' σ H e C d s):Flew X pins σ H e C d s:=
 ⟨Inv.undeep F.inv,FpOk.undeep F.fe,F.at_.imp fun _ z=>FpOk.undeep z⟩
theorem Inv.held (I:Inv X pins σ H s) (e:Addr):Inv (Cx.held X e) pins σ H s:=by
 have ok:=I.ok
 exact⟨⟨ok.mod,ok.kind,ok.glob,ok.blt,ok.above,ok.inj,ok.has,ok.cab,fun z=>absurd (show false=true from z) Bool.false_ne_true,(by show(X.A.mark _).frames=_;rw[mark_frames];exact ok.frames),ok.stk,ok.exf,ok.bs,ok.bsz,ok.noex,ok.exfs,ok.funs,ok.frf⟩,
  I.os,I.bare,I.base,I.loc,I.cell,I.free,I.freeC,I.pin,I.hok,I.len⟩
theorem Inv.unheld (I:Inv (Cx.held X e) pins σ H s) (ok0:X.Ok):Inv X pins σ H s:=
 ⟨ok0,I.os,I.bare,I.base,I.loc,I.cell,I.free,I.freeC,I.pin,I.hok,I.len⟩
theorem Inv.hold {C:Value} {d:Option Addr} {o:Obj} (F:Flew X pins σ H e C d s) (ho:s.heap.get? e=some o) (hnc:∀v,o.data ≠ .cell v):Inv (Cx.hold X e o) pins σ H s:=by
 have I:=F.inv
 have ok:=I.ok
 obtain⟨f0,f1,f2,f3,f4,f5⟩:=F.fe
 refine⟨⟨ok.mod,ok.kind,ok.glob,ok.blt,ok.above,ok.inj,ok.has,ok.cab,fun z=>absurd (show false=true from z) Bool.false_ne_true,(by show(X.A.mark _).frames=_;rw[mark_frames];exact ok.frames),ok.stk,ok.exf,ok.bs,ok.bsz,ok.noex,ok.exfs,ok.funs,ok.frf⟩,
  I.os,I.bare,I.base,I.loc,I.cell,I.free,I.freeC,fun p hp=>?_,I.hok,I.len⟩
 have hp:p ∈ (X.pn++[(e,o)])++pins:=hp
 rcases List.mem_append.mp hp with q | q
 ·rcases List.mem_append.mp q with q | q
  ·exact I.pin p (List.mem_append_left _ q)
  ·rw[show p=(e,o) by simpa using q]
   exact⟨ho,f0,f1,f2,hnc⟩
 ·exact I.pin p (List.mem_append_right _ q)
theorem Inv.unhold {o:Obj} (I:Inv (Cx.hold X e o) pins σ H s) (ok0:X.Ok):Inv X pins σ H s:=
 ⟨ok0,I.os,I.bare,I.base,I.loc,I.cell,I.free,I.freeC,fun p hp=>I.pin p (by
  rcases List.mem_append.mp hp with q | q
  ·exact List.mem_append_left _ (List.mem_append_left _ q)
  ·exact List.mem_append_right _ q),I.hok,I.len⟩
theorem Inv.adopt {Cv:Value} {C:Addr} {d:Option Addr} (F:Flew X pins σ H e Cv d s) (hC:Cv=.ref C\/Cv=rawInt C):Inv X pins σ (upd H e (.exo C d)) s:=by
 have I:=F.inv
 obtain⟨f0,f1,f2,f3,f4,f5⟩:=F.fe
 obtain⟨oe,vs,he,hc',hdi,hda,_⟩:=F.at_
 have hc:oe.cls=.ref C:=by
  obtain⟨c,h1,h2⟩:=hc'.any
  rw[h1]
  rcases h2 with h2 | h2<;>rcases hC with h3 | h3<;>rw[h2]at h3
  ·exact h3
  ·cases h3
  ·cases h3
  ·rw[rawInt_inj h3]
 have ne:∀b u,H b=some u->b ≠ e:=fun b u q=>ne_of_none q f0
 refine⟨I.ok,I.os,I.bare,⟨I.base.keep,I.base.slot,fun b o q n hx=>?_,I.base.there,fun b xs q=>?_,fun b o u q=>?_,fun b ps q=>?_⟩,I.loc,I.cell,?_,fun x c q=>?_,fun p hp=>?_,fun b u q=>?_,I.len⟩
 ·have hb:b ≠ e:=fun z=>by
   rcases f3 with z1 | z1
   ·exact hx (by rw[z];exact z1)
   ·exact absurd (Heap.lt_size q) (Nat.not_lt.mpr (by rw[z];exact z1))
  rw[upd_ne hb];exact I.base.free b o q n hx
 ·rw[upd_ne (ne b _ (I.base.tups b xs q))];exact I.base.tups b xs q
 ·rw[upd_ne (ne b _ (I.base.frzs b o u q))];exact I.base.frzs b o u q
 ·obtain⟨more,z⟩:=I.base.tbls b ps q
  exact⟨more,by rw[upd_ne (ne b _ z)];exact z⟩
 ·rw[upd_ne (Ne.symm f1)];exact I.free
 ·rw[upd_ne (f4 x c q)];exact I.freeC x c q
 ·obtain⟨p1,p2,p3⟩:=I.pin p hp
  exact⟨p1,by rw[upd_ne (f5 p hp)];exact p2,p3⟩
 ·by_cases hb:b=e
  ·subst hb
   rw[upd_same]at q
   cases q
   exact⟨oe,vs,he,hc,hdi,hda⟩
  ·rw[upd_ne hb]at q
   exact(I.hok b u q).stay (fun _ _ _ z=>z) (fun c z=>by rw[upd_ne (ne c _ z)];exact z) fun c xs z=>by rw[upd_ne (ne c _ z)];exact z
theorem Flew.land {C:Value} {d:Option Addr} (F:Flew X pins σ H e C d s) {h':Heap} {ch:List Addr} (hch:∀b ∈ ch,b=e\/FpOk X pins H b)
  (k1:∀b o,b ∉ frs X.stack->b ∉ ch->s.heap.get? b=some o->h'.get? b=some o) (k2:∀b o,b ∉ ch->s.heap.get? b=some o->∃sl,h'.get? b=some {o with slots:=sl}) (k3:∀b o,s.heap.get? b=some o->∃o',h'.get? b=some o')
  (x:XAt (some X.env.locals) h' e C d (fun T=>s.heap.objs.size<=T\/FpOk X pins H T)):Flew X pins σ H e C d {s with heap:=h'}:=by
 have I:=F.inv
 have I':Inv X pins σ H {s with heap:=h'}:=by
  refine I.call (g':=s.gens) (t':=s.toks) (d':=s.drawn) (ch:=ch) ⟨fun b o q n hb hc=>k1 b o hb hc q,fun b o q n hb hc=>k2 b o hc q,fun b o q n _=>n,fun b o q _=>k3 b o q,fun _ _ q=>q,fun _ _ _ q=>q,fun b ps q=>⟨#[],by simpa using q⟩⟩ (hok_land F hch k1) I.bare fun b hb=>?_
  rcases hch b hb with z | z
  ·subst z
   obtain⟨f0,f1,f2,f3,f4,f5⟩:=F.fe
   exact⟨f3,f1,f4,f5⟩
  ·obtain⟨f0,f1,f2,f3,f4,f5⟩:=z
   exact⟨f3,f1,f4,f5⟩
 refine⟨I',F.fe,x.imp fun T hT=>?_⟩
 rcases hT with z | z
 ·exact I.fpOk z (I.hok.fresh z)
 ·exact z
theorem XOk.hold {o:Obj} {Ξ:XS} (xo:XOk X Ξ) (ok0:X.Ok) (hstk:X.stack=X.env::X.outer/\X.env.frame=some X.env.locals):XOk (Cx.hold X e o) Ξ:=by
 intro pins σ H e' C d s F q
 obtain⟨hs1,hs2⟩:=hstk
 have hfr:(X.A.mark (some (.ref e))).frames=some (X.env::X.outer):=by rw[<-hs1];exact F.inv.ok.frames
 have hl:s.heap.FunFrames X.base (X.env::X.outer):=by rw[<-hs1];exact F.inv.stack
 show notedBy _ _ X.env _ _ _
 refine note_back (base:=X.base) hfr hl hs2 F.at_ fun h' ch hch k1 k2 k3 x'=>?_
 have F2:=F.land hch (by show ∀b o,b ∉ frs X.stack->_;rw[hs1];exact k1) k2 k3 x'
 have sub:∀b,FpOk (Cx.hold X e o) pins H b->FpOk X pins H b:=fun b ⟨f0,f1,f2,f3,f4,f5⟩=>⟨f0,f1,f2,f3,f4,fun p hp=>f5 p (by
  rcases List.mem_append.mp hp with q | q
  ·exact List.mem_append_left _ (List.mem_append_left _ q)
  ·exact List.mem_append_right _ q)⟩
 exact xo pins σ H e' C d _ ⟨Inv.unhold F2.inv ok0,sub _ F2.fe,F2.at_.imp sub⟩ q
theorem Flew.again {C:Value} {d:Option Addr} {M:Model} {A:Around} {E:Value->Shared->Prop} {Q:Unit->Shared->Prop} (F:Flew X pins σ H e C d s) (h:∀s',Flew X pins σ H e C d s'->Q () s'):wpAny M A (setFlight (.ref e) none) Q E s:=by
 obtain⟨oe,vs,he,hc,hdi,hd,hsz,r⟩:=F.at_
 rcases r with r | r
 ·unfold setFlight
  refine wpAny_bind (wpAny_field he hd r ?_)
  (first | with_reducible refine Eq.mpr (if_neg (by decide)) ?_ | rw[if_neg (by decide)])
  exact wpAny_pure (h s F)
 ·refine set1 (P:=FpOk X pins H) ⟨oe,vs,he,hc,hdi,hd,hsz,r⟩ fun h' T hT ot th x=>h _ ?_
  refine F.land (ch:=[T]) (fun b hb=>.inr (by rw[show b=T by simpa using hb];exact hT)) (fun b o _ hb q=>(ot b (by simpa using hb)).trans q) (fun b o hb q=>⟨o.slots,(ot b (by simpa using hb)).trans q⟩) (fun b o q=>?_) (x.imp fun _ z=>.inr z).at
  by_cases hb:b=T
  ·subst hb;exact th
  ·exact⟨o,(ot b hb).trans q⟩
theorem unbind_ok {j:Nat} {n:Str} {pos:Pos} {M:Model} {A:Around} {E:Value->Shared->Prop} {Q:Unit->Shared->Prop} (I:Inv X pins σ H s) (hN:X.N.Nodup) (hj:X.N[j]?=some n) (hl:X.env.scope.names.lookup n=some .local)
  (h:∀s',Inv X pins (σ.set j none) H s'->Q () s'):wpAny M A (do bindName X.env n .none;unbindBehindTheSuite X.env n pos) Q E s:=by
 obtain⟨m,hn,hm⟩:=id I.loc
 refine wpAny_nameGoes_keeps (env:=X.env) hl hn (by rw[I.ok.kind];rfl) fun h' v hn' sb=>h _ ?_
 have eB:∀b o,b ≠ X.env.locals->s.heap.get? b=some o->h'.get? b=some o:=fun b o hb q=>sb.extBut b o hb q
 have neL:∀b o,X.s₀.heap.get? b=some o->b ≠ X.env.locals:=fun b o q=>Nat.ne_of_lt (Nat.lt_of_lt_of_le (Heap.lt_size q) I.ok.above)
 have cellNe:∀x c,X.env.cells.lookup x=some c->c ≠ X.env.locals:=I.cne
 have B:=I.base
 obtain⟨oL,esL,epL,hoL,_⟩:=id hn'
 refine⟨I.ok,I.os,I.bare,⟨fun b o q n hb hx=>eB b o (neL b o q) (B.keep b o q n hb hx),fun b o q n hb hx=>?_,B.free,fun b o q hx=>?_,B.tups,B.frzs,B.tbls⟩,⟨_,hn',fun i x w e1 e2 e3=>?_⟩,fun x c q=>?_,I.free,I.freeC,fun p hp=>?_,fun b u q=>?_,?_⟩
 ·obtain⟨sl,z⟩:=B.slot b o q n hb hx
  exact⟨sl,eB b _ (neL b o q) z⟩
 ·obtain⟨o',z⟩:=B.there b o q hx
  exact⟨o',eB b _ (neL b o q) z⟩
 ·have hij:i ≠ j:=fun z=>by
   subst z
   rw[List.getElem?_set_self']at e2
   cases z2:σ[i]?<;>rw[z2]at e2<;>simp at e2
  rw[List.getElem?_set_ne (Ne.symm hij)]at e2
  obtain⟨u,ru,lk⟩:=hm i x w e1 e2 e3
  have hxn:x ≠ n:=fun z=>by
   subst z
   exact hij (nodup_ix hN e1 hj)
  refine⟨u,ru,?_⟩
  rcases lk with ⟨h1,h2⟩ | ⟨h1,c,h2,o,h3,h4⟩
  ·exact .inl ⟨h1,by dsimp only;(first | with_reducible refine Eq.mpr (if_neg hxn) ?_ | rw[if_neg hxn]);exact h2⟩
  ·exact .inr ⟨h1,c,h2,o,eB c o (cellNe x c h2) h3,h4⟩
 ·obtain⟨v',o,h3,h4⟩:=I.cell x c q
  exact⟨v',o,eB c o (cellNe x c q) h3,h4⟩
 ·obtain⟨p1,p2,p3,p4⟩:=I.pin p hp
  exact⟨eB _ _ p3 p1,p2,p3,p4⟩
 ·refine(I.hok b u q).stay (fun c v' hc z=>eB c v' (fun z2=>?_) z) (fun _ z=>z) fun _ _ z=>z
  subst z2
  rcases hc with z3 | z3
  ·rw[<-z3,I.free]at q;cases q
  ·rw[I.free]at z3;cases z3
 ·rw[List.length_set];exact I.len
end
end Sw
namespace Sw
set_option genInjectivity false
open PySem PySem.Spec PyProof.Rows L2
open PySem.W (Frag clsIn findIn takerIn hasDictIn typeIn InitBack nsIn nsOkIn tailIn ktsIn mroIn Looks looks_mroIn kts_cls)
theorem exc_match {prog:Program} {w:World} {A:Around} {E:Value->Shared->Prop} {s:Shared} {K:Frag} {e c C2:Addr} {ob:Obj} {Q:Bool->Shared->Prop} (X:K.In s.heap) (hob:s.heap.get? e=some ob) (hcl:ob.cls=.ref c)
  (h2:ktsIn K C2 "BaseException" =true) (hs:mroIn K c (.ref C2)=some true) (hq:Q true s):wpAny (model prog w) A (excMatches (.ref e) (.ref C2)) Q E s:=by
 obtain⟨nm,qn,N,bs,bm,hdct,sn,sub,ab,col,dd,k0,k1,k2,k3,k5,newId,hC,hbase,_⟩:=kts_cls X h2
 have hcB:(Value.ref C2::bm).contains (.type "BaseException")=true:=by rw[List.contains_cons,hbase,Bool.or_true]
 have f:=tc_notTuple
 have L:Looks (model prog w) s.heap (isSubtype (.ref c) (.ref C2)) true:=looks_mroIn X hs
 obtain⟨hp,g,dr,tk,os⟩:=s
 unfold excMatches
 repeat (first | (with_reducible refine wpAny_loadPart_at hob ?_;rw[hcl]) | with_reducible refine wpAny_loadPart_at hC ?_ | (with_reducible refine wpAny_isSubtype_exc hC ?_;rw[hcB]) | wp_step)
 refine Looks.here (s:=⟨hp,g,dr,tk,os⟩) L ?_
 repeat wp_step
 exact hq
noncomputable def HandOk (X:Cx) (hb:List Stmt) (th:TS):Option Nat->Prop
 | none=>∀e o vs,o.data=.fields vs->vs[2]?=some .none->X.Ok->PSs (Cx.hold X e o) hb th
 | some _=>∀e,PSs (Cx.held X e) hb th
theorem ps_try {X:Cx} {M:Mo} (mo:ModOk X.K M) {C2:Addr} {x:Str} {np hpos pos:Pos} {n:Option Str} {j:Option Nat} {body:List Stmt} {b₀:Stmt} {hb:List Stmt} {tbf:XS->TS} {th:TS} {sub:Addr->Bool}
  (hstk:X.stack=X.env::X.outer/\X.env.frame=some X.env.locals) (hg:Gl X x) (hm:X.mg x=some (.ref C2)) (hdb:(x == ("__debug__" :Str))=false)
  (h2:ktsIn X.K C2 "BaseException" =true) (hsub:∀c,sub c=true->mroIn X.K c (.ref C2)=some true)
  (hbody:∀pins E' Ξ',XOk (Cx.deep X pins E') Ξ'->PSs (Cx.deep X pins E') body (tbf Ξ')) (hh:HandOk X (b₀::hb) th j)
  (hN:X.N.Nodup) (hj:match j,n with | none,none=>True | some j,some y=>X.N[j]?=some y/\X.env.scope.names.lookup y=some .local | _,_=>False):
  PS X (.Try body [.ExceptHandler (some (.Name x np)) n (b₀::hb) hpos] [] [] pos) (fun D σ H=>tbf (handW M sub th j D) D σ H):=by
 intro pins s σ H D I h
 refine wpAny_Try_except ?_
 let ΞB:XS:=handW M sub th j D
 let E':Value->Shared->Prop:=fun e s1=>∃ea C d σ' H',e=.ref ea/\Flew X pins σ' H' ea C d s1/\ΞB C d σ' H'
 have xo:XOk (Cx.deep X pins E') ΞB:=fun pins' σ' H' e C d s1 F q=>⟨e,C,d,σ',H',rfl,Flew.undeep F,q⟩
 refine wpAny_mono (hbody pins E' ΞB xo [] s σ H D (Inv.deep I E') h) (fun f s1 q=>?_) fun e s1 q=>?_
 ·have q':=SP.undeep q
  cases f with
  | next=>exact wpAny_execs_nil q'
  | brk=>exact q'
  | cont=>exact q'
  | ret u=>exact q'
 ·obtain⟨ea,Cv,d,σ',H',rfl,F,q⟩:=q
  obtain⟨hs1,hs2⟩:=hstk
  have hfr:X.A.frames=some (X.env::X.outer):=by rw[<-hs1];exact F.inv.ok.frames
  have hl:s1.heap.FunFrames X.base (X.env::X.outer):=by rw[<-hs1];exact F.inv.stack
  refine note_land (base:=X.base) hfr hl hs2 F.at_ fun h' ch hch k1 k2 k3 x'=>?_
  have F2:=F.land hch (by rw[hs1];exact k1) k2 k3 x'.fly
  have q:handW M sub th j D Cv d σ' H':=q
  have key:∃C:Addr,(Cv=.ref C\/Cv=rawInt C)/\sub C=true/\(match j with
    | none=>Cv=.ref C/\th D σ' H'
    | some j=>∀e,H' e=none->M e=none->th (gone D j) (σ'.set j (some (.ref e))) (upd H' e (.exo C d))):=by
   obtain⟨_,_,_,cl,_⟩:=F2.at_
   obtain⟨c,_,hcv⟩:=cl.any
   refine⟨c,hcv,?_⟩
   unfold handW at q
   rcases hcv with z | z
   ·subst z
    dsimp only at q
    by_cases hsb:sub c=true
    ·rw[if_pos hsb]at q
     refine⟨hsb,?_⟩
     cases j with
     | none=>exact⟨rfl,q⟩
     | some j=>exact q
    ·rw[if_neg hsb]at q;exact q.elim
   ·subst z
    unfold rawInt at q
    dsimp only at q
    rw[Int.toNat_natCast]at q
    by_cases hsb:sub c=true
    ·rw[if_pos hsb]at q
     refine⟨hsb,?_⟩
     cases j with
     | none=>exact q.elim
     | some j=>exact q
    ·rw[if_neg hsb]at q;exact q.elim
  obtain⟨C,hCv,hsb,q⟩:=key
  refine wpAny_handleBy_cons ?_ (by intro z;cases z)
  have I2:=F2.inv
  have IH:=Inv.held I2 ea
  refine codeAny_handlers_test ?_
  obtain⟨ob,vs,hob,hcl',_⟩:=F2.at_
  have hcl:ob.cls=.ref C:=by
   obtain⟨c,h1,h2⟩:=hcl'.any
   rw[h1]
   rcases h2 with h2 | h2<;>rcases hCv with h3 | h3<;>rw[h2]at h3
   ·exact h3
   ·cases h3
   ·cases h3
   ·rw[rawInt_inj h3]
  refine ld_glob (X:=Cx.held X ea) IH hg hm (exc_match I2.kIn hob hcl h2 (hsub C hsb) ?_) hdb
  show codeAny _ _ _ _ _
  cases n with
  | none=>
   cases j with
   | some _=>exact hj.elim
   | none=>
    obtain⟨hCr,q9⟩:=q
    subst hCr
    refine codeAny_handlers_suite (F2.again fun s3 F3=>?_)
    obtain⟨o3,vs3,ho3,hc3,_,hd3,_⟩:=F3.at_
    have hv3:vs3[2]?=some .none:=by
     rcases hc3 with ⟨c,_,_,z⟩ | ⟨c,z,_⟩
     ·exact z
     ·cases z
    have IL:=Inv.hold F3 ho3 (by intro v z;rw[hd3]at z;cases z)
    refine wpAny_mono (hh ea o3 vs3 hd3 hv3 I.ok pins s3 σ' H' D IL q9) (fun f s4 q4=>?_) fun _ _ z=>z
    cases f with
    | next=>obtain⟨σ5,H5,I5,q5⟩:=q4;exact⟨σ5,H5,Inv.unhold I5 I.ok,q5⟩
    | brk=>obtain⟨σ5,H5,I5,q5⟩:=q4;exact⟨σ5,H5,Inv.unhold I5 I.ok,q5⟩
    | cont=>obtain⟨σ5,H5,I5,q5⟩:=q4;exact⟨σ5,H5,Inv.unhold I5 I.ok,q5⟩
    | ret u=>obtain⟨v,σ5,H5,I5,r5,q5⟩:=q4;exact⟨v,σ5,H5,Inv.unhold I5 I.ok,r5,q5⟩
  | some y=>
   cases j with
   | none=>exact hj.elim
   | some j=>
    obtain⟨hj1,hj2⟩:=hj
    refine codeAny_handlers_suite_as (F2.again fun s3 F3=>?_)
    have I3:=Inv.held (Inv.adopt F3 hCv) ea
    refine store_ok (X:=Cx.held X ea) (v:=.ref ea) I3 hN hj1 (.inl hj2) rfl (fun s4 I4=>?_) (.inr hj2)
    refine wpAny_mono (hh ea pins s4 _ _ (gone D j) I4 (q ea F3.fe.1 (OffM.new (Inv.offM mo (Inv.adopt F3 hCv))))) (fun f s5 q5=>?_) fun _ _ z=>z.elim
    cases f with
    | next=>
     obtain⟨σ5,H5,I5,q6⟩:=q5
     exact unbind_ok (Inv.unheld I5 I.ok) hN hj1 hj2 fun s6 I6=>⟨_,H5,I6,q6⟩
    | brk=>
     obtain⟨σ5,H5,I5,q6⟩:=q5
     exact unbind_ok (Inv.unheld I5 I.ok) hN hj1 hj2 fun s6 I6=>⟨_,H5,I6,q6⟩
    | cont=>
     obtain⟨σ5,H5,I5,q6⟩:=q5
     exact unbind_ok (Inv.unheld I5 I.ok) hN hj1 hj2 fun s6 I6=>⟨_,H5,I6,q6⟩
    | ret u=>
     obtain⟨v,σ5,H5,I5,r5,q6⟩:=q5
     exact unbind_ok (Inv.unheld I5 I.ok) hN hj1 hj2 fun s6 I6=>⟨v,_,H5,I6,r5,q6⟩
end Sw
namespace Sw
set_option genInjectivity false
open PySem PySem.Spec PyProof.Rows L2 PySem.W
section
variable {prog:Program} {w:World} {A:Around} {E:Value->Shared->Prop} {s:Shared} {K:Frag} {x C:Addr} {ox:Obj} {od:Option Obj} {name:Str} {expr:Bool}
structure XGet (K:Frag) (C:Addr):Prop where
 ga:findIn K (.ref C) "__getattribute__" =some (some (.builtin "BaseException.__getattribute__"))
 gh:findIn K (.ref C) "__getattr__" =some none
 sb:mroIn K C (.type "BaseException")=some true
 ob:mroIn K C (.type "object")=some true
theorem xget_slot {R:Result->Shared->Prop} {tk:Tok} (X:K.In s.heap) (I:InstAt s.heap x ox C od) (c:XGet K C)
  (h:wpAny (model prog w) A.in1 (Builtin.«object.__getattribute__» ⟨[.ref x,.str name tk],[]⟩) (fun fin s'=>match fin with | .done f=>R (.ok f) s' | .again c'=>c'.quiet=true/\codeAny (model prog w) A c' R s') (fun e s'=>R (.error e) s') s):
  codeAny (model prog w) A (.call (.builtin "BaseException.__getattribute__") ⟨[.ref x,.str name tk],[]⟩) R s:=by
 have hk:builtinKind "BaseException.__getattribute__" =some .slot:=by decide +kernel
 have hsplit:splitId "BaseException.__getattribute__" =some ("BaseException","__getattribute__"):=by decide +kernel
 have L:Looks (model prog w) s.heap (isInstance (.ref x) (.type "BaseException")) true:=I.type.andThen (looks_mroIn X c.sb)
 exact codeAny_call_builtin PySem.F.excAttr_ValueError.ga.plain PySem.F.entry_bexc_ga (@check_slot (model prog w) _ _ s "BaseException.__getattribute__" "BaseException" "__getattribute__" (.ref x) [.str name tk] [] _ hk hsplit L (PySem.F.args_bexc_ga (.ref x) (.str name tk)) h)
theorem xget_by {fill:Bool} {tk:Tok} {Q:Value->Shared->Prop} (X:K.In s.heap) (I:InstAt s.heap x ox C od) (c:XGet K C)
  (h:wpAny (model prog w) A.in1 (Builtin.«object.__getattribute__» ⟨[.ref x,.str name tk],[]⟩) (fun fin s'=>match fin with | .done (.ret v)=>wpAny (model prog w) A (handedOut v) Q E s' | _=>False) (fun _ _=>False) s):
  wpAny (model prog w) A (getAttrBy (.ref x) (.str name tk) fill expr) Q E s:=by
 have hx0:(expr && onTheHeap (Value.builtin "BaseException.__getattribute__"))=false:=by cases expr<;>rfl
 have hx2:(Value.builtin "BaseException.__getattribute__" == Value.builtin "object.__getattribute__")=false:=by decide +kernel
 have hx1:(onTheHeap (Value.ref C) && Value.builtin "BaseException.__getattribute__" == Value.builtin "object.__getattribute__")=false:=by rw[hx2];exact Bool.and_false _
 unfold getAttrBy
 refine wpAny_holding (wpAny_bind (I.type.here (wpAny_bind ((looks_findIn X c.ga).here ?_))))
 show wpAny _ _ (if(onTheHeap (Value.ref C) && Value.builtin "BaseException.__getattribute__" == Value.builtin "object.__getattribute__")=true then _ else _) _ _ _
 (rw[hx1];(first | with_reducible refine Eq.mpr (if_neg Bool.false_ne_true) ?_ | rw[if_neg Bool.false_ne_true]))
 unfold getAttrByItsOwn hookBefore
 refine wpAny_bind ?_
 show wpAny _ _ (typeLookup (.ref C) "__getattr__") _ _ _
 refine(looks_findIn X c.gh).here (wpAny_bind (wpAny_attempt (wpAny_holding ?_)))
 unfold callGetattribute boundAndCalled
 (rw[hx0];(first | with_reducible refine Eq.mpr (if_neg Bool.false_ne_true) ?_ | rw[if_neg Bool.false_ne_true]);rw[PySem.F.excAttr_ValueError.ga.bind])
 refine wpAny_bind (wpAny_pure (wpAny_call (xget_slot X I c (wpAny_mono h (fun fin s' z=>?_) fun _ _ z=>z.elim))))
 rcases fin with (_ | _ | _ | _) | _<;>first | exact z | exact z.elim
theorem xget_value {v:Value} {Q:Value->Shared->Prop} (X:K.In s.heap) (I:InstAt s.heap x ox C od) (c:XGet K C) (hf:findObj K C od name=some (.value v)) (hh:handedIn v=true) (h:Q v {s with toks:=s.toks + 1}):
  wpAny (model prog w) A (getAttr (.ref x) name expr) Q E s:=by
 unfold getAttr
 refine wpAny_bind (wpAny_mkText (xget_by (s:={s with toks:=s.toks + 1}) X I c ?_))
 obtain⟨hh',g,d,t,os⟩:=s
 have L0:=I.type (M:=model prog w)
 have L1:=looks_find (M:=model prog w) X I hf
 unfold Builtin.«object.__getattribute__»
 repeat lk
 show wpAny _ _ (handedOut v) _ _ _
 rw[handedOut_of hh]
 exact wpAny_pure h
theorem xget_class {Q:Option Value->Shared->Prop} (X:K.In s.heap) (I:InstAt s.heap x ox C od) (c:XGet K C) (hf:findObj K C od "__class__" =some (.bind (.builtin "getset_descriptor.__get__") (.builtin "object.__class__")))
  (h:Q (some (.ref C)) {s with toks:=s.toks + 1}):wpAny (model prog w) A (getAttr? (.ref x) "__class__") Q E s:=by
 unfold getAttr? getAttrBy?
 refine wpAny_bind (wpAny_mkText (wpAny_bind (wpAny_attempt (xget_by (s:={s with toks:=s.toks + 1}) X I c ?_))))
 obtain⟨hh',g,d,t,os⟩:=s
 have L0:=I.type (M:=model prog w)
 have L1:=looks_find (M:=model prog w) X I hf
 unfold Builtin.«object.__getattribute__»
 repeat (first | (with_reducible refine wpAny_call (class_get X I c.ob ?_)) | lk)
 exact h
theorem kitx_exc (c:XGet K C) (hdct:hasDictIn K C=true) (hf:∀od,findObj K C od "__class__" =some (.bind (.builtin "getset_descriptor.__get__") (.builtin "object.__class__"))):
  KitX K (.ref x) (.ref C) (fun h=>∃ox od,InstAt h x ox C od) where
 ty:=fun _ _ _ z47q=>by obtain⟨_,_,I⟩:=z47q;exact I.type
 it:=fun _ _ X _=>by
  obtain⟨cdD,hcD,_⟩:=any_some hdct
  unfold clsIn at hcD
  split at hcD
  ·rename_i c' d' cd' sl' ho
   intro A' Q' E' s' k q
   unfold isType loadHead
   exact wpAny_bind (wpAny_loadPart (k _ _ (X _ _ ho)) (wpAny_pure q))
  ·cases hcD
 ne:=fun h tp dd its n sl X htp=>by
  obtain⟨cdD,hcD,_⟩:=any_some hdct
  refine Bool.eq_false_iff.mpr fun q=>?_
  have e:C=tp:=Value.ref.inj (beq_iff_eq.mp q)
  subst e
  unfold clsIn at hcD
  split at hcD
  ·rename_i c' d' cd' sl' ho
   have z:=(X _ _ ho).symm.trans htp
   cases z
  ·cases hcD
 ca:=fun X z48q k=>by obtain⟨_,_,I⟩:=z48q;exact xget_class X I c (hf _) k
noncomputable def classBy (K:Frag) (C:Addr):Bool:=(clsIn K C).isSome && findIn K (.ref C) "__class__" == some (some (.builtin "object.__class__"))
 && specialIn K (.builtin "object.__class__") "__get__" == some (some (.builtin "getset_descriptor.__get__")) && takesIn K (.builtin "object.__class__") == some true
theorem classBy_find (h:classBy K C=true) (od:Option Obj):findObj K C od "__class__" =some (.bind (.builtin "getset_descriptor.__get__") (.builtin "object.__class__")):=by
 unfold classBy at h
 simp only[Bool.and_eq_true,beq_iff_eq]at h
 obtain⟨⟨⟨h1,h2⟩,h3⟩,h4⟩:=h
 obtain⟨cd,h1⟩:=Option.isSome_iff_exists.mp h1
 unfold findObj
 rw[h1,Option.bind_some,h2,Option.bind_some]
 simp only[h3,h4,Option.bind_some]
end
structure XRead (K:Frag) (C:Addr):Prop where
 get:XGet K C
 hd:hasDictIn K C=true
 cl:classBy K C=true
section
variable {X:Cx} {pins:List (Addr × Obj)} {σ:L2.St} {H:Hp} {s:Shared} {A:Around} {E:Value->Shared->Prop} {Q:Value->Shared->Prop} {e C:Addr} {d:Option Addr}
theorem getexc_ok {b:Bool} {dx:Addr} {fs:List (Str × V)} {f:Str} {v:V} (I:Inv X pins σ H s) (he:H e=some (.exo C (some dx))) (hd:H dx=some (.xd fs)) (c:XRead X.K C) (n:NoAttr X.K C f) (l:fs.lookup f=some v)
  (h:∀u s',Inv X pins σ H s'->RelV v u->Q u s'):wpAny (model X.prog X.w) A (getAttr (.ref e) f b) Q E s:=by
 obtain⟨oe,vs,h1,h2,h3,h4⟩:∃oe vs,s.heap.get? e=some oe/\oe.cls=.ref C/\oe.dict=some dx/\oe.data=.fields vs:=I.hok e _ he
 obtain⟨mA,N1,r⟩:∃mA,s.heap.Ns1 dx mA/\∀f,RelO (fs.lookup f) (mA f):=I.hok dx _ hd
 obtain⟨u,hu,ru⟩:=RelO.some_of (v:=v) (o:=mA f) (by rw[<-l];exact r f)
 obtain⟨od,hod,hl⟩:=lookIn_ns N1
 have J:PySem.W.InstAt s.heap e oe C (some od):=⟨h1,h2,by obtain⟨a,b,c,d⟩:=oe;have h4:c=.fields vs:=h4;subst h4;rfl,by rw[h3];exact hod⟩
 exact xget_value I.kIn J c.get (PySem.W.findObj_own c.hd n rfl (by rw[hl,hu])) (handed_of ru) (h u _ (I.tok _) ru)
theorem isexc_ok {b:Bool} {cl:Value} (I:Inv X pins σ H s) (he:H e=some (.exo C d)) (hdx:∀dx,d=some dx->∃fs,H dx=some (.xd fs)) (c:XRead X.K C) (k:PySem.W.kitOne X.K (.ref C) cl=some b) (h:∀tk,Q (.bool b) {s with toks:=tk}):
  wpAny (model X.prog X.w) A (call (.builtin "isinstance") [.ref e,cl]) Q E s:=by
 obtain⟨oe,vs,h1,h2,h3,h4⟩:∃oe vs,s.heap.get? e=some oe/\oe.cls=.ref C/\oe.dict=d/\oe.data=.fields vs:=I.hok e _ he
 have nc:PySem.W.notCls oe=true:=by obtain⟨a,b,c,d⟩:=oe;have h4:c=.fields vs:=h4;subst h4;rfl
 have J:∃ox od,PySem.W.InstAt s.heap e ox C od:=by
  cases d with
  | none=>exact⟨oe,none,h1,h2,nc,by rw[h3];trivial⟩
  | some dx=>
   obtain⟨fs,hd⟩:=hdx dx rfl
   obtain⟨mA,⟨od,es,ep,hod,_⟩,_⟩:∃mA,s.heap.Ns1 dx mA/\∀f,RelO (fs.lookup f) (mA f):=I.hok dx _ hd
   exact⟨oe,some od,h1,h2,nc,by rw[h3];exact hod⟩
 exact PySem.W.kia_one (kitx_exc c.get c.hd (classBy_find c.cl)) I.kIn J k (fun z=>nomatch z) h
end
end Sw
namespace Sw
set_option genInjectivity false
open PySem PySem.Spec PyProof.Rows L2
noncomputable def TopFr (X:Cx):Prop:=∃e0 o0 L,X.stack=e0::o0/\e0.frame=some L/\X.env.frame=some L
theorem noteFrame_by {env env':Env} {x:Value} (h:env.frame=env'.frame):noteFrame x env=noteFrame x env':=by
 unfold noteFrame PySem.frameOf
 rw[h]
theorem comp_core {X:Cx} {M:Mo} (mo:ModOk X.K M) {sc csc:Scope} {elt iter:Expr} {ifs:List Expr} {x:Str} {px pos:Pos} {fv:List (Str × Nat)} {te:TE} {tt:TT} {wi:L2.St->Hp->(List V->(Hp->Prop)->Hp->Prop)->Prop} (hc:X.calm=true)
  (hcf:∀y,(sc.names.lookup y=some .cell\/sc.names.lookup y=some .free)->X.env.kindOf y=some .cell\/X.env.kindOf y=some .free)
  (ok:compOk sc csc X.N x fv=true) (hi:PI X (.Name x px) iter (iSeq wi))
  (top:TopFr X) {Ξ:XS} (xo:XOk X Ξ) {use:Option (Value->Sem Unit)} {R:Value->Shared->Prop} {pins:List (Addr × Obj)} {s:Shared} {σ:L2.St} {H:Hp} {Q:V->Hp->Prop}
  (he:∀X',CompOf X X' csc (x::fv.map (·.1))->XOk X' (fun C d _ H'=>Ξ C d σ H')->PE X' elt te) (ht:∀X',CompOf X X' csc (x::fv.map (·.1))->PTs X' ifs tt)
  (hs:∀v,foldedSetIterable iter X.env v=pure v) (I:Inv X pins σ H s)
  (h:wi σ H fun xs stay H1=>∀D,H1 D=none->M D=none->compW te tt (vars σ fv) D stay xs [] (upd H1 D (.lst [])) fun H'=>Q (.ref D) H')
  (hfin:∀D C s' H',Inv X pins σ H' s'->FpOk X pins H' C->(∃ m,s'.heap.Ns C m)->Q (.ref D) H'->compPost (model X.prog X.w) X.A X.xe use R (.ref D) C (.ok .next) s'):
  wpAny (model X.prog X.w) X.A (comprehension (.ListComp elt [⟨.Name x px,iter,ifs,0⟩] csc pos) csc X.env (firstIterPos [⟨.Name x px,iter,ifs,0⟩] pos) (newList []) (firstAsync [⟨.Name x px,iter,ifs,0⟩]) (firstIter [⟨.Name x px,iter,ifs,0⟩] X.env) use) R X.xe s:=by
 unfold compOk at ok
 simp only[Bool.and_eq_true,decide_eq_true_eq,List.all_eq_true,Bool.or_eq_true]at ok
 obtain⟨⟨⟨⟨⟨hkind,hxl⟩,hsk⟩,hnames⟩,hfv⟩,hnd⟩:=ok
 have hfr:∀y ∈ csc.names,y.2=.free->X.env.kindOf y.1=some .cell\/X.env.kindOf y.1=some .free:=fun y hy hf=>by
  rcases(hnames y hy).2 with q | q
  ·exact absurd hf q
  ·exact hcf _ q
 obtain⟨cl,hclos,hcl1,hcl2⟩:=closure_ok (env:=X.env) (csc:=csc) fun y hy hf=>I.ok.has _ (hfr y hy hf)
 refine wpAny_comprehension_free (cl:=cl) rfl hs hclos hkind (fun y hy hl=>?_) ?_
 ·rcases(hnames y hy).1.2 with q | q
  ·exact absurd hl q
  ·exact q
 show wpAny _ _ (eval iter X.env) _ _ _
 refine thn (hi pins s σ H (fun J H1=>∃xs stay,SeqIt J xs stay/\∀D,H1 D=none->M D=none->compW te tt (vars σ fv) D stay xs [] (upd H1 D (.lst [])) fun H'=>Q (.ref D) H') I ⟨_,h,fun J xs stay H1 sq q=>⟨xs,stay,sq,q⟩⟩) fun v s1 h1=>thn h1 fun itv s2 h2=>?_
 obtain⟨it,fp,tn,J,H2,rfl,I2,T,st2,f2,xs,stay,SQ,hW⟩:=h2
 refine wpAny_newObj_type (wpAny_newFunctionEnv (fun y hy=>(hnames y hy).1.1) (by intro y hy;simp at hy) (fun h₁ hns₁ hsb₁=>?_) hkind)
 dsimp only at hns₁ hsb₁ ⊢
 generalize hG:s2.heap.push {cls:=.type "list",dict:=none,data:=.seq ([]:List Value).toArray}=G at hns₁ hsb₁ ⊢
 have hC:G.objs.size=s2.heap.objs.size + 1:=by rw[<-hG,Heap.size_push]
 have old:∀b o,s2.heap.get? b=some o->h₁.get? b=some o:=fun b o e=>
  hsb₁.extBut b o (by rw[hC];exact Nat.ne_of_lt (Nat.lt_succ_of_lt (Heap.lt_size e))) (Heap.get?_push_of_some _ (hG ▸ Heap.get?_push_of_some _ e))
 have hD1:h₁.get? s2.heap.objs.size=some {cls:=.type "list",data:=.seq ([]:List Value).toArray 0}:=
  hsb₁.extBut _ _ (by rw[hC];exact Nat.ne_of_lt (Nat.lt_succ_self _)) (Heap.get?_push_of_some _ (hG ▸ Heap.get?_push_size _ rfl))
 have fD:H2 s2.heap.objs.size=none:=I2.hok.fresh (Nat.le_refl _)
 have fC:H2 G.objs.size=none:=I2.hok.fresh (by rw[hC];exact Nat.le_succ _)
 have fpLt:∀b ∈ fp,b < s2.heap.objs.size:=fun b hb=>by
  obtain⟨o,e,_⟩:=T.obj 0 _ st2 b hb
  exact Heap.lt_size e
 have clLt:∀y c,cl.lookup y=some c->c < s2.heap.objs.size:=fun y c e=>by
  obtain⟨v,q⟩:=I2.cell y c (hcl1 y c e)
  exact q.lt
 let X':Cx:={prog:=X.prog,w:=X.w,K:=X.K,mg:=X.mg,base:=X.base,A:=X.A,N:=x::fv.map (·.1),s₀:=s2,H₀:=H2,env:=compEnvC csc cl G.objs.size X.env,outer:=X.stack,stack:=X.stack,ex:=fp,fn:=fun _=>false,calm:=true,pn:=[],xe:=notedBy (model X.prog X.w) X.A (compEnvC csc cl G.objs.size X.env) fun e s'=>compPost (model X.prog X.w) X.A X.xe use R (.ref s2.heap.objs.size) G.objs.size (.error e) s'}
 have CO:CompOf X X' csc (x::fv.map (·.1)):=⟨rfl,rfl,rfl,rfl,rfl,rfl,rfl,rfl,rfl,rfl,rfl⟩
 have okX:X'.Ok:=by
  refine⟨I.ok.mod,hkind,I.ok.glob,I.ok.blt,(by show s2.heap.objs.size<=G.objs.size;rw[hC];exact Nat.le_succ _),fun y z c e1 e2=>I.ok.inj y z c (hcl1 _ _ e1) (hcl1 _ _ e2),fun y hy=>?_,fun y c hf=>absurd (show false=true from hf) Bool.false_ne_true,fun _=>I.ok.hd hc,I.ok.frames,.inl rfl,
   fun b hb=>⟨?_,fun y c e=>?_⟩,I2.bs,?_,fun b o e hb=>?_,fun b hb hm=>?_,I2.stack,I2.stkFree⟩
  ·have hy:(relabel csc X.env).names.lookup y=some .cell\/(relabel csc X.env).names.lookup y=some .free:=hy
   rw[relabel_vis]at hy
   cases q:csc.names.lookup y with
   | none=>rw[q]at hy;rcases hy with hy | hy<;>cases hy
   | some k=>
    have hm:=mem_of_look q
    have kf:k=.free:=by
     rw[q]at hy
     simp only[Option.map_some]at hy
     by_cases hk:k=.free
     ·exact hk
     ·have e:(k == NameKind.free)=false:=by simpa using hk
      simp only[e,Bool.false_and,Bool.false_eq_true,if_false]at hy
      rcases hy with hy | hy
      ·exact absurd (Option.some.inj hy) (hnames _ hm).1.1
      ·exact Option.some.inj hy
    subst kf
    exact hcl2 y hm
  ·exact Nat.ne_of_lt (Nat.lt_of_lt_of_le (fpLt b hb) (by show _<=G.objs.size;rw[hC];exact Nat.le_succ _))
  ·exact(f2 b hb).2.2.2.2.1 y c (hcl1 y c e)
  ·exact Nat.le_trans I.ok.bsz I2.sz
  ·rcases(f2 b hb).2.2.2.1 with z | z
   ·exact I.ok.noex b o e z
   ·exact absurd (Nat.lt_of_lt_of_le (Heap.lt_size e) I.ok.bsz) (Nat.not_lt.mpr z)
  ·rcases List.mem_cons.mp (I2.stkSub b hm)with z | z
   ·exact(f2 b hb).2.1 z
   ·exact(f2 b hb).2.2.1 z
 have loc0:∀ (s':Shared) (H':Hp),(∀ y c,cl.lookup y=some c->s'.heap.get? c=s2.heap.get? c)->∀ (m:Str->Option Value) (i:Nat) (y:Str) (v:V),(x::fv.map (·.1))[i]?=some y->(none::vars σ fv)[i]?=some (some v)->∃u,RelV v u/\Look X'.env s'.heap m y u:=by
  intro s' H' hkc m i y v e1 e2
  cases i with
  | zero=>simp at e2
  | succ i=>
   have e1:(fv.map (·.1))[i]?=some y:=by simpa using e1
   have e2:(vars σ fv)[i]?=some (some v):=by simpa using e2
   obtain⟨z,ez,sz⟩:=vars_get e2
   rw[List.getElem?_map,ez]at e1
   have ey:z.1=y:=by simpa using e1
   subst ey
   obtain⟨⟨hN,hlf⟩,_⟩:=hfv z (List.mem_of_getElem? ez)
   obtain⟨m2,hn2,hl2⟩:=I2.loc
   have hkz:X.env.kindOf z.1=some .cell\/X.env.kindOf z.1=some .free:=hfr _ (mem_of_look hlf) rfl
   have hvz:Vis X.env.scope z.1:=by
    rcases hkz with q | q
    ·exact .inr (.inl q)
    ·exact .inr (.inr q)
   obtain⟨u,ru,lk⟩:=hl2 z.2 z.1 v hN sz hvz
   refine⟨u,ru,.inr ⟨?_,?_⟩⟩
   ·show(relabel csc X.env).names.lookup z.1=some .cell\/(relabel csc X.env).names.lookup z.1=some .free
    rw[relabel_vis,hlf]
    simp only[Option.map_some]
    by_cases q:((NameKind.free == NameKind.free) && X.env.scope.kind == .function && X.env.kindOf z.1 == some .cell)=true
    ·(first | with_reducible refine Eq.mpr (if_pos q) ?_ | rw[if_pos q]);exact .inl rfl
    ·(first | with_reducible refine Eq.mpr (if_neg q) ?_ | rw[if_neg q]);exact .inr rfl
   ·obtain⟨c,hcz⟩:=hcl2 z.1 (mem_of_look hlf)
    rcases lk with ⟨q,_⟩ | ⟨_,c',hc',cell⟩
    ·rcases hkz with z1 | z1<;>(rw[z1]at q;cases q)
    ·have:c'=c:=by
      have:=hcl1 _ _ hcz
      rw[hc']at this
      exact Option.some.inj this
     subst this
     refine⟨c',hcz,?_⟩
     obtain⟨o,ho,hd⟩:=cell
     exact⟨o,by rw[hkc _ _ hcz];exact ho,hd⟩
 have hND:(x::fv.map (·.1)).Nodup:=List.nodup_cons.mpr ⟨fun hm=>by
  obtain⟨y,hy,e⟩:=List.mem_map.mp hm
  exact(hfv y hy).2 e,hnd⟩
 have hxr:(relabel csc X.env).names.lookup x=some .local:=lookup_relabel_local hxl
 have I0:∀tk0,Inv X' [] (none::vars σ fv) (upd H2 s2.heap.objs.size (.lst [])) {s2 with heap:=h₁,toks:=tk0}:=fun tk0=>by
  refine⟨okX,rfl,I2.bare,Un.laid old (Nat.le_refl _) fD,⟨_,hns₁,fun i y v e1 e2 _=>loc0 {s2 with heap:=h₁,toks:=tk0} H2 (fun y c e=>?_) _ i y v e1 e2⟩,fun y c e=>?_,?_,fun y c e=>?_,fun p hp=>absurd (show p ∈ ([]:List (Addr × Obj))from hp) (by simp),I2.hok.laid old (Nat.le_refl _) ⟨Nat.zero_le _,[],0,.nil,hD1⟩,?_⟩
  ·obtain⟨v,o,ho,hd⟩:=I2.cell y c (hcl1 y c e)
   exact(old c o ho).trans ho.symm
  ·obtain⟨v,o,ho,hd⟩:=I2.cell y c (hcl1 y c e)
   exact⟨v,o,old c o ho,hd⟩
  ·show upd H2 s2.heap.objs.size (.lst []) G.objs.size=none
   rw[upd_ne (by rw[hC];exact Nat.ne_of_gt (Nat.lt_succ_self _))]
   exact fC
  ·rw[upd_ne (Nat.ne_of_lt (clLt y c e))]
   exact I2.freeC y c (hcl1 y c e)
  ·show(none::vars σ fv).length=(x::fv.map (·.1)).length
   simp[vars]
 have fpN:∀b ∈ fp,∀o,(upd H2 s2.heap.objs.size o) b=none:=fun b hb o=>by
  rw[upd_ne (Nat.ne_of_lt (fpLt b hb))]
  exact(f2 b hb).1
 have fpX:∀ {H':Hp},(∀ b ∈ fp,H' b=none)->∀b ∈ fp,FpOk X' [] H' b:=fun hn b hb=>by
  refine⟨hn b hb,(okX.exf b hb).1,okX.exfs b hb,.inl hb,(okX.exf b hb).2,fun p hp=>absurd (show p ∈ ([]:List (Addr × Obj))from hp) (by simp)⟩
 have toOut:∀ (s':Shared) (σ':L2.St) (H':Hp) (pins':List (Addr × Obj)),Inv X' pins' σ' H' s'->Inv X pins σ H' s':=fun s' σ' H' pins' I'=>by
  have B:=I'.base
  refine I2.call' (ch:=fp) (s':=s') I'.os ⟨fun b o e n hb hx=>B.keep b o e n hb hx,fun b o e n hb hx=>B.slot b o e n hb hx,B.free,fun b o e hx=>B.there b o e hx,B.tups,B.frzs,B.tbls⟩ I'.hok I'.bare (fun b hb=>?_)
  obtain⟨f0,f1,f2',f3,f4,f5⟩:=f2 b hb
  exact⟨f3,f1,f4,f5⟩
 have fpOut:∀ (H':Hp) (pins':List (Addr × Obj)) b,FpOk X' pins' H' b->FpOk X pins H' b/\b ≠ G.objs.size:=fun H' pins' b z=>by
  refine⟨?_,z.2.1⟩
  rcases z.2.2.2.1 with q | q
  ·obtain⟨f0,f1⟩:=f2 b q
   exact⟨z.1,f1⟩
  ·exact I2.fpOk q z.1
 have xoC:XOk X' (fun C d _ H'=>Ξ C d σ H'):=by
  intro pins' σ' H' e Cv d s' F q
  obtain⟨e0,o0,L,t1,t2,t3⟩:=top
  show wpAny (model X.prog X.w) X.A (noteFrame (.ref e) (compEnvC csc cl G.objs.size X.env)) _ _ s'
  rw[noteFrame_by (show(compEnvC csc cl G.objs.size X.env).frame=e0.frame from t3.trans t2.symm)]
  refine note1 (base:=X.base) (outer:=o0) (I.ok.frames.trans (congrArg some t1)) (by rw[<-t1];exact F.inv.stack) t2 F.at_ fun h1 ch hch k1 k2 k3 x1=>?_
  have F1:Flew X' pins' σ' H' e Cv d {s' with heap:=h1}:=F.land hch (by show ∀b o,b ∉ frs X.stack->_;rw[t1];exact k1) k2 k3 x1.at
  obtain⟨m,hm,_⟩:=id F1.inv.loc
  have goal:∃m,h1.Ns G.objs.size m/\∀h',Heap.SameBut G.objs.size h1 h'->∀cenv:Env,cenv.locals=G.objs.size->wpAny (model X.prog X.w) X.A (passOn "comprehension.variables-let-go" (.ref e) cenv:Sem Value) (fun _ _=>False) X.xe {s' with heap:=h'}:=by
   refine⟨m,hm,fun h' sb cenv hce=>?_⟩
   have x1':XTb h1 e Cv d (fun T=>FpOk X pins H' T/\T ≠ G.objs.size):=x1.imp fun T hT=>by
    rcases hT with z | z
    ·exact fpOut H' pins' T (F.inv.fpOk z (F.inv.hok.fresh z))
    ·exact fpOut H' pins' T z
   have fe:=fpOut H' pins' e F1.fe
   have sm:∀b o,b ≠ G.objs.size->h1.get? b=some o->h'.get? b=some o:=fun b o hb e=>sb.extBut b o hb e
   have x2:XTb h' e Cv d (FpOk X pins H'):=by
    obtain⟨oe,vs,g1,g2,g3,g4,g5,T,oT,ts,g6,g7,g8,g9,ga,gb⟩:=x1'
    exact⟨oe,vs,sm e oe fe.2 g1,g2,g3,g4,g5,T,oT,ts,g6,g7.1,g8,sm T oT g7.2 g9,ga,gb⟩
   have F2:Flew X pins σ H' e Cv d {s' with heap:=h'}:=
    ⟨Inv.letgo (s:={s' with heap:=h1}) (toOut _ σ' H' pins' F1.inv) (I2.fpOk (show s2.heap.objs.size<=G.objs.size by rw[hC];exact Nat.le_succ _) F1.inv.free) sb,fe.1,x2.at⟩
   unfold PySem.passOn
   obtain⟨oe,vs,T,g1,g2,g3⟩:=x2.head
   refine wpAny_bind (wpAny_field g1 g2 g3 ?_)
   (first | with_reducible refine Eq.mpr (if_neg (show ¬ ((Value.ref T == Value.none)=true)from by simp)) ?_ | rw[if_neg (show ¬ ((Value.ref T == Value.none)=true)from by simp)])
   have fin2:wpAny (model X.prog X.w) X.A (setFlight (.ref e) cenv.frame) (fun _ s3=>X.xe (.ref e) s3) X.xe {s' with heap:=h'}:=by
    refine set1 (s:={s' with heap:=h'}) (P:=FpOk X pins H') x2 fun h3 T hT ot th x3=>xo pins σ H' e Cv d _ ?_ q
    refine F2.land (ch:=[T]) (fun b hb=>.inr (by rw[show b=T by simpa using hb];exact hT)) (fun b o _ hb q=>(ot b (by simpa using hb)).trans q) (fun b o hb q=>⟨o.slots,(ot b (by simpa using hb)).trans q⟩) (fun b o q=>?_) (x3.imp fun _ z=>.inr z).at
    by_cases hb:b=T
    ·subst hb;exact th
    ·exact⟨o,(ot b hb).trans q⟩
   first
    | exact wpAny_bind (wpAny_mono fin2 (fun _ _ z=>wpAny_throw z) fun _ _ z=>z)
    | exact wpAny_bind (wpAny_pure (wpAny_bind (wpAny_mono fin2 (fun _ _ z=>wpAny_throw z) fun _ _ z=>z)))
  cases use<;>exact goal
 have fin:∀ (s':Shared) (σ':L2.St) (H':Hp),Inv X' [] σ' H' s'->Q (.ref s2.heap.objs.size) H'->compPost (model X.prog X.w) X.A X.xe use R (.ref s2.heap.objs.size) G.objs.size (.ok .next) s':=by
  intro s' σ' H' I' q
  obtain⟨m,hm,_⟩:=id I'.loc
  have I3:Inv X pins σ H' s':=toOut s' σ' H' [] I'
  exact hfin _ _ s' H' I3 (I2.fpOk (by rw[hC];exact Nat.le_succ _) I'.free) ⟨m,hm⟩ q
 have loop:∀s₃:Shared,(∃ tk0,s₃={s2 with heap:=h₁,toks:=tk0})->
   codeAny (model X.prog X.w) X.A (.compLoop (.ListComp elt [⟨.Name x px,iter,ifs,0⟩] csc pos) 0 (.ref it) (.ref s2.heap.objs.size) (compEnvC csc cl G.objs.size X.env))
    (compPost (model X.prog X.w) X.A X.xe use R (.ref s2.heap.objs.size) G.objs.size) s₃:=by
  rintro s₃ ⟨tk0,rfl⟩
  refine codeAny_loop rfl (fun n s'=>∃i acc H' v0,Inv X' [] (v0::vars σ fv) H' s'/\tn i s'.heap/\(∀ b ∈ fp,H' b=none)/\i + n=xs.length/\compW te tt (vars σ fv) s2.heap.objs.size stay (xs.drop i) acc H' (fun H'=>Q (.ref s2.heap.objs.size) H'))
   (fun n s' hI=>?_) xs.length ⟨0,[],_,none,I0 tk0,T.keep 0 _ _ st2 (fun b hb o e=>old b o e),fun b hb=>fpN b hb _,by omega,by simpa using hW _ fD (OffM.new (Inv.offM (X:=X') mo (I0 tk0)))⟩
  obtain⟨i,acc,H',v0,I',st',fr',hin,cw⟩:=hI
  show wpAny _ _ ((compTurn (.ListComp elt [⟨.Name x px,iter,ifs,0⟩] csc pos) 0 (.ref it) (.ref s2.heap.objs.size) (compEnvC csc cl G.objs.size X.env)).onRaise (fun x=>do noteFrame x (compEnvC csc cl G.objs.size X.env);theTreesLotGoes x)) _ _ _
  refine wpAny_noted ?_
  rw[compTurn_list]
  refine wpAny_bind (wpAny_standAt (wpAny_bind ?_))
  cases ed:xs.drop i with
  | nil=>
   rw[ed]at cw
   obtain⟨hst,hD,hq⟩:=cw
   have hle:xs.length<=i:=by simpa using ed
   refine wpAny_mono (T.done X' rfl rfl rfl rfl i [] s' _ H' (fun _ _=>False) I' (fpX fr') st' (SQ.stop i H' hst hle)) (fun r s4 z49q=>?_) fun _ _ z=>z.elim
   obtain⟨hr,I4⟩:=z49q
   subst hr
   exact wpAny_pure (fin s4 _ H' I4 hq)
  | cons v r=>
   rw[ed]at cw
   obtain⟨hst,cw⟩:=cw
   have hlt:i < xs.length:=by
    have:=congrArg List.length ed
    simp at this
    omega
   have hvi:xs[i]?=some v:=by
    have:=congrArg (fun l=>l[0]?) ed
    simpa using this
   have hdr:xs.drop (i + 1)=r:=by
    have:=congrArg List.tail ed
    simpa[List.tail_drop]using this
   refine wpAny_mono (T.item X' rfl rfl rfl rfl i [] s' _ H' (fun _ _=>False) I' (fpX fr') st' (SQ.go i H' hst hlt)) (fun r' s4 z50q=>?_) fun _ _ z=>z.elim
   obtain⟨u,hr,h4⟩:=z50q
   subst hr
   refine wpAny_bind (wpAny_mono h4 (fun _ s5 z51q=>?_) fun _ _ z=>z.elim)
   obtain⟨y,H5,I5,r5,y5,st5,fr5⟩:=z51q
   obtain⟨eH,ev⟩:=SQ.yld i H' y H5 hlt y5 hst
   subst eH
   rw[hvi]at ev
   obtain rfl:v=y:=Option.some.inj ev
   have I5':=I5.pinned (fpX fr5) (T.obj _ _ st5)
   refine wpAny_bind (wpAny_mono (pg_name (X:=X') (i:=0) (x:=x) (pos:=px) hND rfl (.inl hxr) (.inr hxr) _ s5 _ H5 v u (fun σ6 H6=>σ6=some v::vars σ fv/\H6=H5) I5' r5 ⟨rfl,rfl⟩) (fun _ s6 z52q=>?_) fun _ _ z=>z)
   obtain⟨σ6,H6,I6,e6,e6'⟩:=z52q
   subst e6 e6'
   refine wpAny_bind (wpAny_mono (ht X' CO _ s6 _ H6 _ I6 cw) (fun okb s7 z53q=>?_) fun _ _ z=>z)
   obtain⟨H7,I7,q7⟩:=z53q
   have again:∀ {s8:Shared} {H8:Hp} {acc':List V},Inv X' ([]++pinsAt fp s5.heap) (some v::vars σ fv) H8 s8->compW te tt (vars σ fv) s2.heap.objs.size stay r acc' H8 (fun H'=>Q (.ref s2.heap.objs.size) H')->
     ∃m,m < n/\∃i acc H' v0,Inv X' [] (v0::vars σ fv) H' s8/\tn i s8.heap/\(∀ b ∈ fp,H' b=none)/\i + m=xs.length/\compW te tt (vars σ fv) s2.heap.objs.size stay (xs.drop i) acc H' (fun H'=>Q (.ref s2.heap.objs.size) H'):=by
    intro s8 H8 acc' I8 c8
    refine⟨n - 1,by omega,i + 1,acc',H8,some v,I8.unpinned,T.keep _ _ _ st5 fun b hb o e=>(I8.pin (b,o) (List.mem_append_right _ (List.mem_append_right _ (mem_pinsAt hb e)))).1,fun b hb=>?_,by omega,by rw[hdr];exact c8⟩
    obtain⟨o,e,d⟩:=T.obj _ _ st5 b hb
    exact(I8.pin (b,o) (List.mem_append_right _ (List.mem_append_right _ (mem_pinsAt hb e)))).2.1
   cases okb with
   | false=>
    simp only[Bool.false_eq_true,if_false]at q7 ⊢
    exact wpAny_pure ⟨rfl,again I7 q7⟩
   | true=>
    simp only[if_true]at q7 ⊢
    refine wpAny_bind (wpAny_bind (wpAny_mono (he X' CO xoC _ s7 _ H7 _ I7 q7) (fun yv s8 z54q=>?_) fun _ _ z=>z))
    obtain⟨yy,H8,I8,r8,hD8,hz8,q8⟩:=z54q
    refine wpAny_bind (wpAny_mono (mt_append (X:=X') _ s8 _ H8 (.ref s2.heap.objs.size) [yy] (.ref s2.heap.objs.size) [yv] (fun _ H9=>H9=upd H8 s2.heap.objs.size (.lst (acc++[yy]))) I8 rfl (.cons r8 .nil) ⟨_,acc,yy,rfl,rfl,hD8,hz8,rfl⟩) (fun _ s9 z55q=>?_) fun _ _ z=>z)
    obtain⟨_,H9,I9,_,e9⟩:=z55q
    subst e9
    exact wpAny_pure (wpAny_pure ⟨rfl,again I9 q8⟩)
 exact codeAny_compStart_list (loop _ ⟨_,rfl⟩) (T.self _ 0 _ _ _ (T.keep 0 _ _ st2 (fun b hb o e=>old b o e)) (loop _ ⟨_,rfl⟩))
section
variable {X:Cx} {M:Mo} {sc csc:Scope} {elt iter:Expr} {ifs:List Expr} {x:Str} {px pos:Pos} {fv:List (Str × Nat)} {te:L2.St->TE} {tt:TT} {wi:L2.St->Hp->(List V->(Hp->Prop)->Hp->Prop)->Prop} {Ξ:XS}
theorem pe_comp (mo:ModOk X.K M) (hc:X.calm=true) (top:TopFr X) (xo:XOk X Ξ)
  (hcf:∀y,(sc.names.lookup y=some .cell\/sc.names.lookup y=some .free)->X.env.kindOf y=some .cell\/X.env.kindOf y=some .free)
  (ok:compOk sc csc X.N x fv=true) (hi:PI X (.Name x px) iter (iSeq wi))
  (he:∀σ X',CompOf X X' csc (x::fv.map (·.1))->XOk X' (fun C d _ H'=>Ξ C d σ H')->PE X' elt (te σ)) (ht:∀X',CompOf X X' csc (x::fv.map (·.1))->PTs X' ifs tt)
  (hs:∀v,foldedSetIterable iter X.env v=pure v):
  PE X (.ListComp elt [⟨.Name x px,iter,ifs,0⟩] csc pos) (fun σ H Q=>wi σ H fun xs stay H1=>∀D,H1 D=none->M D=none->compW (te σ) tt (vars σ fv) D stay xs [] (upd H1 D (.lst [])) fun H'=>Q (.ref D) H'):=by
 intro pins s σ H Q I h
 rw[eval_ListComp]
 refine comp_core mo hc hcf ok hi top xo (he σ) ht hs (use:=none) (R:=EP X pins σ Q) I h fun D C s' H' I' f z56q q=>?_
 obtain⟨m,hm⟩:=z56q
 refine⟨m,hm,fun h' sb=>⟨.ref D,H',?_,rfl,q⟩⟩
 exact Inv.letgo I' f sb
theorem ps_setC (mo:ModOk X.K M) (hc:X.calm=true) (top:TopFr X) (xo:XOk X Ξ)
  (hcf:∀y,(sc.names.lookup y=some .cell\/sc.names.lookup y=some .free)->X.env.kindOf y=some .cell\/X.env.kindOf y=some .free)
  (ok:compOk sc csc X.N x fv=true) (hi:PI X (.Name x px) iter (iSeq wi))
  (he:∀σ X',CompOf X X' csc (x::fv.map (·.1))->XOk X' (fun C d _ H'=>Ξ C d σ H')->PE X' elt (te σ)) (ht:∀X',CompOf X X' csc (x::fv.map (·.1))->PTs X' ifs tt)
  (hs:∀v,foldedSetIterable iter X.env v=pure v) {i:Nat} {t:Str} {tp spos:Pos} (hN:X.N.Nodup) (hit:X.N[i]?=some t) (hx:Loc X.env.scope t) (hf:X.fn t=true\/X.env.scope.names.lookup t=some .local)
  (hsw:swapsWith (.ListComp elt [⟨.Name x px,iter,ifs,0⟩] csc pos) (some (.Name t tp)) spos.line X.env=pure true):
  PS X (.Assign [.Name t tp] (.ListComp elt [⟨.Name x px,iter,ifs,0⟩] csc pos) spos) (fun D σ H=>wi σ H fun xs stay H1=>∀B,H1 B=none->M B=none->compW (te σ) tt (vars σ fv) B stay xs [] (upd H1 B (.lst [])) fun H'=>D.nx (σ.set i (some (.ref B))) H'):=by
 intro pins s σ H D I h
 rw[exec_Assign_Name_used _ _ _ _ hsw]
 refine wpAny_bind (wpAny_standAt (wpAny_bind ?_))
 show wpAny _ _ (do let _<-comprehension _ _ _ _ _ _ _ (some _)) _ _ _
 refine wpAny_bind ?_
 refine comp_core mo hc hcf ok hi top xo (he σ) ht hs (Q:=fun v H'=>D.nx (σ.set i (some v)) H') I h fun B C s' H' I' f z57q q=>?_
 obtain⟨m,hm⟩:=z57q
 show wpAny _ _ (assign (.Name t tp) X.env (.ref B)) _ _ _
 refine wpAny_bind (wpAny_standAt ?_)
 unfold bindName
 refine wpAny_bind (wpAny_holding (wpAny_point ?_))
 refine wpAny_bind (store_ok2 I' hN hit hx (v:=.ref B) rfl (fun s2 I2 z58q=>?_) hf)
 obtain⟨a,sb,ha⟩:=z58q
 refine wpAny_point ?_
 have hne:C ≠ a:=fun z=>by
  subst z
  rcases ha with z | z
  ·exact f.2.1 z
  ·exact f.2.2.2.2.1 _ _ z rfl
 obtain⟨o,es,ep,ho,r⟩:=hm
 have ho2:s2.heap.get? C=some o:=(sb.2 C hne).trans ho
 refine⟨m,⟨o,es,ep,ho2,r⟩,fun h' sb2=>?_⟩
 exact wpAny_pure (wpAny_pure ⟨_,H',Inv.letgo I2 f sb2,q⟩)
end
end Sw
namespace Sw
set_option genInjectivity false
open PySem PySem.Spec PyProof.Rows L2
open PySem.W (Frag keepIn ktsIn mroIn kitOne)
noncomputable def bltNames:List Str:=["len","all","any","str","int","abs","sorted","list","tuple","max","min","sum","isinstance","range","bool","dict","set","ValueError"]
noncomputable def NameVal (mg:Str->Option Value) (x:Str) (u:Value):Prop:=mg x=some u\/(mg x=none/\bootBuiltins x=some u)
structure VcOk (P:Program) (w:World) (K:Frag) (mg:Str->Option Value) (base:Heap) (k:Nat) (vc:Addr->Sp):Prop where
 run:∀ (A:Around) (outer:List Env) (s:Shared) (H:Hp) (f:Addr) (us:List Value) (vs:List V) (Q:VK) (E:XK),Room k A->Env0 P w K mg base A outer s H->Vals vs us->vc f vs H Q E->
  codeAny (model P w) A (.call (.ref f) ⟨us,[]⟩) (CR (CXW P w) outer P w H s Q E) s
 fnat:∀ (s:Shared) (H:Hp) (f:Addr) (vs:List V) (Q:VK) (E:XK),K.In s.heap->HOk P w H s.heap->vc f vs H Q E->PySem.W.FnAt f s.heap
theorem VcOk.mono {P:Program} {w:World} {K:Frag} {mg:Str->Option Value} {base:Heap} {j k:Nat} {vc:Addr->Sp} (F:VcOk P w K mg base j vc) (h:j<=k):VcOk P w K mg base k vc:=
 ⟨fun A outer s H f us vs Q E hr=>F.run A outer s H f us vs Q E (hr.mono h),F.fnat⟩
theorem VcOk.none {P:Program} {w:World} {K:Frag} {mg:Str->Option Value} {base:Heap} {k:Nat}:VcOk P w K mg base k (fun _ _ _ _ _=>False):=
 ⟨fun _ _ _ _ _ _ _ _ _ _ _ _ h=>h.elim,fun _ _ _ _ _ _ _ _ h=>h.elim⟩
theorem VcOk.or {P:Program} {w:World} {K:Frag} {mg:Str->Option Value} {base:Heap} {k:Nat} {a b:Addr->Sp} (F:VcOk P w K mg base k a) (G:VcOk P w K mg base k b):VcOk P w K mg base k (fun f vs H Q E=>a f vs H Q E\/b f vs H Q E):=
 ⟨fun A outer s H f us vs Q E hr he hv h=>h.elim (F.run A outer s H f us vs Q E hr he hv) (G.run A outer s H f us vs Q E hr he hv),fun s H f vs Q E hk ho h=>h.elim (F.fnat s H f vs Q E hk ho) (G.fnat s H f vs Q E hk ho)⟩
noncomputable def DictK (P:Program) (w:World) (mg:Str->Option Value) (base:Heap) (x:Str) (kvs:List (Key × V)):Prop:=∃a vs,mg x=some (.ref a)/\KV kvs vs/\base.DictOf (mixKind P w) a vs
structure GOk (P:Program) (w:World) (K:Frag) (mg:Str->Option Value) (base:Heap) (Γ:Gam) (k:Nat):Prop where
 mod:ModOk K Γ.mod
 con:∀x v,Γ.con x=some v->∃u,mg x=some u/\RelV v u
 fn:∀f,Γ.has f=true->∃fa fd ps,mg f=some (.ref fa)/\keepIn K (.ref fa)=true/\FnOk P w K mg base (CXW P w) k fa fd ps (Γ.fn f)/\Binds K fd ps []
 exc:∀C c fs,Γ.exc C=some (c,fs)->∃fI f fd ps,fs=[f]/\mg C=some (.ref c)/\keepIn K (.ref c)=true/\XCls K c fI f/\FnOkU P w K mg base (CXW P w) k fI fd ps (spX c f)/\Binds K fd ps []
 no:∀x ∈ bltNames,mg x=none
 sub:∀c C b,Γ.sub c C=some b->XRead K c/\∃u,NameVal mg C u/\kitOne K (.ref c) u=some b
 cat:∀C,Γ.cat C=true->∃C2,mg C=some (.ref C2)/\ktsIn K C2 "BaseException" =true/\∀c,Γ.sub c C=some true->mroIn K c (.ref C2)=some true
 fo:∀C f,Γ.fo C f=true->XRead K C/\NoAttr K C f
 vc:VcOk P w K mg base k Γ.vc
 gd:∀x kvs,Γ.gd x=some kvs->DictK P w mg base x kvs
structure Ctx (X:Cx) (Γ:Gam) (sc:Scope) (k:Nat):Prop where
 g:GOk X.prog X.w X.K X.mg X.base Γ k
 room:Γ.cm=true->Room (k + 1) X.A
 calm:Γ.cm=true->X.calm=true
 un:X.A.units + 64 < cLine
 vis:∀x,isVis sc x=true->Vis X.env.scope x
 gl:∀x,isGl sc x=true->Gl X x
 cf:∀y,(sc.names.lookup y=some .cell\/sc.names.lookup y=some .free)->X.env.kindOf y=some .cell\/X.env.kindOf y=some .free
 top:TopFr X
theorem GOk.hush {P:Program} {w:World} {K:Frag} {mg:Str->Option Value} {base:Heap} {Γ:Gam} {k:Nat} (g:GOk P w K mg base Γ k):GOk P w K mg base Γ.hush k:=
 ⟨g.mod,g.con,g.fn,g.exc,g.no,g.sub,g.cat,g.fo,g.vc,g.gd⟩
theorem GOk.grip {P:Program} {w:World} {K:Frag} {mg:Str->Option Value} {base:Heap} {Γ:Gam} {k:Nat} (g:GOk P w K mg base Γ k):GOk P w K mg base Γ.grip k:=
 ⟨g.mod,g.con,g.fn,g.exc,g.no,g.sub,g.cat,g.fo,g.vc,g.gd⟩
section
variable {X:Cx} {a b e:Expr} {rest:List Expr} {ta tb:TE} {pos:Pos} {M:Mo}
theorem PE.of {t t':TE} (h:PE X e t) (i:∀σ H Q,t' σ H Q->t σ H Q):PE X e t':=fun pins s σ H Q I q=>h pins s σ H Q I (i σ H Q q)
theorem PT.of {t t':TT} (h:PT X e t) (i:∀σ H Q,t' σ H Q->t σ H Q):PT X e t':=fun pins s σ H Q I q=>h pins s σ H Q I (i σ H Q q)
theorem PT.never {t:TT} (i:∀σ H Q,¬t σ H Q):PT X e t:=fun pins s σ H Q I q=>(i σ H Q q).elim
theorem truV_mono {x:V} {H:Hp} {Q Q':Bool->Prop} (h:truV M x H Q) (i:∀k,Q k->Q' k):truV M x H Q':=by
 unfold truV at h ⊢
 cases x with
 | non=>exact i _ h
 | bl b=>exact i _ h
 | int j=>exact i _ h
 | str y=>exact⟨h.1,i _ h.2⟩
 | ref p=>
  dsimp only at h ⊢
  split at h
  ·exact i _ h
  ·exact i _ h
  ·exact h.elim
 | _=>exact h.elim
theorem tru_end (m:ModOk X.K M) {pins:List (Addr × Obj)} {s:Shared} {σ:L2.St} {H:Hp} {x:V} {v:Value} {Q:Bool->Prop} {Q':Bool->Shared->Prop} (I:Inv X pins σ H s) (rx:RelV x v) (q:truV M x H Q)
  (h:∀k s',Inv X pins σ H s'->Q k->Q' k s'):wpAny (model X.prog X.w) X.A (truthy v) Q' X.xe s:=by
 refine thn (tru_of m pins s σ H x v (fun k H2=>H2=H/\Q k) I rx (truV_mono q fun k z=>⟨rfl,z⟩)) fun k s2 z59q=>?_
 obtain⟨H2,I2,e2,q2⟩:=z59q
 subst e2
 exact h k s2 I2 q2
theorem pe_andV (m:ModOk X.K M) (ha:PE X a ta) (hb:PE X (.BoolOp .And (b::rest) pos) tb):PE X (.BoolOp .And (a::b::rest) pos) (fun σ H Q=>ta σ H fun x H1=>truV M x H1 fun k=>if k=true then tb σ H1 Q else Q x H1):=by
 intro pins s σ H Q I h
 refine BoolOp_and (thn (ha pins s σ H _ I h) fun v s1 ⟨x,H1,I1,r1,q1⟩=>tru_end m I1 r1 q1 fun k s2 I2 q2=>?_)
 cases k with
 | true=>exact hb pins s2 σ H1 Q I2 q2
 | false=>exact⟨x,H1,I2,r1,q2⟩
theorem pe_orV (m:ModOk X.K M) (ha:PE X a ta) (hb:PE X (.BoolOp .Or (b::rest) pos) tb):PE X (.BoolOp .Or (a::b::rest) pos) (fun σ H Q=>ta σ H fun x H1=>truV M x H1 fun k=>if k=true then Q x H1 else tb σ H1 Q):=by
 intro pins s σ H Q I h
 refine BoolOp_or (thn (ha pins s σ H _ I h) fun v s1 ⟨x,H1,I1,r1,q1⟩=>tru_end m I1 r1 q1 fun k s2 I2 q2=>?_)
 cases k with
 | false=>exact hb pins s2 σ H1 Q I2 q2
 | true=>exact⟨x,H1,I2,r1,q2⟩
theorem pe_notV (m:ModOk X.K M) (ha:PE X a ta):PE X (.UnaryOp .Not a pos) (fun σ H Q=>ta σ H fun x H1=>truV M x H1 fun k=>Q (.bl (!k)) H1):=by
 intro pins s σ H Q I h
 refine UnaryOp_ (thn (ha pins s σ H _ I h) fun v s1 z62q=>by obtain⟨x,H1,I1,r1,q1⟩:=z62q;exact not_of (tru_end m I1 r1 q1 fun k s2 I2 q2=>⟨.bl (!k),H1,I2,rfl,q2⟩))
theorem pt_tru (m:ModOk X.K M) (ha:PE X a ta) (he:∀whole,isTrue a X.env whole=(do let v<-whole;standAt a.pos;holding [v] (truthy v))):PT X a (fun σ H Q=>ta σ H fun x H1=>truV M x H1 fun k=>Q k H1):=by
 intro pins s σ H Q I h
 exact isTrue_plain (thn (ha pins s σ H _ I h) fun v s1 z63q=>by obtain⟨x,H1,I1,r1,q1⟩:=z63q;exact tru_end m I1 r1 q1 fun k s2 I2 q2=>⟨H1,I2,q2⟩) (he _)
theorem pt_ite {c:Expr} {tc:TT} {t u:TT} (hc:PT X c tc) (ha:PT X a t) (hb:PT X b u):PT X (.IfExp c a b pos) (fun σ H Q=>tc σ H fun k H1=>if k=true then t σ H1 Q else u σ H1 Q):=by
 intro pins s σ H Q I h
 show wpAny _ _ (do if<-isTrue c X.env (eval c X.env)then isTrue a X.env (eval a X.env)else isTrue b X.env (eval b X.env)) _ _ _
 refine wpAny_bind (thn (hc pins s σ H _ I h) fun k s1 z64q=>?_)
 obtain⟨H1,I1,q1⟩:=z64q
 cases k with
 | true=>exact ha pins s1 σ H1 Q I1 q1
 | false=>exact hb pins s1 σ H1 Q I1 q1
end
section
variable {X:Cx}
theorem star_cons {e:Expr} {es:List Expr} {env:Env} (h:plainE e=true):starEach (e::es) env=(false,eval e env)::starEach es env:=by
 cases e<;>first | rfl | cases h
theorem plain_any:∀ {es:List Expr} {env:Env} {pos:Pos},(∀ e ∈ es,plainE e=true)->(backTo pos (starEach es env)).any (·.1)=false
 | [],_,_,_=>rfl
 | e::es,env,pos,h=>by
  rw[star_cons (h e List.mem_cons_self)]
  show(false || (backTo pos (starEach es env)).any (·.1))=false
  rw[plain_any fun e he=>h e (List.mem_cons_of_mem _ he)]
  rfl
theorem plain_all:∀ {es:List Expr} {env:Env} {pos:Pos},(∀ e ∈ es,plainE e=true)->(backTo pos (starEach es env)).all (fun x=>!x.1)=true
 | [],_,_,_=>rfl
 | e::es,env,pos,h=>by
  rw[star_cons (h e List.mem_cons_self)]
  show((!false) && (backTo pos (starEach es env)).all (fun x=>!x.1))=true
  rw[plain_all fun e he=>h e (List.mem_cons_of_mem _ he)]
  rfl
theorem a2 {a b:Bool} (h:(a && b)=true):a=true/\b=true:=Bool.and_eq_true_iff.mp h
theorem nx_get {N:List Str} {i:Nat} (h:decide (i < N.length)=true):N[i]?=some (nx N i):=by
 have h:=of_decide_eq_true h
 unfold nx
 rw[List.getD_eq_getElem?_getD,List.getElem?_eq_getElem h]
 rfl
theorem bE_plain {N:List Str} (e:Ex) {a:Expr}:plainE (bE N e a)=true:=by cases e<;>rfl
theorem bI_plain {N:List Str} (it:Ix) {a:Expr}:plainE (bI N it a)=true:=by
 cases it with
 | ex e=>exact bE_plain e
 | rng1 _=>rfl
theorem bEs_plain {N:List Str}:∀ (cs:Exs) {es:List Expr},∀e ∈ bEs N cs es,plainE e=true
 | .nil,_=>fun e h=>nomatch (show e ∈ []from h)
 | .cons c r,es=>fun e h=>(List.mem_cons.mp (show e ∈ bE N c (es.headD default)::bEs N r es.tail from h)).elim (fun q=>q ▸ bE_plain c) (bEs_plain r e)
theorem bEs_len {N:List Str}:∀ (cs:Exs) {es:List Expr},(bEs N cs es).length=cs.len
 | .nil,_=>rfl
 | .cons _ r,_=>congrArg (·+ 1) (bEs_len r)
theorem okName_of {x:Str} (h:okName x=true):(x == ("__debug__" :Str))=false/\(x == ("__classdict__" :Str))=false/\x ≠ "__name__" :=by
 unfold okName at h
 simp only[Bool.and_eq_true,Bool.not_eq_true',decide_eq_false_iff_not]at h
 exact⟨h.1.1,h.1.2,h.2⟩
end
end Sw
namespace Sw
set_option genInjectivity false
open PySem PySem.Spec PyProof.Rows L2
open PySem.W (Frag keepIn ktsIn mroIn kitOne)
theorem boot_bf (f:Bf):bootBuiltins f.name=some (bfV f):=by cases f<;>kernel_rfl
theorem bf_in (f:Bf):f.name ∈ bltNames:=by cases f<;>decide +kernel
theorem in_isin:("isinstance" :Str) ∈ bltNames:=by decide +kernel
theorem in_range:("range" :Str) ∈ bltNames:=by decide +kernel
theorem boot_isin:bootBuiltins "isinstance" =some (.builtin "isinstance"):=by kernel_rfl
section
variable {X:Cx} {Γ:Gam} {sc:Scope} {k:Nat} {Ξ:XS}
theorem ld_name {pins:List (Addr × Obj)} {s:Shared} {σ:L2.St} {H:Hp} {x:Str} {u:Value} {pos:Pos} {Q:Value->Shared->Prop} {E:Value->Shared->Prop} (I:Inv X pins σ H s) (hg:Gl X x) (hv:NameVal X.mg x u) (ho:okName x=true) (h:Q u s):
  wpAny (model X.prog X.w) X.A (eval (.Name x pos) X.env) Q E s:=by
 obtain⟨o1,o2,o3⟩:=okName_of ho
 rcases hv with hv | ⟨hv,hb⟩
 ·exact ld_glob I hg hv h o1
 ·exact ld_blt I hg hv hb h o3 o1
theorem pe_isin {a:Expr} {ta:TE} {y:Str} {p py pos:Pos} {R:V->Hp->VK->Prop} (C:Ctx X Γ sc k) (hg:Gl X "isinstance") (ha:PE X a ta) (hp:plainE a=true) (hy:Gl X y) (ho:okName y=true)
  (hR:∀ (pins:List (Addr × Obj)) (s:Shared) (σ:L2.St) (H:Hp) (x:V) (v:Value) (Q:VK),Inv X pins σ H s->RelV x v->R x H Q->∃u,NameVal X.mg y u/\wpAny (model X.prog X.w) X.A (call (.builtin "isinstance") [v,u]) (EP X pins σ Q) X.xe s):
  PE X (.Call (.Name "isinstance" p) [a,.Name y py] [] pos) (fun σ H Q=>ta σ H fun x H1=>R x H1 Q):=by
 intro pins s σ H Q I h
 refine wpAny_Call_Name_kw (ld_blt I hg (C.g.no _ in_isin) boot_isin ?_)
 have hs:=star_cons (env:=X.env) (es:=[.Name y py]) hp
 refine PyProof.Rows.callWith_builtin1 ?_ hs rfl
 rw[hs]
 show wpAny _ _ (spliced ((false,eval a X.env)::backTo pos (starEach [.Name y py] X.env))) _ _ s
 refine Calls.spliced_cons (thn (ha pins s σ H _ I h) fun v s1 z65q=>?_)
 obtain⟨x,H1,I1,r1,q1⟩:=z65q
 obtain⟨u,hv,z⟩:=hR pins s1 σ H1 x v Q I1 r1 q1
 exact Calls.spliced_cons (ld_name I1 hy hv ho (Calls.spliced_nil z))
theorem Ctx.comp {X':Cx} {csc:Scope} {N':List Str} (C:Ctx X Γ sc k) (c:CompOf X X' csc N') (hc:Γ.cm=true):Ctx X' Γ csc k:=by
 have look:∀y,X'.env.scope.names.lookup y=(csc.names.lookup y).map fun k=>if(k == .free && X.env.scope.kind == .function && X.env.kindOf y == some .cell)then .cell else k:=fun y=>by
  rw[c.scope];exact relabel_vis
 refine⟨by rw[c.prog,c.w,c.K,c.mg,c.base];exact C.g,fun h=>by rw[c.A];exact C.room h,fun _=>c.calm,by rw[c.A];exact C.un,fun x h=>?_,fun x h=>?_,fun y h=>?_,by obtain⟨e0,o0,L,t1,t2,t3⟩:=C.top;exact⟨e0,o0,L,c.stack.trans t1,t2,c.frame.trans t3⟩⟩
 ·have l:=look x
  unfold isVis at h
  unfold Vis
  split at h
  ·rename_i e;rw[e]at l;exact .inl l
  ·rename_i e;rw[e]at l;exact .inr (.inl l)
  ·rename_i e
   rw[e]at l
   simp only[Option.map_some]at l
   by_cases q:((NameKind.free == NameKind.free) && X.env.scope.kind == .function && X.env.kindOf x == some .cell)=true
   ·rw[if_pos q]at l;exact .inr (.inl l)
   ·rw[if_neg q]at l;exact .inr (.inr l)
  ·cases h
 ·have l:=look x
  unfold isGl at h
  split at h
  ·rename_i e;rw[e]at l;exact l
  ·cases h
 ·have l:=look y
  rcases h with h | h
  ·rw[h]at l;exact .inl l
  ·rw[h]at l
   simp only[Option.map_some]at l
   by_cases q:((NameKind.free == NameKind.free) && X.env.scope.kind == .function && X.env.kindOf y == some .cell)=true
   ·rw[if_pos q]at l;exact .inl l
   ·rw[if_neg q]at l;exact .inr l
end
end Sw
namespace Sw
set_option genInjectivity false
open PySem PySem.Spec PyProof.Rows L2
open PySem.W (Frag keepIn ktsIn mroIn kitOne)
theorem mfS (m:Mf):PlainAttrs (mfT m)/\Slot (mfT m) m.name (mfId m)/\typeOf (.builtin (mfId m))=pure (.type "method_descriptor"):=by
 cases m
 ·exact⟨F.plainAttrs_str,F.slot_str_startswith,F.type_str_startswith⟩
 ·exact⟨F.plainAttrs_str,F.slot_str_endswith,F.type_str_endswith⟩
 ·exact⟨F.plainAttrs_str,F.slot_str_split,F.type_str_split⟩
 ·exact⟨F.plainAttrs_str,F.slot_str_join,F.type_str_join⟩
 ·exact⟨F.plainAttrs_list,F.slot_list_append,F.type_list_append⟩
 ·exact⟨F.plainAttrs_list,F.slot_list_pop,F.type_list_pop⟩
 ·exact⟨F.plainAttrs_list,F.slot_list_extend,F.type_list_extend⟩
theorem base_of {o:Expr} {m:Str} {env:Env} {t:Sem Value} (h:noCall0 o=true):attributeBase o m env t=t:=by
 cases o with
 | Call f args kws pos=>
  cases f with
  | Name x p=>
   cases args with
   | nil=>
    cases kws with
    | nil=>cases h
    | cons _ _=>rfl
   | cons _ _=>rfl
  | _=>rfl
 | _=>rfl
section
variable {X:Cx}
theorem pe_mth0 {M:Mo} (mo:ModOk X.K M) {m:Mf} {o:Expr} {apos cpos:Pos} {to:TE} (ho:PE X o to) (hn:noCall0 o=true) (hl:(apos.endLine == cpos.line)=true):
  PE X (.Call (.Attribute o m.name apos) [] [] cpos) (fun σ H Q=>to σ H fun x H1=>mty M m x H1=true/\mthV M m x [] H1 Q):=by
 obtain⟨pa,slot,hty⟩:=mfS m
 intro pins s σ H Q I h
 refine wpAny_Call_method0_late (base_of hn) hl (thn (ho pins s σ H _ I h) fun v s1 z66q=>?_)
 obtain⟨x,H1,I1,r1,ty,q1⟩:=z66q
 obtain⟨h1,h2⟩:=tyV_is I1 r1 (mth_ty mo ty)
 exact⟨_,_,pa,slot,hty,h1,h2,Calls.callWith_builtin rfl (PySem.evalArgs_none (mth_ok mo m pins s1 σ H1 x [] v [] Q I1 r1 .nil q1))⟩
theorem pe_mth {M:Mo} (mo:ModOk X.K M) {m:Mf} {o e:Expr} {es:List Expr} {apos cpos:Pos} {to:TE} {t:TA} (ho:PE X o to) (ha:PA X (e::es) t) (hp:∀e' ∈ e::es,plainE e'=true) (hn:noCall0 o=true) (hl:(apos.endLine == cpos.line)=true) (hf:(e::es).length < 20):
  PE X (.Call (.Attribute o m.name apos) (e::es) [] cpos) (fun σ H Q=>to σ H fun x H1=>mty M m x H1=true/\t σ H1 fun vs H2=>mthV M m x vs H2 Q):=by
 obtain⟨pa,slot,hty⟩:=mfS m
 have hfew:((backTo cpos (starEach (e::es) X.env)).all (fun x=>!x.1) && (backToKw cpos (keywordEach [] X.env)).all (fun x=>x.1.isSome)
   && decide ((e::es).length + ([]:List Keyword).length + (if([]:List Keyword).isEmpty then 0 else 1) < 30))=true:=by
  rw[plain_all hp]
  simp only[Bool.true_and]
  rw[Bool.and_eq_true]
  refine⟨rfl,decide_eq_true ?_⟩
  simp at hf ⊢
  omega
 intro pins s σ H Q I h
 refine wpAny_Call_method_late (base_of hn) hfew hl rfl (thn (ho pins s σ H _ I h) fun v s1 z67q=>?_)
 obtain⟨x,H1,I1,r1,ty,q1⟩:=z67q
 obtain⟨h1,h2⟩:=tyV_is I1 r1 (mth_ty mo ty)
 refine⟨_,_,pa,slot,hty,h1,h2,?_⟩
 have hA:=ha cpos pins s1 σ H1 _ I1 q1
 have hs:=star_cons (env:=X.env) (es:=es) (hp e List.mem_cons_self)
 rw[hs]at hA ⊢
 refine Calls.callWith_builtin (by show(false || (backTo cpos (starEach es X.env)).any (·.1))=false;rw[plain_any fun e he=>hp e (List.mem_cons_of_mem _ he)];rfl) (Calls.evalArgs_plain ?_)
 exact thn hA fun us s2 z68q=>by obtain⟨vs,H2,I2,r2,q2⟩:=z68q;exact mth_ok mo m pins s2 σ H2 x vs v us Q I2 r1 r2 q2
end
section
variable (Γ:Gam) (k:Nat)
theorem chain_marks {o1 o2:CmpOp} {b c:Expr} (h:plainE c=true):lastMarks [o1,o2] [b,c]=false:=by
 show behindInMarks o2 c=false
 cases c<;>first | rfl | cases h
theorem one_marks {op:CmpOp} {b:Expr} (h:plainE b=true):behindInMarks op b=false:=by
 cases b<;>first | rfl | cases h
theorem un_negV {X:Cx}:UnR X (unaryOp .USub) (fun x H Q=>match x with | .int i=>Q (.int (-i)) H | _=>False):=by
 intro pins s σ H x v Q I r h
 split at h
 ·exact un_neg pins s σ H _ v Q I r ⟨_,rfl,h⟩
 ·exact h.elim
theorem pe_callG {X:Cx} {Γ:Gam} {sc:Scope} {k:Nat} {Ξ:XS} {f:Str} {es:List Expr} {t:TA} {p pos:Pos} (C:Ctx X Γ sc k) (xo:XOk X Ξ) (hg:Gl X f) (ho:okName f=true) (ha:PA X es t) (hp:∀e ∈ es,plainE e=true) (h0:es=[]->t=fun _ H Q=>Q [] H):
  PE X (.Call (.Name f p) es [] pos) (fun σ H Q=>(Γ.cm=true/\Γ.has f=true)/\t σ H fun vs H1=>Γ.fn f vs H1 Q fun C d H'=>Ξ C d σ H'):=by
 intro pins s σ H Q I ⟨⟨hc,hh⟩,h⟩
 obtain⟨fa,fd,ps,hm,hk,F,hb⟩:=C.g.fn f hh
 refine wpAny_Call_Name_kw (ld_glob I hg hm ?_ (okName_of ho).1)
 cases es with
 | nil=>
  rw[h0 rfl]at h
  exact PySem.W.callWith_K0 I.kIn hk (run_fnX (us:=[]) F ((C.room hc).mono (Nat.le_succ _)) hb xo I .nil h)
 | cons e es=>
  refine PySem.W.callWith_K (h₀:=X.base) I.ok.mod.kin hk (thn (ha pos pins s σ H _ I h) fun us s1 ⟨vs,H1,I1,r,q⟩=>⟨I1.kIn,?_⟩) (star_cons (hp e List.mem_cons_self)) (plain_any fun e he=>hp e (List.mem_cons_of_mem _ he))
  exact run_fnX F ((C.room hc).mono (Nat.le_succ _)) hb xo I1 r q
theorem pe_bltG {X:Cx} {M:Mo} {e:Expr} {es:List Expr} {t:TA} {p pos:Pos} {x:Str} (hc:X.calm=true) (mo:ModOk X.K M) (f:Bf) (hx:f.name=x) (hg:Gl X x) (hm:X.mg x=none) (ho:okName x=true) (ha:PA X (e::es) t) (hp:∀e' ∈ e::es,plainE e'=true):
  PE X (.Call (.Name x p) (e::es) [] pos) (tCB (bltV M f) t):=by
 subst hx
 have hb:=blt_ok hc mo f
 have hv:=boot_bf f
 have he:=star_cons (env:=X.env) (es:=es) (hp e List.mem_cons_self)
 have hpl:=plain_any (env:=X.env) (pos:=pos) (es:=es) fun e he=>hp e (List.mem_cons_of_mem _ he)
 obtain⟨o1,o2,o3⟩:=okName_of ho
 cases f with
 | str=>exact pe_callTy hb hg hm hv ha o3 o1 he hpl
 | int=>exact pe_callTy hb hg hm hv ha o3 o1 he hpl
 | list=>exact pe_callTy hb hg hm hv ha o3 o1 he hpl
 | tuple=>exact pe_callTy hb hg hm hv ha o3 o1 he hpl
 | _=>exact pe_callB hb hg hm hv ha o3 o1 he hpl
theorem plain_ix {b:Expr} (h:plainE b=true):PlainIx b:=by
 intro o i
 cases b<;>first | rfl | cases h
theorem plain_fold {e:Expr} {env:Env} (h:plainE e=true) (v:Value):foldedSetIterable e env v=pure v:=by
 cases e<;>first | rfl | cases h
theorem pe_compW {X:Cx} {M:Mo} {sc csc:Scope} {elt iter:Expr} {ifs:List Expr} {x:Str} {px pos:Pos} {fv:List (Str × Nat)} {tt:TT} {wi:L2.St->Hp->(List V->(Hp->Prop)->Hp->Prop)->Prop} {Ξ:XS} {Γ:Gam} {el:Ex} (mo:ModOk X.K M) (hc:X.calm=true) (top:TopFr X) (xo:XOk X Ξ)
  (hcf:∀y,(sc.names.lookup y=some .cell\/sc.names.lookup y=some .free)->X.env.kindOf y=some .cell\/X.env.kindOf y=some .free)
  (ok:compOk sc csc X.N x fv=true) (hi:PI X (.Name x px) iter (iSeq wi))
  (he:∀σ X',CompOf X X' csc (x::fv.map (·.1))->XOk X' (fun C d _ H'=>Ξ C d σ H')->PE X' elt (wE Γ el fun C d _ H'=>Ξ C d σ H')) (ht:∀X',CompOf X X' csc (x::fv.map (·.1))->PTs X' ifs tt)
  (hs:∀v,foldedSetIterable iter X.env v=pure v):
  PE X (.ListComp elt [⟨.Name x px,iter,ifs,0⟩] csc pos) (fun σ H Q=>wi σ H fun xs stay H1=>∀D,H1 D=none->M D=none->compW (wE Γ el fun C d _ H'=>Ξ C d σ H') tt (vars σ fv) D stay xs [] (upd H1 D (.lst [])) fun H'=>Q (.ref D) H'):=
 pe_comp (te:=fun σ=>wE Γ el fun C d _ H'=>Ξ C d σ H') mo hc top xo hcf ok hi he ht hs
theorem pts_nil {X:Cx}:PTs X [] (fun _ H Q=>Q true H):=fun pins s σ H Q I q=>by
 show wpAny _ _ (pure true) _ _ _
 exact wpAny_pure ⟨H,I,q⟩
theorem pts_one {X:Cx} {c:Expr} {t:TT} (h:PT X c t):PTs X [c] t:=fun pins s σ H Q I q=>by
 show wpAny _ _ (forIn [c] true fun c r=>if r=true then do let ok<-isTrue c X.env (eval c X.env);pure (ForInStep.yield ok)else pure (ForInStep.yield r)) _ _ _
 rw[List.forIn_cons]
 simp only[if_true,List.forIn_nil]
 refine wpAny_bind (wpAny_bind (thn (h pins s σ H Q I q) fun b s1 z=>wpAny_pure ?_))
 exact wpAny_pure z
theorem po_int {X:Cx} {e:Expr} {te:TE} (h:PE X e te):PO X (some e) (fun σ H Q=>te σ H fun x H1=>match x with | .int i=>Q (some i) H1 | _=>False):=by
 intro pins s σ H Q I hw
 rw[evalPart_some]
 refine thn (h pins s σ H _ I hw) fun u s1 z70q=>?_
 obtain⟨x,H1,I1,r1,q1⟩:=z70q
 cases x with
 | int i=>
  obtain⟨t,e⟩:=(show ∃t,u=Value.int i t from r1)
  subst e
  exact⟨some i,H1,I1,.int i t,q1⟩
 | _=>exact q1.elim
theorem pi_rng1 {X:Cx} {tg a:Expr} {ta:TE} {p pos:Pos} (hg:Gl X "range") (hm:X.mg "range" =none) (ha:PE X a ta) (hp:plainE a=true):
  PI X tg (.Call (.Name "range" p) [a] [] pos) (iSeq fun σ H k=>ta σ H fun x H1=>match x with | .int j=>-(2 ^ 62)<=j/\j < 2 ^ 62/\k ((List.range j.toNat).map fun i:Nat=>.int i) (fun _=>True) H1 | _=>False):=by
 intro pins s σ H R I ⟨kk,hw,hk⟩
 have hs:=star_cons (env:=X.env) (es:=[]) hp
 refine Call_ (ld_blt I hg hm boot_range (PyProof.Rows.callWith_type1 ?_ hs rfl))
 rw[hs]
 refine Calls.spliced_cons (thn (ha pins s σ H _ I hw) fun v s1 ⟨x,H1,I1,r1,q1⟩=>Calls.spliced_nil ?_)
 cases x with
 | int j=>
  obtain⟨t,e⟩:=(show ∃t,v=Value.int j t from r1)
  subst e
  obtain⟨q1,q2,q⟩:=q1
  refine call_range_1 (range_it I1 (by omega) (by omega) q1 q2 ?_)
  have hq:=seq_range 0 j.toNat
  simp only[Int.zero_add]at hq
  rw[Int.sub_zero]
  exact hk _ _ _ _ hq q
 | _=>exact q1.elim
theorem keyOf_kV {x:V} {k:Key} (h:keyOf x=some k):x=kV k:=by
 cases x<;>first | (cases h;rfl) | cases h
theorem pe_tupM {X:Cx} {M:Mo} (mo:ModOk X.K M) {es:List Expr} {t:TA} {x1} {pos:Pos} (h:PA X es t):PE X (.Tuple es x1 pos) (fun σ H Q=>t σ H fun xs H1=>xs.length<=sizeLine/\∀p,H1 p=none->M p=none->Q (.ref p) (upd H1 p (.tup xs))):=by
 intro pins s σ H Q I hq
 refine wpAny_Tuple_spliced (thn (h pos pins s σ H _ I hq) fun us s1 ⟨xs,H1,I1,r,z,q⟩=>⟨by rw[<-r.length];exact z,?_⟩)
 have hf:H1 s1.heap.objs.size=none:=I1.hok.fresh (Nat.le_refl _)
 have I2:Inv X pins σ (upd H1 s1.heap.objs.size (.tup xs)) {s1 with heap:=s1.heap.push {cls:=.type "tuple",data:=.seq us.toArray}}:=I1.laid (t':=s1.toks) (fun b u e=>Heap.get?_push_of_some _ e) (Nat.le_refl _) ⟨z,us,r,⟨_,Heap.get?_push_size _ rfl,rfl,_,rfl⟩⟩
 exact⟨.ref s1.heap.objs.size,_,I2,rfl,q _ hf (OffM.new (Inv.offM mo I2))⟩
theorem pe_lstM {X:Cx} {M:Mo} (mo:ModOk X.K M) {es:List Expr} {t:TA} {pos:Pos} (h:PA X es t):PE X (.List es pos) (fun σ H Q=>t σ H fun xs H1=>xs.length<=sizeLine/\∀p,H1 p=none->M p=none->Q (.ref p) (upd H1 p (.lst xs))):=by
 intro pins s σ H Q I hq
 refine wpAny_List_spliced (thn (h pos pins s σ H _ I hq) fun us s1 ⟨xs,H1,I1,r,z,q⟩=>⟨by rw[<-r.length];exact z,?_⟩)
 have hf:H1 s1.heap.objs.size=none:=I1.hok.fresh (Nat.le_refl _)
 have I2:Inv X pins σ (upd H1 s1.heap.objs.size (.lst xs)) {s1 with heap:=s1.heap.push {cls:=.type "list",data:=.seq us.toArray}}:=I1.laid (t':=s1.toks) (fun b u e=>Heap.get?_push_of_some _ e) (Nat.le_refl _) ⟨z,us,0,r,Heap.get?_push_size _ rfl⟩
 exact⟨.ref s1.heap.objs.size,_,I2,rfl,q _ hf (OffM.new (Inv.offM mo I2))⟩
theorem isin_own {X:Cx} {Γ:Gam} {sc:Scope} {k:Nat} {pins:List (Addr × Obj)} {s:Shared} {σ:L2.St} {H:Hp} {x:V} {v:Value} {c:Str} {Q:VK} (C:Ctx X Γ sc k) (I:Inv X pins σ H s)
  (q:match x with | .ref p=>(match H p with | some (.exo C d)=>hasXd H d=true/\(match Γ.sub C c with | some b=>Q (.bl b) H | none=>False) | _=>False) | _=>False) (rx:RelV x v):
  ∃u,NameVal X.mg c u/\wpAny (model X.prog X.w) X.A (call (.builtin "isinstance") [v,u]) (EP X pins σ Q) X.xe s:=by
 cases x with
 | ref p=>
  cases (show v=Value.ref p from rx)
  dsimp only at q
  split at q
  ·rename_i Ca d he
   obtain⟨qx,q⟩:=q
   split at q
   ·rename_i b hs
    obtain⟨xr,u,hv,kt⟩:=C.g.sub _ _ _ hs
    refine⟨u,hv,isexc_ok I he (fun dx e=>?_) xr kt fun tk=>⟨.bl b,H,I.tok _,rfl,q⟩⟩
    subst e
    unfold hasXd at qx
    dsimp only at qx
    split at qx
    ·rename_i fs e;exact⟨fs,e⟩
    ·cases qx
   ·exact q.elim
  ·exact q.elim
 | _=>exact q.elim
theorem pe_conV {X:Cx} {v:V} {n:Nat} {p:Pos} (h:isC v=true):PE X (.Constant (cOf v) n p) (fun _ H Q=>Q v H):=by
 cases v
 case int i=>exact pe_int
 case str x=>exact pe_str
 case bl b=>exact pe_bl
 case non=>exact pe_non
 all_goals cases h
theorem pe_globG {X:Cx} {Γ:Gam} {sc:Scope} {k:Nat} {x:Str} {p:Pos} (C:Ctx X Γ sc k) (hg:isGl sc x=true) (ho:okName x=true):
  PE X (.Name x p) (fun _ H Q=>match Γ.con x with | some v=>Q v H | none=>False):=by
 intro pins s σ H Q I q
 cases e:Γ.con x with
 | none=>rw[e]at q;exact q.elim
 | some v=>
  rw[e]at q
  obtain⟨u,hu,ru⟩:=C.g.con _ _ e
  exact ld_glob I (C.gl _ hg) hu ⟨v,H,I,ru,q⟩ (okName_of ho).1
theorem pe_varG {X:Cx} {Γ:Gam} {sc:Scope} {k:Nat} {i:Nat} {p:Pos} (C:Ctx X Γ sc k) (hi:decide (i < X.N.length)=true) (h:isVis sc (nx X.N i)=true/\okName (nx X.N i)=true):
  PE X (.Name (nx X.N i) p) (fun σ H Q=>match σ[i]? with | some (some v)=>Q v H | _=>False):=by
 obtain⟨o1,o2,o3⟩:=okName_of h.2
 refine PE.of (pe_var (nx_get hi) (C.vis _ h.1) o1 o2) fun σ H Q q=>?_
 match e:σ[i]?,q with
 | some (some v),q=>exact⟨v,e,q⟩
theorem pe_fldG {X:Cx} {Γ:Gam} {sc:Scope} {k:Nat} {a:Expr} {ta:TE} {f:Str} {p:Pos} (C:Ctx X Γ sc k) (hn:noCall0 a=true) (ha:PE X a ta):
  PE X (.Attribute a f p) (fun σ H Q=>ta σ H fun x H1=>match x with
   | .ref p=>match H1 p with
    | some (.exo C (some d))=>match H1 d with | some (.xd fs)=>Γ.fo C f=true/\(match fs.lookup f with | some v=>Q v H1 | none=>False) | _=>False
    | _=>False
   | _=>False):=by
 intro pins s σ H Q I q
 refine attr_of (base_of hn) (thn (ha pins s σ H _ I q) fun u s1 z74q=>?_)
 obtain⟨x,H1,I1,rx,q1⟩:=z74q
 cases x with
 | ref p=>
  cases (show u=Value.ref p from rx)
  dsimp only at q1
  split at q1
  ·rename_i Ca d he
   split at q1
   ·rename_i fs hd
    obtain⟨qf,q1⟩:=q1
    obtain⟨xr,na⟩:=C.g.fo _ _ qf
    split at q1
    ·rename_i v hl
     exact getexc_ok I1 he hd xr na hl fun u s2 I2 ru=>⟨v,H1,I2,ru,q1⟩
    ·exact q1.elim
   ·exact q1.elim
  ·exact q1.elim
 | _=>exact q1.elim
theorem pe_isinG {X:Cx} {Γ:Gam} {sc:Scope} {k:Nat} {a:Expr} {ta:TE} {T:Ty} {p py pos:Pos} (C:Ctx X Γ sc k) (hg:Gl X "isinstance") (ha:PE X a ta) (hp:plainE a=true) (hy:Gl X T.name) (ho:okName T.name=true):
  PE X (.Call (.Name "isinstance" p) [a,.Name T.name py] [] pos) (fun σ H Q=>ta σ H fun x H1=>match(generalizing:=false) T with
   | .own c=>(match x with | .ref p=>(match H1 p with | some (.exo C d)=>hasXd H1 d=true/\(match Γ.sub C c with | some b=>Q (.bl b) H1 | none=>False) | _=>False) | _=>False)
   | _=>False):=by
 refine pe_isin C hg ha hp hy ho fun pins s σ H x v Q I rx q=>?_
 cases T with
 | own c=>exact isin_own C I q rx
 | str=>exact q.elim
 | int=>exact q.elim
 | bool=>exact q.elim
 | list=>exact q.elim
 | tuple=>exact q.elim
 | dict=>exact q.elim
theorem run_vc {X:Cx} {pins:List (Addr × Obj)} {σ:L2.St} {H:Hp} {s:Shared} {Q:VK} {us:List Value} {vs:List V} {k:Nat} {f:Addr} {vc:Addr->Sp} {Ξ:XS} (F:VcOk X.prog X.w X.K X.mg X.base k vc) (hr:Room k X.A) (xo:XOk X Ξ)
  (I:Inv X pins σ H s) (r:Vals vs us) (h:vc f vs H Q fun C d H'=>Ξ C d σ H'):wpAny (model X.prog X.w) X.A (call (.ref f) us) (EP X pins σ Q) X.xe s:=by
 refine wpAny_call (codeAny_mono (F.run X.A X.stack s H f us vs Q (fun C d H'=>Ξ C d σ H') hr I.env0 r h) fun r s' hq=>?_)
 cases r with
 | error e=>
  obtain⟨ea,C,d,H',e1,fl,q⟩:=flew_of (E:=fun C d H'=>Ξ C d σ H') (e:=e) (s':=s') I hq
  subst e1
  exact xo pins σ H' ea C d s' fl q
 | ok fl=>
  cases fl with
  | ret u=>exact I.after hq
  | next=>exact False.elim hq
  | brk=>exact False.elim hq
  | cont=>exact False.elim hq
theorem pe_callV {X:Cx} {Γ:Gam} {sc:Scope} {k:Nat} {Ξ:XS} {f:Ex} {ast:Expr} {es:List Expr} {tf:TE} {t:TA} {pos:Pos} (C:Ctx X Γ sc k) (xo:XOk X Ξ) (hf:isFv f=true) (hF:PE X (bE X.N f ast) tf) (ha:PA X es t) (hp:∀e ∈ es,plainE e=true) (h0:es.length ≠ 0):
  PE X (.Call (bE X.N f ast) es [] pos) (fun σ H Q=>Γ.cm=true/\tf σ H fun x H1=>match x with
   | .ref a=>t σ H1 fun vs H2=>Γ.vc a vs H2 Q fun C d H'=>Ξ C d σ H'
   | _=>False):=by
 intro pins s σ H Q I ⟨hc,h⟩
 have key:wpAny (model X.prog X.w) X.A (eval (bE X.N f ast) X.env) (fun v s₁=>wpAny (model X.prog X.w) X.A (callWith pos v [] (backTo pos (starEach es X.env)) []) (EP X pins σ Q) X.xe s₁) X.xe s:=by
  refine thn (hF pins s σ H _ I h) fun v s1 z75q=>?_
  obtain⟨x,H1,I1,r1,q1⟩:=z75q
  cases x with
  | ref a=>
   obtain rfl:v=Value.ref a:=r1
   cases es with
   | nil=>exact absurd rfl h0
   | cons e es=>
    have hA:=ha pos pins s1 σ H1 _ I1 q1
    have hs:=star_cons (env:=X.env) (es:=es) (hp e List.mem_cons_self)
    rw[hs]at hA ⊢
    refine PySem.W.callWith_of (by show((false || (backTo pos (starEach es X.env)).any (·.1)) || false)=false;rw[plain_any fun e he=>hp e (List.mem_cons_of_mem _ he)];rfl) PySem.W.keeps_F (Calls.evalArgs_plain ?_)
    exact thn hA fun us s2 z76q=>by obtain⟨vs,H2,I2,r2,q2⟩:=z76q;exact⟨C.g.vc.fnat _ _ _ _ _ _ I2.kIn I2.hok q2,run_vc C.g.vc ((C.room hc).mono (Nat.le_succ _)) xo I2 r2 q2⟩
  | _=>exact q1.elim
 cases f with
 | var i=>exact Call_ key
 | idx a b=>exact Call_ key
 | _=>cases hf
theorem dictOf_keeps {P:Program} {w:World} {h h':Heap} {a:Addr} {vs:List (Key × Value)} (d:h.DictOf (mixKind P w) a vs) (k:∀b o,h.get? b=some o->h'.get? b=some o):h'.DictOf (mixKind P w) a vs:=
 by obtain⟨o,es,ep,e,r⟩:=d;exact⟨o,es,ep,k _ _ e,r⟩
theorem pe_gidx {X:Cx} {Γ:Gam} {sc:Scope} {k:Nat} {x:Str} {b:Expr} {tb:TE} {p pos:Pos} (C:Ctx X Γ sc k) (hg:isGl sc x=true) (ho:okName x=true) (hb:PE X b tb) (hs:PlainIx b):
  PE X (.Subscript (.Name x p) b pos) (fun σ H Q=>match Γ.gd x with
   | some kvs=>tb σ H fun y H1=>(match keyOf y with | some k=>(match valV kvs k with | some v=>Q v H1 | none=>False) | none=>False)
   | none=>False):=by
 intro pins s σ H Q I h
 cases e:Γ.gd x with
 | none=>rw[e]at h;exact h.elim
 | some kvs=>
  rw[e]at h
  obtain⟨a,vs,hm,kv,dd⟩:=C.g.gd x kvs e
  have ha:PE X (.Name x p) (fun _ H Q=>Q (.ref a) H):=fun pins s σ H Q I q=>ld_glob I (C.gl _ hg) hm ⟨.ref a,H,I,rfl,q⟩ (okName_of ho).1
  refine Subscript_ (binT (R:=fun x y H1=>x=.ref a/\(match keyOf y with | some k=>(match valV kvs k with | some v=>Q v H1 | none=>False) | none=>False)) ha hb I ?_ fun v u s2 x y H2 I2 rx ry q=>?_)
  ·exact(show tb σ H _ from by simpa using h)
  ·obtain⟨rfl,q⟩:=q
   obtain rfl:v=Value.ref a:=rx
   cases ek:keyOf y with
   | none=>rw[ek]at q;exact q.elim
   | some kk=>
    rw[ek]at q
    cases ev:valV kvs kk with
    | none=>simp only[ev]at q
    | some v=>
     simp only[ev]at q
     have d2:=dictOf_keeps dd I2.bk
     obtain⟨w',hw,rw'⟩:=RelO.some_of (v:=v) (o:=valueAt vs kk) (by rw[<-ev];exact kv.val kk)
     refine tail_any d2.mapOf.typeIs PySem.F.slot_dict_getitem.lookup (wpAny_getItem_of (kV_is (by rw[<-keyOf_kV ek];exact ry)) d2.mapOf hw ⟨v,H2,I2.tok _,rw',q⟩) (hs _ _)
theorem and_b {N:List Str} {b:Ex} {tl:List Expr} {p:Pos} (h:isAnd b=true):∃x r,bE N b (.BoolOp .And tl p)=.BoolOp .And (x::r) p:=by
 cases b<;>first | exact⟨_,_,rfl⟩ | cases h
theorem or_b {N:List Str} {b:Ex} {tl:List Expr} {p:Pos} (h:isOr b=true):∃x r,bE N b (.BoolOp .Or tl p)=.BoolOp .Or (x::r) p:=by
 cases b<;>first | exact⟨_,_,rfl⟩ | cases h
theorem row_and {N:List Str} {b:Ex} {a:Expr} {l:Bool} {e1:Expr} {tl:List Expr} {p:Pos} {o1 o2:Bool} {P:Expr->Prop} (h:cond l o1 (isAnd b && o2)=true)
  (h1:o1=true->P (.BoolOp .And [a,bE N b e1] p)) (h2:o2=true->∀x r,bE N b (.BoolOp .And tl p)=.BoolOp .And (x::r) p->P (.BoolOp .And (a::x::r) p)):
  P (.BoolOp .And (a::cond l [bE N b e1] (ek (bE N b (.BoolOp .And tl p)))) p):=by
 cases l with
 | true=>exact h1 h
 | false=>
  obtain⟨h,ho⟩:=a2 h
  obtain⟨x,r,e⟩:=and_b (N:=N) (tl:=tl) (p:=p) h
  rw[e]
  exact h2 ho x r e
theorem row_or {N:List Str} {b:Ex} {a:Expr} {l:Bool} {e1:Expr} {tl:List Expr} {p:Pos} {o1 o2:Bool} {P:Expr->Prop} (h:cond l o1 (isOr b && o2)=true)
  (h1:o1=true->P (.BoolOp .Or [a,bE N b e1] p)) (h2:o2=true->∀x r,bE N b (.BoolOp .Or tl p)=.BoolOp .Or (x::r) p->P (.BoolOp .Or (a::x::r) p)):
  P (.BoolOp .Or (a::cond l [bE N b e1] (ek (bE N b (.BoolOp .Or tl p)))) p):=by
 cases l with
 | true=>exact h1 h
 | false=>
  obtain⟨h,ho⟩:=a2 h
  obtain⟨x,r,e⟩:=or_b (N:=N) (tl:=tl) (p:=p) h
  rw[e]
  exact h2 ho x r e
theorem pe_bltN {X:Cx} {Γ:Gam} {sc:Scope} {k:Nat} {f:Bf} {es:List Expr} {t:TA} {p pos:Pos} (C:Ctx X Γ sc k) (hg:isGl sc f.name=true) (ho:okName f.name=true) (h0:es.length ≠ 0) (ha:PA X es t) (hp:∀e' ∈ es,plainE e'=true):
  PE X (.Call (.Name f.name p) es [] pos) (fun σ H Q=>Γ.cm=true/\t σ H fun vs H1=>bltV Γ.mod f vs H1 Q):=by
 intro pins s σ H Q I ⟨hc,q⟩
 cases es with
 | nil=>exact absurd rfl h0
 | cons e es=>exact pe_bltG (C.calm hc) C.g.mod f rfl (C.gl _ hg) (C.g.no _ (bf_in f)) ho ha hp pins s σ H Q I q
theorem pe_mthN {X:Cx} {Γ:Gam} {m:Mf} {o:Expr} {es:List Expr} {apos cpos:Pos} {to:TE} {t:TA} (mo:ModOk X.K Γ.mod) (ho:PE X o to) (hn:noCall0 o=true) (hl:(apos.endLine == cpos.line)=true) (hf:es.length < 20) (ha:PA X es t) (hp:∀e' ∈ es,plainE e'=true) (h0:es=[]->t=fun _ H Q=>Q [] H):
  PE X (.Call (.Attribute o m.name apos) es [] cpos) (fun σ H Q=>to σ H fun x H1=>mty Γ.mod m x H1=true/\t σ H1 fun vs H2=>mthV Γ.mod m x vs H2 Q):=by
 cases es with
 | nil=>rw[h0 rfl];exact pe_mth0 mo ho hn hl
 | cons e es=>exact pe_mth mo ho ha hp hn hl hf
theorem nil_of {N:List Str} {Γ:Gam} {Ξ:XS} {es:List Expr}:∀ (args:Exs),bEs N args es=[]->wEs Γ args Ξ=fun _ H Q=>Q [] H
 | .nil,_=>rfl
 | .cons _ _,h=>nomatch (show _::_=[]from h)
theorem cN {P:List Str->Prop} {a b:List Str} (e:a=b) (h:P a):P b:=e ▸ h
theorem pt_val {X:Cx} {Γ:Gam} {sc:Scope} {k:Nat} {e:Expr} {te:TE} {t:TT} (C:Ctx X Γ sc k) (h:PE X e te) (hl:∀whole,isTrue e X.env whole=(do let v<-whole;standAt e.pos;holding [v] (truthy v))) (i:∀σ H Q,t σ H Q->te σ H fun x H1=>truV Γ.mod x H1 fun k=>Q k H1):PT X e t:=
 PT.of (pt_tru C.g.mod h hl) i
mutual
theorem sE:(e:Ex)->∀ {X:Cx} {sc:Scope} {Ξ:XS} {ast:Expr},Ctx X Γ sc k->XOk X Ξ->oE sc X.N e ast=true->PE X (bE X.N e ast) (wE Γ e Ξ)
 | .var i=>fun C xo h=>pe_varG C (a2 h).1 (a2 (a2 h).2)
 | .con v=>fun C xo h=>pe_conV h
 | .glob x=>fun C xo h=>pe_globG C (a2 h).1 (a2 h).2
 | .bin op a b=>fun C xo h=>pe_op (bin_ok C.g.mod op) (sE a C xo (a2 h).1) (sE b C xo (a2 h).2)
 | .neg a=>fun C xo h=>pe_un un_negV (sE a C xo h)
 | .cmp op a b=>fun C xo h=>pe_cmpR (cmp_ok C.un C.g.mod op) (sE a C xo (a2 h).1) (sE b C xo (a2 h).2) (one_marks (bE_plain b))
 | .cmp2 o1 o2 a b c=>fun C xo h=>pe_chain (cmp_ok C.un C.g.mod o1) (cmp_ok C.un C.g.mod o2) (sE a C xo (a2 h).1) (sE b C xo (a2 (a2 h).2).1) (sE c C xo (a2 (a2 h).2).2) (chain_marks (bE_plain c))
 | .and a b=>fun C xo h=>row_and (P:=fun e=>PE _ e (wE Γ (.and a b) _)) (a2 h).2
   (fun h2=>pe_andV C.g.mod (sE a C xo (a2 h).1) (pe_one (sE b C xo h2)))
   (fun h2 x r e=>pe_andV C.g.mod (sE a C xo (a2 h).1) (e ▸ sE b C xo h2))
 | .or a b=>fun C xo h=>row_or (P:=fun e=>PE _ e (wE Γ (.or a b) _)) (a2 h).2
   (fun h2=>pe_orV C.g.mod (sE a C xo (a2 h).1) (pe_one (sE b C xo h2)))
   (fun h2 x r e=>pe_orV C.g.mod (sE a C xo (a2 h).1) (e ▸ sE b C xo h2))
 | .not a=>fun C xo h=>pe_notV C.g.mod (sE a C xo h)
 | .ite c a b=>fun C xo h=>pe_ifExp (sT c C xo (a2 h).1) (sE a C xo (a2 (a2 h).2).1) (sE b C xo (a2 (a2 h).2).2)
 | .call f args=>fun C xo h=>pe_callG C xo (C.gl _ (a2 (a2 h).1).1) (a2 (a2 h).1).2 (sEs args C xo (a2 h).2) (bEs_plain args) (nil_of args)
 | .blt f args=>fun C xo h=>pe_bltN C (a2 (a2 h).1).1 (a2 (a2 h).1).2 (by rw[bEs_len];exact of_decide_eq_true (a2 (a2 (a2 h).2).1).2) (sEs args C xo (a2 (a2 h).2).2) (bEs_plain args)
 | .mth m o args=>fun C xo h=>pe_mthN C.g.mod (sE o C xo (a2 (a2 (a2 h).2).2).1) (a2 (a2 h).1).1 (a2 (a2 h).1).2 (by rw[bEs_len];exact of_decide_eq_true (a2 (a2 h).2).1) (sEs args C xo (a2 (a2 (a2 h).2).2).2) (bEs_plain args) (nil_of args)
 | .isin a T=>fun C xo h=>pe_isinG C (C.gl _ (a2 (a2 h).1).1) (sE a C xo (a2 h).2) (bE_plain a) (C.gl _ (a2 (a2 (a2 h).1).2).1) (a2 (a2 (a2 h).1).2).2
 | .fld a f=>fun C xo h=>pe_fldG C (a2 h).1 (sE a C xo (a2 h).2)
 | .idx a b=>fun C xo h=>pe_ix (idx_ok C.g.mod) (sE a C xo (a2 h).1) (sE b C xo (a2 h).2) (plain_ix (bE_plain b))
 | .slc a lo hi=>fun C xo h=>pe_slice (slc_ok C.g.mod) (sE a C xo (a2 h).1) (sP lo C xo (a2 (a2 h).2).1) (sP hi C xo (a2 (a2 h).2).2)
 | .tup es=>fun C xo h=>pe_tupM C.g.mod (sEs es C xo h)
 | .lst es=>fun C xo h=>pe_lstM C.g.mod (sEs es C xo h)
 | .comp x fv it elt ifs=>fun C xo h pins s σ H Q I q=>
  pe_compW (Γ:=Γ) (el:=elt) C.g.mod (C.calm q.1) C.top xo C.cf (a2 (a2 h).1).1 (sI it C xo (a2 (a2 h).2).1)
   (fun σ X' c xc=>cN (P:=fun N=>PE X' (bE N elt _) _) c.N (sE elt (C.comp c q.1) xc (cN (P:=fun N=>oE _ N elt _=true) c.N.symm (a2 (a2 (a2 h).2).2).1)))
   (fun X' c=>cN (P:=fun N=>PTs X' (bEs N ifs _) _) c.N (sTs ifs (C.comp c q.1) XOk.no (cN (P:=fun N=>oEs _ N ifs _=true) c.N.symm (a2 (a2 (a2 h).2).2).2) (of_decide_eq_true (a2 (a2 h).1).2)))
   (plain_fold (bI_plain it)) pins s σ H Q I q.2
 | .callv f args=>fun C xo h=>pe_callV C xo (a2 (a2 h).1).1 (sE f C xo (a2 (a2 h).2).1) (sEs args C xo (a2 (a2 h).2).2) (bEs_plain args) (by rw[bEs_len];exact of_decide_eq_true (a2 (a2 h).1).2)
 | .gidx x b=>fun C xo h=>pe_gidx C (a2 (a2 h).1).1 (a2 (a2 h).1).2 (sE b C xo (a2 h).2) (plain_ix (bE_plain b))
theorem sT:(e:Ex)->∀ {X:Cx} {sc:Scope} {Ξ:XS} {ast:Expr},Ctx X Γ sc k->XOk X Ξ->oE sc X.N e ast=true->PT X (bE X.N e ast) (wT Γ e Ξ)
 | .and a b=>fun C xo h=>row_and (P:=fun e=>PT _ e (wT Γ (.and a b) _)) (a2 h).2
   (fun h2=>PW.pt (pw_and (sT a C xo (a2 h).1) (pw_and1 (sT b C xo h2))))
   (fun h2 x r e=>PW.pt (pw_and (sT a C xo (a2 h).1) fun _=>(show PT _ (.BoolOp .And (x::r) _) (wT Γ b _)from e ▸ sT b C xo h2)))
 | .or a b=>fun C xo h=>row_or (P:=fun e=>PT _ e (wT Γ (.or a b) _)) (a2 h).2
   (fun h2=>PW.pt (pw_or (sT a C xo (a2 h).1) (pw_or1 (sT b C xo h2))))
   (fun h2 x r e=>PW.pt (pw_or (sT a C xo (a2 h).1) fun _=>(show PT _ (.BoolOp .Or (x::r) _) (wT Γ b _)from e ▸ sT b C xo h2)))
 | .not a=>fun C xo h=>pt_not (sT a C xo h)
 | .ite c a b=>fun C xo h=>pt_ite (sT c C xo (a2 h).1) (sT a C xo (a2 (a2 h).2).1) (sT b C xo (a2 (a2 h).2).2)
 | .cmp op a b=>fun C xo h=>pt_cmpR (cmp_ok C.un C.g.mod op) (sE a C xo (a2 h).1) (sE b C xo (a2 h).2) (one_marks (bE_plain b))
 | .cmp2 o1 o2 a b c=>fun C xo h=>pt_chain (cmp_ok C.un C.g.mod o1) (cmp_ok C.un C.g.mod o2) (sE a C xo (a2 h).1) (sE b C xo (a2 (a2 h).2).1) (sE c C xo (a2 (a2 h).2).2) (chain_marks (bE_plain c))
 | .var i=>fun C xo h=>pt_val C (sE (.var i) C xo h) (fun _=>rfl) fun σ H Q q=>q
 | .call f args=>fun C xo h=>pt_val C (sE (.call f args) C xo h) (fun _=>rfl) fun σ H Q q=>q
 | .blt f args=>fun C xo h=>pt_val C (sE (.blt f args) C xo h) (fun _=>rfl) fun σ H Q q=>q
 | .mth m o args=>fun C xo h=>pt_val C (sE (.mth m o args) C xo h) (fun _=>rfl) fun σ H Q q=>q
 | .isin a T=>fun C xo h=>pt_val C (sE (.isin a T) C xo h) (fun _=>rfl) fun σ H Q q=>by cases T<;>exact q
 | .idx a b=>fun C xo h=>pt_val C (sE (.idx a b) C xo h) (fun _=>rfl) fun σ H Q q=>q
 | .con v=>fun C xo h=>pt_val C (sE (.con v) C xo h) (fun _=>rfl) fun σ H Q q=>q
 | .glob x=>fun C xo h=>PT.never fun σ H Q q=>q
 | .bin op a b=>fun C xo h=>PT.never fun σ H Q q=>q
 | .neg a=>fun C xo h=>PT.never fun σ H Q q=>q
 | .fld a f=>fun C xo h=>PT.never fun σ H Q q=>q
 | .slc a lo hi=>fun C xo h=>PT.never fun σ H Q q=>q
 | .tup es=>fun C xo h=>PT.never fun σ H Q q=>q
 | .lst es=>fun C xo h=>PT.never fun σ H Q q=>q
 | .comp x fv it elt ifs=>fun C xo h=>PT.never fun σ H Q q=>q
 | .callv f args=>fun C xo h=>PT.never fun σ H Q q=>q
 | .gidx x b=>fun C xo h=>PT.never fun σ H Q q=>q
theorem sP:(es:Exs)->∀ {X:Cx} {sc:Scope} {Ξ:XS} {ast:Expr},Ctx X Γ sc k->XOk X Ξ->oEs sc X.N es [ast]=true->PO X (bEs X.N es [ast]).head? (wP Γ es Ξ)
 | .nil=>fun C xo h=>po_none
 | .cons e .nil=>fun C xo h=>po_int (sE e C xo (a2 h).1)
 | .cons e (.cons f r)=>fun C xo h pins s σ H Q I q=>False.elim q
theorem sTs:(es:Exs)->∀ {X:Cx} {sc:Scope} {Ξ:XS} {asts:List Expr},Ctx X Γ sc k->XOk X Ξ->oEs sc X.N es asts=true->es.len<=1->PTs X (bEs X.N es asts) (wTs Γ es Ξ)
 | .nil=>fun C xo h hl=>pts_nil
 | .cons e .nil=>fun C xo h hl=>pts_one (sT e C xo (a2 h).1)
 | .cons e (.cons _ r)=>fun C xo h hl=>absurd (Nat.le_of_succ_le_succ hl) (Nat.not_succ_le_zero _)
theorem sI:(it:Ix)->∀ {X:Cx} {sc:Scope} {Ξ:XS} {tg ast:Expr},Ctx X Γ sc k->XOk X Ξ->oI sc X.N it ast=true->PI X tg (bI X.N it ast) (iSeq (wI Γ it Ξ))
 | .ex e=>fun C xo h pins s σ H R I ⟨kk,hw,hk⟩=>
  thn (sE e C xo h pins s σ H _ I hw) fun v s1 z78q=>by obtain⟨x,H1,I1,r1,q1⟩:=z78q;exact pi_val C.g.mod I1 r1 (iterV_mono q1 fun xs stay q J sq=>hk J xs stay H1 sq q)
 | .rng1 a=>fun C xo h=>pi_rng1 (C.gl _ (a2 h).1) (C.g.no _ in_range) (sE a C xo (a2 h).2) (bE_plain a)
theorem sEs:(es:Exs)->∀ {X:Cx} {sc:Scope} {Ξ:XS} {asts:List Expr},Ctx X Γ sc k->XOk X Ξ->oEs sc X.N es asts=true->PA X (bEs X.N es asts) (wEs Γ es Ξ)
 | .nil=>fun C xo h=>pa_nil
 | .cons e r=>fun C xo h=>pa_cons (sE e C xo (a2 h).1) (sEs r C xo (a2 h).2) (star_cons (bE_plain e))
end
end
end Sw
namespace Sw
set_option genInjectivity false
open PySem PySem.Spec PyProof.Rows L2
open PySem.W (Frag keepIn ktsIn mroIn kitOne)
structure SCtx (X:Cx) (Γ:Gam) (sc:Scope) (k:Nat):Prop extends Ctx X Γ sc k where
 nd:X.N.Nodup
 loc:∀x,isLoc sc x=true->Loc X.env.scope x/\(X.fn x=true\/X.env.scope.names.lookup x=some .local)
 lcl:∀x,sc.names.lookup x=some .local->X.env.scope.names.lookup x=some .local
 stk:X.stack=X.env::X.outer/\X.env.frame=some X.env.locals
 ru:RoomU (k + 1) X.A
 ih:Γ.hd=true->InHand X
section
variable {X:Cx} {Γ:Gam} {sc:Scope} {k:Nat}
theorem SCtx.nox (C:SCtx X Γ sc k):SCtx X.nox Γ sc k:=⟨⟨C.g,C.room,C.calm,C.un,C.vis,C.gl,C.cf,C.top⟩,C.nd,C.loc,C.lcl,C.stk,C.ru,C.ih⟩
theorem SCtx.deep (C:SCtx X Γ sc k) (pins:List (Addr × Obj)) (E:Value->Shared->Prop):SCtx (Cx.deep X pins E) Γ sc k:=⟨⟨C.g,C.room,C.calm,C.un,C.vis,C.gl,C.cf,C.top⟩,C.nd,C.loc,C.lcl,C.stk,C.ru,fun h=>by obtain⟨h0,o0,vs0,h1,h2,h3⟩:=C.ih h;exact⟨h0,o0,vs0,h1,List.mem_append_left _ h2,h3⟩⟩
theorem SCtx.held (C:SCtx X Γ sc k) (e:Addr):SCtx (Cx.held X e) Γ.hush sc k:=
 ⟨⟨C.g.hush,fun h=>absurd (show false=true from h) Bool.false_ne_true,fun h=>absurd (show false=true from h) Bool.false_ne_true,by show(X.A.mark _).units + 64 < cLine;rw[mark_units];exact C.un,C.vis,C.gl,C.cf,C.top⟩,C.nd,C.loc,C.lcl,C.stk,C.ru.mark,fun h=>absurd (show false=true from h) Bool.false_ne_true⟩
theorem SCtx.hold (C:SCtx X Γ sc k) (e:Addr) (o:Obj) {vs:Array Value} (h1:o.data=.fields vs) (h2:vs[2]?=some .none):SCtx (Cx.hold X e o) Γ.grip sc k:=
 ⟨⟨C.g.grip,fun h=>absurd (show false=true from h) Bool.false_ne_true,fun h=>absurd (show false=true from h) Bool.false_ne_true,by show(X.A.mark _).units + 64 < cLine;rw[mark_units];exact C.un,C.vis,C.gl,C.cf,C.top⟩,C.nd,C.loc,C.lcl,C.stk,C.ru.mark,
  fun _=>⟨e,o,vs,by first | rfl | (unfold Around.mark;rfl),List.mem_append_right _ (by simp),h1,h2⟩⟩
theorem PS.nox {st:Stmt} {t:TS} (h:PS X.nox st t):PS X st t:=fun pins s σ H D I hw=>
 wpAny_mono (h pins s σ H D (I.wish _) hw) (fun _ _ q=>q.unwish) fun _ _ z=>False.elim z
theorem no_swap {e:Expr} {t:Option Expr} {n:Nat} {env:Env} (h:notComp e=true):swapsWith e t n env=pure false:=by
 cases e<;>first | rfl | cases h
theorem for_seq {i:Nat} {tb:TS} {J:It} {xs:List V} {stay:Hp->Prop} {D:Ends} {σ:L2.St} {H:Hp} (sq:SeqIt J xs stay) (h:forW i tb stay xs D σ H):
  ∃W:Nat->Nat->L2.St->Hp->Prop,(∃ m,W 0 m σ H)/\∀n m σ H,W n m σ H->
   (J.stop n H/\D.nx σ H)\/(J.go n H/\∃N:L2.St->Hp->Prop,(∀ σ' H',N σ' H'->∃m',m' < m/\W (n + 1) m' σ' H')/\∀x H',J.yld n H x H'->gName i x σ H' fun σ2 H2=>tb {D with nx:=N,ct:=N,bk:=D.nx} σ2 H2):=by
 refine⟨fun n m σ H=>m=xs.length - n/\n<=xs.length/\forW i tb stay (xs.drop n) D σ H,⟨xs.length,by simp,Nat.zero_le _,by simpa using h⟩,?_⟩
 rintro n m σ H ⟨rfl,hn,hw⟩
 cases e:xs.drop n with
 | nil=>
  rw[e]at hw
  have hle:xs.length<=n:=by simpa using e
  exact .inl ⟨sq.stop n H hw.1 hle,hw.2⟩
 | cons v r=>
  rw[e]at hw
  have hlt:n < xs.length:=by
   have:=congrArg List.length e
   simp at this
   omega
  have hvi:xs[n]?=some v:=by
   have:=congrArg (fun l=>l[0]?) e
   simpa using this
  have hdr:xs.drop (n + 1)=r:=by
   have:=congrArg List.tail e
   simpa[List.tail_drop]using this
  refine .inr ⟨sq.go n H hw.1 hlt,forW i tb stay r D,fun σ' H' z=>⟨xs.length - (n + 1),by omega,rfl,hlt,by rw[hdr];exact z⟩,fun x H' y=>?_⟩
  obtain⟨eH,ev⟩:=sq.yld n H x H' hlt y hw.1
  subst eH
  rw[hvi]at ev
  obtain rfl:v=x:=Option.some.inj ev
  exact hw.2
end
section
variable {X:Cx} {Γ:Gam} {sc:Scope} {k:Nat} {M:Mo}
theorem stoV_ok (hu:X.A.units + 64 < cLine):PSet X (fun x k v H Q=>stoV x k v H Q):=by
 intro pins s σ H o i v ov iv u Q I ro ri rv h
 unfold stoV at h
 cases o with
 | ref p=>
  dsimp only at h
  split at h
  ·rename_i xs e
   cases i with
   | int j=>
    dsimp only at h
    split at h
    ·rename_i n en
     exact set_list pins s σ H _ _ v ov iv u Q I ro ri rv ⟨_,_,_,_,rfl,rfl,e,en,h⟩
    ·exact h.elim
   | _=>exact h.elim
  ·exact h.elim
 | _=>exact h.elim
theorem ps_sto {o i value:Expr} {to ti tv:TE} {pos pos':Pos} (hu:X.A.units + 64 < cLine) (ho:PE X o to) (hi:PE X i ti) (hv:PE X value tv) (hs:swapsWith value (some (.Subscript o i pos')) pos.line X.env=pure false):
  PS X (.Assign [.Subscript o i pos'] value pos) (fun D σ H=>tv σ H fun v H1=>to σ H1 fun x H2=>ti σ H2 fun k H3=>stoV x k v H3 (D.nx σ)):=by
 intro pins s σ H D I h
 refine wpAny_Assign_Subscript (thn (hv pins s σ H _ I h) fun r s1 ⟨v,H1,I1,rv,q1⟩=>thn (ho pins s1 σ H1 _ I1 q1) fun u s2 ⟨x,H2,I2,rx,q2⟩=>thn (hi pins s2 σ H2 _ I2 q2) fun iv s3 z81q=>?_) hs
 obtain⟨y,H3,I3,ry,q3⟩:=z81q
 exact thn (stoV_ok hu pins s3 σ H3 x y v u iv r _ I3 rx ry rv q3) fun _ s4 z82q=>by obtain⟨H4,I4,q4⟩:=z82q;exact⟨σ,H4,I4,q4⟩
noncomputable def gNames:List Nat->TGs
 | []=>gNil
 | i::is=>gCons (gName i) (gNames is)
theorem gNames_all:∀ {is:List Nat} {xs:List V} {σ:L2.St} {H:Hp} {Q:L2.St->Hp->Prop},xs.length=is.length->Q (setAll σ is xs) H->gNames is xs σ H Q
 | [],[],σ,H,Q,_,q=>⟨rfl,q⟩
 | i::is,x::xs,σ,H,Q,hl,q=>⟨x,xs,rfl,gNames_all (by simpa using hl) q⟩
 | [],_::_,_,_,_,hl,_=>by simp at hl
 | _::_,[],_,_,_,hl,_=>by simp at hl
theorem bN_map:∀ (is:List Nat) {ts:List Expr} {N:List Str} {env:Env},assignEach (bN N is ts) env=(bN N is ts).map fun t=>(false,assign t env)
 | [],_,_,_=>rfl
 | _::is,ts,N,env=>congrArg (_::·) (bN_map is (ts:=ts.tail) (N:=N) (env:=env))
theorem bN_length:∀ (is:List Nat) {ts:List Expr} {N:List Str},(bN N is ts).length=is.length
 | [],_,_=>rfl
 | _::is,_,_=>congrArg (·+ 1) (bN_length is)
theorem bN_len {is:List Nat} {ts:List Expr} {N:List Str} {env:Env}:(assignEach (bN N is ts) env).length=is.length:=by
 rw[bN_map,List.length_map,bN_length]
theorem bN_star {is:List Nat} {ts:List Expr} {N:List Str} {env:Env}:(assignEach (bN N is ts) env).findIdx? (·.1)=none:=by
 rw[bN_map,List.findIdx?_eq_none_iff]
 intro x hx
 obtain⟨t,_,rfl⟩:=List.mem_map.mp hx
 rfl
theorem pgs_names (C:SCtx X Γ sc k):∀ {is:List Nat} {ts:List Expr},oN sc X.N is=true->PGs X (bN X.N is ts) (gNames is)
 | [],_,_=>pgs_nil
 | i::is,_,h=>pgs_cons (pg_name C.nd (nx_get (a2 (a2 h).1).1) (C.loc _ (a2 (a2 h).1).2).1 (C.loc _ (a2 (a2 h).1).2).2) (pgs_names C (a2 h).2) rfl
theorem ps_asgT (mo:ModOk X.K M) (hc:X.calm=true) {is:List Nat} {ts:List Expr} {e:Expr} {te:TE} {kt} {pt pos:Pos} (hp:PGs X ts (gNames is)) (hn:(assignEach ts X.env).length=is.length) (hst:(assignEach ts X.env).findIdx? (·.1)=none) (he:PE X e te) (h1:notComp e=true) (h2:notTup e=true):
  PS X (.Assign [.Tuple ts kt pt] e pos) (fun D σ H=>te σ H fun x H1=>match x with | .ref p=>(match rd M H1 p with | some (.tup xs)=>xs.length=is.length/\D.nx (setAll σ is xs) H1 | _=>False) | _=>False):=by
 intro pins s σ H D I h
 refine wpAny_Assign_stores (thn (he pins s σ H _ I h) fun v s1 ⟨x,H1,I1,r1,q1⟩=>?_) (show swapsWith e (some (.Tuple ts kt pt)) pos.line X.env=pure false from no_swap h1) (by cases e<;>first | rfl | cases h2)
 cases x with
 | ref p=>
  dsimp only at q1
  split at q1
  ·rename_i xs ex
   exact thn (pg_tup (k:=kt) hc hp hn hst pins s1 σ H1 (.ref p) v D.nx I1 r1 ⟨p,xs,rfl,rd_tup mo ex,q1.1,gNames_all q1.1 q1.2⟩) fun _ s2 q=>q
  ·exact q1.elim
 | _=>exact q1.elim
theorem for_seqT (mo:ModOk X.K M) {is:List Nat} {tb:TS} {J:It} {xs:List V} {stay:Hp->Prop} {D:Ends} {σ:L2.St} {H:Hp} (sq:SeqIt J xs stay) (h:forWT M is tb stay xs D σ H):
  ∃W:Nat->Nat->L2.St->Hp->Prop,(∃ m,W 0 m σ H)/\∀n m σ H,W n m σ H->
   (J.stop n H/\D.nx σ H)\/(J.go n H/\∃N:L2.St->Hp->Prop,(∀ σ' H',N σ' H'->∃m',m' < m/\W (n + 1) m' σ' H')/\∀x H',J.yld n H x H'->gTup X.K is.length (gNames is) x σ H' fun σ2 H2=>tb {D with nx:=N,ct:=N,bk:=D.nx} σ2 H2):=by
 refine⟨fun n m σ H=>m=xs.length - n/\n<=xs.length/\forWT M is tb stay (xs.drop n) D σ H,⟨xs.length,by simp,Nat.zero_le _,by simpa using h⟩,?_⟩
 rintro n m σ H ⟨rfl,hn,hw⟩
 cases e:xs.drop n with
 | nil=>
  rw[e]at hw
  have hle:xs.length<=n:=by simpa using e
  exact .inl ⟨sq.stop n H hw.1 hle,hw.2⟩
 | cons v r=>
  rw[e]at hw
  have hlt:n < xs.length:=by
   have:=congrArg List.length e
   simp at this
   omega
  have hvi:xs[n]?=some v:=by
   have:=congrArg (fun l=>l[0]?) e
   simpa using this
  have hdr:xs.drop (n + 1)=r:=by
   have:=congrArg List.tail e
   simpa[List.tail_drop]using this
  refine .inr ⟨sq.go n H hw.1 hlt,forWT M is tb stay r D,fun σ' H' z=>⟨xs.length - (n + 1),by omega,rfl,hlt,by rw[hdr];exact z⟩,fun x H' y=>?_⟩
  obtain⟨eH,ev⟩:=sq.yld n H x H' hlt y hw.1
  subst eH
  rw[hvi]at ev
  obtain rfl:v=x:=Option.some.inj ev
  obtain⟨_,hw⟩:=hw
  cases v with
  | ref p=>
   dsimp only at hw
   split at hw
   ·rename_i ys ex
    exact⟨p,ys,rfl,rd_tup mo ex,hw.1,gNames_all hw.1 hw.2⟩
   ·exact hw.elim
  | _=>exact hw.elim
end
theorem comp_b {N:List Str} {e:Ex} {a:Expr} (h:(!isComp e)=true):notComp (bE N e a)=true:=by
 cases e<;>first | rfl | cases h
theorem tup_b {N:List Str} {e:Ex} {a:Expr} (h:(!isTup e)=true):notTup (bE N e a)=true:=by
 cases e<;>first | rfl | cases h
section
variable {X:Cx} {Γ:Gam} {sc:Scope} {k:Nat} {Ξ:XS}
theorem ps_asgC {i:Nat} {x:Str} {fv:List (Str × Nat)} {it:Ix} {el:Ex} {ifs:Exs} {tp pos:Pos} {a:Expr} (C:SCtx X Γ sc k) (xo:XOk X Ξ) (h1:X.N[i]?=some (nx X.N i)) (h2:isLoc sc (nx X.N i)=true) (h3:usedOk sc (csc a) (nx X.N i) tp a.pos=true) (h:oE sc X.N (.comp x fv it el ifs) a=true):
  PS X (.Assign [.Name (nx X.N i) tp] (bE X.N (.comp x fv it el ifs) a) pos) (wS (.asg i (.comp x fv it el ifs)) Γ Ξ):=by
 obtain⟨k1,k0⟩:=a2 h3
 obtain⟨k2,k3⟩:=a2 k0
 have k1:=of_decide_eq_true k1
 have k3:=(Bool.not_eq_true' _).mp k3
 intro pins s σ H D I ⟨hc,q⟩
 refine ps_setC (te:=fun σ=>wE Γ el fun C d _ H'=>Ξ C d σ H') C.g.mod (C.calm hc) C.toCtx.top xo C.cf (a2 (a2 h).1).1 (sI _ _ it C.toCtx xo (a2 (a2 h).2).1)
   (fun σ X' c xc=>cN (P:=fun N=>PE X' (bE N el _) _) c.N (sE _ _ el (C.toCtx.comp c hc) xc (cN (P:=fun N=>oE _ N el _=true) c.N.symm (a2 (a2 (a2 h).2).2).1)))
   (fun X' c=>cN (P:=fun N=>PTs X' (bEs N ifs _) _) c.N (sTs _ _ ifs (C.toCtx.comp c hc) XOk.no (cN (P:=fun N=>oEs _ N ifs _=true) c.N.symm (a2 (a2 (a2 h).2).2).2) (of_decide_eq_true (a2 (a2 h).1).2)))
   (plain_fold (bI_plain it)) C.nd h1 (C.loc _ h2).1 (C.loc _ h2).2 ?_ pins s σ H D I q
 have e1:(X.env.kindOf (nx X.N i) == some .local)=true:=by
  have:=C.lcl _ k1
  show(X.env.scope.names.lookup (nx X.N i) == some .local)=true
  rw[this];rfl
 have e2:(X.env.blockKind == .function)=true:=by
  unfold Env.blockKind
  rw[I.ok.kind];rfl
 show(pure (X.env.blockKind == .function && X.env.kindOf (nx X.N i) == some .local && tp.line == a.pos.line && !((csc a).names.any fun(n,k)=>n == nx X.N i && (k == .local || k == .cell))):Sem Bool)=_
 rw[e1,e2,k2,k3]
 rfl
theorem ps_asgE {i:Nat} {e:Ex} {tp pos:Pos} {a:Expr} (C:SCtx X Γ sc k) (xo:XOk X Ξ) (hi:decide (i < X.N.length)=true) (hl:isLoc sc (nx X.N i)=true) (hu:(!isComp e || usedOk sc (csc a) (nx X.N i) tp a.pos)=true) (he:oE sc X.N e a=true):
  PS X (.Assign [.Name (nx X.N i) tp] (bE X.N e a) pos) (wS (.asg i e) Γ Ξ):=by
 rcases Bool.or_eq_true_iff.mp hu with hu | hu
 ·exact ps_set C.nd (nx_get hi) (C.loc _ hl).1 (sE _ _ e C.toCtx xo he) (no_swap (comp_b hu)) (C.loc _ hl).2
 ·cases hq:isComp e with
  | false=>exact ps_set C.nd (nx_get hi) (C.loc _ hl).1 (sE _ _ e C.toCtx xo he) (no_swap (comp_b (by rw[hq];rfl))) (C.loc _ hl).2
  | true=>cases e<;>first | exact ps_asgC C xo (nx_get hi) hl (by assumption) he | cases hq
theorem ps_raisG {x:Str} {args:Exs} {as:List Expr} {p p2 p3:Pos} (C:SCtx X Γ sc k) (xo:XOk X Ξ) (hg:isGl sc x=true) (ho:okName x=true) (h:oEs sc X.N args as=true):
  PS X (.Raise (some (.Call (.Name x p) (bEs X.N args as) [] p2)) none p3) (wS (.rais x args) Γ Ξ):=by
 intro pins s σ H D I ⟨hc,q⟩
 split at q
 ·rename_i c f he
  obtain⟨fI,f',fd,ps,hf,hm,hk,xc,F,hb⟩:=C.g.exc _ _ _ he
  cases hf
  match args,h,q with
  | .cons e .nil,h,q=>exact ps_raise C.g.mod ⟨xc,fd,ps,F,hb⟩ (C.room hc) (C.calm hc) (C.gl _ hg) hm hk xo (sE _ _ e C.toCtx xo (a2 h).1) (bE_plain e) (okName_of ho).1 pins s σ H D I q
  | .nil,_,q=>exact q.elim
  | .cons _ (.cons _ _),_,q=>exact q.elim
 ·exact q.elim
theorem ps_raisFG {x:Str} {args:Exs} {as:List Expr} {n:Nat} {p p2 p3 p4:Pos} (C:SCtx X Γ sc k) (xo:XOk X Ξ) (hg:isGl sc x=true) (ho:okName x=true) (h:oEs sc X.N args as=true):
  PS X (.Raise (some (.Call (.Name x p) (bEs X.N args as) [] p2)) (some (.Constant .none n p4)) p3) (wS (.raisF x args) Γ Ξ):=by
 intro pins s σ H D I ⟨hc,q⟩
 split at q
 ·rename_i c f he
  obtain⟨fI,f',fd,ps,hf,hm,hk,xc,F,hb⟩:=C.g.exc _ _ _ he
  cases hf
  match args,h,q with
  | .cons e .nil,h,q=>exact ps_raiseF C.g.mod ⟨xc,fd,ps,F,hb⟩ C.ru (C.ih hc) (C.gl _ hg) hm hk xo (sE _ _ e C.toCtx xo (a2 h).1) (bE_plain e) (okName_of ho).1 pins s σ H D I q
  | .nil,_,q=>exact q.elim
  | .cons _ (.cons _ _),_,q=>exact q.elim
 ·exact q.elim
theorem ps_tryG {b:Sxs} {x:Str} {i:Option Nat} {body hb:List Stmt} {np hp pos:Pos} {th:TS} (C:SCtx X Γ sc k) (hg:isGl sc x=true) (ho:okName x=true) (hj:i.all (fun j=>decide (j < X.N.length) && decide (sc.names.lookup (nx X.N j)=some .local))=true) (h0:hb ≠ [])
  (hB:∀pins E' Ξ',XOk (Cx.deep X pins E') Ξ'->PSs (Cx.deep X pins E') body (wSs b Γ Ξ')) (hH:HandOk X hb th i):
  PS X (.Try body [.ExceptHandler (some (.Name x np)) (i.map (nx X.N)) hb hp] [] [] pos) (fun D σ H=>Γ.cm=true/\Γ.cat x=true/\wSs b Γ (handW Γ.mod (fun c=>Γ.sub c x == some true) th i D) D σ H):=by
 intro pins s σ H D I ⟨hc,hcat,q⟩
 obtain⟨C2,hm,h2,hsub⟩:=C.g.cat _ hcat
 cases hb with
 | nil=>exact absurd rfl h0
 | cons b0 r0=>
  refine ps_try C.g.mod (tbf:=fun Ξ'=>wSs b Γ Ξ') C.stk (C.gl _ hg) hm (okName_of ho).1 h2 (fun c hs=>hsub c (by simpa using hs)) hB hH C.nd ?_ pins s σ H D I q
  cases i with
  | none=>trivial
  | some j=>exact⟨nx_get (a2 hj).1,C.lcl _ (of_decide_eq_true (a2 hj).2)⟩
theorem bSs_ne {N:List Str} {ss:List Stmt}:∀ {h:Sxs},nilX h=true->bSs N h ss ≠ []
 | .cons _ _,_=>List.cons_ne_nil _ _
end
mutual
theorem sS:(st:Sx)->∀ {X:Cx} {Γ:Gam} {sc:Scope} {k:Nat} {Ξ:XS} {ast:Stmt},SCtx X Γ sc k->XOk X Ξ->oS sc X.N st ast=true->PS X (bS X.N st ast) (wS st Γ Ξ)
 | .asg i e=>fun C xo h=>ps_asgE C xo (a2 (a2 h).1).1 (a2 (a2 h).1).2 (a2 (a2 h).2).1 (a2 (a2 h).2).2
 | .exp e=>fun C xo h=>ps_expr (sE _ _ e C.toCtx xo (a2 h).2) (no_swap (comp_b (a2 h).1))
 | .ret e=>fun C xo h=>ps_ret (sE _ _ e C.toCtx xo h)
 | .iff c a b=>fun C xo h=>ps_if (sT _ _ c C.toCtx xo (a2 h).1) (sSs a C xo (a2 (a2 h).2).1) (sSs b C xo (a2 (a2 h).2).2)
 | .whl c b=>fun C xo h=>PS.nox (ps_while PassesOwn.never (sT _ _ c C.nox.toCtx XOk.no (a2 h).1) (sSs b C.nox XOk.no (a2 h).2))
 | .fr i it b=>fun C xo h pins s σ H D I q=>
  PS.nox (ps_for PassesOwn.never (C.calm q.1) (sI _ _ it C.nox.toCtx XOk.no (a2 (a2 h).2).1) (pg_name C.nd (nx_get (a2 (a2 h).1).1) (C.loc _ (a2 (a2 h).1).2).1 (C.loc _ (a2 (a2 h).1).2).2) (sSs b C.nox XOk.no (a2 (a2 h).2).2) (plain_fold (bI_plain it))) pins s σ H D I
   ⟨_,q.2,fun J xs stay H1 sq z=>for_seq sq z⟩
 | .rais x args=>fun C xo h=>ps_raisG C xo (a2 (a2 h).1).1 (a2 (a2 h).1).2 (a2 h).2
 | .tryx b x i hs=>fun C xo h=>ps_tryG C (a2 (a2 h).1).1 (a2 (a2 h).1).2 (a2 (a2 h).2).1 (bSs_ne (a2 (a2 (a2 (a2 h).2).2).2).1)
   (fun pins E' Ξ' xo'=>sSs b (C.deep pins E') xo' (a2 (a2 (a2 h).2).2).1)
   (match i with
    | none=>fun e o vs z1 z2 ok0=>sSs hs (C.hold e o z1 z2) (XOk.hold xo ok0 C.stk) (a2 (a2 (a2 (a2 h).2).2).2).2
    | some j=>fun e=>sSs hs (C.held e) XOk.no (a2 (a2 (a2 (a2 h).2).2).2).2)
 | .sto o i e=>fun C xo h=>ps_sto C.un (sE _ _ o C.toCtx xo (a2 (a2 h).1).2) (sE _ _ i C.toCtx xo (a2 (a2 h).2).1) (sE _ _ e C.toCtx xo (a2 (a2 h).2).2) (no_swap (comp_b (a2 (a2 h).1).1))
 | .asgT is e=>fun C xo h pins s σ H D I q=>ps_asgT C.g.mod (C.calm q.1) (pgs_names C (a2 (a2 h).1).2) bN_len bN_star (sE _ _ e C.toCtx xo (a2 h).2) (comp_b (a2 (a2 (a2 h).1).1).1) (tup_b (a2 (a2 (a2 h).1).1).2) pins s σ H D I q.2
 | .frT is it b=>fun C xo h pins s σ H D I q=>
  PS.nox (ps_for PassesOwn.never (C.calm q.1) (sI _ _ it C.nox.toCtx XOk.no (a2 (a2 h).2).1) (pg_tup (X:=Cx.nox _) (C.calm q.1) (pgs_names C.nox (a2 h).1) bN_len bN_star) (sSs b C.nox XOk.no (a2 (a2 h).2).2) (plain_fold (bI_plain it))) pins s σ H D I
   ⟨_,q.2,fun J xs stay H1 sq z=>for_seqT C.g.mod sq z⟩
 | .raisF x args=>fun C xo h=>ps_raisFG C xo (a2 (a2 h).1).1 (a2 (a2 h).1).2 (a2 h).2
theorem sSs:(ss:Sxs)->∀ {X:Cx} {Γ:Gam} {sc:Scope} {k:Nat} {Ξ:XS} {asts:List Stmt},SCtx X Γ sc k->XOk X Ξ->oSs sc X.N ss asts=true->PSs X (bSs X.N ss asts) (wSs ss Γ Ξ)
 | .nil=>fun C xo h=>pss_nil
 | .cons s r=>fun C xo h=>pss_cons (sS s C xo (a2 h).1) (sSs r C xo (a2 h).2)
end
theorem sB {X:Cx} {Γ:Gam} {sc:Scope} {k:Nat} {Ξ:XS} {ss:Sxs} {asts:List Stmt} (C:SCtx X Γ sc k) (xo:XOk X Ξ) (h:mSs sc X.N ss asts):PSs X asts (wSs ss Γ Ξ):=h.1 ▸ sSs ss C xo h.2
end Sw
namespace Sw
set_option genInjectivity false
open PySem PySem.Spec PyProof.Rows L2
open PySem.W (Frag keepIn ktsIn mroIn kitOne)
noncomputable def spOf (Γ:Gam) (N:List Str) (n:Nat) (body:Sxs):Sp:=fun vs H Q E=>vs.length=n/\wSs body Γ (fun C d _ H'=>E C d H') {nx:=fun _ H'=>Q .non H',rt:=Q} (start N vs) H
section
variable {P:Program} {w:World} {K:Frag} {mg:Str->Option Value} {base:Heap} {Γ:Gam} {k:Nat}
theorem fn_spOf {x qual:Str} {st:Stmt} {f:Addr} {fd:FuncData} {N ps:List Str} {body:Sxs} (F:Fun K x qual st f fd) (S:FnScope N ps (defScope st)) (g:GOk P w K mg base Γ k) (hm:mSs (defScope st) N body (defBody st)) (hhd:Γ.hd=false):
  FnOk P w K mg base (CXW P w) (k + 2) f fd ps (spOf Γ N ps.length body):=by
 obtain⟨oc,od,kV,doc,pm,an,cdv,ct,osl,rfl,lk,hcd⟩:=F.ex
 refine fn_of lk hcd S (fun vs H Q E h=>h.1) fun A outer s H vs Q E hr hsp=>?_
 have C:SCtx (cxOf (CXW P w) P w K mg base N qual (defScope st) f cdv A outer s H E) Γ (defScope st) k:=by
  refine⟨⟨g,fun _=>hr,fun _=>rfl,hr.units,fun x h=>?_,fun x h=>?_,fun y h=>h,⟨_,_,_,rfl,rfl,rfl⟩⟩,S.nd,fun x h=>⟨?_,.inl rfl⟩,fun x h=>h,⟨rfl,rfl⟩,RoomU.of hr,fun h=>absurd (hhd.symm.trans h) Bool.false_ne_true⟩
  ·unfold isVis at h
   unfold Vis
   split at h<;>first | (rename_i e;first | exact .inl e | exact .inr (.inl e) | exact .inr (.inr e)) | cases h
  ·unfold isGl at h
   split at h<;>first | (rename_i e;exact e) | cases h
  ·unfold isLoc at h
   unfold L2.Loc
   split at h<;>first | (rename_i e;first | exact .inl e | exact .inr e) | cases h
 exact⟨_,sB C xok_def hm,hsp.2⟩
theorem GOk.mono {j:Nat} (g:GOk P w K mg base Γ j) (h:j<=k):GOk P w K mg base Γ k:=
 ⟨g.mod,g.con,fun f hf=>by obtain⟨fa,fd,ps,h1,h2,h3,h4⟩:=g.fn f hf;exact⟨fa,fd,ps,h1,h2,h3.mono h,h4⟩,
  fun C c fs e=>by obtain⟨fI,f,fd,ps,h1,h2,h3,h4,h5,h6⟩:=g.exc C c fs e;exact⟨fI,f,fd,ps,h1,h2,h3,h4,h5.mono h,h6⟩,g.no,g.sub,g.cat,g.fo,g.vc.mono h,g.gd⟩
noncomputable def Off (K:Frag) (H:Hp):Prop:=∀b o,K.lookup b=some o->H b=none
theorem FnOk.off {CX:CXT} {f:Addr} {fd:FuncData} {ps:List Str} {sp sp':Sp} (F:FnOk P w K mg base CX k f fd ps sp) (len:∀vs H Q E,sp' vs H Q E->vs.length=ps.length) (h:∀vs H Q E,Off K H->sp' vs H Q E->sp vs H Q E):
  FnOk P w K mg base CX k f fd ps sp':=
 ⟨len,fun A outer s H args us vs Q E hr he hb hv hs=>F.run A outer s H args us vs Q E hr he hb hv (h _ _ _ _ (fun b o e=>(he.bs b o (he.mod.kin b o e)).2) hs)⟩
end
noncomputable def LstK (K:Frag) (a:Addr) (xs:List V):Prop:=∃ (o:Obj) (its:Array Value) (n:Nat),K.lookup a=some o/\o.cls=.type "list" /\o.dict=none/\o.data=.seq its n/\its.size<=sizeLine/\Vals xs its.toList
noncomputable def TupK (K:Frag) (a:Addr) (xs:List V):Prop:=∃ (o:Obj) (its:Array Value) (n:Nat),K.lookup a=some o/\o.cls=.type "tuple" /\o.data=.seq its n/\its.size<=sizeLine/\Vals xs its.toList
open Classical in
noncomputable def modK (K:Frag):Mo:=fun a=>if h:∃xs,LstK K a xs then some (.lst h.choose)else if h:∃xs,TupK K a xs then some (.tup h.choose)else none
theorem modK_ok (K:Frag):ModOk K (modK K):=by
 intro a o h
 unfold modK at h
 split at h
 ·rename_i z;cases h;exact z.choose_spec
 ·split at h
  ·rename_i z;cases h;exact z.choose_spec
  ·cases h
theorem modK_lst {K:Frag} {a:Addr} {xs:List V} (h:LstK K a xs):modK K a=some (.lst xs):=by
 have z:∃xs,LstK K a xs:=⟨xs,h⟩
 unfold modK
 rw[dif_pos z]
 obtain⟨o,its,n,h1,h2,h3,h4,h5,h6⟩:=h
 obtain⟨o',its',n',k1,k2,k3,k4,k5,k6⟩:=z.choose_spec
 rw[h1]at k1;cases k1
 rw[h4]at k4;cases k4
 rw[Vals.inj k6 h6]
theorem modK_tup {K:Frag} {a:Addr} {xs:List V} (h:TupK K a xs):modK K a=some (.tup xs):=by
 have z:∃xs,TupK K a xs:=⟨xs,h⟩
 have y:¬∃xs,LstK K a xs:=fun z84q=>by
  obtain⟨ys,o,its,n,k1,k2,_⟩:=z84q
  obtain⟨o',its',n',h1,h2,_⟩:=h
  rw[h1]at k1;cases k1
  rw[h2]at k2
  simp at k2
 unfold modK
 rw[dif_neg y,dif_pos z]
 obtain⟨o,its,n,h1,h2,h4,h5,h6⟩:=h
 obtain⟨o',its',n',k1,k2,k4,k5,k6⟩:=z.choose_spec
 rw[h1]at k1;cases k1
 rw[h4]at k4;cases k4
 rw[Vals.inj k6 h6]
theorem script_rd {K:Frag} {H:Hp} {a:Addr} {xs:List V} (off:Off K H) (h:SqL K H a xs):rd (modK K) H a=some (.lst xs):=by
 unfold rd
 rcases h with (h | ⟨o,h⟩) | h
 ·rw[h]
 ·rw[h]
 ·have z:LstK K a xs:=h
  obtain⟨o,_,_,h1,_⟩:=h
  rw[off a o h1]
  exact modK_lst z
end Sw
namespace Sw
set_option genInjectivity false
open PySem PySem.Spec PyProof.Rows L2
open PySem.W (Frag keepIn)
noncomputable def Gam.wit (Γ:Gam) (l:List (Str × Sp)):Gam:={Γ with has:=fun x=>(l.lookup x).isSome || Γ.has x,fn:=fun x=>(l.lookup x).getD (Γ.fn x)}
section
variable {P:Program} {w:World} {K:Frag} {mg:Str->Option Value} {base:Heap} {Γ:Gam} {k:Nat}
theorem GOk.wit0 (g:GOk P w K mg base Γ k):GOk P w K mg base (Γ.wit []) k:=⟨g.mod,g.con,g.fn,g.exc,g.no,g.sub,g.cat,g.fo,g.vc,g.gd⟩
theorem GOk.wit1 {l:List (Str × Sp)} {f:Str} {fa:Addr} {fd:FuncData} {ps:List Str} {sp:Sp} {j:Nat} (g:GOk P w K mg base (Γ.wit l) k) (hm:mg f=some (.ref fa)) (hk:keepIn K (.ref fa)=true) (F:FnOk P w K mg base (CXW P w) j fa fd ps sp) (hb:Binds K fd ps []) (h1:j<=k):
  GOk P w K mg base (Γ.wit ((f,sp)::l)) k:=by
 refine⟨g.mod,g.con,fun x hx=>?_,g.exc,g.no,g.sub,g.cat,g.fo,g.vc,g.gd⟩
 have e:∀x,((f,sp)::l).lookup x=if x == f then some sp else l.lookup x:=fun x=>by
  rw[List.lookup_cons]
  cases x == f<;>rfl
 have hx:((((f,sp)::l).lookup x).isSome || Γ.has x)=true:=hx
 show ∃fa fd ps,_/\_/\FnOk P w K mg base (CXW P w) k fa fd ps ((((f,sp)::l).lookup x).getD (Γ.fn x))/\_
 rw[e]at hx ⊢
 by_cases q:x=f
 ·subst q
  (rw[beq_self_eq_true];(first | with_reducible refine Eq.mpr (if_pos rfl) ?_ | rw[if_pos rfl]))
  exact⟨fa,fd,ps,hm,hk,F.mono h1,hb⟩
 ·have q':(x == f)=false:=by simpa using q
  rw[q']at hx ⊢
  rw[if_neg Bool.false_ne_true]at hx ⊢
  exact g.fn x hx
end
section
variable {K:Frag} {x qual:Str} {st:Stmt} {f:Addr} {fd:FuncData}
@[reducible] noncomputable def bindsAs (x qual:Str) (st:Stmt) (ps:List Str) (us:List Value):Prop:=∀ (kV doc pm:Value) (an:Option Addr) (cdv ct:Value),bindArgs (PySem.W.fnOf x qual (defArgs st) (defBody st) (defScope st) .none kV doc pm an cdv ct) ⟨us,[]⟩=pure (ps.zip us)
theorem len_one {α:Type}:∀ {us:List α},us.length=1->∃a,us=[a]
 | [a],_=>⟨a,rfl⟩
theorem len_two {α:Type}:∀ {us:List α},us.length=2->∃a b,us=[a,b]
 | [a,b],_=>⟨a,b,rfl⟩
theorem len_three {α:Type}:∀ {us:List α},us.length=3->∃a b c,us=[a,b,c]
 | [a,b,c],_=>⟨a,b,c,rfl⟩
theorem len_four {α:Type}:∀ {us:List α},us.length=4->∃a b c d,us=[a,b,c,d]
 | [a,b,c,d],_=>⟨a,b,c,d,rfl⟩
theorem binds_1 {p:Str} (F:Fun K x qual st f fd) (h:∀a,bindsAs x qual st [p] [a]):Binds K fd [p] []:=F.binds fun kV doc pm an cdv ct us hl=>by
 obtain⟨a,rfl⟩:=len_one hl
 exact h a kV doc pm an cdv ct
theorem binds_2 {p q:Str} (F:Fun K x qual st f fd) (h:∀a b,bindsAs x qual st [p,q] [a,b]):Binds K fd [p,q] []:=F.binds fun kV doc pm an cdv ct us hl=>by
 obtain⟨a,b,rfl⟩:=len_two hl
 exact h a b kV doc pm an cdv ct
theorem binds_3 {p q r:Str} (F:Fun K x qual st f fd) (h:∀a b c,bindsAs x qual st [p,q,r] [a,b,c]):Binds K fd [p,q,r] []:=F.binds fun kV doc pm an cdv ct us hl=>by
 obtain⟨a,b,c,rfl⟩:=len_three hl
 exact h a b c kV doc pm an cdv ct
theorem binds_4 {p q r t:Str} (F:Fun K x qual st f fd) (h:∀a b c d,bindsAs x qual st [p,q,r,t] [a,b,c,d]):Binds K fd [p,q,r,t] []:=F.binds fun kV doc pm an cdv ct us hl=>by
 obtain⟨a,b,c,d,rfl⟩:=len_four hl
 exact h a b c d kV doc pm an cdv ct
end
end Sw
namespace Sw
set_option genInjectivity false
open PySem PySem.Spec PyProof.Rows L2
theorem comp_pure {te:TE} {fvs:L2.St} {D:Addr} {stay:Hp->Prop} {H0:Hp} {k:Hp->Prop} (f:V->V):∀ (xs acc:List V),(∀ v ∈ xs,∀H Q,Q (f v) H->te (some v::fvs) H Q)->(∀ l,stay (upd H0 D (.lst l)))->acc.length + xs.length<=sizeLine->
  k (upd H0 D (.lst (acc++xs.map f)))->compW te (fun _ H Q=>Q true H) fvs D stay xs acc (upd H0 D (.lst acc)) k:=by
 intro xs
 induction xs with
 | nil=>
  intro acc h1 h2 h3 h4
  exact⟨h2 _,upd_same,by simpa using h4⟩
 | cons v r ih=>
  intro acc h1 h2 h3 h4
  refine⟨h2 _,?_⟩
  show if true=true then _ else _
  (first | with_reducible refine Eq.mpr (if_pos rfl) ?_ | rw[if_pos rfl])
  refine h1 v List.mem_cons_self _ _ ⟨upd_same,by rw[List.length_cons]at h3;omega,?_⟩
  rw[upd_upd]
  refine ih (acc++[f v]) (fun v hv=>h1 v (List.mem_cons_of_mem _ hv)) h2 (by rw[List.length_append];simp at h3 ⊢;omega) ?_
  simpa using h4
theorem for_inv {i:Nat} {tb:TS} {stay:Hp->Prop} {D:Ends} {xs:List V} (Pv:Nat->L2.St->Hp->Prop) (st:∀n σ H,Pv n σ H->stay H)
  (step:∀n v σ H (D':Ends),xs[n]?=some v->Pv n σ H->(∀ σ' H',Pv (n + 1) σ' H'->D'.nx σ' H')->(∀ σ' H',Pv (n + 1) σ' H'->D'.ct σ' H')->D'.rt=D.rt->D'.bk=D.nx->tb D' (σ.set i (some v)) H)
  (fin:∀σ H,Pv xs.length σ H->D.nx σ H) {σ:L2.St} {H:Hp} (h0:Pv 0 σ H):forW i tb stay xs D σ H:=by
 have go:∀ (r:List V) (n:Nat),xs.drop n=r->n<=xs.length->∀σ H,Pv n σ H->forW i tb stay r D σ H:=by
  intro r
  induction r with
  | nil=>
   intro n e hn σ H p
   have:xs.length<=n:=by simpa using e
   have hn':n=xs.length:=by omega
   subst hn'
   exact⟨st _ σ H p,fin σ H p⟩
  | cons v r ih=>
   intro n e hn σ H p
   have hlt:n < xs.length:=by
    have:=congrArg List.length e
    simp at this
    omega
   have hv:xs[n]?=some v:=by
    have:=congrArg (fun l=>l[0]?) e
    simpa using this
   have hr:xs.drop (n + 1)=r:=by
    have:=congrArg List.tail e
    simpa[List.tail_drop]using this
   exact⟨st _ σ H p,step n v σ H _ hv p (fun σ' H' q=>ih (n + 1) hr hlt σ' H' q) (fun σ' H' q=>ih (n + 1) hr hlt σ' H' q) rfl rfl⟩
 exact go xs 0 (by simp) (Nat.zero_le _) σ H h0
structure Ext (M:Mo) (H H':Hp):Prop where
 same:∀a o,H a=some o->H' a=some o
 off:∀a,M a ≠ none->H a=none->H' a=none
theorem Ext.refl {M:Mo} {H:Hp}:Ext M H H:=⟨fun _ _ h=>h,fun _ _ h=>h⟩
theorem Ext.trans {M:Mo} {H H1 H2:Hp} (a:Ext M H H1) (b:Ext M H1 H2):Ext M H H2:=⟨fun c o h=>b.same c o (a.same c o h),fun c m h=>b.off c m (a.off c m h)⟩
theorem Ext.upd {M:Mo} {H:Hp} {p:Addr} {o:HO} (h:H p=none) (m:M p=none):Ext M H (upd H p o):=
 ⟨fun b u e=>by rw[upd_ne (ne_of_none e h)];exact e,fun b mb e=>by rw[upd_ne (fun z=>mb (by rw[z];exact m))];exact e⟩
theorem Ext.upd2 {M:Mo} {H H':Hp} {p:Addr} {o o':HO} (h:H p=none) (m:M p=none) (x:Ext M (L2.upd H p o) H'):Ext M H (L2.upd H' p o'):=
 ⟨fun b u e=>by
  have ne:b ≠ p:=ne_of_none e h
  rw[upd_ne ne]
  exact x.same b u (by rw[upd_ne ne];exact e),fun b mb e=>by
  have ne:b ≠ p:=fun z=>mb (by rw[z];exact m)
  rw[upd_ne ne]
  exact x.off b mb (by rw[upd_ne ne];exact e)⟩
theorem Ext.rd {M:Mo} {H H':Hp} {a:Addr} {u:HO} (s:Ext M H H') (e:rd M H a=some u):rd M H' a=some u:=by
 unfold Sw.rd at e ⊢
 cases q:H a with
 | none=>
  rw[q]at e
  rw[s.off a (by intro z;rw[z]at e;cases e) q]
  exact e
 | some o=>rw[s.same a o q];rw[q]at e;exact e
theorem rd_upd {M:Mo} {H:Hp} {p:Addr} {o:HO} (h:∀ob u,o ≠ .frz ob u):Sw.rd M (L2.upd H p o) p=some o:=by
 unfold Sw.rd
 rw[upd_same]
 cases o<;>first | rfl | exact absurd rfl (h _ _)
section
variable {M:Mo} {H:Hp} {Q:VK}
theorem v_add (i j:Int):binV M .Add (.int i) (.int j) H Q=Q (.int (i + j)) H:=rfl
theorem v_adds (x y:Str):binV M .Add (.str x) (.str y) H Q=(x.length + y.length<=sizeLine/\Q (.str (x++y)) H):=rfl
theorem v_sub (i j:Int):binV M .Sub (.int i) (.int j) H Q=Q (.int (i - j)) H:=rfl
theorem v_mul (i j:Int):binV M .Mult (.int i) (.int j) H Q=((bnd i || bnd j)=true/\Q (.int (i * j)) H):=rfl
theorem v_div (i j:Int):binV M .FloorDiv (.int i) (.int j) H Q=(0 < j/\j < 1073741824/\Q (.int (i / j)) H):=rfl
theorem v_mod (i j:Int):binV M .Mod (.int i) (.int j) H Q=(0 < j/\Q (.int (i % j)) H):=rfl
theorem v_lt (i j:Int):cmpV M .Lt (.int i) (.int j) H Q=Q (.bl (decide (i < j))) H:=rfl
theorem v_le (i j:Int):cmpV M .LtE (.int i) (.int j) H Q=Q (.bl (decide (i<=j))) H:=rfl
theorem v_gt (i j:Int):cmpV M .Gt (.int i) (.int j) H Q=Q (.bl (decide (j < i))) H:=rfl
theorem v_les (x y:Str):cmpV M .LtE (.str x) (.str y) H Q=Q (.bl (!decide (y.cps.toList < x.cps.toList))) H:=rfl
theorem v_ins (x y:Str):cmpV M .In (.str x) (.str y) H Q=Q (.bl (!(Builtin.Str.occurrences y x 0 y.length 1).isEmpty)) H:=rfl
theorem v_eqi (i j:Int):cmpV M .Eq (.int i) (.int j) H Q=Q (.bl (decide (i=j))) H:=by
 show Q (.bl (decide (V.int i=V.int j))) H=_
 simp only[V.int.injEq]
theorem v_nei (i j:Int):cmpV M .NotEq (.int i) (.int j) H Q=Q (.bl (!decide (i=j))) H:=by
 show Q (.bl (!decide (V.int i=V.int j))) H=_
 simp only[V.int.injEq]
theorem v_eqs (x y:Str):cmpV M .Eq (.str x) (.str y) H Q=Q (.bl (decide (x=y))) H:=by
 show Q (.bl (decide (V.str x=V.str y))) H=_
 simp only[V.str.injEq]
theorem v_nes (x y:Str):cmpV M .NotEq (.str x) (.str y) H Q=Q (.bl (!decide (x=y))) H:=by
 show Q (.bl (!decide (V.str x=V.str y))) H=_
 simp only[V.str.injEq]
theorem v_neb (x y:Bool):cmpV M .NotEq (.bl x) (.bl y) H Q=Q (.bl (!decide (x=y))) H:=by
 show Q (.bl (!decide (V.bl x=V.bl y))) H=_
 simp only[V.bl.injEq]
theorem v_eqb (x y:Bool):cmpV M .Eq (.bl x) (.bl y) H Q=Q (.bl (decide (x=y))) H:=by
 show Q (.bl (decide (V.bl x=V.bl y))) H=_
 simp only[V.bl.injEq]
theorem s_rr (a b:Addr):scal (.ref a) (.ref b)=false:=rfl
theorem v_is (x:V):cmpV M .Is x .non H Q=Q (.bl (decide (x=.non))) H:=by cases x<;>rfl
theorem v_isnot (x:V):cmpV M .IsNot x .non H Q=Q (.bl (!decide (x=.non))) H:=by cases x<;>rfl
theorem v_muls (x:Str) (k:Int):binV M .Mult (.str x) (.int k) H Q=((-(2 ^ 63)<=k/\k < 2 ^ 63/\x.length * k.toNat<=16777216)/\Q (.str (Txt.mul x k)) H):=rfl
theorem v_cat (a b:Addr):binV M .Add (.ref a) (.ref b) H Q=(match rd M H a,rd M H b with
  | some (.lst xs),some (.lst ys)=>xs.length + ys.length<=sizeLine/\∀p,H p=none->M p=none->Q (.ref p) (upd H p (.lst (xs++ys)))
  | _,_=>False):=rfl
theorem m_join (x:Str) (p:Addr):mthV M .join (.str x) [.ref p] H Q=(match rd M H p with | some (.lst xs)=>(match allM asS xs with | some ts=>JoinOk x ts=true/\Q (.str (Txt.join x ts)) H | none=>False) | _=>False):=rfl
theorem m_split (x y:Str):mthV M .split (.str x) [.str y] H Q=((y.length == 0)=false/\x.length<=1000000/\∀l,H l=none->M l=none->Q (.ref l) (upd H l (.lst ((Txt.split x y).map V.str)))):=rfl
theorem m_append (p:Addr) (v:V):mthV M .append (.ref p) [v] H Q=(match H p with | some (.lst xs)=>xs.length < sizeLine/\Q .non (upd H p (.lst (xs++[v]))) | _=>False):=rfl
theorem t_bl (b:Bool) {R:Bool->Prop}:truV M (.bl b) H R=R b:=rfl
theorem t_non {R:Bool->Prop}:truV M .non H R=R false:=rfl
theorem t_int (i:Int) {R:Bool->Prop}:truV M (.int i) H R=R (i != 0):=rfl
theorem b_lens (x:Str):bltV M .len [.str x] H Q=(x.length<=sizeLine/\Q (.int x.length) H):=rfl
theorem b_lenr (p:Addr):bltV M .len [.ref p] H Q=(match rd M H p with | some (.lst xs)=>Q (.int xs.length) H | some (.tup xs)=>Q (.int xs.length) H | _=>False):=rfl
theorem b_str (i:Int):bltV M .str [.int i] H Q=(i.natAbs.log2 < 1920/\Q (.str (toString i)) H):=rfl
theorem b_int (x:Str):bltV M .int [.str x] H Q=(x.length<=640/\match PySem.intText? x with | some n=>Q (.int n) H | none=>False):=rfl
theorem b_abs (i:Int):bltV M .abs [.int i] H Q=Q (.int (if i < 0 then -i else i)) H:=rfl
theorem i_str (z:Str) (i:Int):idxV M (.str z) (.int i) H Q=(z.length<=sizeLine/\match atI z.cps.toList i with | some c=>Q (.str ⟨#[c]⟩) H | none=>False):=rfl
theorem i_ref (p:Addr) (i:Int):idxV M (.ref p) (.int i) H Q=(match rd M H p with | some (.lst xs)=>(match atI xs i with | some v=>Q v H | none=>False) | some (.tup xs)=>(match atI xs i with | some v=>Q v H | none=>False) | _=>False):=rfl
theorem s_str (z:Str) (lo hi:Option Int):slcV M (.str z) lo hi H Q=(z.length<=sizeLine/\Q (.str (Txt.slice z lo hi)) H):=rfl
theorem s_ref (p:Addr) (lo hi:Option Int):slcV M (.ref p) lo hi H Q=(match rd M H p with
  | some (.lst xs)=>∀l,H l=none->M l=none->Q (.ref l) (upd H l (.lst (cutV xs lo hi)))
  | _=>False):=rfl
theorem m_sw (x y:Str):mthV M .startswith (.str x) [.str y] H Q=Q (.bl (Txt.startswith x y)) H:=rfl
end
@[reducible] noncomputable def cps (x:Str):List Nat:=x.cps.toList
theorem len_cps (x:Str):x.length=(cps x).length:=by
 show x.cps.size=x.cps.toList.length
 simp
theorem lt_one {a b:Nat}:([a] < [b]) ↔ a < b:=by
 simp[List.cons_lt_cons_iff]
theorem seq {s:Sx} {r:Sxs} {Γ:Gam} {Ξ:XS} {D:Ends} {σ:L2.St} {H:Hp} (h:wS s Γ Ξ {D with nx:=wSs r Γ Ξ D} σ H):wSs (.cons s r) Γ Ξ D σ H:=by
 rw[wSs]
 exact h
theorem seq0 {Γ:Gam} {Ξ:XS} {D:Ends} {σ:L2.St} {H:Hp} (h:D.nx σ H):wSs .nil Γ Ξ D σ H:=by
 rw[wSs]
 exact h
end Sw
namespace Sw
set_option genInjectivity false
theorem r_get0 {α:Type} (a:α) (l:List α):(a::l)[0]?=some a:=rfl
theorem r_getS {α:Type} (a:α) (l:List α) (n:Nat):(a::l)[n + 1]?=l[n]?:=rfl
theorem r_set0 {α:Type} (a b:α) (l:List α):(a::l).set 0 b=b::l:=rfl
theorem r_setS {α:Type} (a b:α) (l:List α) (n:Nat):(a::l).set (n + 1) b=a::l.set n b:=rfl
theorem r_map0 {α β:Type} (f:α->β):List.map f []=[]:=rfl
theorem r_mapS {α β:Type} (f:α->β) (a:α) (l:List α):List.map f (a::l)=f a::List.map f l:=rfl
theorem r_app0 {α:Type} (l:List α):[]++l=l:=rfl
theorem r_appS {α:Type} (a:α) (l m:List α):(a::l)++m=a::(l++m):=rfl
theorem r_len0 {α:Type}:([]:List α).length=0:=rfl
theorem r_lenS {α:Type} (a:α) (l:List α):(a::l).length=l.length + 1:=rfl
theorem r_rep0 {α:Type} (a:α):List.replicate 0 a=[]:=rfl
theorem r_repS {α:Type} (a:α) (n:Nat):List.replicate (n + 1) a=a::List.replicate n a:=rfl
theorem r_join {α:Type} (a:Option α):(some a).join=a:=rfl
end Sw
namespace Sw
set_option genInjectivity false
open PySem PySem.Spec PyProof.Rows L2
open PySem.W (Frag keepIn ktsIn mroIn kitOne fnX fnMade)
theorem cellsFrom_app:∀ (names:List (Str × NameKind)) (n:Nat) (acc:List (Str × Addr)),cellsFrom n names acc=cellsFrom n names []++acc
 | [],n,acc=>rfl
 | (name,kind)::r,n,acc=>by
  unfold cellsFrom
  split
  ·rw[cellsFrom_app r (n + 1) ((name,n)::acc),cellsFrom_app r (n + 1) [(name,n)],List.append_assoc]
   rfl
  ·exact cellsFrom_app r n acc
theorem lookup_app {α:Type}:∀ {l m:List (Str × α)} {x:Str} {a:α},l.lookup x=some a->(l++m).lookup x=some a
 | [],_,_,_,h=>by simp at h
 | (y,b)::r,m,x,a,h=>by
  rw[List.cons_append,List.lookup_cons]
  rw[List.lookup_cons]at h
  split at h
  ·exact h
  ·exact lookup_app h
theorem lookup_app_none {α:Type}:∀ {l m:List (Str × α)} {x:Str},l.lookup x=none->(l++m).lookup x=m.lookup x
 | [],_,_,_=>rfl
 | (y,b)::r,m,x,h=>by
  rw[List.cons_append,List.lookup_cons]
  rw[List.lookup_cons]at h
  split at h
  ·cases h
  ·exact lookup_app_none h
theorem store_same {env env0:Env} {n:Str} {v:Value} (h1:env.scope=env0.scope) (h2:env.locals=env0.locals) (h3:env.globals=env0.globals) (hk:env.scope.kind=.function)
  (h:env.scope.names.lookup n=some .local\/env.cells.lookup n=env0.cells.lookup n):storeName env n v=storeName env0 n v:=by
 obtain⟨sc,L,g,cs,q,fu,co,fr,bu⟩:=env
 obtain⟨sc0,L0,g0,cs0,q0,fu0,co0,fr0,bu0⟩:=env0
 simp only at h1 h2 h3 hk h
 subst h1 h2 h3
 rcases h with h | h
 ·unfold storeName Env.kindOf Env.blockKind
  simp only[h]
  rfl
 ·unfold storeName Env.kindOf Env.blockKind cellOf
  simp only[h,hk]
  rfl
theorem forIn_store {env env0:Env}:∀ (binds:List (Str × Value)),(∀ x ∈ binds,storeName env x.1 x.2=storeName env0 x.1 x.2)->
  (forIn binds (⟨⟩:PUnit) fun x (_:PUnit)=>(do storeName env x.1 x.2;pure (ForInStep.yield (⟨⟩:PUnit)):Sem _))=forIn binds (⟨⟩:PUnit) fun x (_:PUnit)=>(do storeName env0 x.1 x.2;pure (ForInStep.yield (⟨⟩:PUnit)):Sem _)
 | [],_=>rfl
 | x::r,h=>by
  rw[List.forIn_cons,List.forIn_cons,h x (by simp)]
  have ih:=forIn_store (env:=env) (env0:=env0) r fun y hy=>h y (by simp[hy])
  simp only[bind_assoc,pure_bind,ih]
section
variable {M:Model} {A:Around} {E:Value->Shared->Prop} {s:Shared}
theorem newEnv_clo {scope:Scope} {globals:Addr} {clos:List (Str × Addr)} {binds:List (Str × Value)} {qual:Str} {func:Option Addr} {code:Value} {builtins:Addr} {Q:Env->Shared->Prop}
  (hk:scope.kind=.function)
  (hkind:∀x ∈ binds,scope.names.lookup x.1=some .local\/(scope.names.lookup x.1=some .cell/\((cellsFrom (s.heap.objs.size + 1) scope.names []).lookup x.1).isSome=true))
  (hQ:∀s',InCallC s s.heap.objs.size (bindL (fun x=>scope.names.lookup x) binds fun _=>none) (cellsFrom (s.heap.objs.size + 1) scope.names []) (bindC (fun x=>scope.names.lookup x) binds fun _=>none) s'->
   Q (newEnv scope s.heap.objs.size globals (cellsFrom (s.heap.objs.size + 1) scope.names []++clos) qual func code none builtins) s'):
  wpAny M A (newFunctionEnv scope globals clos binds qual func code none builtins) Q E s:=by
 simp only[newFunctionEnv,Option.isSome_none,Bool.false_eq_true,if_false]
 refine wpAny_bind (wpAny_alloc ?_)
 refine wpAny_bind (wpAny_layCells _ (fun name kind cells=>by cases hkc:kind == NameKind.cell<;>simp[hkc]) _ _ _ _ ?_)
 have ok:=cellsFrom_ok scope.names (s.heap.push {cls:=.type "frame",data:=.dict #[]}) (s.heap.objs.size + 1) [] ⟨fun _ _ hm=>(nomatch hm),List.Pairwise.nil⟩ (by rw[Heap.size_push];exact Nat.le_refl _)
 rw[Heap.size_push]at ok
 rw[show({s with heap:=s.heap.push {cls:=.type "frame",data:=.dict #[]}}:Shared).heap.objs.size=s.heap.objs.size + 1 from Heap.size_push ..]
 rw[cellsFrom_app]
 refine wpAny_bind ?_
 have same:=forIn_store (env:=newEnv scope s.heap.objs.size globals (cellsFrom (s.heap.objs.size + 1) scope.names []++clos) qual func code none builtins)
  (env0:=newEnv scope s.heap.objs.size globals (cellsFrom (s.heap.objs.size + 1) scope.names []) qual func code none builtins) binds fun x hx=>by
   refine store_same rfl rfl rfl hk ?_
   rcases hkind x hx with h | ⟨h,h'⟩
   ·exact .inl h
   ·obtain⟨c,hc⟩:=Option.isSome_iff_exists.mp h'
    exact .inr ((lookup_app hc).trans hc.symm)
 refine(show wpAny M A (forIn binds (⟨⟩:PUnit) fun x (_:PUnit)=>(do storeName (newEnv scope s.heap.objs.size globals (cellsFrom (s.heap.objs.size + 1) scope.names []++clos) qual func code none builtins) x.1 x.2;pure (ForInStep.yield (⟨⟩:PUnit)):Sem _)) _ E _ from ?_)
 rw[same]
 exact wpAny_bindParams (s₀:=s) (env:=newEnv scope s.heap.objs.size globals (cellsFrom (s.heap.objs.size + 1) scope.names []) qual func code none builtins)
  _ (fun _ _ _=>rfl) hk binds (fun _=>none) (fun _=>none) _ _
  ⟨⟨⟨_,_,rfl⟩,(Heap.Ns.new s.heap (.type "frame")).keeps (pushCells_keeps _ _),fun b o e=>pushCells_keeps _ _ b o (Heap.get?_push_of_some _ e),Nat.le_refl _⟩,
   fun n c hc=>(ok.empty n c (mem_of_lookup hc)).1,ok.apart,fun n c hm=>(ok.empty n c hm).2⟩
  hkind fun s' x=>wpAny_pure (hQ s' x)
end
end Sw
namespace Sw
set_option genInjectivity false
open PySem PySem.Spec PyProof.Rows L2
open PySem.W (Frag keepIn ktsIn mroIn kitOne fnX fnMade)
structure CloScope (N ps:List Str) (x:Str) (sc:Scope):Prop where
 kind:sc.kind=.function
 co:sc.isCoroutine=false
 gen:sc.isGenerator=false
 nd:N.Nodup
 pre:N.take ps.length=ps
 lt:ps.length < N.length
 last:N[N.length - 1]?=some x
 par:∀y ∈ ps,sc.names.lookup y=some .local\/sc.names.lookup y=some .cell
 fx:sc.names.lookup x=some .free
 only:∀y ∈ sc.names,y.2=.free->y.1=x
 nox:∀y ∈ sc.names,y.2=.cell->y.1 ≠ x
noncomputable def startC (N:List Str) (vs:List V) (v:V):L2.St:=vs.map some++List.replicate (N.length - 1 - vs.length) none++[some v]
theorem mem_cellsFrom:∀ (names:List (Str × NameKind)) (n:Nat) (y:Str × Addr),y ∈ cellsFrom n names []->∃z ∈ names,z.1=y.1/\z.2=.cell
 | [],_,y,h=>by simp[cellsFrom]at h
 | (name, kind) :: r, n, y, h => by
  unfold cellsFrom at h
  split at h
  ·rename_i hk
   rw[cellsFrom_app]at h
   rcases List.mem_append.mp h with h | h
   ·obtain⟨z,hz,e⟩:=mem_cellsFrom r (n + 1) y h
    exact⟨z,by simp[hz],e⟩
   ·rw[List.mem_singleton.mp h]
    exact⟨(name,kind),by simp,rfl,by simpa using hk⟩
  ·obtain⟨z,hz,e⟩:=mem_cellsFrom r n y h
   exact⟨z,by simp[hz],e⟩
theorem own_none {N ps:List Str} {x:Str} {sc:Scope} (S:CloScope N ps x sc) (n:Nat):(cellsFrom n sc.names []).lookup x=none:=by
 cases q:(cellsFrom n sc.names []).lookup x with
 | none=>rfl
 | some c=>
  obtain⟨z,hz,e1,e2⟩:=mem_cellsFrom _ _ _ (PySem.mem_of_lookup q)
  exact absurd e1 (S.nox z hz e2)
@[reducible] noncomputable def envC (qual:Str) (scope:Scope) (L f:Addr) (cd:Value) (clos:List (Str × Addr)):Env:=newEnv scope L mainGlobals (cellsFrom (L + 1) scope.names []++clos) (qual++ ".<locals>.") (some f) cd none builtinsNs
noncomputable def cxC (CX:CXT) (P:Program) (w:World) (K:Frag) (mg:Str->Option Value) (base:Heap) (N:List Str) (qual:Str) (scope:Scope) (f:Addr) (cd:Value) (clos:List (Str × Addr)) (A:Around) (outer:List Env) (s:Shared) (H:Hp) (E:XK):Cx where
 prog:=P
 w:=w
 K:=K
 mg:=mg
 base:=base
 A:=A.deeper (envC qual scope s.heap.objs.size f cd clos)
 N:=N
 s₀:=s
 H₀:=H
 env:=envC qual scope s.heap.objs.size f cd clos
 outer:=outer
 stack:=envC qual scope s.heap.objs.size f cd clos::outer
 ex:=[]
 calm:=true
 fn:=fun y=>decide (scope.names.lookup y=some .cell)
 pn:=[]
 xe:=fun e s'=>wpAny (model P w) (A.deeper (envC qual scope s.heap.objs.size f cd clos)) (leaving (envC qual scope s.heap.objs.size f cd clos) e) (fun _ s''=>CX outer H s E e s'') (fun e' s''=>CX outer H s E e' s'') s'
theorem inv_startC {CX:CXT} {P:Program} {w:World} {K:Frag} {mg:Str->Option Value} {base:Heap} {N ps:List Str} {x qual:Str} {scope:Scope} {f c:Addr} {cd:Value} {A:Around} {outer:List Env} {s s1:Shared} {H:Hp} {E:XK} {us:List Value} {vs:List V} {v:V} {u:Value}
  (S:CloScope N ps x scope) (hd:A.handled=none) (e0:Env0 P w K mg base A outer s H) (hl:vs.length=ps.length) (r:Vals vs us) (hc:s.heap.IsCell c (some u)) (rv:RelV v u) (hn:H c=none)
  (xc:InCallC s s.heap.objs.size (bindL (fun x=>scope.names.lookup x) (ps.zip us) fun _=>none) (cellsFrom (s.heap.objs.size + 1) scope.names []) (bindC (fun x=>scope.names.lookup x) (ps.zip us) fun _=>none) s1):
  Inv (cxC CX P w K mg base N qual scope f cd [(x,c)] A outer s H E) [] (startC N vs v) H s1:=by
 have hpl:ps.length < N.length:=S.lt
 obtain⟨h1,tk,rfl,hk⟩:=xc.done
 have noA:∀b:Addr,b ∉ (cxC CX P w K mg base N qual scope f cd [(x,c)] A outer s H E).ex:=fun b z=>absurd (show b ∈ ([]:List Addr)from z) (by simp)
 have clt:c < s.heap.objs.size:=hc.lt
 have ownGt:∀y b,(cellsFrom (s.heap.objs.size + 1) scope.names []).lookup y=some b->s.heap.objs.size < b:=fun y b h=>xc.above y b (PySem.mem_of_lookup h)
 have split:∀y b,(cellsFrom (s.heap.objs.size + 1) scope.names []++[(x,c)]).lookup y=some b->((cellsFrom (s.heap.objs.size + 1) scope.names []).lookup y=some b)\/(y=x/\b=c):=fun y b h=>by
  cases q:(cellsFrom (s.heap.objs.size + 1) scope.names []).lookup y with
  | some b'=>rw[lookup_app q]at h;cases h;exact .inl rfl
  | none=>
   rw[lookup_app_none q,List.lookup_cons]at h
   cases hb:y == x with
   | true=>rw[hb]at h;cases h;exact .inr ⟨by simpa using hb,rfl⟩
   | false=>rw[hb]at h;cases h
 have hx:(cellsFrom (s.heap.objs.size + 1) scope.names []++[(x,c)]).lookup x=some c:=by
  rw[lookup_app_none (own_none S _),List.lookup_cons]
  simp
 refine⟨⟨e0.mod,S.kind,rfl,rfl,Nat.le_refl _,fun y z b h1 h2=>?_,fun y hy=>?_,fun y b hf h=>?_,fun _=>hd,Around.frames_deeper e0.frames,.inr ⟨rfl,rfl⟩,fun b z=>absurd z (noA b),e0.bs,e0.bsz,fun b _ _=>noA b,fun b z=>absurd z (noA b),e0.funs,e0.frf⟩,
  rfl,e0.bare,Un.kept hk,⟨_,xc.toInCall.ns,fun i y v' h1 h2 h3=>?_⟩,fun y b h=>?_,e0.hok.fresh (Nat.le_refl _),fun y b h=>?_,fun p hp=>absurd (show p ∈ ([]:List (Addr × Obj))from hp) (by simp),e0.hok.kept hk,?_⟩
 ·rcases split y b h1 with q1 | ⟨q1,q1'⟩<;>rcases split z b h2 with q2 | ⟨q2,q2'⟩
  ·exact name_of_addr xc.apart (PySem.mem_of_lookup q1) (PySem.mem_of_lookup q2)
  ·have:=ownGt _ _ q1;subst q2';exact absurd (Nat.lt_trans this clt) (Nat.lt_irrefl _)
  ·have:=ownGt _ _ q2;subst q1';exact absurd (Nat.lt_trans this clt) (Nat.lt_irrefl _)
  ·rw[q1,q2]
 ·have hy:scope.names.lookup y=some .cell\/scope.names.lookup y=some .free:=hy
  rcases hy with hy | hy
  ·obtain⟨b,hb⟩:=cell_has (n:=s.heap.objs.size + 1) hy
   exact⟨b,lookup_app hb⟩
  ·have:=S.only _ (PySem.mem_of_lookup hy) rfl
   have this:y=x:=this
   subst this
   exact⟨c,hx⟩
 ·have hy:scope.names.lookup y=some .cell:=of_decide_eq_true hf
  obtain⟨b',hb⟩:=cell_has (n:=s.heap.objs.size + 1) hy
  have e:some b=some b':=h.symm.trans (lookup_app hb)
  cases e
  exact Nat.le_of_lt (ownGt _ _ hb)
 ·unfold startC at h2
  by_cases hi:i < vs.length
  ·have ha:vs[i]?=some v':=by
    rw[List.append_assoc,List.getElem?_append_left (by simpa using hi),List.getElem?_map]at h2
    cases e:vs[i]? with
    | none=>rw[e]at h2;cases h2
    | some a=>rw[e]at h2;cases h2;rfl
   obtain⟨u',hu,rv'⟩:=r.get ha
   have hp:ps[i]?=some y:=by
    rw[<-S.pre,List.getElem?_take_of_lt (by omega)];exact h1
   have ndP:ps.Nodup:=by rw[<-S.pre];exact S.nd.sublist (List.take_sublist _ _)
   refine⟨u',rv',?_⟩
   rcases S.par y (List.mem_of_getElem? hp)with k | k
   ·exact .inl ⟨k,bindL_get ndP hp hu k⟩
   ·obtain⟨b,e⟩:=cell_has (n:=s.heap.objs.size + 1) k
    refine .inr ⟨.inl k,b,lookup_app e,?_⟩
    have q:=xc.cell y b e
    rw[bindC_get ndP hp hu (by show scope.names.lookup y ≠ _;rw[k];decide)]at q
    exact q
  ·have hlast:i=N.length - 1:=by
    rw[List.append_assoc,List.getElem?_append_right (by simpa using hi),List.length_map]at h2
    by_cases hm:i - vs.length < N.length - 1 - vs.length
    ·rw[List.getElem?_append_left (by simpa using hm),List.getElem?_replicate]at h2
     split at h2<;>cases h2
    ·rw[List.getElem?_append_right (by simpa using hm),List.length_replicate]at h2
     have:i - vs.length - (N.length - 1 - vs.length) < 1:=by
      have:=(List.getElem?_eq_some_iff.mp h2).1
      simpa using this
     omega
   subst hlast
   have h1:N[N.length - 1]?=some y:=h1
   rw[S.last]at h1
   cases h1
   have ev:v'=v:=by
    rw[List.append_assoc,List.getElem?_append_right (by simpa using hi),List.length_map,List.getElem?_append_right (by simp),List.length_replicate]at h2
    have e0:N.length - 1 - vs.length - (N.length - 1 - vs.length)=0:=by omega
    rw[e0]at h2
    simpa using h2.symm
   subst ev
   exact⟨u,rv,.inr ⟨.inr S.fx,c,hx,hc.keeps hk⟩⟩
 ·rcases split y b h with q | ⟨_,rfl⟩
  ·exact⟨_,xc.cell y b q⟩
  ·exact⟨_,hc.keeps hk⟩
 ·rcases split y b h with q | ⟨_,rfl⟩
  ·exact e0.hok.fresh (Nat.le_of_lt (ownGt _ _ q))
  ·exact hn
 ·unfold startC
  show _=N.length
  rw[List.length_append,List.length_append,List.length_map,List.length_replicate,List.length_singleton]
  omega
end Sw
namespace Sw
set_option genInjectivity false
open PySem PySem.Spec PyProof.Rows L2
open PySem.W (Frag keepIn ktsIn mroIn kitOne fnX fnOf fnMade tabObj CodeHd codeHdIn codeHd_of_K FnAt)
noncomputable def era (H:Hp) (c:Addr):Hp:=fun b=>if b=c then none else H b
theorem era_same {H:Hp} {c:Addr}:era H c c=none:=if_pos rfl
theorem era_ne {H:Hp} {b c:Addr} (h:b ≠ c):era H c b=H b:=if_neg h
theorem era_none {H:Hp} {b c:Addr} (h:H b=none):era H c b=none:=by
 unfold era;split<;>first | rfl | exact h
theorem of_era {H:Hp} {b c:Addr} {o:HO} (h:era H c b=some o):b ≠ c/\H b=some o:=by
 unfold era at h
 split at h
 ·cases h
 ·exact⟨by assumption,h⟩
section
variable {P:Program} {w:World} {H H':Hp} {h h':Heap} {c:Addr} {v:V}
theorem hok_era (ok:HOk P w H h) (hc:H c=some (.cel v)):HOk P w (era H c) h:=fun b o e=>by
 obtain⟨ne,e⟩:=of_era e
 exact(ok b o e).stay (fun _ _ _ q=>q) (fun d q=>by rw[era_ne (fun z=>by rw[z,hc]at q;cases q)];exact q) fun d xs q=>by rw[era_ne (fun z=>by rw[z,hc]at q;cases q)];exact q
theorem hok_lay {o:HO} (ok:HOk P w H h) (hn:H c=none) (new:ObjOk P w (upd H c o) h c o):HOk P w (upd H c o) h:=fun b u e=>by
 by_cases hb:b=c
 ·subst hb;rw[upd_same]at e;cases e;exact new
 ·rw[upd_ne hb]at e
  exact(ok b u e).stay (fun _ _ _ q=>q) (fun d q=>by rw[upd_ne (ne_of_none q hn)];exact q) fun d xs q=>by rw[upd_ne (ne_of_none q hn)];exact q
theorem un_lay {fs:List Addr} (u:Un fs [] (era H c) H' h h') (hc:H c=some (.cel v)):Un fs [] H (upd H' c (.cel v)) h h' where
 keep:=fun b o q n=>u.keep b o q (era_none n)
 slot:=fun b o q n=>u.slot b o q (era_none n)
 free:=fun b o q n hx=>by rw[upd_ne (Ne.symm (ne_of_none hc n))];exact u.free b o q (era_none n) hx
 there:=u.there
 tups:=fun b xs q=>by
  have ne:b ≠ c:=fun z=>by rw[z,hc]at q;cases q
  rw[upd_ne ne];exact u.tups b xs (by rw[era_ne ne];exact q)
 frzs:=fun b o x q=>by
  have ne:b ≠ c:=fun z=>by rw[z,hc]at q;cases q
  rw[upd_ne ne];exact u.frzs b o x (by rw[era_ne ne];exact q)
 tbls:=fun b ps q=>by
  have ne:b ≠ c:=fun z=>by rw[z,hc]at q;cases q
  rw[upd_ne ne];exact u.tbls b ps (by rw[era_ne ne];exact q)
theorem env0_era {K:Frag} {mg:Str->Option Value} {base:Heap} {A:Around} {outer:List Env} {s:Shared} (e0:Env0 P w K mg base A outer s H) (hc:H c=some (.cel v)):Env0 P w K mg base A outer s (era H c):=
 ⟨e0.frames,e0.mod,fun b o e=>⟨(e0.bs b o e).1,era_none (e0.bs b o e).2⟩,e0.bsz,e0.funs,fun b hb=>era_none (e0.frf b hb),hok_era e0.hok hc,e0.bare⟩
end
structure CloAt (st:Stmt) (nm x qual:Str) (H:Hp) (f c:Addr) (v:V):Prop where
 ex:∃ (c':Addr) (doc pm ctv:Value),H f=some (.clo (fnX nm qual (defArgs st) (defBody st) (defScope st) [(x,c)] .none .none doc pm none (.ref c') ctv))/\H c'=some (.cod qual)
 cel:H c=some (.cel v)
noncomputable def spClo (Γ:Gam) (N ps:List Str) (st:Stmt) (nm x qual:Str) (body:Sxs):Addr->Sp:=fun f vs H Q _=>vs.length=ps.length/\∃c v,CloAt st nm x qual H f c v/\
 wSs body Γ X0 {nx:=fun _ H'=>Q .non (upd H' c (.cel v)),rt:=fun r H'=>Q r (upd H' c (.cel v))} (startC N vs v) (era H c)
section
variable {P:Program} {w:World} {K:Frag} {mg:Str->Option Value} {base:Heap} {Γ:Gam} {k:Nat}
theorem vc_clo {nm x qual:Str} {st:Stmt} {N ps:List Str} {body:Sxs} (S:CloScope N ps x (defScope st)) (g:GOk P w K mg base Γ k) (hm:mSs (defScope st) N body (defBody st)) (hhd:Γ.hd=false)
  (hb:∀ (c:Addr) (doc pm ctv cd:Value) (us:List Value),us.length=ps.length->bindArgs (fnX nm qual (defArgs st) (defBody st) (defScope st) [(x,c)] .none .none doc pm none cd ctv) ⟨us,[]⟩=pure (ps.zip us)):
  VcOk P w K mg base (k + 2) (spClo Γ N ps st nm x qual body):=by
 refine⟨fun A outer s H f us vs Q E hr e0 r hsp=>?_,fun s H f vs Q E _ hok hsp=>?_⟩
 ·obtain⟨hl,c,v,⟨⟨c',doc,pm,ctv,hf,hcd⟩,hc⟩,hw⟩:=hsp
  have hfo:s.heap.get? f=some {cls:=.type "function",data:=.func (fnX nm qual (defArgs st) (defBody st) (defScope st) [(x,c)] .none .none doc pm none (.ref c') ctv)}:=e0.hok f _ hf
  have hco:s.heap.CodeRec (.ref c') qual:=e0.hok c' _ hcd
  obtain⟨u,rv,hcell⟩:∃u,RelV v u/\s.heap.IsCell c (some u):=e0.hok c _ hc
  have e1:=env0_era e0 hc
  have lim:s.heap.NoLimit:=e0.mod.nolimit.keeps fun b o e=>(e0.bs b o e).1
  have hkind:∀y ∈ ps.zip us,(defScope st).names.lookup y.1=some .local\/((defScope st).names.lookup y.1=some .cell/\((cellsFrom (s.heap.objs.size + 1) (defScope st).names []).lookup y.1).isSome=true):=fun z85q hy=>by
   obtain⟨n,v⟩:=z85q
   rcases S.par n (List.of_mem_zip hy).1 with q | q
   ·exact .inl q
   ·exact .inr ⟨q,PySem.W.cellsFrom_some _ _ _ (.inl q)⟩
  refine codeAny_call_function hr.depth hfo rfl S.co S.gen rfl hco ((BindsTo.of_eq (hb c doc pm ctv (.ref c') us (by rw[<-r.length];exact hl))) _ _ _ _ ?_)
  refine newEnv_clo S.kind hkind fun s1 xc=>?_
  refine⟨lim.keeps xc.toInCall.keep,codeAny_func ?_⟩
  have I:=inv_startC (CX:=CXW P w) (E:=fun _ _ _=>False) (qual:=qual) (f:=f) (cd:=.ref c') S hr.hd e1 hl r hcell rv era_same xc
  have hr':Room (k + 1) (A.deeper (envC qual (defScope st) s.heap.objs.size f (.ref c') [(x,c)])):=hr.deeper _
  have C:SCtx (cxC (CXW P w) P w K mg base N qual (defScope st) f (.ref c') [(x,c)] A outer s (era H c) (fun _ _ _=>False)) Γ (defScope st) k:=by
   refine⟨⟨g,fun _=>hr',fun _=>rfl,hr'.units,fun x h=>?_,fun x h=>?_,fun y h=>h,⟨_,_,_,rfl,rfl,rfl⟩⟩,S.nd,fun y h=>⟨?_,?_⟩,fun x h=>h,⟨rfl,rfl⟩,RoomU.of hr',fun h=>absurd (hhd.symm.trans h) Bool.false_ne_true⟩
   ·unfold isVis at h
    unfold Vis
    split at h<;>first | (rename_i e;first | exact .inl e | exact .inr (.inl e) | exact .inr (.inr e)) | cases h
   ·unfold isGl at h
    split at h<;>first | (rename_i e;exact e) | cases h
   ·unfold isLoc at h
    unfold L2.Loc
    split at h<;>first | (rename_i e;first | exact .inl e | exact .inr e) | cases h
   ·unfold isLoc at h
    split at h
    ·rename_i e;exact .inr e
    ·rename_i e;exact .inl (decide_eq_true e)
    ·cases h
  refine wpAny_mono (sB C XOk.no hm [] s1 _ _ _ I hw) (fun fl s' hs=>?_) (fun e s' hs=>?_)
  ·have fin:∀ {σ':L2.St} {H':Hp} {r:V} {u:Value},Inv (cxC (CXW P w) P w K mg base N qual (defScope st) f (.ref c') [(x,c)] A outer s (era H c) (fun _ _ _=>False)) [] σ' H' s'->RelV r u->Q r (upd H' c (.cel v))->CE outer P w H s Q u s':=by
    intro σ' H' r u' J rr q
    obtain⟨oc,hoc,hod⟩:=hcell
    have hn:H' c=none:=J.base.free c oc hoc era_same (by exact List.not_mem_nil)
    have hk:s'.heap.get? c=some oc:=J.base.keep c oc hoc era_same (fun z=>by
     have:=e0.frf c z
     rw[hc]at this;cases this) (by exact List.not_mem_nil)
    exact⟨r,upd H' c (.cel v),J.os,J.bare,un_lay J.base hc,hok_lay J.hok hn ⟨u,rv,oc,hk,hod⟩,rr,q⟩
   cases fl with
   | ret u'=>
    obtain⟨r',σ',H',J,rr,q⟩:=hs
    exact fin J rr q
   | next=>
    obtain⟨σ',H',J,q⟩:=hs
    exact fin (r:=V.non) (u:=Value.none) J rfl q
   | brk=>
    obtain⟨_,_,_,q⟩:=hs
    exact False.elim q
   | cont=>
    obtain⟨_,_,_,q⟩:=hs
    exact False.elim q
  ·refine wpAny_mono hs (fun _ s'' z=>?_) (fun e' s'' z=>?_)
   ·obtain⟨_,_,_,_,_,_,_,_,_,_,_,_,z⟩:=z;exact z.elim
   ·obtain⟨_,_,_,_,_,_,_,_,_,_,_,_,z⟩:=z;exact z.elim
 ·obtain⟨_,c,v,⟨⟨c',doc,pm,ctv,hf,_⟩,_⟩,_⟩:=hsp
  exact⟨_,_,_,_,hok f _ hf⟩
theorem vc_fn {f:Addr} {fd:FuncData} {ps:List Str} {sp:Sp} (F:FnOk P w K mg base (CXW P w) k f fd ps sp) (hb:Binds K fd ps []) (lk:∃oc od fd' osl,K.lookup f=some ⟨oc,od,.func fd',osl⟩):
  VcOk P w K mg base k (fun f' vs H Q E=>f'=f/\sp vs H Q E):=by
 refine⟨fun A outer s H f' us vs Q E hr e0 r hsp=>?_,fun s H f' vs Q E kin _ hsp=>?_⟩
 ·obtain⟨rfl,hsp⟩:=hsp
  have KX:K.In s.heap:=e0.mod.kin.keeps fun b o e=>(e0.bs b o e).1
  have hl:(us++[]).length=ps.length:=by rw[List.append_nil,<-r.length];exact F.len _ _ _ _ hsp
  exact F.run A outer s H ⟨us,[]⟩ us vs Q E hr e0 (by have:=hb s us KX hl;rwa[List.append_nil]at this) r hsp
 ·obtain⟨rfl,hsp⟩:=hsp
  obtain⟨oc,od,fd',osl,e⟩:=lk
  exact⟨oc,od,fd',osl,kin _ _ e⟩
theorem VcOk.imp {a b:Addr->Sp} (F:VcOk P w K mg base k a) (h:∀f vs H Q E,b f vs H Q E->a f vs H Q E):VcOk P w K mg base k b:=
 ⟨fun A outer s H f us vs Q E hr e0 hv q=>F.run A outer s H f us vs Q E hr e0 hv (h _ _ _ _ _ q),fun s H f vs Q E kin hok q=>F.fnat s H f vs Q E kin hok (h _ _ _ _ _ q)⟩
end
end Sw
namespace Sw
set_option genInjectivity false
open PySem PySem.Spec PyProof.Rows L2
open PySem.W (Frag keepIn ktsIn mroIn kitOne fnX fnOf fnMade tabObj CodeHd codeHdIn codeHd_of_K FnAt nestDef_K makeFunction_K makeFunction_hit)
section
variable {X:Cx} {pins:List (Addr × Obj)} {σ:L2.St} {H:Hp} {s:Shared} {h':Heap} {P:Addr} {ps more:Array Value}
theorem Inv.grown {t':Nat} (I:Inv X pins σ H s) (hT:H P=some (.tbl ps)) (hx:Heap.ExtBut P s.heap h') (hP:h'.get? P=some (tabObj (ps++more))):
  Inv X pins σ (upd H P (.tbl (ps++more))) {s with heap:=h',toks:=t'}:=by
 have k:∀b o,b ≠ P->s.heap.get? b=some o->h'.get? b=some o:=fun b o hb e=>hx b o hb e
 have np:∀b,H b=none->b ≠ P:=fun b n z=>by rw[z,hT]at n;cases n
 refine I.un (t':=t') (h':=h') (H':=upd H P (.tbl (ps++more))) ⟨fun b o e n _ _=>k b o (np b n) e,fun b o e n _ _=>⟨o.slots,k b o (np b n) e⟩,fun b o e n _=>by rw[upd_ne (np b n)];exact n,fun b o e _=>?_,fun b xs e=>?_,fun b o x e=>?_,fun b qs e=>?_⟩ (fun b o e=>?_)
 ·by_cases hb:b=P
  ·exact⟨_,by rw[hb];exact hP⟩
  ·exact⟨o,k b o hb e⟩
 ·rw[upd_ne (fun z=>by rw[z,hT]at e;cases e)];exact e
 ·rw[upd_ne (fun z=>by rw[z,hT]at e;cases e)];exact e
 ·by_cases hb:b=P
  ·subst hb
   rw[hT]at e;cases e
   exact⟨more,upd_same⟩
  ·exact⟨#[],by rw[upd_ne hb,e];simp⟩
 ·by_cases hb:b=P
  ·subst hb
   rw[upd_same]at e;cases e
   exact hP
  ·rw[upd_ne hb]at e
   refine(I.hok b o e).stay (fun c u hc q=>k c u ?_ q) (fun c q=>by rw[upd_ne (fun z=>by rw[z,hT]at q;cases q)];exact q) fun c xs q=>by rw[upd_ne (fun z=>by rw[z,hT]at q;cases q)];exact q
   rcases hc with rfl | hc
   ·exact hb
   ·exact fun z=>by rw[z,hT]at hc;cases hc
theorem Inv.track {a:Addr} {o:HO} (I:Inv X pins σ H s) (hn:H a=none) (h0:X.s₀.heap.objs.size<=a) (hL:a ≠ X.env.locals) (hc:∀x c,X.env.cells.lookup x=some c->c ≠ a) (hp:∀p ∈ X.pn++pins,p.1 ≠ a) (new:ObjOk X.prog X.w (upd H a o) s.heap a o):
  Inv X pins σ (upd H a o) s:=by
 have ne:∀b u,H b=some u->b ≠ a:=fun b u e=>ne_of_none e hn
 refine⟨I.ok,I.os,I.bare,⟨I.base.keep,I.base.slot,fun b ob e n hx=>?_,I.base.there,fun b xs e=>?_,fun b ob u e=>?_,fun b qs e=>?_⟩,I.loc,I.cell,by rw[upd_ne (Ne.symm hL)];exact I.free,fun x c e=>by rw[upd_ne (hc x c e)];exact I.freeC x c e,fun p hp'=>?_,hok_lay I.hok hn new,I.len⟩
 ·rw[upd_ne (Nat.ne_of_lt (Nat.lt_of_lt_of_le (Heap.lt_size e) h0))];exact I.base.free b ob e n hx
 ·have q:=I.base.tups b xs e
  rw[upd_ne (ne _ _ q)];exact q
 ·have q:=I.base.frzs b ob u e
  rw[upd_ne (ne _ _ q)];exact q
 ·obtain⟨m,q⟩:=I.base.tbls b qs e
  exact⟨m,by rw[upd_ne (ne _ _ q)];exact q⟩
 ·obtain⟨h1,h2,h3⟩:=I.pin p hp'
  exact⟨h1,by rw[upd_ne (hp p hp')];exact h2,h3⟩
end
@[reducible] noncomputable def Tb:=Addr × Pos × Str
noncomputable def TabAt (H:Hp) (t:Tb):Prop:=H t.1=some (.tbl #[])\/∃c',H t.1=some (.tbl #[rawInt t.2.1.line,rawInt t.2.1.col,.ref c'])/\H c'=some (.cod t.2.2)
structure ExtT (M:Mo) (H H':Hp):Prop where
 same:∀a o,H a=some o->(∀ ps,o ≠ .tbl ps)->H' a=some o
 off:∀a,M a ≠ none->H a=none->H' a=none
 dom:∀a,H a ≠ none->H' a ≠ none
theorem ExtT.of {M:Mo} {H H':Hp} (x:Ext M H H'):ExtT M H H':=⟨fun a o h _=>x.same a o h,x.off,fun a h z=>by
 cases q:H a with
 | none=>exact h q
 | some o=>rw[x.same a o q]at z;cases z⟩
theorem ExtT.refl {M:Mo} {H:Hp}:ExtT M H H:=⟨fun _ _ h _=>h,fun _ _ h=>h,fun _ h=>h⟩
theorem ExtT.trans {M:Mo} {H H1 H2:Hp} (a:ExtT M H H1) (b:ExtT M H1 H2):ExtT M H H2:=⟨fun c o h n=>b.same c o (a.same c o h n) n,fun c m h=>b.off c m (a.off c m h),fun c h=>b.dom c (a.dom c h)⟩
noncomputable def spMk (M:Mo) (Ts:List Tb) (ist:Stmt) (nm x iq:Str):Sp:=fun vs H Q _=>∃v,vs=[v]/\(∀ t ∈ Ts,TabAt H t)/\
 ∀H' f c,ExtT M H H'->(∀ t ∈ Ts,TabAt H' t)->H c=none->M c=none->H f=none->M f=none->CloAt ist nm x iq H' f c v->Q (.ref f) H'
section
variable {P:Program} {w:World} {K:Frag} {mg:Str->Option Value} {base:Heap}
structure Maker (K:Frag) (st ist:Stmt) (mk qual nm x iq:Str) (pos:Pos) (f cc T:Addr) (fd:FuncData):Prop where
 lk:∃ (oc:Value) (od:Option Addr) (kV doc pm:Value) (an:Option Addr) (ct:Value) (osl:Array (Option Value)),fd=fnOf mk qual (defArgs st) (defBody st) (defScope st) .none kV doc pm an (.ref cc) ct/\K.lookup f=some ⟨oc,od,.func fd,osl⟩
 cd:PySem.W.codeIn K (.ref cc) qual=true
 hd:codeHdIn K cc T=true
 body:∃p1 p2,defBody st=[.FunctionDef nm (defArgs ist) (defBody ist) [] none [] (defScope ist) none nm pos,.Return (some (.Name nm p1)) p2]
 d0:(defArgs ist).defaults=[]
 k0:(defArgs ist).kw_defaults=[]
 ann:∀env,annTrees (defArgs ist) none env=[]
 sc:FnScope [x,nm] [x] (defScope st)
 cx:(defScope st).names.lookup x=some .cell
 ln:(defScope st).names.lookup nm=some .local
 hq:∀L a v,qualnameIn (envOfC qual (defScope st) L a v) nm nm=iq
 cl:∀L a v,closureFor (defScope ist) (envOfC qual (defScope st) L a v)=pure [(x,L + 1)]
 cells:∀L,cellsFrom (L + 1) (defScope st).names []=[(x,L + 1)]
 n1:(nm == ("__debug__" :Str))=false
 n2:(nm == ("__classdict__" :Str))=false
theorem fn_maker {Γ:Gam} {k:Nat} {st ist:Stmt} {mk qual nm x iq:Str} {pos:Pos} {f cc T:Addr} {fd:FuncData} {Ts:List Tb} (D:Maker K st ist mk qual nm x iq pos f cc T fd) (g:GOk P w K mg base Γ k) (B:base.BuiltinsAt mg T)
  (hT:(T,pos,iq) ∈ Ts) (hT1:∀t ∈ Ts,t.1=T->t=(T,pos,iq)):FnOk P w K mg base (CXW P w) (k + 1) f fd [x] (spMk Γ.mod Ts ist nm x iq):=by
 obtain⟨oc,od,kV,doc0,pm0,an,ct,osl,rfl,lk⟩:=D.lk
 refine⟨fun vs H Q E h=>by obtain⟨v,rfl,_⟩:=h;rfl,fun A outer s H args us vs Q E hr e0 hb r hsp=>?_⟩
 obtain⟨v,rfl,hTs,hQ⟩:=hsp
 have S:=D.sc
 have KX:K.In s.heap:=e0.mod.kin.keeps fun b o e=>(e0.bs b o e).1
 have lim:s.heap.NoLimit:=e0.mod.nolimit.keeps fun b o e=>(e0.bs b o e).1
 have hkind:∀y ∈ [x].zip us,(defScope st).names.lookup y.1=some .local\/((defScope st).names.lookup y.1=some .cell/\((cellsFrom (s.heap.objs.size + 1) (defScope st).names []).lookup y.1).isSome=true):=fun z86q hy=>by
  obtain⟨n,v⟩:=z86q
  rcases S.par n (List.of_mem_zip hy).1 with q | q
  ·exact .inl q
  ·exact .inr ⟨q,PySem.W.cellsFrom_some _ _ _ (.inl q)⟩
 refine codeAny_call_function hr.depth (KX _ _ lk) rfl S.co S.gen rfl (PySem.W.codeRec_of KX D.cd) (hb _ _ _ _ ?_)
 refine wpAny_newFunctionEnv_cells S.kind hkind fun env he s1 xc=>?_
 subst he
 refine⟨lim.keeps xc.toInCall.keep,codeAny_func ?_⟩
 have I:Inv (cxOf (CXW P w) P w K mg base [x,nm] qual (defScope st) f (.ref cc) A outer s H E) [] (start [x,nm] [v]) H s1:=inv_start S hr.hd e0 rfl r xc
 obtain⟨p1,p2,hbody⟩:=D.body
 have sz:s.heap.objs.size<=s1.heap.objs.size:=I.sz
 have hcl:(envOfC qual (defScope st) s.heap.objs.size f (.ref cc)).cells.lookup x=some (s.heap.objs.size + 1):=by
  show(cellsFrom (s.heap.objs.size + 1) (defScope st).names []).lookup x=_
  rw[D.cells]
  simp
 have only:∀y c,(envOfC qual (defScope st) s.heap.objs.size f (.ref cc)).cells.lookup y=some c->c=s.heap.objs.size + 1:=fun y c e=>by
  have e:(cellsFrom (s.heap.objs.size + 1) (defScope st).names []).lookup y=some c:=e
  rw[D.cells,List.lookup_cons]at e
  split at e
  ·cases e;rfl
  ·cases e
 -- behind the two statements
 have fin:∀ (H2:Hp) (f' c':Addr) (dc pm cv:Value) (s2:Shared),Inv (cxOf (CXW P w) P w K mg base [x,nm] qual (defScope st) f (.ref cc) A outer s H E) [] (start [x,nm] [v]) H2 s2->
   H2 f'=some (.clo (fnX nm iq (defArgs ist) (defBody ist) (defScope ist) [(x,s.heap.objs.size + 1)] .none .none dc pm none (.ref c') cv))->H2 c'=some (.cod iq)->(∀ t ∈ Ts,TabAt H2 t)->ExtT Γ.mod H H2->s.heap.objs.size<=f'->
   wpAny (model P w) (A.deeper (envOfC qual (defScope st) s.heap.objs.size f (.ref cc))) (storeName (envOfC qual (defScope st) s.heap.objs.size f (.ref cc)) nm (.ref f')) (fun _ s''=>
    wpAny (model P w) (A.deeper (envOfC qual (defScope st) s.heap.objs.size f (.ref cc))) (execs [.Return (some (.Name nm p1)) p2] (envOfC qual (defScope st) s.heap.objs.size f (.ref cc)))
     (fun fl s'=>∃u,fl=.ret u/\CE outer P w H s Q u s') (cxOf (CXW P w) P w K mg base [x,nm] qual (defScope st) f (.ref cc) A outer s H E).xe s'')
    (cxOf (CXW P w) P w K mg base [x,nm] qual (defScope st) f (.ref cc) A outer s H E).xe s2:=by
  intro H2 f' c' dc pm cv s2 I2 hf hc hts xt hsz
  refine store_ok (X:=cxOf (CXW P w) P w K mg base [x,nm] qual (defScope st) f (.ref cc) A outer s H E) (i:=1) (v:=.ref f') I2 S.nd rfl (.inl D.ln) rfl (fun s3 I3=>?_)
  refine wpAny_execs_cons (wpAny_Return_some (thn (pe_var (X:=cxOf (CXW P w) P w K mg base [x,nm] qual (defScope st) f (.ref cc) A outer s H E) (i:=1) (x:=nm) rfl (.inl D.ln) D.n1 D.n2 [] s3 _ H2 (fun v' H'=>v'=.ref f'/\H'=H2) I3 ⟨.ref f',rfl,rfl,rfl⟩) fun u s4 z87q=>?_))
  obtain⟨v',H',I4,ru,ev,eH⟩:=z87q
  subst ev eH
  obtain rfl:u=Value.ref f':=ru
  have hn:H' (s.heap.objs.size + 1)=none:=I4.freeC x _ hcl
  obtain⟨m,hm,hl⟩:=I4.loc
  obtain⟨u,rv,lk'⟩:=hl 0 x v rfl rfl (.inr (.inl D.cx))
  have hcell:s4.heap.IsCell (s.heap.objs.size + 1) (some u):=by
   rcases lk' with ⟨q,_⟩ | ⟨_,c,q,z⟩
   ·have q:(defScope st).names.lookup x=some .local:=q
    rw[D.cx]at q;cases q
   ·have:=only x c q
    subst this
    exact z
  have ne:∀b o,H' b=some o->b ≠ s.heap.objs.size + 1:=fun b o e=>ne_of_none e hn
  have nb:∀b o,s.heap.get? b=some o->b ≠ s.heap.objs.size + 1:=fun b o e=>Nat.ne_of_lt (Nat.lt_succ_of_lt (Heap.lt_size e))
  have un:Un (frs outer) [] H (upd H' (s.heap.objs.size + 1) (.cel v)) s.heap s4.heap:=
   ⟨I4.base.keep,I4.base.slot,fun b o e n hx=>by rw[upd_ne (nb b o e)];exact I4.base.free b o e n hx,I4.base.there,
    fun b xs e=>by have q:=I4.base.tups b xs e;rw[upd_ne (ne _ _ q)];exact q,fun b o u e=>by have q:=I4.base.frzs b o u e;rw[upd_ne (ne _ _ q)];exact q,
    fun b qs e=>by obtain⟨m,q⟩:=I4.base.tbls b qs e;exact⟨m,by rw[upd_ne (ne _ _ q)];exact q⟩⟩
  have fresh:∀b,s.heap.objs.size<=b->Γ.mod b=none:=fun b hb=>by
   cases q:Γ.mod b with
   | none=>rfl
   | some o=>
    obtain⟨ob,e⟩:=g.mod.look (a:=b) (by rw[q];exact fun z=>nomatch z)
    exact absurd (Nat.lt_of_lt_of_le (Heap.lt_size (KX _ _ e)) hb) (Nat.lt_irrefl _)
  have keep:∀b o,H' b=some o->upd H' (s.heap.objs.size + 1) (.cel v) b=some o:=fun b o e=>by rw[upd_ne (ne b o e)];exact e
  refine⟨.ref f',rfl,.ref f',upd H' (s.heap.objs.size + 1) (.cel v),I4.os,I4.bare,un,hok_lay I4.hok hn ⟨u,rv,hcell⟩,rfl,hQ _ f' (s.heap.objs.size + 1) ⟨fun a o e n=>keep a o (xt.same a o e n),fun a ma e=>?_,fun a h z=>?_⟩ (fun t ht=>?_) (e0.hok.fresh (Nat.le_succ _)) (fresh _ (Nat.le_succ _)) (e0.hok.fresh hsz) (fresh _ hsz) ⟨⟨c',dc,pm,cv,keep _ _ hf,keep _ _ hc⟩,upd_same⟩⟩
  ·rw[upd_ne (fun z=>ma (by rw[z];exact fresh _ (Nat.le_succ _)))]
   exact xt.off a ma e
  ·cases q:H' a with
   | none=>exact xt.dom a h q
   | some o=>rw[keep a o q]at z;cases z
  ·rcases hts t ht with q | ⟨c2,q,q2⟩
   ·exact .inl (keep _ _ q)
   ·exact .inr ⟨c2,keep _ _ q,keep _ _ q2⟩
 refine wpAny_mono (Q:=fun fl s'=>∃u,fl=.ret u/\CE outer P w H s Q u s') (E:=(cxOf (CXW P w) P w K mg base [x,nm] qual (defScope st) f (.ref cc) A outer s H E).xe) ?_ (fun fl s' hs=>by obtain⟨u,rfl,z⟩:=hs;exact z) (fun e s' hs=>hs)
 show wpAny (model P w) (A.deeper (envOfC qual (defScope st) s.heap.objs.size f (.ref cc))) (execs (defBody st) (envOfC qual (defScope st) s.heap.objs.size f (.ref cc))) _ _ s1
 rw[hbody]
 have hns:s1.heap.Ns mainGlobals mg:=I.mod.glob.keeps I.bk
 have hBs:s1.heap.BuiltinsAt mg T:=by obtain⟨bm,o,h1,h2,h3,h4,h5,r⟩:=B;exact⟨bm,o,h1,h2,h3,h4,I.bk _ _ h5,r⟩
 have CH:CodeHd s1.heap cc T:=codeHd_of_K I.kIn D.hd
 refine wpAny_execs_cons (nestDef_K D.d0 D.k0 (D.ann _) ?_)
 rw[show qualnameIn (envOfC qual (defScope st) s.heap.objs.size f (.ref cc)) nm nm=iq from D.hq _ _ _]
 rcases hTs _ hT with hP | ⟨c',hP,hc'⟩
 ·-- the first time
  have hP:H T=some (.tbl #[]):=hP
  have hgT:mainGlobals ≠ T:=fun z=>by
   obtain⟨o,es,ep,e,_⟩:=I.mod.glob
   have:=(I.bs _ _ e).2
   rw[z,hP]at this;cases this
  refine makeFunction_K (mg:=mg) (D.cl _ _ _) rfl hns rfl CH (I.hok T _ hP) trivial rfl hgT hBs fun c' ctv doc h' tk hx hge hlt hrec htb=>?_
  have I2:=Inv.grown (t':=tk) (more:=#[rawInt pos.line,rawInt pos.col,.ref c']) I hP hx htb
  have hTlt:T < s1.heap.objs.size:=I.hok.lt hP
  have hcn:upd H T (.tbl (#[]++#[rawInt pos.line,rawInt pos.col,.ref c'])) c'=none:=by
   rw[upd_ne (Nat.ne_of_gt (Nat.lt_of_lt_of_le hTlt hge))]
   exact I.hok.fresh hge
  have I3:=Inv.track (a:=c') (o:=.cod iq) I2 hcn (Nat.le_trans sz hge) (Nat.ne_of_gt (Nat.lt_of_lt_of_le I.lt hge)) (fun y c e=>by
   obtain⟨_,z⟩:=I.cell y c e
   exact Nat.ne_of_lt (Nat.lt_of_lt_of_le z.lt hge)) (fun p hp=>absurd (show p ∈ ([]:List (Addr × Obj))from hp) List.not_mem_nil) hrec
  have I4:=Inv.laid (a:=h'.objs.size) (t':=tk) (o:=.clo (fnX nm iq (defArgs ist) (defBody ist) (defScope ist) [(x,s.heap.objs.size + 1)] .none .none doc ((mg "__name__").getD .none) none (.ref c') ctv)) I3
   (h':=h'.push (fnMade nm iq (defArgs ist) (defBody ist) (defScope ist) [(x,s.heap.objs.size + 1)] doc ((mg "__name__").getD .none) c' ctv)) (fun b u e=>Heap.get?_push_of_some _ e) (Nat.le_refl _) (Heap.get?_push_size _ rfl)
  have old:∀b o,H b=some o->b ≠ T->upd (upd (upd H T (.tbl (#[]++#[rawInt pos.line,rawInt pos.col,.ref c']))) c' (.cod iq)) h'.objs.size (.clo (fnX nm iq (defArgs ist) (defBody ist) (defScope ist) [(x,s.heap.objs.size + 1)] .none .none doc ((mg "__name__").getD .none) none (.ref c') ctv)) b=some o:=fun b o e ne=>by
   have hb:=I.hok.lt e
   rw[upd_ne (Nat.ne_of_lt (Nat.lt_trans (Nat.lt_of_lt_of_le hb hge) hlt)),upd_ne (Nat.ne_of_lt (Nat.lt_of_lt_of_le hb hge)),upd_ne ne]
   exact e
  have hcc:upd (upd (upd H T (.tbl (#[]++#[rawInt pos.line,rawInt pos.col,.ref c']))) c' (.cod iq)) h'.objs.size (.clo (fnX nm iq (defArgs ist) (defBody ist) (defScope ist) [(x,s.heap.objs.size + 1)] .none .none doc ((mg "__name__").getD .none) none (.ref c') ctv)) c'=some (.cod iq):=by
   rw[upd_ne (Nat.ne_of_lt hlt),upd_same]
  refine fin _ h'.objs.size c' doc _ ctv _ I4 upd_same hcc (fun t ht=>?_) ⟨fun a o e n=>old a o e (fun z=>n #[] (by rw[z,hP]at e;exact(Option.some.inj e).symm)),fun a ma e=>?_,fun a h z=>?_⟩ (Nat.le_trans sz (Nat.le_trans hge (Nat.le_of_lt hlt)))
  ·by_cases ht1:t.1=T
   ·have:=hT1 t ht ht1
    subst this
    refine .inr ⟨c',?_,hcc⟩
    show upd _ _ _ T=_
    rw[upd_ne (Nat.ne_of_lt (Nat.lt_trans (Nat.lt_of_lt_of_le hTlt hge) hlt)),upd_ne (Nat.ne_of_lt (Nat.lt_of_lt_of_le hTlt hge)),upd_same]
    rfl
   ·rcases hTs t ht with q | ⟨c2,q,q2⟩
    ·exact .inl (old _ _ q ht1)
    ·exact .inr ⟨c2,old _ _ q ht1,old _ _ q2 (fun z=>by rw[z,hP]at q2;cases q2)⟩
  ·obtain⟨ob,e2⟩:=g.mod.look ma
   have hlt2:a < s1.heap.objs.size:=Heap.lt_size (I.kIn _ _ e2)
   rw[upd_ne (Nat.ne_of_lt (Nat.lt_trans (Nat.lt_of_lt_of_le hlt2 hge) hlt)),upd_ne (Nat.ne_of_lt (Nat.lt_of_lt_of_le hlt2 hge)),upd_ne (fun z=>by rw[z,hP]at e;cases e)]
   exact e
  ·by_cases ha:a=T
   ·rw[ha,upd_ne (Nat.ne_of_lt (Nat.lt_trans (Nat.lt_of_lt_of_le hTlt hge) hlt)),upd_ne (Nat.ne_of_lt (Nat.lt_of_lt_of_le hTlt hge)),upd_same]at z
    cases z
   ·cases q:H a with
    | none=>exact h q
    | some o=>rw[old a o q ha]at z;cases z
 ·-- the code is there
  have hP:H T=some (.tbl #[rawInt pos.line,rawInt pos.col,.ref c']):=hP
  have hc':H c'=some (.cod iq):=hc'
  refine makeFunction_hit (mg:=mg) (cv:=.ref c') (D.cl _ _ _) rfl hns rfl CH (I.hok T _ hP) (by simp[TriplesOk,rawInt]) (by simp[codeAmong,rawInt]) hBs fun ctv doc h' tk hk hsz=>?_
  have I2:=Inv.kept (t':=tk) I hk
  have I4:=Inv.laid (a:=h'.objs.size) (t':=tk) (o:=.clo (fnX nm iq (defArgs ist) (defBody ist) (defScope ist) [(x,s.heap.objs.size + 1)] .none .none doc ((mg "__name__").getD .none) none (.ref c') ctv)) I2
   (h':=h'.push (fnMade nm iq (defArgs ist) (defBody ist) (defScope ist) [(x,s.heap.objs.size + 1)] doc ((mg "__name__").getD .none) c' ctv)) (fun b u e=>Heap.get?_push_of_some _ e) (Nat.le_refl _) (Heap.get?_push_size _ rfl)
  have old:∀b o,H b=some o->upd H h'.objs.size (.clo (fnX nm iq (defArgs ist) (defBody ist) (defScope ist) [(x,s.heap.objs.size + 1)] .none .none doc ((mg "__name__").getD .none) none (.ref c') ctv)) b=some o:=fun b o e=>by
   rw[upd_ne (Nat.ne_of_lt (Nat.lt_of_lt_of_le (I.hok.lt e) hsz))]
   exact e
  refine fin _ h'.objs.size c' doc _ ctv _ I4 upd_same (old _ _ hc') (fun t ht=>?_) ⟨fun a o e n=>old a o e,fun a ma e=>?_,fun a h z=>?_⟩ (Nat.le_trans sz hsz)
  ·rcases hTs t ht with q | ⟨c2,q,q2⟩
   ·exact .inl (old _ _ q)
   ·exact .inr ⟨c2,old _ _ q,old _ _ q2⟩
  ·obtain⟨ob,e2⟩:=g.mod.look ma
   have hlt2:a < s1.heap.objs.size:=Heap.lt_size (I.kIn _ _ e2)
   rw[upd_ne (Nat.ne_of_lt (Nat.lt_of_lt_of_le hlt2 hsz))]
   exact e
  ·cases q:H a with
   | none=>exact h q
   | some o=>rw[old a o q]at z;cases z
end
end Sw
namespace Sw
set_option genInjectivity false
open PySem PySem.Spec PyProof.Rows L2
open PySem.W (Frag tabObj CodeHd codeHdIn codeHd_of_K noTabs mem_of_lookupK)
theorem law_callT {P:Program} {w:World} {K:Frag} {mg mb:Str->Option Value} {CX:CXT} {k:Nat} {fa a:Addr} {fd:FuncData} {x:Str} {sp:Sp} {s₁:Shared} {vs:List Value} {ns:List Int} (ts:List Addr)
  (KX:K.In s₁.heap) (hT:∀T ∈ ts,s₁.heap.get? T=some (tabObj #[])) (hcd:∀T ∈ ts,isCodeTable s₁.heap T) (hno:noTabs K=true)
  (hns:s₁.heap.Ns mainGlobals mg) (hb:s₁.heap.Ns builtinsNs mb) (hbb:∀x:Str,x ≠ "__name__" ->mb x=bootBuiltins x) (hlim:s₁.heap.NoLimit) (hg:s₁.gens=#[])
  (hbm:∃bm ob,mg "__builtins__" =some (.ref bm)/\bm ≠ builtinsNs/\s₁.heap.get? bm=some ob/\ob.cls=.type "module" /\ob.dict=some builtinsNs/\ob.data=.plain)
  (ha:s₁.heap.get? a=some {cls:=.type "list",data:=.seq vs.toArray}) (hi:IntsAre vs ns) (hl:ns.length<=sizeLine) (hr:Room k callerA)
  (F:∀base:Heap,K.In base->base.Ns mainGlobals mg->(∀ T ∈ ts,base.BuiltinsAt mg T)->FnOk P w K mg base CX k fa fd [x] sp) (hbind:∀ (s:Shared) (u:Value),BindsTo s fd ⟨[u],[]⟩ [(x,u)])
  (hsp:∀H:Hp,(∀ T ∈ ts,H T=some (.tbl #[]))->SqL K H a (ns.map V.int)->sp [.ref a] H (fun v _=>v=.bl true) fun _ _ _=>False)
  (hCX:∀H e s',CX [] H s₁ (fun _ _ _=>False) e s'->False):
  codeAny (model P w) callerA (.call (.ref fa) ⟨[.ref a],[]⟩) (fun r s'=>r=.ok (.ret (.bool true))/\OldK s₁.heap s'.heap/\s'.os=s₁.os/\AllBare s'.gens) s₁:=by
 have rv:=vals_ints hi
 have lenV:=hi.length
 have haT:a ∉ ts:=fun z=>by
  have:=hT a z
  rw[ha]at this;cases this
 have hKT:∀T ∈ ts,K.lookup T=none:=fun T hm=>by
  cases q:K.lookup T with
  | none=>rfl
  | some o=>
   have e:=KX _ _ q
   rw[hT T hm]at e
   cases e
   have h2:=List.all_eq_true.mp hno (T,tabObj #[]) (mem_of_lookupK q)
   exact absurd (show false=true from h2) Bool.false_ne_true
 have core:∀H:Hp,(∀ T ∈ ts,H T=some (.tbl #[]))->SqL K H a (ns.map V.int)->HOk P w H s₁.heap->(∀ b,H b ≠ none->b ∉ ts->b=a/\∃o xs,H b=some (.frz o (.lst xs)))->(H a ≠ none->K.lookup a=none)->
   codeAny (model P w) callerA (.call (.ref fa) ⟨[.ref a],[]⟩) (fun r s'=>r=.ok (.ret (.bool true))/\OldK s₁.heap s'.heap/\s'.os=s₁.os/\AllBare s'.gens) s₁:=by
  intro H hTs hS hok hA hK
  have base_of:∀ {b:Addr} {o:Obj},s₁.heap.get? b=some o->H b=none->(hidT s₁.heap H).get? b=some o:=fun e n=>hidT_get e n
  have noB:∀ {b:Addr} {o:Obj},s₁.heap.get? b=some o->(∀ v n,o.data ≠ .seq v n)->(∀ v,o.data ≠ .fields v)->H b=none:=fun{b o} e d1 d2=>by
   cases q:H b with
   | none=>rfl
   | some u=>
    by_cases hb:b ∈ ts
    ·have:=hT b hb
     rw[e]at this;cases this
     exact absurd rfl (d2 _)
    ·obtain⟨e',_⟩:=hA b (by rw[q];exact fun z=>nomatch z) hb
     subst e'
     rw[ha]at e;cases e
     exact absurd rfl (d1 _ _)
  have nsK:∀ {b:Addr} {m:Str->Option Value},s₁.heap.Ns b m->(hidT s₁.heap H).Ns b m:=fun{b m} z88q=>by obtain⟨o,es,ep,e,d,r⟩:=z88q;exact⟨o,es,ep,base_of e (noB e (fun v n z=>by rw[d]at z;cases z) fun v z=>by rw[d]at z;cases z),d,r⟩
  have hKb:K.In (hidT s₁.heap H):=fun b o e=>base_of (KX b o e) (by
   cases q:H b with
   | none=>rfl
   | some u=>
    by_cases hb:b ∈ ts
    ·rw[hKT b hb]at e;cases e
    ·obtain⟨e',_⟩:=hA b (by rw[q];exact fun z=>nomatch z) hb
     subst e'
     rw[hK (by rw[q];exact fun z=>nomatch z)]at e;cases e)
  have hM:Mod K mg (hidT s₁.heap H):=⟨hKb,nsK hns,⟨mb,nsK hb,hbb⟩,by obtain⟨mc,h1,h2⟩:=hlim;exact⟨mc,nsK h1,h2⟩⟩
  have hBu:∀T ∈ ts,(hidT s₁.heap H).BuiltinsAt mg T:=fun T hm=>by
   obtain⟨bm,ob,b1,b2,b3,b4,b5,b6⟩:=hbm
   have n0:H bm=none:=noB b3 (fun v n z=>by rw[b6]at z;cases z) fun v z=>by rw[b6]at z;cases z
   refine⟨bm,ob,b1,b2,fun z=>?_,fun z=>?_,base_of b3 n0,b4,b5,b6⟩
   ·obtain⟨o,es,ep,e,d,_⟩:=hns
    rw[z,e]at b3;cases b3;rw[d]at b6;cases b6
   ·rw[z,hTs T hm]at n0;cases n0
  have e0:Env0 P w K mg (hidT s₁.heap H) callerA [] s₁ H:=⟨rfl,hM,fun b o e=>of_hidT e,Nat.le_of_eq (hidT_size _ _),trivial,fun b hb=>absurd (show b ∈ ([]:List Addr)from hb) (by simp),hok,.of_eq hg⟩
  refine codeAny_mono ((F _ hKb (nsK hns) hBu).run callerA [] s₁ H ⟨[.ref a],[]⟩ [.ref a] [.ref a] _ _ hr e0 (hbind s₁ (.ref a)) (.cons rfl .nil) (hsp H hTs hS)) fun r s' h=>?_
  cases r with
  | error e=>exact(hCX H e s' h).elim
  | ok fl=>
   cases fl with
   | next=>exact False.elim h
   | brk=>exact False.elim h
   | cont=>exact False.elim h
   | ret u=>
    obtain⟨v,H',os,bare,un,hok',r',q⟩:=h
    have q':v=.bl true:=q
    subst q'
    obtain rfl:u=Value.bool true:=r'
    have same:∀b o,b ∉ ts->s₁.heap.get? b=some o->s'.heap.get? b=some o:=fun b o hb e=>by
     cases q:H b with
     | none=>exact un.keep b o e q (by intro z;exact absurd (show b ∈ ([]:List Addr)from z) (by simp)) (by simp)
     | some u=>
      obtain⟨_,ob,xs,z⟩:=hA b (by rw[q];exact fun z=>nomatch z) hb
      have z2:=un.frzs b ob _ z
      obtain⟨e1,_⟩:=hok b _ z
      obtain⟨e2,_⟩:=hok' b _ z2
      rw[e]at e1;cases e1
      exact e2
    have grew:∀T ∈ ts,∃ps,s'.heap.get? T=some (tabObj ps):=fun T hm=>by
     obtain⟨more,z⟩:=un.tbls T _ (hTs T hm)
     exact⟨_,hok' T _ z⟩
    refine⟨rfl,⟨fun b o e=>?_,fun b o e=>?_⟩,os,bare⟩
    ·by_cases hb:b ∈ ts
     ·obtain⟨ps,z⟩:=grew b hb
      have:=hT b hb
      rw[e]at this;cases this
      exact .inr (.inl ⟨hcd b hb,rfl,#[],ps,rfl,by rw[Array.empty_append];exact z⟩)
     ·exact .inl (same b o hb e)
    ·by_cases hb:b ∈ ts
     ·obtain⟨ps,z⟩:=grew b hb
      exact⟨_,z⟩
     ·exact⟨o,same b o hb e⟩
 cases hk:K.lookup a with
 | some o=>
  have e:=KX a o hk
  rw[ha]at e
  cases e
  refine core (fun b=>if b ∈ ts then some (.tbl #[])else none) (fun T hm=>if_pos hm) (.inr ⟨_,vs.toArray,_,hk,rfl,rfl,rfl,by rw[List.size_toArray,lenV];exact hl,by simpa using rv⟩) (fun b u z=>?_) (fun b z hb=>absurd (if_neg hb) z) fun z=>absurd (if_neg haT) z
  by_cases hb:b ∈ ts
  ·have z':=(if_pos hb).symm.trans z
   cases z'
   exact hT b hb
  ·have z':=(if_neg hb).symm.trans z
   cases z'
 | none=>
  refine core (fun b=>if b ∈ ts then some (.tbl #[])else if b=a then some (.frz {cls:=.type "list",data:=.seq vs.toArray} (.lst (ns.map V.int)))else none) (fun T hm=>if_pos hm) (.inl (.inr ⟨{cls:=.type "list",data:=.seq vs.toArray},(if_neg haT).trans (if_pos rfl)⟩)) (fun b u z=>?_) (fun b z hb=>?_) fun _=>hk
  ·by_cases hb:b ∈ ts
   ·have z':=(if_pos hb).symm.trans z
    cases z'
    exact hT b hb
   ·by_cases hb2:b=a
    ·have z':=((if_neg hb).trans (if_pos hb2)).symm.trans z
     cases z'
     subst hb2
     exact⟨ha,by rw[List.length_map];exact hl,vs,_,rv,ha⟩
    ·have z':=((if_neg hb).trans (if_neg hb2)).symm.trans z
     cases z'
  ·by_cases hb2:b=a
   ·exact⟨hb2,_,_,(if_neg hb).trans (if_pos hb2)⟩
   ·exact absurd ((if_neg hb).trans (if_neg hb2)) z
theorem walk_ofT {l:PySem.W.OpenLaw} {n k:Nat} {q:Program} {loose:List Str} {XP:(Str->Option Value)->Heap->Prop} {YP:World->Heap->Prop} {d:DefRec} {K:Params->Frag} {CX:World->CXT} {sp:World->Sp} {x:Str} (ts:List Addr)
  (hn:l.most=some n) (hn2:n<=sizeLine) (hdf:d.params.defaults=[]) (hr:Room k callerA)
  (hY:∀ (w:World) (h:Heap),YP w h->(K w.params).In h/\∀T ∈ ts,h.get? T=some (tabObj #[]))
  (hno:∀w:World,noTabs (K w.params)=true) (hcd:∀w:World,∀T ∈ ts,∃c,codeHdIn (K w.params) c T=true)
  (F:∀ (w:World) (mg:Str->Option Value) (fa:Addr) (h:Heap),(K w.params).In h->h.Ns mainGlobals mg->mg d.name=some (.ref fa)->
   ∃fd:FuncData,(∀ (s:Shared) (u:Value),BindsTo s fd ⟨[u],[]⟩ [(x,u)])/\
    ∀base:Heap,(K w.params).In base->base.Ns mainGlobals mg->(∀ T ∈ ts,base.BuiltinsAt mg T)->FnOk l.prog w (K w.params) mg base (CX w) k fa fd [x] (sp w))
  (hsp:∀ (w:World) (H:Hp) (a:Addr) (ns:List Int),ns.length<=n->(∀ T ∈ ts,H T=some (.tbl #[]))->SqL (K w.params) H a (ns.map V.int)->sp w [.ref a] H (fun v _=>v=.bl true) fun _ _ _=>False)
  (hCX:∀ (w:World) (H:Hp) (s:Shared) (e:Value) (s':Shared),CX w [] H s (fun _ _ _=>False) e s'->False):
  PySem.W.WalkO q loose XP YP l.row.toRowW d [] (fun f vs=>PySem.call f vs):=by
 refine Att.attach_call hn hdf fun w s₀ s₁ mg mb fa o pm cd doc a vs ns G Y ho hd hcd' hmg hobj hints hlen hg=>?_
 obtain⟨KX,hT⟩:=hY w _ Y
 obtain⟨fd,hb,hF⟩:=F w mg fa _ KX G.T.g hmg
 refine law_callT ts KX hT (fun T hm=>?_) (hno w) G.T.g G.T.b G.T.builtins G.T.nolimit hg G.T.bmain hobj hints (Nat.le_trans hlen hn2) hr hF hb (fun H hO hS=>hsp w H a ns hlen hO hS) fun H e s'=>hCX w H s₁ e s'
 obtain⟨c,hc⟩:=hcd w T hm
 exact((codeHd_of_K KX hc).tab (hT T hm)).isCodeTable
end Sw
namespace Tx
set_option genInjectivity false
open PySem PySem.StrLaws PySem.Builtin PySem.Builtin.Str
theorem chain_one {s sub:Str} {hi:Nat} (hw:1<=sub.length):∀ {a:Nat} {cs ds:List Nat} {f g:Nat},ChainG s sub hi a cs f->(∀ k,f<=k->¬At s sub hi k)->ChainG s sub hi a ds g->(∀ k,g<=k->¬At s sub hi k)->cs=ds
 | a,[],[],f,g,_,_,_,_=>rfl
 | a,[],d::ds,f,g,h1,h2,h3,_=>by
  have e:f=a:=h1
  subst e
  exact absurd h3.2.1 (h2 d h3.1)
 | a,c::cs,[],f,g,h1,_,h3,h4=>by
  have e:g=a:=h3
  subst e
  exact absurd h1.2.1 (h4 c h1.1)
 | a,c::cs,d::ds,f,g,h1,h2,h3,h4=>by
  have e:c=d:=by
   rcases Nat.lt_trichotomy c d with q | q | q
   ·exact absurd h1.2.1 (h3.2.2.1 c h1.1 q)
   ·exact q
   ·exact absurd h3.2.1 (h1.2.2.1 d h3.1 q)
  subst e
  rw[chain_one hw h1.2.2.2 h2 h3.2.2.2 h4]
noncomputable def joinN (g:List Nat):List (List Nat)->List Nat
 | []=>[]
 | [p]=>p
 | p::q::r=>p++g++joinN g (q::r)
noncomputable def Free (g p:List Nat):Prop:=∀ (r:List Nat) (k:Nat),k < p.length->((p++r).drop k).take g.length ≠ g
noncomputable def cutsN (w:Nat):Nat->List (List Nat)->List Nat
 | _,[]=>[]
 | _,[_]=>[]
 | a,p::q::r=>(a + p.length)::cutsN w (a + p.length + w) (q::r)
noncomputable def endN (w:Nat):Nat->List (List Nat)->Nat
 | a,[]=>a
 | a,[_]=>a
 | a,p::q::r=>endN w (a + p.length + w) (q::r)
theorem at_iff (x y:Str) (k:Nat):At x y x.length k ↔ k + y.length<=x.length/\(x.cps.toList.drop k).take y.length=y.cps.toList:=by
 unfold At
 rw[subAt_eq,beq_iff_eq]
theorem len_l (x:Str):x.length=x.cps.toList.length:=by simp[Str.length]
theorem chain_join {x y:Str} (hw:1<=y.length):∀ (ps:List (List Nat)) (pre:List Nat),ps ≠ []->(∀ p ∈ ps,Free y.cps.toList p)->x.cps.toList=pre++joinN y.cps.toList ps->
  ChainG x y x.length pre.length (cutsN y.length pre.length ps) (endN y.length pre.length ps)/\(∀ k,endN y.length pre.length ps<=k->¬At x y x.length k)/\
   (partsFrom x y.length pre.length (cutsN y.length pre.length ps)).map (·.cps.toList)=ps
 | [],_,h,_,_=>absurd rfl h
 | [p],pre,_,hf,hx=>by
  refine⟨rfl,fun k hk hA=>?_,?_⟩
  ·rw[at_iff,hx]at hA
   have hk:pre.length<=k:=hk
   obtain⟨h1,h2⟩:=hA
   have hl:x.length=pre.length + p.length:=by rw[len_l,hx];simp[joinN]
   have e:(pre++joinN y.cps.toList [p]).drop k=(p++[]).drop (k - pre.length):=by
    rw[List.drop_append,List.drop_of_length_le hk,List.nil_append,List.append_nil];rfl
   rw[e]at h2
   refine hf p (by simp) [] (k - pre.length) (by omega) ?_
   rw[<-len_l]
   exact h2
  ·show [(strSub x pre.length x.length).cps.toList]=[p]
   rw[strSub_toList,hx,List.drop_append,List.drop_of_length_le (Nat.le_refl _),List.nil_append,Nat.sub_self,List.drop_zero]
   have hl:x.length=pre.length + p.length:=by rw[len_l,hx];simp[joinN]
   rw[List.take_of_length_le (by show p.length<=_;omega)]
   rfl
 | p::q::r,pre,_,hf,hx=>by
  have hx':x.cps.toList=(pre++(p++y.cps.toList))++joinN y.cps.toList (q::r):=by rw[hx];simp[joinN]
  have ih:=chain_join hw (q::r) (pre++(p++y.cps.toList)) (by simp) (fun z hz=>hf z (List.mem_cons_of_mem _ hz)) hx'
  have el:(pre++(p++y.cps.toList)).length=pre.length + p.length + y.length:=by rw[List.length_append,List.length_append,len_l y];omega
  rw[el]at ih
  have hl:pre.length + p.length + y.length<=x.length:=by rw[len_l x,hx',List.length_append,el];omega
  have dr:∀k,pre.length<=k->x.cps.toList.drop k=(p++(y.cps.toList++joinN y.cps.toList (q::r))).drop (k - pre.length):=fun k hk=>by
   rw[hx,List.drop_append,List.drop_of_length_le hk,List.nil_append]
   simp[joinN]
  refine⟨⟨Nat.le_add_right _ _,?_,fun k h1 h2 hA=>?_,ih.1⟩,ih.2.1,?_⟩
  ·rw[at_iff,dr _ (Nat.le_add_right _ _)]
   refine⟨hl,?_⟩
   rw[Nat.add_sub_cancel_left,List.drop_append,List.drop_of_length_le (Nat.le_refl _),List.nil_append,Nat.sub_self,List.drop_zero,len_l y,List.take_append_of_le_length (Nat.le_refl _),List.take_of_length_le (Nat.le_refl _)]
  ·rw[at_iff,dr k h1]at hA
   refine hf p (by simp) (y.cps.toList++joinN y.cps.toList (q::r)) (k - pre.length) (by omega) ?_
   rw[<-len_l]
   exact hA.2
  ·show(strSub x pre.length (pre.length + p.length)).cps.toList::(partsFrom x y.length (pre.length + p.length + y.length) (cutsN y.length (pre.length + p.length + y.length) (q::r))).map (·.cps.toList)=p::q::r
   rw[ih.2.2,strSub_toList,dr _ (Nat.le_refl _),Nat.sub_self,List.drop_zero,Nat.add_sub_cancel_left,List.take_append_of_le_length (Nat.le_refl _),List.take_of_length_le (Nat.le_refl _)]
theorem ext_l {x y:Str} (h:x.cps.toList=y.cps.toList):x=y:=by
 apply Str.ext'
 exact Array.toList_inj.mp h
theorem map_inj:∀ {a b:List Str},a.map (·.cps.toList)=b.map (·.cps.toList)->a=b
 | [],[],_=>rfl
 | [],_::_,h=>by simp at h
 | _::_,[],h=>by simp at h
 | x::a,y::b,h=>by
  simp only[List.map_cons,List.cons.injEq]at h
  rw[ext_l h.1,map_inj h.2]
theorem split_join {x y:Str} {ps:List Str} (hw:1<=y.length) (hk:strKind x=strKind y) (h0:ps ≠ []) (hf:∀p ∈ ps,Free y.cps.toList p.cps.toList) (hx:x.cps.toList=joinN y.cps.toList (ps.map (·.cps.toList))):Txt.split x y=ps:=by
 obtain⟨c1,c2,c3⟩:=chain_join (x:=x) (y:=y) hw (ps.map (·.cps.toList)) [] (by simpa using h0) (fun p hp=>by
  obtain⟨z,hz,rfl⟩:=List.mem_map.mp hp
  exact hf z hz) (by simpa using hx)
 obtain⟨f,o1,o2⟩:=occ_tight x y hw
 have e:=chain_one hw o1 o2 c1 c2
 unfold Txt.split
 split
 ·rename_i hs
  have hlt:x.length < y.length:=by
   simp only[Bool.or_eq_true,decide_eq_true_eq]at hs
   rcases hs with q | q
   ·exact q
   ·omega
  -- no separator fits in: one piece
  cases ps with
  | nil=>exact absurd rfl h0
  | cons p r=>
   cases r with
   | nil=>
    have:x.cps.toList=p.cps.toList:=hx
    rw[ext_l this]
   | cons q r=>
    have:=congrArg List.length hx
    simp only[List.map_cons,joinN,List.length_append]at this
    rw[len_l,len_l y]at hlt
    omega
 ·split
  ·rename_i hs
   have hnil:occurrences x y 0 x.length (x.length + 1)=[]:=by simpa using hs
   rw[hnil]at e
   rw[<-e]at c3
   have c3:[(strSub x 0 x.length).cps.toList]=ps.map (·.cps.toList):=c3
   rw[sub_whole]at c3
   exact map_inj (by simpa using c3)
  ·rw[partsBetween_eq,e]
   exact map_inj c3
noncomputable def bOk (c:Nat):List Nat->Bool
 | []=>true
 | [x]=>x != 32
 | x::y::r=>(x != 32 || y != c) && bOk c (y::r)
theorem bOk_get {c:Nat}:∀ {p:List Nat} {k:Nat},bOk c p=true->p[k]?=some 32->∃d,p[k + 1]?=some d/\d ≠ c
 | [],k,_,h=>by simp at h
 | [x],0,h,e=>by
  simp at e
  subst e
  simp[bOk]at h
 | [x],k + 1,_,e=>by simp at e
 | x::y::r,0,h,e=>by
  simp at e
  subst e
  simp only[bOk,Bool.and_eq_true,Bool.or_eq_true,bne_iff_ne,ne_eq,not_true_eq_false,false_or]at h
  exact⟨y,rfl,h.1⟩
 | x::y::r,k + 1,h,e=>by
  simp only[bOk,Bool.and_eq_true]at h
  obtain⟨d,h1,h2⟩:=bOk_get (k:=k) h.2 (by simpa using e)
  exact⟨d,by simpa using h1,h2⟩
theorem free_of {c:Nat} {g p:List Nat} (h:bOk c p=true) (hg:∃r,g=32::c::r):Free g p:=by
 obtain⟨g',rfl⟩:=hg
 intro r k hk e
 have e0:((p++r).drop k)[0]?=some 32:=by
  have:=congrArg (fun l=>l[0]?) e
  simpa[List.getElem?_take]using this
 have e1:((p++r).drop k)[1]?=some c:=by
  have:=congrArg (fun l=>l[1]?) e
  simpa[List.getElem?_take]using this
 rw[List.getElem?_drop]at e0 e1
 rw[List.getElem?_append_left (by omega)]at e0
 obtain⟨d,h1,h2⟩:=bOk_get h (by simpa using e0)
 have hk1:k + 1 < p.length:=(List.getElem?_eq_some_iff.mp h1).1
 rw[List.getElem?_append_left hk1,h1]at e1
 exact h2 (Option.some.inj e1)
theorem bOk_app {c d:Nat}:∀ {p q:List Nat},bOk c p=true->bOk c q=true->d ≠ c->bOk c (p++32::d::q)=bOk c (d::q)
 | [],q,_,_,hd=>by simp[bOk,hd]
 | [x],q,h,hq,hd=>by
  have hx:(x != 32)=true:=h
  have hd':(d != c)=true:=by simpa using hd
  show((x != 32 || 32 != c) && ((32 != 32 || d != c) && bOk c (d::q)))=bOk c (d::q)
  rw[hx,hd']
  simp
 | x::y::r,q,h,hq,hd=>by
  simp only[bOk,Bool.and_eq_true]at h
  have ih:=bOk_app (d:=d) h.2 hq hd
  show((x != 32 || y != c) && bOk c (y::r++32::d::q))=_
  rw[h.1,Bool.true_and]
  exact ih
end Tx
namespace Tx
set_option genInjectivity false
open PySem PySem.StrLaws PySem.Builtin PySem.Builtin.Str PyProof.Rows
noncomputable def plainTx (q:Nat):Str:=if q=0 then Str.ofString "groups" else if q=1 then Str.ofString "marks" else Str.ofString "sizes " ++Str.ofString (toString ((q - 2:Nat):Int))
noncomputable def noC:Nat->List Nat
 | 0=>[]
 | t + 1=>110::111::32::noC t
noncomputable def tx (t q:Nat):Str:=⟨(noC t++(plainTx q).cps.toList).toArray⟩
theorem tx_cps (t q:Nat):(tx t q).cps.toList=noC t++(plainTx q).cps.toList:=by simp[tx]
theorem tx_zero (q:Nat):tx 0 q=plainTx q:=ext_l (by rw[tx_cps];rfl)
theorem no_codes:(Str.ofString "no ").cps.toList=[110,111,32]:=by decide +kernel
theorem mul_no {t:Nat} (h:t < 6):(Txt.mul (Str.ofString "no ") t).cps.toList=noC t:=by
 have e:((List.range 6).all fun t=>decide ((Txt.mul (Str.ofString "no ") (t:Int)).cps.toList=noC t))=true:=by decide +kernel
 exact of_decide_eq_true (List.all_eq_true.mp e t (List.mem_range.mpr h))
theorem app_l (x y:Str):(x++y).cps.toList=x.cps.toList++y.cps.toList:=by
 show(x.cps++y.cps).toList=_
 simp
noncomputable def pOk (l:List Nat):Bool:=bOk 97 l && bOk 111 l && decide (l.head? ≠ some 97) && decide (l.head? ≠ some 111) && decide (l.head? ≠ some 110) && decide (l.length<=20) && decide (1<=l.length) && l.all (·< 256)
theorem pOk_all:((List.range 101).all fun q=>pOk (plainTx q).cps.toList)=true:=by decide +kernel
theorem p_all {q:Nat} (h:q < 101):pOk (plainTx q).cps.toList=true:=List.all_eq_true.mp pOk_all q (List.mem_range.mpr h)
structure TOk (l:List Nat):Prop where
 a:bOk 97 l=true
 o:bOk 111 l=true
 ha:l.head? ≠ some 97
 ho:l.head? ≠ some 111
 n:1<=l.length
 s:∀c ∈ l,c < 256
theorem TOk.no {l:List Nat} (h:TOk l):TOk (110::111::32::l):=by
 have hn:=h.n
 cases l with
 | nil=>simp at hn
 | cons c r=>
  have ha:(c != 97)=true:=by simpa using h.ha
  have ho:(c != 111)=true:=by simpa using h.ho
  refine⟨?_,?_,by simp,by simp,by simp,fun d hd=>?_⟩
  ·show((110 != 32 || 111 != 97) && ((111 != 32 || 32 != 97) && ((32 != 32 || c != 97) && bOk 97 (c::r))))=true
   rw[h.a,ha];rfl
  ·show((110 != 32 || 111 != 111) && ((111 != 32 || 32 != 111) && ((32 != 32 || c != 111) && bOk 111 (c::r))))=true
   rw[h.o,ho];rfl
  ·simp only[List.mem_cons]at hd
   rcases hd with rfl | rfl | rfl | hd
   ·decide
   ·decide
   ·decide
   ·exact h.s d (by simpa using hd)
theorem p_tok {q:Nat} (h:q < 101):TOk (plainTx q).cps.toList/\(plainTx q).cps.toList.length<=20/\(plainTx q).cps.toList.head? ≠ some 110:=by
 have f:=p_all h
 unfold pOk at f
 simp only[Bool.and_eq_true,decide_eq_true_eq]at f
 obtain⟨⟨⟨⟨⟨⟨⟨f1,f2⟩,f3⟩,f4⟩,f5⟩,f6⟩,f7⟩,f8⟩:=f
 exact⟨⟨f1,f2,f3,f4,f7,fun c hc=>by simpa using List.all_eq_true.mp f8 c hc⟩,f6,f5⟩
theorem t_tok {q:Nat} (h:q < 101):∀t:Nat,TOk (noC t++(plainTx q).cps.toList)
 | 0=>(p_tok h).1
 | t + 1=>(t_tok h t).no
theorem noC_len:∀t:Nat,(noC t).length=3 * t
 | 0=>rfl
 | t + 1=>by show(noC t).length + 3=_;rw[noC_len t];omega
theorem tx_tok {t q:Nat} (h:q < 101):TOk (tx t q).cps.toList:=by rw[tx_cps];exact t_tok h t
theorem tx_le {t q:Nat} (h1:t < 6) (h2:q < 101):(tx t q).length<=40:=by
 rw[len_l,tx_cps,List.length_append,noC_len]
 have:=(p_tok h2).2.1
 omega
theorem no_start {q:Nat} (h:q < 101):Txt.startswith (tx 0 q) (Str.ofString "no ")=false:=by
 unfold Txt.startswith
 rw[subAt_eq,len_l (Str.ofString "no "),no_codes,tx_cps]
 have:=(p_tok h).2.2
 cases e:(plainTx q).cps.toList with
 | nil=>simp[noC]
 | cons c r=>
  rw[e]at this
  have hc:c ≠ 110:=by simpa using this
  simp[noC,hc]
theorem slice_drop (x:Str) (k:Nat) (h:k<=x.length):Txt.slice x (some (k:Int)) none=⟨(x.cps.toList.drop k).toArray⟩:=by
 have e:=eq_of_beq (slice_closes_from (x:=x) (i:=(k:Int)) ⟨by omega,by rw[<-len_l];omega⟩)
 rw[e]
 apply ext_l
 show List.take _ _=List.drop k _
 rw[Int.toNat_natCast]
 refine List.take_of_length_le ?_
 rw[List.length_drop]
 omega
theorem sizes_codes:(Str.ofString "sizes ").cps.toList=[115,105,122,101,115,32]:=by decide +kernel
theorem plain_sz (n:Nat):(plainTx (n + 2)).cps.toList=[115,105,122,101,115,32]++(Str.ofString (toString (n:Int))).cps.toList:=by
 unfold plainTx
 ((first | with_reducible refine Eq.mpr (if_neg (by omega)) ?_ | rw[if_neg (by omega)]);(first | with_reducible refine Eq.mpr (if_neg (by omega)) ?_ | rw[if_neg (by omega)]);rw[app_l,sizes_codes])
 rfl
theorem sz_ne_g (n:Nat):plainTx (n + 2) ≠ Str.ofString "groups" :=fun z=>by
 have:=congrArg (fun x:Str=>x.cps.toList.head?) z
 simp only[plain_sz]at this
 revert this
 show some 115=_->False
 decide +kernel
theorem sz_ne_m (n:Nat):plainTx (n + 2) ≠ Str.ofString "marks" :=fun z=>by
 have:=congrArg (fun x:Str=>x.cps.toList.head?) z
 simp only[plain_sz]at this
 revert this
 show some 115=_->False
 decide +kernel
theorem starts_sz (n:Nat):Txt.startswith (plainTx (n + 2)) (Str.ofString "sizes ")=true:=by
 unfold Txt.startswith
 rw[subAt_eq,len_l,len_l,sizes_codes,plain_sz]
 simp
theorem law_sz {t n:Nat} (h:t < 6):(Txt.mul (Str.ofString "no ") t++Str.ofString "sizes ")++Str.ofString (toString (n:Int))=tx t (n + 2):=by
 apply ext_l
 rw[app_l,app_l,mul_no h,tx_cps,plain_sz,sizes_codes,List.append_assoc]
theorem law_pl {t q:Nat} (h:t < 6):Txt.mul (Str.ofString "no ") t++plainTx q=tx t q:=by
 apply ext_l
 rw[app_l,mul_no h,tx_cps]
end Tx
namespace Wd
set_option genInjectivity false
open PySem PySem.Spec PyProof.Rows L2 Sw
@[reducible] noncomputable def N_made_of:List Str:=["text","signs"]
noncomputable def b_made_of:Sxs:=(.cons (.ret (.blt .all (.cons (.comp "sign" [("signs",1)] (.ex (.var 0)) (.cmp .In (.var 0) (.var 1)) .nil) .nil)))
 .nil)
@[reducible] noncomputable def N_writes_number:List Str:=["text"]
noncomputable def b_writes_number:Sxs:=(.cons (.iff (.mth .startswith (.var 0) (.cons (.con (.str "0")) .nil)) (.cons (.ret (.cmp .Eq (.var 0) (.con (.str "0"))))
 .nil) .nil)
 (.cons (.ret (.and (.cmp2 .LtE .LtE (.con (.int 1)) (.blt .len (.cons (.var 0) .nil)) (.glob "MOST_FIGURES")) (.call "made_of" (.cons (.var 0) (.cons (.glob "FIGURES") .nil)))))
 .nil))
@[reducible] noncomputable def N_number_of:List Str:=["text"]
noncomputable def b_number_of:Sxs:=(.cons (.iff (.not (.call "writes_number" (.cons (.var 0) .nil))) (.cons (.rais "NoRow" (.cons (.var 0) .nil))
 .nil) .nil)
 (.cons (.ret (.blt .int (.cons (.var 0) .nil)))
 .nil))
@[reducible] noncomputable def N_number_within:List Str:=["text","least","greatest","number"]
noncomputable def b_number_within:Sxs:=(.cons (.asg 3 (.call "number_of" (.cons (.var 0) .nil)))
 (.cons (.iff (.not (.cmp2 .LtE .LtE (.var 1) (.var 3) (.var 2))) (.cons (.rais "NoRow" (.cons (.var 0) .nil))
 .nil) .nil)
 (.cons (.ret (.var 3))
 .nil)))
variable {M:Mo}
noncomputable def madeOf (t s:Str):Bool:=(cps t).all fun c=>decide (c ∈ cps s)
noncomputable def spMadeOf (M:Mo):Sp:=fun vs H Q _=>∃t s,vs=[.str t,.str s]/\t.length<=sizeLine/\∀H',Ext M H H'->Q (.bl (madeOf t s)) H'
theorem allM_bools:∀ (bs:List Bool),allM asB (bs.map V.bl)=some bs
 | []=>rfl
 | b::r=>by
  simp only[List.map_cons,allM,asB,allM_bools r]
theorem ok_made_of {Γ:Gam} (hc:Γ.cm=true) (hM:Γ.mod=M) (vs:List V) (H:Hp) (Q:VK) (E:XK) (h:spMadeOf M vs H Q E):spOf Γ N_made_of 2 b_made_of vs H Q E:=by
 subst hM
 obtain⟨t,s,rfl,ht,h⟩:=h
 refine⟨rfl,?_⟩
 unfold b_made_of
 dsimp only[Sw.wSs,Sw.wS,Sw.wE,Sw.wT,Sw.wEs,Sw.wTs,Sw.wI,Sw.wP,Sw.vars,L2.start,Sw.r_get0,Sw.r_getS,Sw.r_set0,Sw.r_setS,Sw.r_map0,Sw.r_mapS,Sw.r_app0,Sw.r_appS,Sw.r_len0,Sw.r_lenS,Sw.r_rep0,Sw.r_repS,Sw.r_join,Sw.startC,Nat.reduceAdd,Nat.reduceSub]
 refine⟨hc,hc,ht,fun D hD mD=>?_⟩
 refine comp_pure (fun v=>match v with | .str x=>.bl (!(Builtin.Str.occurrences s x 0 s.length 1).isEmpty) | v=>v) _ [] ?_ (fun _=>trivial) ?_ ?_
 ·intro v hv H1 Q1 q
  obtain⟨c,hc,rfl⟩:=List.mem_map.mp hv
  exact q
 ·simpa[len_cps]using ht
 ·unfold bltV
  dsimp only
  rw[rd_upd (by intro _ _ z;cases z)]
  dsimp only
  have e:List.map (fun v=>match v with | V.str x=>V.bl (!(Builtin.Str.occurrences s x 0 s.length 1).isEmpty) | v=>v) (List.map (fun c=>V.str ⟨#[c]⟩) (cps t))=((cps t).map fun c=>decide (c ∈ cps s)).map V.bl:=by
   rw[List.map_map,List.map_map]
   refine List.map_congr_left fun c _=>?_
   show V.bl (!(Builtin.Str.occurrences s ⟨#[c]⟩ 0 s.length 1).isEmpty)=V.bl (decide (c ∈ cps s))
   rw[PySem.StrLaws.found_one]
  rw[List.nil_append,e,allM_bools]
  have e2:(((cps t).map fun c=>decide (c ∈ cps s)).all id)=madeOf t s:=by
   unfold madeOf
   rw[List.all_map]
   rfl
  dsimp only
  rw[e2]
  exact h _ (Ext.upd hD mD)
theorem atI_some {α:Type} {xs:List α} {i:Int} (h0:0<=i) (h1:i < xs.length):∃x,atI xs i=some x/\xs[i.toNat]?=some x:=by
 have hlt:i.toNat < xs.length:=by omega
 refine⟨xs[i.toNat],?_,List.getElem?_eq_getElem hlt⟩
 unfold atI ixN
 ((first | with_reducible refine Eq.mpr (if_pos h0) ?_ | rw[if_pos h0]);(first | with_reducible refine Eq.mpr (if_pos h1) ?_ | rw[if_pos h1]);rw[Option.bind_some,List.getElem?_eq_getElem hlt])
noncomputable def inRange (lo hi c:Nat):Bool:=decide (lo<=c) && decide (c<=hi)
theorem n0_codes:(Str.ofString "0").cps.toList=[48]:=by decide +kernel
theorem n9_codes:(Str.ofString "9").cps.toList=[57]:=by decide +kernel
noncomputable def isNameZ (t:Str):Bool:=(cps t).all (inRange 97 122) && (decide (1<=(cps t).length) && decide ((cps t).length<=8))
theorem len_i (t:Str):(t.length:Int)=((cps t).length:Int):=by rw[len_cps]
noncomputable def writesZ (t:Str):Bool:=(cps t).all (inRange 48 57) && ((decide (1<=(cps t).length) && decide ((cps t).length<=12)) && (!decide ((cps t)[0]?=some 48) || decide (cps t=[48])))
theorem str_ext {x y:Str} (h:cps x=cps y):x=y:=by
 obtain⟨⟨a⟩⟩:=x
 obtain⟨⟨b⟩⟩:=y
 have h:a=b:=h
 rw[h]
noncomputable def letters:Str:= "abcdefghijklmnopqrstuvwxyz"
noncomputable def figures:Str:= "0123456789"
theorem figures_mem:∀c:Nat,decide (c ∈ cps figures)=inRange 48 57 c:=by
 intro c
 have e:cps figures=(List.range 10).map (·+ 48):=by decide +kernel
 rw[e,Bool.eq_iff_iff]
 simp only[decide_eq_true_eq,List.mem_map,List.mem_range,inRange,Bool.and_eq_true]
 exact⟨fun z89q=>by obtain⟨a,h1,h2⟩:=z89q;omega,fun z90q=>by obtain⟨h1,h2⟩:=z90q;exact⟨c - 48,by omega,by omega⟩⟩
theorem madeOf_figures (t:Str):madeOf t figures=(cps t).all (inRange 48 57):=by
 unfold madeOf
 exact congrArg (fun f=>(cps t).all f) (funext figures_mem)
noncomputable def nameV:V->Bool
 | .str t=>isNameZ t
 | _=>false
noncomputable def smallV:V->Prop
 | .str t=>t.length<=sizeLine
 | _=>True
noncomputable def spIsName (M:Mo):Sp:=fun vs H Q _=>∃x,vs=[x]/\known M H x=true/\smallV x/\∀H',Ext M H H'->Q (.bl (nameV x)) H'
structure G1w (Γ:Gam) (M:Mo):Prop where
 cm:Γ.cm=true
 mod:Γ.mod=M
 mo:Γ.has "made_of" =true/\Γ.fn "made_of" =spMadeOf M
 fi:Γ.con "FIGURES" =some (.str figures)
 mf:Γ.con "MOST_FIGURES" =some (.int 12)
structure G1 (Γ:Gam) (M:Mo):Prop extends G1w Γ M where
 le:Γ.con "LETTERS" =some (.str letters)
 ml:Γ.con "MOST_LETTERS" =some (.int 8)
theorem starts0 (t:Str):Txt.startswith t (Str.ofString "0")=decide ((cps t)[0]?=some 48):=by
 have e0:(Str.ofString "0")=⟨#[48]⟩:=str_ext (by rw[show cps (Str.ofString "0")=[48]from n0_codes])
 rw[e0]
 obtain⟨⟨l⟩⟩:=t
 show(decide (0 + 1<=l.length) && ((⟨l⟩:Array Nat).extract 0 (0 + 1) == #[48]))=decide (l[0]?=some 48)
 cases l with
 | nil=>rfl
 | cons c r=>
  rw[Bool.eq_iff_iff]
  simp
noncomputable def spWrites (M:Mo):Sp:=fun vs H Q _=>∃t,vs=[.str t]/\t.length<=sizeLine/\∀H',Ext M H H'->Q (.bl (writesZ t)) H'
theorem dec_0 (t:Str):(decide (V.str t=V.str (Str.ofString "0")))=decide (cps t=[48]):=by
 rw[Bool.eq_iff_iff]
 simp only[decide_eq_true_eq]
 refine⟨fun z=>?_,fun z=>?_⟩
 ·rw[V.str.inj z];exact n0_codes
 ·exact congrArg V.str (str_ext (by rw[z];exact n0_codes.symm))
theorem ok_writes {Γ:Gam} (g:G1w Γ M) (vs:List V) (H:Hp) (Q:VK) (E:XK) (h:spWrites M vs H Q E):spOf Γ N_writes_number 1 b_writes_number vs H Q E:=by
 obtain⟨t,rfl,ht,h⟩:=h
 refine⟨rfl,?_⟩
 obtain rfl:=g.mod
 unfold b_writes_number
 dsimp only[Sw.wSs,Sw.wS,Sw.wE,Sw.wT,Sw.wEs,Sw.wTs,Sw.wI,Sw.wP,Sw.vars,L2.start,Sw.r_get0,Sw.r_getS,Sw.r_set0,Sw.r_setS,Sw.r_map0,Sw.r_mapS,Sw.r_app0,Sw.r_appS,Sw.r_len0,Sw.r_lenS,Sw.r_rep0,Sw.r_repS,Sw.r_join,Sw.startC,Nat.reduceAdd,Nat.reduceSub]
 refine⟨rfl,?_⟩
 simp only[Sw.m_sw,Sw.t_bl,starts0]
 by_cases q0:(cps t)[0]?=some 48
 ·(first | with_reducible refine Eq.mpr (if_pos (by simpa using q0)) ?_ | rw [if_pos (by simpa using q0)])
  show Q (.bl (decide (V.str t=V.str (Str.ofString "0")))) H
  simp only[dec_0]
  have e:writesZ t=decide (cps t=[48]):=by
   unfold writesZ
   rw[decide_eq_true q0]
   by_cases q1:cps t=[48]
   ·rw[q1];decide
   ·rw[decide_eq_false q1];simp
  rw[<-e]
  exact h H Ext.refl
 ·(first | with_reducible refine Eq.mpr (if_neg (by simpa using q0)) ?_ | rw [if_neg (by simpa using q0)])
  have e0:writesZ t=((cps t).all (inRange 48 57) && (decide (1<=(cps t).length) && decide ((cps t).length<=12))):=by
   unfold writesZ
   rw[decide_eq_false q0]
   simp
  simp only[g.cm,g.mf,g.fi,Sw.b_lens,Sw.v_le,Sw.t_bl,true_and,ht]
  refine⟨_,rfl,?_⟩
  by_cases q:1<=(cps t).length
  ·(first | with_reducible refine Eq.mpr (if_pos (by rw [len_i, decide_eq_true_eq]; omega)) ?_ | rw [if_pos (by rw [len_i, decide_eq_true_eq]; omega)])
   by_cases q2:(cps t).length<=12
   ·((first | with_reducible refine Eq.mpr (if_pos (by rw [len_i, decide_eq_true_eq]; omega)) ?_ | rw [if_pos (by rw [len_i, decide_eq_true_eq]; omega)]); rw [g.mo.2])
    refine⟨g.mo.1,t,figures,rfl,ht,fun H' x=>?_⟩
    have e:writesZ t=madeOf t figures:=by
     rw[e0,madeOf_figures,decide_eq_true q,decide_eq_true q2]
     simp
    rw[<-e]
    exact h H' x
   ·have e:writesZ t=false:=by
     rw[e0,decide_eq_false q2]
     simp
    rw[e]at h
    ((first | with_reducible refine Eq.mpr (if_neg (by rw[len_i,decide_eq_true_eq];omega)) ?_ | rw[if_neg (by rw[len_i,decide_eq_true_eq];omega)]);rw[decide_eq_false (by rw[len_i];omega)])
    exact h H Ext.refl
  ·have e:writesZ t=false:=by
    rw[e0,decide_eq_false q]
    simp
   rw[e]at h
   (first | with_reducible refine Eq.mpr (if_neg (by rw[len_i,decide_eq_true_eq];omega)) ?_ | rw[if_neg (by rw[len_i,decide_eq_true_eq];omega)])
   simp only[Bool.false_eq_true,if_false]
   exact h H Ext.refl
noncomputable def spNumber (M:Mo) (c:Addr):Sp:=fun vs H Q E=>∃t,vs=[.str t]/\t.length<=640/\
 (writesZ t=true->∃n,PySem.intText? t=some n/\∀H',Ext M H H'->Q (.int n) H')/\
 (writesZ t=false->∀H' d,Ext M H H'->H' d=some (.xd [("row",.str t)])->E (.ref c) (some d) H')
structure G2 (Γ:Gam) (M:Mo) (c:Addr):Prop extends G1w Γ M where
 wr:Γ.has "writes_number" =true/\Γ.fn "writes_number" =spWrites M
 ex:Γ.exc "NoRow" =some (c,[("row" :Str)])
theorem small_640 {n:Nat} (h:n<=640):n<=sizeLine:=Nat.le_trans h (by decide)
theorem ok_number {Γ:Gam} {c:Addr} (g:G2 Γ M c) (vs:List V) (H:Hp) (Q:VK) (E:XK) (h:spNumber M c vs H Q E):spOf Γ N_number_of 1 b_number_of vs H Q E:=by
 obtain⟨t,rfl,ht,h1,h2⟩:=h
 refine⟨rfl,?_⟩
 obtain rfl:=g.mod
 unfold b_number_of
 dsimp only[Sw.wSs,Sw.wS,Sw.wE,Sw.wT,Sw.wEs,Sw.wTs,Sw.wI,Sw.wP,Sw.vars,L2.start,Sw.r_get0,Sw.r_getS,Sw.r_set0,Sw.r_setS,Sw.r_map0,Sw.r_mapS,Sw.r_app0,Sw.r_appS,Sw.r_len0,Sw.r_lenS,Sw.r_rep0,Sw.r_repS,Sw.r_join,Sw.startC,Nat.reduceAdd,Nat.reduceSub]
 rw[g.wr.2]
 refine⟨⟨g.cm,g.wr.1⟩,t,rfl,small_640 ht,fun H' x=>?_⟩
 simp only[Sw.t_bl]
 by_cases q:writesZ t=true
 ·(first | with_reducible refine Eq.mpr (if_neg (by rw[q];decide)) ?_ | rw[if_neg (by rw[q];decide)])
  obtain⟨n,e,h1⟩:=h1 q
  simp only[Sw.b_int,e]
  exact⟨g.cm,ht,h1 H' x⟩
 ·have q:writesZ t=false:=by simpa using q
  ((first | with_reducible refine Eq.mpr (if_pos (by rw[q];rfl)) ?_ | rw[if_pos (by rw[q];rfl)]);rw[g.ex])
  refine⟨g.cm,fun d hd md=>h2 q _ d (x.trans (Ext.upd hd md)) upd_same⟩
theorem len_app (x y:Str):(x++y).length=x.length + y.length:=by
 show(x.cps++y.cps).size=x.cps.size + y.cps.size
 simp
theorem digits_head:∀ (m:Nat),0 < m->∃c r,Nat.toDigits 10 m=c::r/\49<=c.toNat:=by
 intro m
 induction m using Nat.strongRecOn with
 | _ m ih=>
  intro h
  by_cases q:m < 10
  ·rw[Nat.toDigits_of_lt_base q]
   refine⟨_,[],rfl,?_⟩
   have:∀k,k < 10->0 < k->49<=(Nat.digitChar k).toNat:=by decide
   exact this m q h
  ·obtain⟨c,r,e,hc⟩:=ih (m / 10) (by omega) (by omega)
   rw[Nat.toDigits_of_base_le (by decide) (by omega),e]
   exact⟨c,_,rfl,hc⟩
theorem num_cps (n:Int) (h0:0<=n):cps (Str.ofString (toString n))=(Nat.toDigits 10 n.toNat).map Char.toNat:=by
 have e:n=((n.toNat:Nat):Int):=by omega
 have:=PySem.W.KIN.signs_num n.toNat
 rw[<-e]at this
 exact this
theorem digits_range {m:Nat} {c:Nat} (h:c ∈ (Nat.toDigits 10 m).map Char.toNat):inRange 48 57 c=true:=by
 obtain⟨d,hd,rfl⟩:=List.mem_map.mp h
 have:=Nat.isDigit_of_mem_toDigits (by decide) (by decide) hd
 unfold Char.isDigit at this
 simp only[Bool.and_eq_true,decide_eq_true_eq]at this
 unfold inRange
 simp only[Bool.and_eq_true,decide_eq_true_eq]
 exact⟨this.1,this.2⟩
theorem toString_writes (n:Int) (h0:0<=n) (h1:n < 10 ^ 12):writesZ (Str.ofString (toString n))=true/\(Str.ofString (toString n)).length<=12:=by
 have e:=num_cps n h0
 have hl:(cps (Str.ofString (toString n))).length<=12:=by
  rw[e,List.length_map]
  exact(Nat.length_toDigits_le_iff (by decide) (by decide)).mpr (by omega)
 refine⟨?_,by rw[len_cps];exact hl⟩
 unfold writesZ
 rw[decide_eq_true hl]
 have h2:1<=(cps (Str.ofString (toString n))).length:=by
  rw[e,List.length_map]
  exact Nat.length_toDigits_pos
 rw[decide_eq_true h2]
 have h3:(cps (Str.ofString (toString n))).all (inRange 48 57)=true:=by
  rw[List.all_eq_true]
  intro c hc
  rw[e]at hc
  exact digits_range hc
 rw[h3]
 by_cases hz:n.toNat=0
 ·have:cps (Str.ofString (toString n))=[48]:=by
   rw[e,hz]
   decide
  rw[this]
  decide
 ·obtain⟨c,r,e2,hc⟩:=digits_head n.toNat (by omega)
  rw[e,e2]
  have:c.toNat ≠ 48:=by omega
  simp[this]
theorem writes_reads {t:Str} (h:writesZ t=true):∃n,PySem.intText? t=some n:=by
 unfold writesZ at h
 simp only[Bool.and_eq_true,decide_eq_true_eq]at h
 obtain⟨h1,⟨h2,h3⟩,_⟩:=h
 refine⟨_,PySem.intText_digits (x:=t) (fun c hc=>?_) (fun z=>?_) ?_⟩
 ·have:=List.all_eq_true.mp h1 c hc
  simpa[inRange]using this
 ·have z:cps t=[]:=z
  rw[z]at h2
  simp at h2
 ·rw[len_cps];omega
end Wd
namespace Wd
set_option genInjectivity false
open PySem PySem.Spec PyProof.Rows L2 Sw
variable {M:Mo}
noncomputable def Refuses (c:Addr) (M:Mo) (H:Hp) (E:XK):Prop:=∀H' d r,Ext M H H'->H' d=some (.xd [(("row" :Str),r)])->E (.ref c) (some d) H'
noncomputable def Gives (c:Addr) (M:Mo) (o:Option V) (H:Hp) (Q:VK) (E:XK):Prop:=match o with
 | some v=>∀H',Ext M H H'->Q v H'
 | none=>Refuses c M H E
theorem _root_.Sw.OffM.rd {M:Mo} {H:Hp} {p:Addr} {o:List V} (off:OffM M H) (h:M p=some (.tup o)):Sw.rd M H p=some (.tup o):=by
 have e:H p=none:=off p (by rw[h];simp)
 unfold Sw.rd
 rw[e,h]
noncomputable def numIn (t:Str) (a b:Int):Option Int:=if writesZ t=true then(match PySem.intText? t with | some n=>if a<=n/\n<=b then some n else none | none=>none)else none
noncomputable def spWithin (M:Mo) (c:Addr):Sp:=fun vs H Q E=>∃t a b,vs=[.str t,.int a,.int b]/\t.length<=640/\Gives c M ((numIn t a b).map V.int) H Q E
structure G3 (Γ:Gam) (M:Mo) (c:Addr):Prop extends G2 Γ M c where
 nu:Γ.has "number_of" =true/\Γ.fn "number_of" =spNumber M c
theorem ok_within {Γ:Gam} {c:Addr} (g:G3 Γ M c) (vs:List V) (H:Hp) (Q:VK) (E:XK) (h:spWithin M c vs H Q E):spOf Γ N_number_within 3 b_number_within vs H Q E:=by
 obtain⟨t,a,b,rfl,ht,h⟩:=h
 refine⟨rfl,?_⟩
 obtain rfl:=g.mod
 unfold b_number_within
 dsimp only[Sw.wSs,Sw.wS,Sw.wE,Sw.wT,Sw.wEs,Sw.wTs,Sw.wI,Sw.wP,Sw.vars,L2.start,Sw.r_get0,Sw.r_getS,Sw.r_set0,Sw.r_setS,Sw.r_map0,Sw.r_mapS,Sw.r_app0,Sw.r_appS,Sw.r_len0,Sw.r_lenS,Sw.r_rep0,Sw.r_repS,Sw.r_join,Sw.startC,Nat.reduceAdd,Nat.reduceSub]
 rw[g.nu.2]
 refine⟨⟨g.cm,g.nu.1⟩,t,rfl,ht,fun hw=>?_,fun hw H' d x hd=>?_⟩
 ·obtain⟨n,hn⟩:=writes_reads hw
  refine⟨n,hn,fun H' x=>?_⟩
  have e:numIn t a b=if a<=n/\n<=b then some n else none:=by unfold numIn;((first | with_reducible refine Eq.mpr (if_pos hw) ?_ | rw[if_pos hw]);rw[hn])
  rw[e]at h
  simp (config:={maxSteps:=10000000,failIfUnchanged:=false}) only[Sw.v_add,Sw.v_adds,Sw.v_sub,Sw.v_mul,Sw.v_div,Sw.v_mod,Sw.v_lt,Sw.v_le,Sw.v_gt,Sw.v_les,Sw.v_ins,Sw.v_eqi,Sw.v_nei,Sw.v_eqs,Sw.v_nes,Sw.v_neb,Sw.v_eqb,Sw.v_is,Sw.v_isnot,Sw.t_bl,Sw.t_non,Sw.t_int,Sw.b_lens,Sw.b_lenr,Sw.b_str,Sw.b_int,Sw.b_abs,Sw.i_str,Sw.i_ref,Sw.s_str,Sw.s_ref,Sw.m_sw]
  refine⟨_,rfl,?_⟩
  by_cases q1:a<=n
  ·(first | with_reducible refine Eq.mpr (if_pos (decide_eq_true q1)) ?_ | rw [if_pos (decide_eq_true q1)])
   refine⟨_,rfl,?_⟩
   by_cases q2:n<=b
   ·(first | with_reducible refine Eq.mpr (if_neg (by simpa using q2)) ?_ | rw[if_neg (by simpa using q2)])
    rw[if_pos ⟨q1,q2⟩]at h
    exact h H' x
   ·((first | with_reducible refine Eq.mpr (if_pos (by simpa using q2)) ?_ | rw[if_pos (by simpa using q2)]);rw[g.ex])
    rw[if_neg (fun z=>q2 z.2)]at h
    exact⟨g.cm,fun d hd md=>h _ d _ (x.trans (Ext.upd hd md)) upd_same⟩
  ·(first | with_reducible refine Eq.mpr (if_neg (by simpa using q1)) ?_ | rw[if_neg (by simpa using q1)])
   refine⟨_,rfl,?_⟩
   ((first | with_reducible refine Eq.mpr (if_pos (by rfl)) ?_ | rw[if_pos (by rfl)]);rw[g.ex])
   rw[if_neg (fun z=>q1 z.1)]at h
   exact⟨g.cm,fun d hd md=>h _ d _ (x.trans (Ext.upd hd md)) upd_same⟩
 ·have e:numIn t a b=none:=by unfold numIn;(first | with_reducible refine Eq.mpr (if_neg (by rw[hw];decide)) ?_ | rw[if_neg (by rw[hw];decide)])
  rw[e]at h
  exact h H' d _ x hd
noncomputable def spNameIn (M:Mo) (c:Addr):Sp:=fun vs H Q E=>∃t,vs=[.str t]/\t.length<=640/\Gives c M (if isNameZ t=true then some (.str t)else none) H Q E
noncomputable def rankIn (t:Str):Option Int:=if Txt.endswith t (Str.ofString ":")=true then numIn (Txt.slice t none (some (-1))) 0 1000000 else none
noncomputable def spRankIn (M:Mo) (c:Addr):Sp:=fun vs H Q E=>∃t,vs=[.str t]/\t.length<=640/\Gives c M ((rankIn t).map V.int) H Q E
noncomputable def groups:List V:=[.str "O",.str "A",.str "B",.str "AB"]
noncomputable def isGroup (t:Str):Bool:=inV (.str t) groups
noncomputable def spGroupIn (M:Mo) (c:Addr):Sp:=fun vs H Q E=>∃t,vs=[.str t]/\OffM M H/\Gives c M (if isGroup t=true then some (.str t)else none) H Q E
structure G4 (Γ:Gam) (M:Mo) (c:Addr):Prop extends G3 Γ M c where
 le:Γ.con "LETTERS" =some (.str letters)
 ml:Γ.con "MOST_LETTERS" =some (.int 8)
 nw:Γ.has "number_within" =true/\Γ.fn "number_within" =spWithin M c
 na:Γ.has "is_name" =true/\Γ.fn "is_name" =spIsName M
 mr:Γ.con "MOST_RANK" =some (.int 1000000)
 mn:Γ.con "MOST_NEED" =some (.int 1000000)
 ms:Γ.con "MOST_SIZE" =some (.int 99)
 nm:Γ.con "NO_MARKS" =some (.str "-")
 pc:Γ.con "PIECES" =some (.int 10)
 sg:∃p,Γ.con "SIDE_GROUPS" =some (.ref p)/\M p=some (.tup groups)
end Wd
namespace Wd
set_option genInjectivity false
open PySem PySem.Spec PyProof.Rows L2 Sw
variable {M:Mo}
noncomputable def joinL (g:List Nat):List Str->List Nat
 | []=>[]
 | x::r=>cps x++(r.map fun p=>g++cps p).flatten
theorem glue_fold (g:Array Nat):∀ (ps:List Str) (acc:Array Nat),(ps.foldl (fun acc p=>acc++g++p.cps) acc).toList=acc.toList++(ps.map fun p=>g.toList++cps p).flatten
 | [],acc=>by simp
 | p::r,acc=>by
  rw[List.foldl_cons,glue_fold g r]
  simp[cps]
theorem cps_join (sep:Str) (l:List Str):cps (Txt.join sep l)=joinL (cps sep) l:=by
 cases l with
 | nil=>rfl
 | cons x r=>
  show((r.foldl (fun acc p=>acc++sep.cps++p.cps) x.cps)).toList=_
  rw[glue_fold]
  rfl
theorem joinL_nil:∀l:List Str,joinL [] l=(l.map cps).flatten
 | []=>rfl
 | x::r=>by simp[joinL]
theorem fold_len (n B:Nat):∀ (l:List Str) (a:Nat),(∀ x ∈ l,x.length<=B)->l.foldl (fun a (x:Str)=>a + x.length + n) a<=a + l.length * (B + n)
 | [],a,h=>by simp
 | x::r,a,h=>by
  rw[List.foldl_cons]
  refine Nat.le_trans (fold_len n B r _ fun y hy=>h y (List.mem_cons_of_mem _ hy)) ?_
  have:=h x List.mem_cons_self
  rw[List.length_cons,Nat.succ_mul]
  omega
theorem joinOk (sep:Str) (l:List Str) (B:Nat) (h:∀x ∈ l,x.length<=B) (hb:l.length * (B + sep.length)<=16777216):JoinOk sep l=true:=by
 unfold JoinOk Builtin.Str.tooLong
 have z:=fold_len sep.length B l 0 h
 rw[List.foldl_toArray]
 simp only[Bool.not_eq_true',decide_eq_false_iff_not,gt_iff_lt,Nat.not_lt]
 rw[sizeLine_eq]
 omega
noncomputable def chars (t:Str):List Str:=(cps t).map fun c=>⟨#[c]⟩
noncomputable def rising (l:List Nat):Bool:=decide (l.Pairwise (·< ·))
noncomputable def single (c:Nat):Str:=⟨#[c]⟩
theorem flat_single (l:List Nat):(l.map fun c=>cps (single c)).flatten=l:=by
 induction l with
 | nil=>rfl
 | cons x r ih=>rw[List.map_cons,List.flatten_cons,ih];rfl
theorem allM_strs:∀ (l:List Str),allM asS (l.map V.str)=some l
 | []=>rfl
 | b::r=>by
  simp only[List.map_cons,allM,asS,allM_strs r]
noncomputable def marksIn (t:Str):Option Str:=if t= "-" then some "" else if t= "" then none else if rising (cps t)=true/\madeOf t letters=true then some t else none
noncomputable def spMarksIn (M:Mo) (c:Addr):Sp:=fun vs H Q E=>∃t,vs=[.str t]/\t.length<=640/\((chars t).foldl PySem.Sg.putIn []).length < 64/\Gives c M ((marksIn t).map V.str) H Q E
end Wd
namespace Wd
set_option genInjectivity false
open PySem PySem.Spec PyProof.Rows L2 Sw
variable {M:Mo}
structure Side where
 g:Str
 n:Int
 m:Str
noncomputable def Side.vs (s:Side):List V:=[.str s.g,.int s.n,.str s.m]
noncomputable def sideIn (a b d:Str):Option Side:=if isGroup a=true then(match numIn b 1 99 with | some n=>(match marksIn d with | some m=>some ⟨a,n,m⟩ | none=>none) | none=>none)else none
noncomputable def SideOk (a b d:Str):Prop:=b.length<=640/\d.length<=640/\((chars d).foldl PySem.Sg.putIn []).length < 64
noncomputable def GivesS (c:Addr) (M:Mo) (o:Option Side) (H:Hp) (Q:VK) (E:XK):Prop:=match o with
 | some s=>∀H' q,Ext M H H'->M q=none->H' q=some (.tup s.vs)->Q (.ref q) H'
 | none=>Refuses c M H E
noncomputable def spSideIn (M:Mo) (c:Addr):Sp:=fun vs H Q E=>∃p a b d,vs=[.ref p]/\rd M H p=some (.lst [.str a,.str b,.str d])/\OffM M H/\SideOk a b d/\GivesS c M (sideIn a b d) H Q E
structure G5 (Γ:Gam) (M:Mo) (c:Addr):Prop extends G4 Γ M c where
 gi:Γ.has "group_in" =true/\Γ.fn "group_in" =spGroupIn M c
 mi:Γ.has "marks_in" =true/\Γ.fn "marks_in" =spMarksIn M c
structure Cpl where
 name:Str
 need:Int
 rank:Int
 gv:Side
 tk:Side
noncomputable def coupleIn:List Str->Option Cpl
 | [a,b,c,d,e,f,s,h,i,j]=>if s= ">" then(match numIn b 1 1000000 with
  | some need=>if isNameZ a=true then(match rankIn c with
   | some rank=>(match sideIn d e f with
    | some gv=>(match sideIn h i j with
     | some tk=>some ⟨a,need,rank,gv,tk⟩
     | none=>none)
    | none=>none)
   | none=>none)else none
  | none=>none)else none
 | _=>none
noncomputable def CplAt (H:Hp) (q:Addr) (k:Cpl):Prop:=∃q1 q2,H q=some (.tup [.str k.name,.int k.need,.int k.rank,.ref q1,.ref q2])/\H q1=some (.tup k.gv.vs)/\H q2=some (.tup k.tk.vs)
noncomputable def GivesC (c:Addr) (M:Mo) (o:Option Cpl) (H:Hp) (Q:VK) (E:XK):Prop:=match o with
 | some k=>∀H' q,Ext M H H'->M q=none->CplAt H' q k->Q (.ref q) H'
 | none=>Refuses c M H E
noncomputable def PieceOk (t:Str):Prop:=t.length<=640/\((chars t).foldl PySem.Sg.putIn []).length < 64
noncomputable def spCoupleIn (M:Mo) (c:Addr):Sp:=fun vs H Q E=>∃p ps,vs=[.ref p]/\rd M H p=some (.lst (ps.map V.str))/\OffM M H/\(∀ t ∈ ps,PieceOk t)/\GivesC c M (coupleIn ps) H Q E
structure G6 (Γ:Gam) (M:Mo) (c:Addr):Prop extends G5 Γ M c where
 ni:Γ.has "name_in" =true/\Γ.fn "name_in" =spNameIn M c
 ri:Γ.has "rank_in" =true/\Γ.fn "rank_in" =spRankIn M c
 si:Γ.has "side_in" =true/\Γ.fn "side_in" =spSideIn M c
theorem ix_at {H:Hp} {p:Addr} {xs:List V} (hp:rd M H p=some (.lst xs)) {k:Int} {v:V} (e:atI xs k=some v) {Q:VK} (q:Q v H):idxV M (.ref p) (.int k) H Q:=by
 ((first | with_reducible refine Eq.mpr (i_ref ..) ?_ | rw[i_ref]);rw[hp])
 dsimp only
 rw[e]
 exact q
theorem sl_at {H:Hp} {p:Addr} {xs ys:List V} {lo hi:Option Int} (hp:rd M H p=some (.lst xs)) (e:cutV xs lo hi=ys) {Q:VK} (q:∀l,H l=none->M l=none->Q (.ref l) (upd H l (.lst ys))):slcV M (.ref p) lo hi H Q:=by
 ((first | with_reducible refine Eq.mpr (s_ref ..) ?_ | rw[s_ref]);rw[hp])
 dsimp only
 rw[e]
 exact q
end Wd
namespace Wd
set_option genInjectivity false
open PySem PySem.Spec PyProof.Rows L2 Sw
variable {M:Mo}
theorem count_tail (c:Nat):∀ps:List Str,List.count c ((ps.map fun p=>[c]++cps p).flatten)=ps.length + (ps.map fun p=>List.count c (cps p)).sum
 | []=>rfl
 | p::ps=>by
  have ih:=count_tail c ps
  rw[List.map_cons,List.flatten_cons,List.count_append,ih,List.map_cons,List.sum_cons,List.length_cons,List.count_append]
  have e:List.count c [c]=1:=by simp
  omega
theorem cnt_count (c:Nat):∀l:List Nat,cnt c l=(List.count c l:Int)
 | []=>rfl
 | x::r=>by
  rw[cnt_cons,cnt_count c r,List.count_cons]
  by_cases h:x=c
  ·subst h;simp;omega
  ·simp[h]
theorem sum_zero:∀ {l:List Nat},l.sum=0->∀n ∈ l,n=0
 | [],_,n,h=>by simp at h
 | x::r,h,n,hn=>by
  rw[List.sum_cons]at h
  rcases List.mem_cons.mp hn with rfl | hn
  ·omega
  ·exact sum_zero (by omega) n hn
theorem split_joins (x:Str) (c:Nat):cps x=joinL [c] (Txt.split x ⟨#[c]⟩):=by
 have hj:=StrLaws.join_split x ⟨#[c]⟩
 rw[<-StrLaws.glued_eq_join]at hj
 have z:=cps_join ⟨#[c]⟩ (Txt.split x ⟨#[c]⟩)
 rw[show cps (⟨#[c]⟩:Str)=[c]from rfl]at z
 rw[<-z]
 exact congrArg cps hj.symm
theorem split_some (x:Str) (c:Nat):Txt.split x ⟨#[c]⟩ ≠ []:=fun z=>by
 have hl:=split_len x c
 rw[z,cnt_count]at hl
 simp at hl
 omega
theorem split_free {x:Str} {c:Nat}:∀p ∈ Txt.split x ⟨#[c]⟩,c ∉ cps p:=by
 have hl:=split_len x c
 have hc:=split_joins x c
 have hn:=split_some x c
 rw[cnt_count,show x.cps.toList=cps x from rfl,hc]at hl
 generalize Txt.split x ⟨#[c]⟩=ps at hl hn
 cases ps with
 | nil=>exact absurd rfl hn
 | cons p ps=>
  unfold joinL at hl
  rw[List.count_append,count_tail]at hl
  simp only[List.length_cons]at hl
  have h1:List.count c (cps p)=0:=by omega
  have h2:(ps.map fun p=>List.count c (cps p)).sum=0:=by omega
  intro q hq
  rcases List.mem_cons.mp hq with rfl | hq
  ·exact List.count_eq_zero.mp h1
  ·exact List.count_eq_zero.mp (sum_zero h2 _ (List.mem_map.mpr ⟨q,hq,rfl⟩))
end Wd
namespace Wd
set_option genInjectivity false
open PySem PySem.Spec PyProof.Rows L2 Sw
variable {M:Mo}
noncomputable def mkT (m:Str):Str:=if m= "" then "-" else m
noncomputable def showSide (s:Side):Str:=Txt.join " " [s.g,toString s.n,mkT s.m]
structure Side.Ok (s:Side):Prop where
 g:isGroup s.g=true
 n:1<=s.n/\s.n<=99
 m:s.m= "" \/(rising (cps s.m)=true/\madeOf s.m letters=true)
structure Cpl.Ok (k:Cpl):Prop where
 name:isNameZ k.name=true
 need:1<=k.need/\k.need<=1000000
 rank:0<=k.rank/\k.rank<=1000000
 gv:k.gv.Ok
 tk:k.tk.Ok
theorem numIn_back {n a b:Int} (h0:0<=n) (h1:n < 10 ^ 10) (ha:a<=n) (hb:n<=b):numIn (Str.ofString (toString n)) a b=some n:=by
 unfold numIn
 ((first | with_reducible refine Eq.mpr (if_pos (toString_writes n h0 (by omega)).1) ?_ | rw[if_pos (toString_writes n h0 (by omega)).1]);rw[PySem.W.KIN.num_reads h0 h1])
 exact if_pos ⟨ha,hb⟩
end Wd
namespace Wd
set_option genInjectivity false
open PySem PySem.Spec PyProof.Rows L2 Sw
variable {M:Mo}
structure G7 (Γ:Gam) (M:Mo) (c:Addr):Prop where
 cm:Γ.cm=true
 mod:Γ.mod=M
 ci:Γ.has "couple_in" =true/\Γ.fn "couple_in" =spCoupleIn M c
 cat:Γ.cat "NoRow" =true
end Wd
namespace Wd
set_option genInjectivity false
open PySem PySem.Spec PyProof.Rows L2 Sw
variable {M:Mo}
theorem join_at {H:Hp} {p:Addr} {sep:Str} {ts:List Str} {Q:VK} (hp:rd M H p=some (.lst (ts.map V.str))) (ok:JoinOk sep ts=true) (q:Q (.str (Txt.join sep ts)) H):mthV M .join (.str sep) [.ref p] H Q:=by
 ((first | with_reducible refine Eq.mpr (m_join ..) ?_ | rw[m_join]);rw[hp])
 dsimp only
 rw[allM_strs]
 exact⟨ok,q⟩
noncomputable def spShowSide (M:Mo):Sp:=fun vs H Q _=>∃ (p:Addr) (s:Side),vs=[.ref p]/\s.Ok/\H p=some (.tup s.vs)/\∀H',Ext M H H'->Q (.str (showSide s)) H'
structure GS (Γ:Gam) (M:Mo):Prop where
 cm:Γ.cm=true
 mod:Γ.mod=M
 nm:Γ.con "NO_MARKS" =some (.str "-")
structure GC (Γ:Gam) (M:Mo):Prop where
 cm:Γ.cm=true
 mod:Γ.mod=M
 ss:Γ.has "show_side" =true/\Γ.fn "show_side" =spShowSide M
end Wd
namespace Wd
set_option genInjectivity false
open PySem PySem.Spec PyProof.Rows L2 Sw
variable {M:Mo}
theorem val_snoc (l:List Nat) (d:Nat):PySem.NumText.digitsVal (l++[d])=PySem.NumText.digitsVal l * 10 + (d - 48):=by
 unfold PySem.NumText.digitsVal
 rw[List.foldl_append]
 rfl
theorem snoc_ind {P:List Nat->Prop} (h0:P []) (h1:∀l d,P l->P (l++[d])) (l:List Nat):P l:=by
 rw[<-List.reverse_reverse l]
 induction l.reverse with
 | nil=>exact h0
 | cons d r ih=>rw[List.reverse_cons];exact h1 _ _ ih
theorem val_pos:∀ (l:List Nat) (c:Nat),l[0]?=some c->49<=c->c<=57->0 < PySem.NumText.digitsVal l:=by
 intro l
 refine snoc_ind (P:=fun l=>∀c,l[0]?=some c->49<=c->c<=57->0 < PySem.NumText.digitsVal l) ?_ ?_ l
 ·intro c h;simp at h
 ·intro l d ih c h h1 h2
  rw[val_snoc]
  cases l with
  | nil=>
   have:d=c:=by simpa using h
   subst this
   simp[PySem.NumText.digitsVal]
   omega
  | cons a r=>
   have:=ih c (by simpa using h) h1 h2
   omega
theorem digits_val:∀ (l:List Nat),(∀ c ∈ l,inRange 48 57 c=true)->l ≠ []->(l[0]?=some 48->l=[48])->(Nat.toDigits 10 (PySem.NumText.digitsVal l)).map Char.toNat=l:=by
 intro l
 refine snoc_ind (P:=fun l=>(∀ c ∈ l,inRange 48 57 c=true)->l ≠ []->(l[0]?=some 48->l=[48])->(Nat.toDigits 10 (PySem.NumText.digitsVal l)).map Char.toNat=l) ?_ ?_ l
 ·intro _ h;exact absurd rfl h
 ·intro l d ih h1 _ h2
  have hd:=h1 d (by simp)
  simp only[inRange,Bool.and_eq_true,decide_eq_true_eq]at hd
  have dig:∀k,k < 10->(Nat.digitChar k).toNat=48 + k:=by decide
  rw[val_snoc]
  cases l with
  | nil=>
   have e:PySem.NumText.digitsVal []=0:=rfl
   rw[e,Nat.zero_mul,Nat.zero_add,Nat.toDigits_of_lt_base (by omega),List.map_singleton,dig _ (by omega)]
   rw[List.nil_append]
   congr 1
   omega
  | cons a r=>
   have ha:=h1 a (by simp)
   simp only[inRange,Bool.and_eq_true,decide_eq_true_eq]at ha
   have ha48:a ≠ 48:=fun z=>by
    have:=h2 (by simp[z])
    simp at this
   have hp:=val_pos (a::r) a rfl (by omega) ha.2
   rw[Nat.toDigits_of_base_le (by decide) (by omega)]
   have e1:(PySem.NumText.digitsVal (a::r) * 10 + (d - 48)) / 10=PySem.NumText.digitsVal (a::r):=by omega
   have e2:(PySem.NumText.digitsVal (a::r) * 10 + (d - 48)) % 10=d - 48:=by omega
   rw[e1,e2,List.map_append,ih (fun c hc=>h1 c (List.mem_append_left _ hc)) (by simp) (fun z=>by
    have:a=48:=by simpa using z
    exact absurd this ha48),List.map_singleton,dig _ (by omega)]
   congr 2
   omega
theorem num_canon {t:Str} {n:Int} (h:writesZ t=true) (e:PySem.intText? t=some n):0<=n/\t=Str.ofString (toString n):=by
 unfold writesZ at h
 simp only[Bool.and_eq_true,decide_eq_true_eq,Bool.or_eq_true,Bool.not_eq_true',decide_eq_false_iff_not]at h
 obtain⟨h1,⟨h2,h3⟩,h4⟩:=h
 have h1:=List.all_eq_true.mp h1
 have ne:cps t ≠ []:=fun z=>by rw[z]at h2;simp at h2
 have ed:=PySem.intText_digits (x:=t) (fun c hc=>by simpa[inRange]using h1 c hc) ne (by rw[len_cps];omega)
 rw[ed]at e
 have e:=Option.some.inj e
 subst e
 refine⟨by omega,str_ext ?_⟩
 rw[num_cps _ (by omega),Int.toNat_natCast]
 exact(digits_val _ h1 ne fun z=>by
  rcases h4 with h4 | h4
  ·exact absurd z h4
  ·exact h4).symm
theorem numIn_canon {t:Str} {a b n:Int} (h:numIn t a b=some n):0<=n/\t=Str.ofString (toString n)/\a<=n/\n<=b:=by
 unfold numIn at h
 split at h
 ·rename_i hw
  split at h
  ·rename_i m hm
   split at h
   ·rename_i hr
    obtain rfl:=Option.some.inj h
    obtain⟨h0,h1⟩:=num_canon hw hm
    exact⟨h0,h1,hr.1,hr.2⟩
   ·cases h
  ·cases h
 ·cases h
structure G8 (Γ:Gam) (M:Mo) (c:Addr):Prop extends G7 Γ M c where
 ex:Γ.exc "NoRow" =some (c,[("row" :Str)])
 su:Γ.sub c "NoRow" =some true
end Wd
namespace Sw
set_option genInjectivity false
open PySem PySem.Spec PyProof.Rows L2
theorem comp_D {te:TE} {fvs:L2.St} {D:Addr} {stay:Hp->Prop} {H0:Hp} {k:Hp->Prop} (f:V->V):∀ (xs acc:List V),(∀ v ∈ xs,∀l Q,Q (f v) (upd H0 D (.lst l))->te (some v::fvs) (upd H0 D (.lst l)) Q)->(∀ l,stay (upd H0 D (.lst l)))->acc.length + xs.length<=sizeLine->
  k (upd H0 D (.lst (acc++xs.map f)))->compW te (fun _ H Q=>Q true H) fvs D stay xs acc (upd H0 D (.lst acc)) k:=by
 intro xs
 induction xs with
 | nil=>
  intro acc h1 h2 h3 h4
  exact⟨h2 _,upd_same,by simpa using h4⟩
 | cons v r ih=>
  intro acc h1 h2 h3 h4
  refine⟨h2 _,?_⟩
  show if true=true then _ else _
  (first | with_reducible refine Eq.mpr (if_pos rfl) ?_ | rw[if_pos rfl])
  refine h1 v List.mem_cons_self _ _ ⟨upd_same,by rw[List.length_cons]at h3;omega,?_⟩
  rw[upd_upd]
  refine ih (acc++[f v]) (fun v hv=>h1 v (List.mem_cons_of_mem _ hv)) h2 (by rw[List.length_append];simp at h3 ⊢;omega) ?_
  simpa using h4
theorem comp_inv {te:TE} {fvs:L2.St} {D:Addr} {stay:Hp->Prop} {k:Hp->Prop} {xs:List V} (Pv:Nat->List V->Hp->Prop) (st:∀n acc H,Pv n acc H->stay H) (hD:∀n acc H,Pv n acc H->H D=some (.lst acc)/\acc.length=n) (hs:xs.length<=sizeLine)
  (step:∀n v acc H (Q:VK),xs[n]?=some v->Pv n acc H->(∀ y H2,H2 D=some (.lst acc)->Pv (n + 1) (acc++[y]) (upd H2 D (.lst (acc++[y])))->Q y H2)->te (some v::fvs) H Q)
  (fin:∀acc H,Pv xs.length acc H->k H) {acc:List V} {H:Hp} (h0:Pv 0 acc H):compW te (fun _ H Q=>Q true H) fvs D stay xs acc H k:=by
 have go:∀ (r:List V) (n:Nat),xs.drop n=r->n<=xs.length->∀acc H,Pv n acc H->compW te (fun _ H Q=>Q true H) fvs D stay r acc H k:=by
  intro r
  induction r with
  | nil=>
   intro n e hn acc H p
   have:xs.length<=n:=by simpa using e
   have hn':n=xs.length:=by omega
   subst hn'
   exact⟨st _ acc H p,(hD _ _ _ p).1,fin acc H p⟩
  | cons v r ih=>
   intro n e hn acc H p
   have hlt:n < xs.length:=by
    have:=congrArg List.length e
    simp at this
    omega
   have hv:xs[n]?=some v:=by
    have:=congrArg (fun l=>l[0]?) e
    simpa using this
   have hr:xs.drop (n + 1)=r:=by
    have:=congrArg List.tail e
    simpa[List.tail_drop]using this
   refine⟨st _ acc H p,?_⟩
   show if true=true then _ else _
   (first | with_reducible refine Eq.mpr (if_pos rfl) ?_ | rw[if_pos rfl])
   refine step n v acc H _ hv p fun y H2 h2 p2=>⟨h2,by have:=(hD _ _ _ p).2;omega,ih (n + 1) hr hlt _ _ p2⟩
 exact go xs 0 (by simp) (Nat.zero_le _) acc H h0
end Sw
namespace Rl
set_option genInjectivity false
open PySem PySem.Spec PyProof.Rows L2 Sw Wd Tx
@[reducible] noncomputable def N_gap:List Str:=["giver","taker"]
noncomputable def b_gap:Sxs:=(.cons (.ret (.blt .abs (.cons (.bin .Sub (.idx (.var 0) (.con (.int 1))) (.idx (.var 1) (.con (.int 1)))) .nil)))
 .nil)
@[reducible] noncomputable def N_fits_by_groups:List Str:=["giver","taker"]
noncomputable def b_fits_by_groups:Sxs:=(.cons (.ret (.cmp .In (.idx (.var 1) (.con (.int 0))) (.gidx "TAKERS" (.idx (.var 0) (.con (.int 0))))))
 .nil)
@[reducible] noncomputable def N_fits_by_marks:List Str:=["giver","taker"]
noncomputable def b_fits_by_marks:Sxs:=(.cons (.ret (.not (.blt .any (.cons (.comp "mark" [("taker",1)] (.ex (.idx (.var 0) (.con (.int 2)))) (.cmp .In (.var 0) (.idx (.var 1) (.con (.int 2)))) .nil) .nil))))
 .nil)
@[reducible] noncomputable def N_in_sizes_rule:List Str:=["giver","taker","bound"]
noncomputable def b_in_sizes_rule:Sxs:=(.cons (.ret (.cmp .LtE (.call "gap" (.cons (.var 0) (.cons (.var 1) .nil))) (.var 2)))
 .nil)
@[reducible] noncomputable def N_in_opposite:List Str:=["giver","taker","rule"]
noncomputable def b_in_opposite:Sxs:=(.cons (.ret (.not (.callv (.var 2) (.cons (.var 0) (.cons (.var 1) .nil)))))
 .nil)
@[reducible] noncomputable def N_in_all_of:List Str:=["giver","taker","rules"]
noncomputable def b_in_all_of:Sxs:=(.cons (.ret (.blt .all (.cons (.comp "rule" [("giver",0),("taker",1)] (.ex (.var 2)) (.callv (.var 0) (.cons (.var 1) (.cons (.var 2) .nil))) .nil) .nil)))
 .nil)
@[reducible] noncomputable def N_in_any_of:List Str:=["giver","taker","rules"]
noncomputable def b_in_any_of:Sxs:=(.cons (.ret (.blt .any (.cons (.comp "rule" [("giver",0),("taker",1)] (.ex (.var 2)) (.callv (.var 0) (.cons (.var 1) (.cons (.var 2) .nil))) .nil) .nil)))
 .nil)
@[reducible] noncomputable def N_plain_rule:List Str:=["text"]
noncomputable def b_plain_rule:Sxs:=(.cons (.iff (.cmp .Eq (.var 0) (.con (.str "groups"))) (.cons (.ret (.glob "fits_by_groups"))
 .nil) .nil)
 (.cons (.iff (.cmp .Eq (.var 0) (.con (.str "marks"))) (.cons (.ret (.glob "fits_by_marks"))
 .nil) .nil)
 (.cons (.iff (.mth .startswith (.var 0) (.cons (.glob "SIZES") .nil)) (.cons (.ret (.call "sizes_rule" (.cons (.call "number_within" (.cons (.slc (.var 0) (.cons (.blt .len (.cons (.glob "SIZES") .nil)) .nil) .nil) (.cons (.con (.int 0)) (.cons (.glob "MOST_GAP") .nil)))) .nil)))
 .nil) .nil)
 (.cons (.rais "NoRow" (.cons (.var 0) .nil))
 .nil))))
@[reducible] noncomputable def N_term_rule:List Str:=["text","noes","rest","plain"]
noncomputable def b_term_rule:Sxs:=(.cons (.asg 1 (.con (.int 0)))
 (.cons (.asg 2 (.var 0))
 (.cons (.whl (.and (.cmp .Lt (.var 1) (.glob "MOST_NOES")) (.mth .startswith (.var 2) (.cons (.glob "NO") .nil))) (.cons (.asg 1 (.bin .Add (.var 1) (.con (.int 1))))
 (.cons (.asg 2 (.slc (.var 2) (.cons (.blt .len (.cons (.glob "NO") .nil)) .nil) .nil))
 .nil)))
 (.cons (.asg 3 (.call "plain_rule" (.cons (.var 2) .nil)))
 (.cons (.ret (.ite (.cmp .Eq (.bin .Mod (.var 1) (.con (.int 2))) (.con (.int 0))) (.var 3) (.call "opposite" (.cons (.var 3) .nil))))
 .nil)))))
@[reducible] noncomputable def N_alternative_rule:List Str:=["text"]
noncomputable def b_alternative_rule:Sxs:=(.cons (.ret (.call "all_of" (.cons (.comp "term" [] (.ex (.mth .split (.var 0) (.cons (.con (.str " and ")) .nil))) (.call "term_rule" (.cons (.var 0) .nil)) .nil) .nil)))
 .nil)
@[reducible] noncomputable def N_rule_of:List Str:=["text","alternatives"]
noncomputable def b_rule_of:Sxs:=(.cons (.asg 1 (.mth .split (.var 0) (.cons (.con (.str " or ")) .nil)))
 (.cons (.tryx (.cons (.ret (.call "any_of" (.cons (.comp "alternative" [] (.ex (.var 1)) (.call "alternative_rule" (.cons (.var 0) .nil)) .nil) .nil)))
 .nil) "NoRow" none (.cons (.raisF "NoRow" (.cons (.var 0) .nil))
 .nil))
 .nil))
variable {M:Mo}
structure Sd where
 g:Str
 n:Int
 m:Str
noncomputable def Sd.vs (s:Sd):List V:=[.str s.g,.int s.n,.str s.m]
structure Sd.Ok (s:Sd):Prop where
 g:isGroup s.g=true
 n:1<=s.n/\s.n<=99
 m:s.m.length<=26
noncomputable def SdAt (M:Mo) (H:Hp) (a:Addr) (s:Sd):Prop:=rd M H a=some (.tup s.vs)
theorem ixt {H:Hp} {p:Addr} {xs:List V} (hp:rd M H p=some (.tup xs)) {k:Int} {v:V} (e:atI xs k=some v) {Q:VK} (q:Q v H):idxV M (.ref p) (.int k) H Q:=by
 ((first | with_reducible refine Eq.mpr (i_ref ..) ?_ | rw[i_ref]);rw[hp])
 dsimp only
 rw[e]
 exact q
theorem SdAt.i0 {H:Hp} {a:Addr} {s:Sd} (h:SdAt M H a s) {Q:VK} (q:Q (.str s.g) H):idxV M (.ref a) (.int 0) H Q:=ixt h rfl q
theorem SdAt.i1 {H:Hp} {a:Addr} {s:Sd} (h:SdAt M H a s) {Q:VK} (q:Q (.int s.n) H):idxV M (.ref a) (.int 1) H Q:=ixt h rfl q
theorem SdAt.i2 {H:Hp} {a:Addr} {s:Sd} (h:SdAt M H a s) {Q:VK} (q:Q (.str s.m) H):idxV M (.ref a) (.int 2) H Q:=ixt h rfl q
theorem SdAt.ext {H H':Hp} {a:Addr} {s:Sd} (h:SdAt M H a s) (x:Ext M H H'):SdAt M H' a s:=x.rd h
theorem rd_era {H:Hp} {a c:Addr} {v:V} {o:HO} (hc:H c=some (.cel v)) (h:rd M H a=some o) (ho:o ≠ .cel v):rd M (era H c) a=some o:=by
 have ne:a ≠ c:=by
  rintro rfl
  unfold rd at h
  rw[hc]at h
  exact ho (Option.some.inj h).symm
 unfold rd at h ⊢
 rw[era_ne ne]
 exact h
theorem SdAt.era {H:Hp} {a c:Addr} {v:V} {s:Sd} (h:SdAt M H a s) (hc:H c=some (.cel v)):SdAt M (era H c) a s:=rd_era hc h (fun z=>nomatch z)
theorem ext_era {H H':Hp} {c:Addr} {v:V} (hc:H c=some (.cel v)) (off:M c=none) (x:Ext M (era H c) H'):Ext M H (upd H' c (.cel v)):=by
 refine⟨fun b o e=>?_,fun b mb e=>?_⟩
 ·by_cases hb:b=c
  ·subst hb
   rw[hc]at e
   rw[upd_same]
   exact e
  ·rw[upd_ne hb]
   exact x.same b o (by rw[era_ne hb];exact e)
 ·rw[upd_ne (fun z=>mb (by rw[z];exact off))]
  exact x.off b mb (era_none e)
noncomputable def gapZ (s t:Sd):Int:=if s.n - t.n < 0 then -(s.n - t.n)else s.n - t.n
noncomputable def spGap (M:Mo):Sp:=fun vs H Q _=>∃a b s t,vs=[.ref a,.ref b]/\SdAt M H a s/\SdAt M H b t/\Q (.int (gapZ s t)) H
theorem ok_gap {Γ:Gam} (hc:Γ.cm=true) (hM:Γ.mod=M) (vs:List V) (H:Hp) (Q:VK) (E:XK) (h:spGap M vs H Q E):spOf Γ N_gap 2 b_gap vs H Q E:=by
 subst hM
 obtain⟨a,b,s,t,rfl,ha,hb,h⟩:=h
 refine⟨rfl,?_⟩
 unfold b_gap
 dsimp only[Sw.wSs,Sw.wS,Sw.wE,Sw.wT,Sw.wEs,Sw.wTs,Sw.wI,Sw.wP,Sw.vars,L2.start,Sw.r_get0,Sw.r_getS,Sw.r_set0,Sw.r_setS,Sw.r_map0,Sw.r_mapS,Sw.r_app0,Sw.r_appS,Sw.r_len0,Sw.r_lenS,Sw.r_rep0,Sw.r_repS,Sw.r_join,Sw.startC,Nat.reduceAdd,Nat.reduceSub]
 refine⟨hc,ha.i1 (hb.i1 ?_)⟩
 ((first | with_reducible refine Eq.mpr (Sw.v_sub ..) ?_ | rw[Sw.v_sub]);(first | with_reducible refine Eq.mpr (Sw.b_abs ..) ?_ | rw[Sw.b_abs]))
 exact h
noncomputable def takersOf (g:Str):List V:=if g= "O" then [.str "O",.str "A",.str "B",.str "AB"]else if g= "A" then [.str "A",.str "AB"]else if g= "B" then [.str "B",.str "AB"]else [.str "AB"]
noncomputable def grF (g t:Str):Bool:=inV (.str t) (takersOf g)
noncomputable def spFG (M:Mo):Sp:=fun vs H Q _=>∃a b s t,vs=[.ref a,.ref b]/\OffM M H/\SdAt M H a s/\SdAt M H b t/\s.Ok/\Q (.bl (grF s.g t.g)) H
structure Takers (Γ:Gam) (M:Mo):Prop where
 at_:∃p1 p2 p3 p4,Γ.gd "TAKERS" =some [(.inr "O",.ref p1),(.inr "A",.ref p2),(.inr "B",.ref p3),(.inr "AB",.ref p4)]/\
  M p1=some (.tup [.str "O",.str "A",.str "B",.str "AB"])/\M p2=some (.tup [.str "A",.str "AB"])/\M p3=some (.tup [.str "B",.str "AB"])/\M p4=some (.tup [.str "AB"])
theorem group_cases {g:Str} (h:isGroup g=true):g= "O" \/g= "A" \/g= "B" \/g= "AB" :=by
 unfold isGroup inV groups at h
 simp only[List.any_cons,List.any_nil,Bool.or_false,Bool.or_eq_true]at h
 have e:∀x:Str,eqV (.str x) (.str g)=true->g=x:=fun x q=>(of_decide_eq_true q).symm
 rcases h with q | q | q | q
 ·exact .inl (e _ q)
 ·exact .inr (.inl (e _ q))
 ·exact .inr (.inr (.inl (e _ q)))
 ·exact .inr (.inr (.inr (e _ q)))
theorem ok_groups {Γ:Gam} (hM:Γ.mod=M) (T:Takers Γ M) (vs:List V) (H:Hp) (Q:VK) (E:XK) (h:spFG M vs H Q E):spOf Γ N_fits_by_groups 2 b_fits_by_groups vs H Q E:=by
 subst hM
 obtain⟨a,b,s,t,rfl,off,ha,hb,ok,h⟩:=h
 obtain⟨p1,p2,p3,p4,hg,h1,h2,h3,h4⟩:=T.at_
 refine⟨rfl,?_⟩
 unfold b_fits_by_groups
 dsimp only[Sw.wSs,Sw.wS,Sw.wE,Sw.wT,Sw.wEs,Sw.wTs,Sw.wI,Sw.wP,Sw.vars,L2.start,Sw.r_get0,Sw.r_getS,Sw.r_set0,Sw.r_setS,Sw.r_map0,Sw.r_mapS,Sw.r_app0,Sw.r_appS,Sw.r_len0,Sw.r_lenS,Sw.r_rep0,Sw.r_repS,Sw.r_join,Sw.startC,Nat.reduceAdd,Nat.reduceSub]
 refine hb.i0 ?_
 rw[hg]
 refine ha.i0 ?_
 have fin:∀ (p:Addr) (xs:List V),Γ.mod p=some (.tup xs)->xs.all flatV=true->Q (.bl (inV (.str t.g) xs)) H->cmpV Γ.mod .In (.str t.g) (.ref p) H Q:=fun p xs e f q=>by
  show(match rd Γ.mod H p with | some (.lst xs)=>_ | some (.tup xs)=>flatV (.str t.g)=true/\xs.all flatV=true/\Q (.bl (inV (.str t.g) xs)) H | _=>False)
  rw[off.rd e]
  exact⟨rfl,f,q⟩
 rcases group_cases ok.g with e | e | e | e
 ·rw[e]at h ⊢
  exact fin p1 _ h1 (by decide +kernel) h
 ·rw[e]at h ⊢
  exact fin p2 _ h2 (by decide +kernel) h
 ·rw[e]at h ⊢
  exact fin p3 _ h3 (by decide +kernel) h
 ·rw[e]at h ⊢
  exact fin p4 _ h4 (by decide +kernel) h
noncomputable def mkF (a b:Str):Bool:=!((cps a).any fun c=>decide (c ∈ cps b))
noncomputable def spFM (M:Mo):Sp:=fun vs H Q _=>∃a b s t,vs=[.ref a,.ref b]/\SdAt M H a s/\SdAt M H b t/\s.Ok/\∀H',Ext M H H'->Q (.bl (mkF s.m t.m)) H'
theorem small26 {n:Nat} (h:n<=26):n<=sizeLine:=Nat.le_trans h (by decide)
theorem any_at {H:Hp} {p:Addr} {bs:List Bool} {Q:VK} (hp:rd M H p=some (.lst (bs.map V.bl))) (q:Q (.bl (bs.any id)) H):bltV M .any [.ref p] H Q:=by
 show(match rd M H p with | some (.lst xs)=>(match allM asB xs with | some bs=>Q (.bl (bs.any id)) H | none=>False) | _=>False)
 rw[hp]
 dsimp only
 rw[allM_bools]
 exact q
theorem all_at {H:Hp} {p:Addr} {bs:List Bool} {Q:VK} (hp:rd M H p=some (.lst (bs.map V.bl))) (q:Q (.bl (bs.all id)) H):bltV M .all [.ref p] H Q:=by
 show(match rd M H p with | some (.lst xs)=>(match allM asB xs with | some bs=>Q (.bl (bs.all id)) H | none=>False) | _=>False)
 rw[hp]
 dsimp only
 rw[allM_bools]
 exact q
theorem ok_fmarks {Γ:Gam} (hc:Γ.cm=true) (hM:Γ.mod=M) (vs:List V) (H:Hp) (Q:VK) (E:XK) (h:spFM M vs H Q E):spOf Γ N_fits_by_marks 2 b_fits_by_marks vs H Q E:=by
 subst hM
 obtain⟨a,b,s,t,rfl,ha,hb,ok,h⟩:=h
 refine⟨rfl,?_⟩
 unfold b_fits_by_marks
 dsimp only[Sw.wSs,Sw.wS,Sw.wE,Sw.wT,Sw.wEs,Sw.wTs,Sw.wI,Sw.wP,Sw.vars,L2.start,Sw.r_get0,Sw.r_getS,Sw.r_set0,Sw.r_setS,Sw.r_map0,Sw.r_mapS,Sw.r_app0,Sw.r_appS,Sw.r_len0,Sw.r_lenS,Sw.r_rep0,Sw.r_repS,Sw.r_join,Sw.startC,Nat.reduceAdd,Nat.reduceSub]
 refine⟨hc,hc,ha.i2 ⟨small26 ok.m,fun D hD mD=>?_⟩⟩
 have x1:∀l,Ext Γ.mod H (upd H D (.lst l)):=fun l=>Ext.upd hD mD
 refine comp_D (fun v=>match v with | .str x=>.bl (!(Builtin.Str.occurrences t.m x 0 t.m.length 1).isEmpty) | v=>v) _ [] ?_ (fun _=>trivial) ?_ ?_
 ·intro v hv l Q1 q
  obtain⟨c,hc,rfl⟩:=List.mem_map.mp hv
  exact(hb.ext (x1 l)).i2 q
 ·simpa[len_cps]using small26 ok.m
 ·have e:List.map (fun v=>match v with | V.str x=>V.bl (!(Builtin.Str.occurrences t.m x 0 t.m.length 1).isEmpty) | v=>v) (List.map (fun c=>V.str ⟨#[c]⟩) (cps s.m))=((cps s.m).map fun c=>decide (c ∈ cps t.m)).map V.bl:=by
   rw[List.map_map,List.map_map]
   refine List.map_congr_left fun c _=>?_
   show V.bl (!(Builtin.Str.occurrences t.m ⟨#[c]⟩ 0 t.m.length 1).isEmpty)=V.bl (decide (c ∈ cps t.m))
   rw[PySem.StrLaws.found_one]
  rw[List.nil_append,e]
  refine any_at (rd_upd (by intro _ _ z;cases z)) ?_
  (first | with_reducible refine Eq.mpr (Sw.t_bl ..) ?_ | rw[Sw.t_bl])
  have e2:(!(((cps s.m).map fun c=>decide (c ∈ cps t.m)).any id))=mkF s.m t.m:=by
   unfold mkF
   rw[List.any_map]
   rfl
  rw[e2]
  exact h _ (x1 _)
end Rl
namespace Rl
set_option genInjectivity false
open PySem PySem.Spec PyProof.Rows L2 Sw Wd Tx
variable {M:Mo}
noncomputable def Sub (H H':Hp):Prop:=∀b o,H b=some o->(∀ ps,o ≠ .tbl ps)->H' b=some o
theorem Sub.of {H H':Hp} (x:ExtT M H H'):Sub H H':=x.same
theorem Sub.ofE {H H':Hp} (x:Ext M H H'):Sub H H':=fun b o h _=>x.same b o h
theorem Sub.era {H H':Hp} (s:Sub H H') (c:Addr):Sub (era H c) (era H' c):=fun b o h n=>by
 obtain⟨ne,h⟩:=of_era h
 rw[era_ne ne]
 exact s b o h n
noncomputable def noL (H H':Hp):Hp:=fun b=>match H b with | some (.lst _)=>none | _=>H' b
theorem noL_of {H H':Hp} {b:Addr} {o:HO} (h:noL H H' b=some o):(∀ xs,H b ≠ some (.lst xs))/\H' b=some o:=by
 unfold noL at h
 split at h
 ·cases h
 ·rename_i q
  exact⟨q,h⟩
theorem noL_mk {H H':Hp} {b:Addr} {o:HO} (h1:∀xs,H b ≠ some (.lst xs)) (h2:H' b=some o):noL H H' b=some o:=by
 unfold noL
 split
 ·rename_i xs q
  exact absurd q (h1 xs)
 ·exact h2
theorem noL_sub {H H':Hp}:Sub (noL H H') H':=fun b o h _=>(noL_of h).2
structure Fx where
 gr:Addr
 ma:Addr
 sz:Stmt
 op:Stmt
 al:Stmt
 an:Stmt
inductive Pl where | gr | mk | sz (n:Int)
noncomputable def Pl.phi:Pl->Sd->Sd->Bool
 | .gr,s,t=>grF s.g t.g
 | .mk,s,t=>mkF s.m t.m
 | .sz n,s,t=>decide (gapZ s t<=n)
@[reducible] noncomputable def szAt (F:Fx):=CloAt F.sz "fits" "bound" "sizes_rule.<locals>.fits"
@[reducible] noncomputable def opAt (F:Fx):=CloAt F.op "fits" "rule" "opposite.<locals>.fits"
@[reducible] noncomputable def alAt (F:Fx):=CloAt F.al "fits" "rules" "all_of.<locals>.fits"
@[reducible] noncomputable def anAt (F:Fx):=CloAt F.an "fits" "rules" "any_of.<locals>.fits"
noncomputable def PlR (F:Fx) (H:Hp) (a:Addr):Pl->Prop
 | .gr=>a=F.gr
 | .mk=>a=F.ma
 | .sz n=>∃c,szAt F H a c (.int n)
structure Tm where
 no:Nat
 p:Pl
noncomputable def Tm.phi (t:Tm) (s u:Sd):Bool:=if t.no % 2=0 then t.p.phi s u else !t.p.phi s u
noncomputable def TmR (F:Fx) (H:Hp) (a:Addr) (t:Tm):Prop:=(t.no % 2=0/\PlR F H a t.p)\/(t.no % 2 ≠ 0/\∃c b,opAt F H a c (.ref b)/\PlR F (era H c) b t.p)
noncomputable def AlR (F:Fx) (H:Hp) (a:Addr) (ts:List Tm):Prop:=∃c l rs,alAt F H a c (.ref l)/\era H c l=some (.lst (rs.map V.ref))/\ts.length<=400/\Paired (fun r t=>TmR F (era H c) r t) rs ts
noncomputable def RuR (F:Fx) (H:Hp) (a:Addr) (as:List (List Tm)):Prop:=∃c l rs,anAt F H a c (.ref l)/\era H c l=some (.lst (rs.map V.ref))/\as.length<=400/\Paired (fun r ts=>AlR F (era H c) r ts) rs as
theorem clo_mono {st:Stmt} {nm x q:Str} {H H':Hp} {f c:Addr} {v:V} (s:Sub H H') (h:CloAt st nm x q H f c v):CloAt st nm x q H' f c v:=by
 obtain⟨⟨c',d,p,k,h1,h2⟩,h3⟩:=h
 exact⟨⟨c',d,p,k,s _ _ h1 (fun ps z=>nomatch z),s _ _ h2 (fun ps z=>nomatch z)⟩,s _ _ h3 (fun ps z=>nomatch z)⟩
theorem PlR.mono {F:Fx} {H H':Hp} {a:Addr} {p:Pl} (s:Sub H H') (h:PlR F H a p):PlR F H' a p:=by
 cases p with
 | gr=>exact h
 | mk=>exact h
 | sz n=>obtain⟨c,h⟩:=h;exact⟨c,clo_mono s h⟩
theorem TmR.mono {F:Fx} {H H':Hp} {a:Addr} {t:Tm} (s:Sub H H') (h:TmR F H a t):TmR F H' a t:=by
 rcases h with ⟨e,h⟩ | ⟨e,c,b,h1,h2⟩
 ·exact .inl ⟨e,h.mono s⟩
 ·exact .inr ⟨e,c,b,clo_mono s h1,h2.mono (s.era c)⟩
theorem AlR.mono {F:Fx} {H H':Hp} {a:Addr} {ts:List Tm} (s:Sub H H') (h:AlR F H a ts):AlR F H' a ts:=by
 obtain⟨c,l,rs,h1,h2,hl,h3⟩:=h
 exact⟨c,l,rs,clo_mono s h1,s.era c _ _ h2 (fun ps z=>nomatch z),hl,L2.Paired.mapP h3 fun r t z=>z.mono (s.era c)⟩
theorem RuR.mono {F:Fx} {H H':Hp} {a:Addr} {as:List (List Tm)} (s:Sub H H') (h:RuR F H a as):RuR F H' a as:=by
 obtain⟨c,l,rs,h1,h2,hl,h3⟩:=h
 exact⟨c,l,rs,clo_mono s h1,s.era c _ _ h2 (fun ps z=>nomatch z),hl,L2.Paired.mapP h3 fun r t z=>z.mono (s.era c)⟩
noncomputable def spAns {α:Type} (M:Mo) (R:Hp->Addr->α->Prop) (phi:α->Sd->Sd->Bool):Addr->Sp:=fun f vs H Q _=>∃x a b s t,vs=[.ref a,.ref b]/\R H f x/\OffM M H/\SdAt M H a s/\SdAt M H b t/\s.Ok/\t.Ok/\∀H',Ext M H H'->Q (.bl (phi x s t)) H'
@[reducible] noncomputable def spP (M:Mo) (F:Fx):=spAns M (PlR F) Pl.phi
@[reducible] noncomputable def spT (M:Mo) (F:Fx):=spAns M (TmR F) Tm.phi
noncomputable def Alphi (ts:List Tm) (s t:Sd):Bool:=ts.all fun x=>x.phi s t
noncomputable def Ruphi (as:List (List Tm)) (s t:Sd):Bool:=as.any fun x=>Alphi x s t
@[reducible] noncomputable def spA (M:Mo) (F:Fx):=spAns M (AlR F) Alphi
@[reducible] noncomputable def spR (M:Mo) (F:Fx):=spAns M (RuR F) Ruphi
theorem off_era {H:Hp} {c:Addr} (off:OffM M H):OffM M (era H c):=fun a m=>era_none (off a m)
theorem off_cel {H:Hp} {c:Addr} {o:HO} (off:OffM M H) (hc:H c=some o):M c=none:=by
 cases q:M c with
 | none=>rfl
 | some u=>
  have:=off c (by rw[q];exact fun z=>nomatch z)
  rw[hc]at this;cases this
theorem off_ext {H H':Hp} (off:OffM M H) (x:Ext M H H'):OffM M H':=fun a m=>x.off a m (off a m)
theorem ok_in_sizes {Γ:Gam} {F:Fx} (hc:Γ.cm=true) (hM:Γ.mod=M) (hg:Γ.has "gap" =true/\Γ.fn "gap" =spGap M) {f:Addr} {n:Int} {vs:List V} {H:Hp} {Q:VK} {E:XK} {a b:Addr} {s t:Sd} {c:Addr} (hf:szAt F H f c (.int n)) (off:OffM M H)
  (ev:vs=[.ref a,.ref b]) (ha:SdAt M H a s) (hb:SdAt M H b t) (h:∀H',Ext M H H'->Q (.bl ((Pl.sz n).phi s t)) H'):spClo Γ N_in_sizes_rule ["giver","taker"] F.sz "fits" "bound" "sizes_rule.<locals>.fits" b_in_sizes_rule f vs H Q E:=by
 subst hM ev
 refine⟨rfl,c,.int n,hf,?_⟩
 unfold b_in_sizes_rule
 dsimp only[Sw.wSs,Sw.wS,Sw.wE,Sw.wT,Sw.wEs,Sw.wTs,Sw.wI,Sw.wP,Sw.vars,L2.start,Sw.r_get0,Sw.r_getS,Sw.r_set0,Sw.r_setS,Sw.r_map0,Sw.r_mapS,Sw.r_app0,Sw.r_appS,Sw.r_len0,Sw.r_lenS,Sw.r_rep0,Sw.r_repS,Sw.r_join,Sw.startC,Nat.reduceAdd,Nat.reduceSub]
 rw[hg.2]
 refine⟨⟨hc,hg.1⟩,a,b,s,t,rfl,ha.era hf.cel,hb.era hf.cel,?_⟩
 dsimp only
 (first | with_reducible refine Eq.mpr (Sw.v_le ..) ?_ | rw[Sw.v_le])
 exact h _ (ext_era hf.cel (off_cel off hf.cel) Ext.refl)
theorem ok_in_opp {Γ:Gam} {F:Fx} (hc:Γ.cm=true) (hM:Γ.mod=M) (hv:Γ.vc=spP M F) {f:Addr} {vs:List V} {H:Hp} {Q:VK} {E:XK} {a b r:Addr} {s t:Sd} {c:Addr} {p:Pl} (hf:opAt F H f c (.ref r)) (hr:PlR F (era H c) r p) (off:OffM M H)
  (ev:vs=[.ref a,.ref b]) (ha:SdAt M H a s) (hb:SdAt M H b t) (os:s.Ok) (ot:t.Ok) (h:∀H',Ext M H H'->Q (.bl (!p.phi s t)) H'):spClo Γ N_in_opposite ["giver","taker"] F.op "fits" "rule" "opposite.<locals>.fits" b_in_opposite f vs H Q E:=by
 subst hM ev
 refine⟨rfl,c,.ref r,hf,?_⟩
 unfold b_in_opposite
 dsimp only[Sw.wSs,Sw.wS,Sw.wE,Sw.wT,Sw.wEs,Sw.wTs,Sw.wI,Sw.wP,Sw.vars,L2.start,Sw.r_get0,Sw.r_getS,Sw.r_set0,Sw.r_setS,Sw.r_map0,Sw.r_mapS,Sw.r_app0,Sw.r_appS,Sw.r_len0,Sw.r_lenS,Sw.r_rep0,Sw.r_repS,Sw.r_join,Sw.startC,Nat.reduceAdd,Nat.reduceSub]
 rw[hv]
 refine⟨hc,p,a,b,s,t,rfl,hr,off_era off,ha.era hf.cel,hb.era hf.cel,os,ot,fun H' x=>?_⟩
 dsimp only
 (first | with_reducible refine Eq.mpr (Sw.t_bl ..) ?_ | rw[Sw.t_bl])
 exact h _ (ext_era hf.cel (off_cel off hf.cel) x)
theorem turns {α:Type} {R:Hp->Addr->α->Prop} {phi:α->Sd->Sd->Bool} (mono:∀ {H H':Hp} {a:Addr} {x:α},Sub H H'->R H a x->R H' a x) {Γ:Gam} (hc:Γ.cm=true) (hv:Γ.vc=spAns Γ.mod R phi) {H0:Hp} {D l a b:Addr} {s t:Sd} {rs:List Addr} {xs:List α} {k:Hp->Prop}
  (off:OffM Γ.mod H0) (hD:H0 D=none) (mD:Γ.mod D=none) (hl:rd Γ.mod H0 l=some (.lst (rs.map V.ref))) (hr:Paired (R H0) rs xs) (hn:xs.length<=400) (ha:SdAt Γ.mod H0 a s) (hb:SdAt Γ.mod H0 b t) (os:s.Ok) (ot:t.Ok)
  (fin:∀H',Ext Γ.mod H0 H'->H' D=some (.lst ((xs.map fun x=>phi x s t).map V.bl))->k H'):
  compW (wE Γ (.callv (.var 0) (.cons (.var 1) (.cons (.var 2) .nil))) X0) (fun _ H Q=>Q true H) [some (.ref a),some (.ref b)] D (fun H'=>rd Γ.mod H' l=some (.lst (rs.map V.ref))) (rs.map V.ref) [] (upd H0 D (.lst [])) k:=by
 have len:rs.length=xs.length:=Paired.length hr
 refine comp_inv (fun n acc H=>H D=some (.lst acc)/\acc=((xs.take n).map fun x=>phi x s t).map V.bl/\n<=xs.length/\Ext Γ.mod H0 H) (fun n acc H p=>p.2.2.2.rd hl) (fun n acc H p=>⟨p.1,by rw[p.2.1];simp;exact Nat.min_eq_left p.2.2.1⟩) (by rw[List.length_map,len];exact Nat.le_trans hn (by decide)) ?_ ?_ ⟨upd_same,rfl,Nat.zero_le _,Ext.upd hD mD⟩
 ·intro n v acc H Q hv' p hQ
  obtain⟨p1,p2,p3,p4⟩:=p
  have hlt:n < rs.length:=by
   have:=(List.getElem?_eq_some_iff.mp hv').1
   simpa using this
  obtain⟨r,er⟩:∃r,rs[n]?=some r:=⟨_,List.getElem?_eq_getElem hlt⟩
  have ev:v=.ref r:=by
   rw[List.getElem?_map,er]at hv'
   exact(Option.some.inj hv').symm
  subst ev
  obtain⟨x,ex,hx⟩:=paired_get hr er
  show Γ.cm=true/\_
  refine⟨hc,?_⟩
  show Γ.vc r [.ref a,.ref b] H Q _
  rw[hv]
  refine⟨x,a,b,s,t,rfl,mono (Sub.ofE p4) hx,off_ext off p4,ha.ext p4,hb.ext p4,os,ot,fun H' x'=>hQ _ H' (x'.same _ _ p1) ⟨upd_same,?_,?_,?_⟩⟩
  ·rw[p2,List.take_succ,ex]
   simp
  ·have:=(List.getElem?_eq_some_iff.mp ex).1
   omega
  ·refine⟨fun b' o e=>?_,fun b' m e=>?_⟩
   ·rw[upd_ne (ne_of_none e hD)]
    exact x'.same _ _ (p4.same _ _ e)
   ·rw[upd_ne (fun z=>m (by rw[z];exact mD))]
    exact x'.off _ m (p4.off _ m e)
 ·intro acc H p
  obtain⟨p1,p2,p3,p4⟩:=p
  rw[List.length_map,len,List.take_of_length_le (Nat.le_refl _)]at p2
  exact fin H p4 (by rw[p1,p2])
where
 paired_get {α β:Type} {G:α->β->Prop}:∀ {l₁:List α} {l₂:List β} {n:Nat} {a:α},Paired G l₁ l₂->l₁[n]?=some a->∃b,l₂[n]?=some b/\G a b
  | _,_,_,_,.nil,e=>by simp at e
  | _,_,0,_,.cons r _,e=>by simp at e;subst e;exact⟨_,rfl,r⟩
  | _,_,n + 1,_,.cons _ t,e=>by
   obtain⟨b,h1,h2⟩:=paired_get (n:=n) t (by simpa using e)
   exact⟨b,by simpa using h1,h2⟩
theorem ok_in_all {Γ:Gam} {F:Fx} (hc:Γ.cm=true) (hM:Γ.mod=M) (hv:Γ.vc=spT M F) {f:Addr} {vs:List V} {H:Hp} {Q:VK} {E:XK} {a b l:Addr} {rs:List Addr} {ts:List Tm} {s t:Sd} {c:Addr} (hf:alAt F H f c (.ref l)) (hl:era H c l=some (.lst (rs.map V.ref)))
  (hn:ts.length<=400) (hr:Paired (fun r t=>TmR F (era H c) r t) rs ts) (off:OffM M H) (ev:vs=[.ref a,.ref b]) (ha:SdAt M H a s) (hb:SdAt M H b t) (os:s.Ok) (ot:t.Ok) (h:∀H',Ext M H H'->Q (.bl (Alphi ts s t)) H'):
  spClo Γ N_in_all_of ["giver","taker"] F.al "fits" "rules" "all_of.<locals>.fits" b_in_all_of f vs H Q E:=by
 subst hM ev
 refine⟨rfl,c,.ref l,hf,?_⟩
 unfold b_in_all_of
 dsimp only[Sw.wSs,Sw.wS,Sw.wE,Sw.wT,Sw.wEs,Sw.wTs,Sw.wI,Sw.wP,Sw.vars,L2.start,Sw.r_get0,Sw.r_getS,Sw.r_set0,Sw.r_setS,Sw.r_map0,Sw.r_mapS,Sw.r_app0,Sw.r_appS,Sw.r_len0,Sw.r_lenS,Sw.r_rep0,Sw.r_repS,Sw.r_join,Sw.startC,Nat.reduceAdd,Nat.reduceSub]
 have hl':rd Γ.mod (era H c) l=some (.lst (rs.map V.ref)):=by unfold rd;rw[hl]
 refine⟨hc,hc,?_⟩
 show iterV Γ.mod (.ref l) (era H c) _
 unfold iterV
 dsimp only
 rw[hl']
 dsimp only
 intro D hD mD
 refine turns (R:=TmR F) (phi:=Tm.phi) (fun s h=>h.mono s) hc hv (off_era off) hD mD hl' hr hn (ha.era hf.cel) (hb.era hf.cel) os ot fun H' x hD'=>?_
 refine all_at (by unfold rd;rw[hD']) ?_
 have e:((ts.map fun x=>x.phi s t).all id)=Alphi ts s t:=by
  unfold Alphi
  rw[List.all_map]
  rfl
 rw[e]
 exact h _ (ext_era hf.cel (off_cel off hf.cel) x)
theorem ok_in_any {Γ:Gam} {F:Fx} (hc:Γ.cm=true) (hM:Γ.mod=M) (hv:Γ.vc=spA M F) {f:Addr} {vs:List V} {H:Hp} {Q:VK} {E:XK} {a b l:Addr} {rs:List Addr} {ts:List (List Tm)} {s t:Sd} {c:Addr} (hf:anAt F H f c (.ref l)) (hl:era H c l=some (.lst (rs.map V.ref)))
  (hn:ts.length<=400) (hr:Paired (fun r t=>AlR F (era H c) r t) rs ts) (off:OffM M H) (ev:vs=[.ref a,.ref b]) (ha:SdAt M H a s) (hb:SdAt M H b t) (os:s.Ok) (ot:t.Ok) (h:∀H',Ext M H H'->Q (.bl (Ruphi ts s t)) H'):
  spClo Γ N_in_any_of ["giver","taker"] F.an "fits" "rules" "any_of.<locals>.fits" b_in_any_of f vs H Q E:=by
 subst hM ev
 refine⟨rfl,c,.ref l,hf,?_⟩
 unfold b_in_any_of
 dsimp only[Sw.wSs,Sw.wS,Sw.wE,Sw.wT,Sw.wEs,Sw.wTs,Sw.wI,Sw.wP,Sw.vars,L2.start,Sw.r_get0,Sw.r_getS,Sw.r_set0,Sw.r_setS,Sw.r_map0,Sw.r_mapS,Sw.r_app0,Sw.r_appS,Sw.r_len0,Sw.r_lenS,Sw.r_rep0,Sw.r_repS,Sw.r_join,Sw.startC,Nat.reduceAdd,Nat.reduceSub]
 have hl':rd Γ.mod (era H c) l=some (.lst (rs.map V.ref)):=by unfold rd;rw[hl]
 refine⟨hc,hc,?_⟩
 show iterV Γ.mod (.ref l) (era H c) _
 unfold iterV
 dsimp only
 rw[hl']
 dsimp only
 intro D hD mD
 refine turns (R:=AlR F) (phi:=Alphi) (fun s h=>h.mono s) hc hv (off_era off) hD mD hl' hr hn (ha.era hf.cel) (hb.era hf.cel) os ot fun H' x hD'=>?_
 refine any_at (by unfold rd;rw[hD']) ?_
 have e:((ts.map fun x=>Alphi x s t).any id)=Ruphi ts s t:=by
  unfold Ruphi
  rw[List.any_map]
  rfl
 rw[e]
 exact h _ (ext_era hf.cel (off_cel off hf.cel) x)
end Rl
namespace Rl
set_option genInjectivity false
open PySem PySem.Spec PyProof.Rows L2 Sw Wd Tx
variable {M:Mo}
@[reducible] noncomputable def TabsOk (Ts:List Tb) (H:Hp):Prop:=∀t ∈ Ts,TabAt H t
theorem _root_.Sw.TabAt.ext {H H':Hp} {t:Tb} (h:TabAt H t) (x:Ext M H H'):TabAt H' t:=by
 rcases h with q | ⟨c,q1,q2⟩
 ·exact .inl (x.same _ _ q)
 ·exact .inr ⟨c,x.same _ _ q1,x.same _ _ q2⟩
theorem _root_.Sw.TabAt.upd {H:Hp} {t:Tb} {D:Addr} {l:List V} {o:HO} (h:TabAt H t) (hD:H D=some (.lst l)):TabAt (L2.upd H D o) t:=by
 have ne:∀b u,H b=some u->(∀ l,u ≠ .lst l)->L2.upd H D o b=some u:=fun b u e n=>by
  rw[upd_ne (fun z=>by rw[z,hD]at e;exact n l (Option.some.inj e).symm)]
  exact e
 rcases h with q | ⟨c,q1,q2⟩
 ·exact .inl (ne _ _ q (fun l z=>nomatch z))
 ·exact .inr ⟨c,ne _ _ q1 (fun l z=>nomatch z),ne _ _ q2 (fun l z=>nomatch z)⟩
noncomputable def Makes {α:Type} (M:Mo) (Ts:List Tb) (R:Hp->Addr->α->Prop) (x:α) (H:Hp) (Q:VK):Prop:=TabsOk Ts H/\∀H' a,ExtT M H H'->TabsOk Ts H'->R (noL H H') a x->Q (.ref a) H'
theorem clo_noL {st:Stmt} {nm x q:Str} {H H':Hp} {f c:Addr} {v:V} (s:Sub H H') (h:CloAt st nm x q H' f c v):CloAt st nm x q (noL H H') f c v:=by
 have k:∀b o,H' b=some o->(∀ l,o ≠ .lst l)->noL H H' b=some o:=fun b o e n=>noL_mk (fun xs z=>n xs (Option.some.inj (e.symm.trans (s b _ z (fun ps y=>nomatch y))))) e
 obtain⟨⟨c',d,p,k',h1,h2⟩,h3⟩:=h
 exact⟨⟨c',d,p,k',k _ _ h1 (fun l z=>nomatch z),k _ _ h2 (fun l z=>nomatch z)⟩,k _ _ h3 (fun l z=>nomatch z)⟩
noncomputable def plOf (q:Nat):Pl:=if q=0 then .gr else if q=1 then .mk else .sz ((q - 2:Nat):Int)
noncomputable def spPR (M:Mo) (Ts:List Tb) (F:Fx):Sp:=fun vs H Q _=>∃q,q < 101/\vs=[.str (plainTx q)]/\Makes M Ts (PlR F) (plOf q) H Q
structure RG1 (Γ:Gam) (M:Mo) (Ts:List Tb) (F:Fx):Prop where
 cm:Γ.cm=true
 mod:Γ.mod=M
 cg:Γ.con "fits_by_groups" =some (.ref F.gr)
 ck:Γ.con "fits_by_marks" =some (.ref F.ma)
 cs:Γ.con "SIZES" =some (.str "sizes ")
 mg:Γ.con "MOST_GAP" =some (.int 98)
 nw:∃c,Γ.has "number_within" =true/\Γ.fn "number_within" =spWithin M c
 sz:Γ.has "sizes_rule" =true/\Γ.fn "sizes_rule" =spMk M Ts F.sz "fits" "bound" "sizes_rule.<locals>.fits"
theorem plain_cases (q:Nat):q=0\/q=1\/∃n,q=n + 2:=by
 rcases q with _ | _ | n
 ·exact .inl rfl
 ·exact .inr (.inl rfl)
 ·exact .inr (.inr ⟨n,rfl⟩)
noncomputable def tmOf (x:Nat × Nat):Tm:=⟨x.1,plOf x.2⟩
noncomputable def okT (x:Nat × Nat):Prop:=x.1 < 6/\x.2 < 101
@[reducible] noncomputable def txP (x:Nat × Nat):Str:=tx x.1 x.2
noncomputable def spTR (M:Mo) (Ts:List Tb) (F:Fx):Sp:=fun vs H Q _=>∃x:Nat × Nat,okT x/\vs=[.str (txP x)]/\Makes M Ts (fun H a x=>TmR F H a (tmOf x)) x H Q
structure RG2 (Γ:Gam) (M:Mo) (Ts:List Tb) (F:Fx):Prop where
 cm:Γ.cm=true
 mod:Γ.mod=M
 no:Γ.con "NO" =some (.str "no ")
 mn:Γ.con "MOST_NOES" =some (.int 5)
 pr:Γ.has "plain_rule" =true/\Γ.fn "plain_rule" =spPR M Ts F
 op:Γ.has "opposite" =true/\Γ.fn "opposite" =spMk M Ts F.op "fits" "rule" "opposite.<locals>.fits"
end Rl
namespace Rl
set_option genInjectivity false
open PySem PySem.Spec PyProof.Rows L2 Sw Wd Tx
variable {M:Mo}
theorem ext_unera {H:Hp} {D:Addr} (mD:M D=none):ExtT M (era H D) H:=
 ⟨fun a o h _=>(of_era h).2,fun a m h=>by rw[era_ne (fun z=>m (by rw[z];exact mD))]at h;exact h,fun a h z=>h (era_none z)⟩
theorem pr_get {α β:Type} {G:α->β->Prop}:∀ {l₁:List α} {l₂:List β} {b:β},Paired G l₁ l₂->∀ {a:α},G a b->Paired G (l₁++[a]) (l₂++[b])
 | _,_,_,.nil,_,h=>.cons h .nil
 | _,_,_,.cons r t,_,h=>.cons r (pr_get t h)
theorem made2 {α:Type} {R:Hp->Addr->α->Prop} (mono:∀ {H H':Hp} {a:Addr} {x:α},Sub H H'->R H a x->R H' a x) {Ts:List Tb} {te:TE} {fvs:L2.St} {st:Hp->Prop} {H Hs:Hp} {D:Addr} {xs:List α} {vsx:List V} (hlen:vsx.length=xs.length)
  (hte:∀ (n:Nat) (v:V) (x:α) (Hn:Hp) (Q:VK),vsx[n]?=some v->xs[n]?=some x->ExtT M Hs Hn->Makes M Ts R x Hn Q->te (some v::fvs) Hn Q) (hst:∀Hn,ExtT M Hs Hn->st Hn) (xt:ExtT M H Hs) (tabs:TabsOk Ts Hs) (hD:Hs D=none) (mD:M D=none)
  (hn:xs.length<=400) {k:Hp->Prop} (fin:∀Hf rs,Hf D=some (.lst (rs.map V.ref))->ExtT M H Hf->TabsOk Ts Hf->Paired (fun r x=>R (era (noL H Hf) D) r x) rs xs->k Hf):
  compW te (fun _ H Q=>Q true H) fvs D st vsx [] (upd Hs D (.lst [])) k:=by
 refine comp_inv (fun n acc Hn=>∃rs:List Addr,acc=rs.map V.ref/\rs.length=n/\n<=xs.length/\Hn D=some (.lst acc)/\ExtT M Hs (era Hn D)/\TabsOk Ts Hn/\Paired (fun r x=>R (era (noL H Hn) D) r x) rs (xs.take n))
  (fun n acc Hn p=>?_) (fun n acc Hn p=>?_) (by rw[hlen];exact Nat.le_trans hn (by decide)) ?_ ?_ ⟨[],rfl,rfl,Nat.zero_le _,upd_same,⟨fun a o e _=>?_,fun a m e=>?_,fun a h z=>?_⟩,fun t ht=>?_,?_⟩
 ·obtain⟨rs,_,_,_,_,x,_⟩:=p
  exact hst Hn (x.trans (ext_unera mD))
 ·obtain⟨rs,e,e2,_,d,_⟩:=p
  exact⟨d,by rw[e,List.length_map];exact e2⟩
 ·intro n v acc Hn Q hv p hQ
  obtain⟨rs,e1,e2,e3,e4,e5,e6,e7⟩:=p
  have hlt:n < xs.length:=by
   have:=(List.getElem?_eq_some_iff.mp hv).1
   rwa[hlen]at this
  obtain⟨x,ex⟩:∃x,xs[n]?=some x:=⟨_,List.getElem?_eq_getElem hlt⟩
  refine hte n v x Hn Q hv ex (e5.trans (ext_unera mD)) ⟨e6,fun H' a x' t' r'=>hQ (.ref a) H' (x'.same _ _ e4 (fun ps z=>nomatch z)) ?_⟩
  have hD':H' D=some (.lst acc):=x'.same _ _ e4 (fun ps z=>nomatch z)
  refine⟨rs++[a],by rw[e1,List.map_append];rfl,by rw[List.length_append,e2];rfl,hlt,upd_same,⟨fun b o e n=>?_,fun b m e=>?_,fun b h z=>?_⟩,fun t ht=>(t' t ht).upd hD',?_⟩
  ·obtain⟨ne,e'⟩:=of_era (e5.same b o e n)
   rw[era_ne ne,upd_ne ne]
   exact x'.same b o e' n
  ·have ne:b ≠ D:=fun z=>m (by rw[z];exact mD)
   have:=e5.off b m e
   rw[era_ne ne]at this ⊢
   rw[upd_ne ne]
   exact x'.off b m this
  ·have:=e5.dom b h
   have ne:b ≠ D:=fun z=>this (by rw[z];exact era_same)
   rw[era_ne ne]at this z
   rw[upd_ne ne]at z
   exact x'.dom b this z
  ·have tk:xs.take (n + 1)=xs.take n++[x]:=by rw[List.take_succ,ex];rfl
   rw[tk]
   refine pr_get (L2.Paired.mapP e7 fun r y z=>mono (fun b o e n=>?_) z) (mono (fun b o e n=>?_) r')
   ·obtain⟨ne,e⟩:=of_era e
    obtain⟨q1,q2⟩:=noL_of e
    rw[era_ne ne]
    exact noL_mk q1 (by rw[upd_ne ne];exact x'.same b o q2 n)
   ·obtain⟨q1,q2⟩:=noL_of e
    have ne:b ≠ D:=fun z=>q1 acc (by rw[z];exact e4)
    rw[era_ne ne]
    refine noL_mk (fun ys z=>?_) (by rw[upd_ne ne];exact q2)
    have:=e5.same b _ (xt.same b _ z (fun ps y=>nomatch y)) (fun ps y=>nomatch y)
    exact q1 ys (of_era this).2
 ·intro acc Hn p
  obtain⟨rs,e1,e2,e3,e4,e5,e6,e7⟩:=p
  rw[hlen,List.take_of_length_le (Nat.le_refl _)]at e7
  exact fin Hn rs (by rw[e4,e1]) (xt.trans (e5.trans (ext_unera mD))) e6 e7
 ·rw[era_ne (ne_of_none e hD),upd_ne (ne_of_none e hD)]
  exact e
 ·have ne:a ≠ D:=fun z=>m (by rw[z];exact mD)
  rw[era_ne ne,upd_ne ne]
  exact e
 ·have ne:a ≠ D:=fun z=>h (by rw[z];exact hD)
  rw[era_ne ne,upd_ne ne]at z
  exact h z
 ·rcases tabs t ht with q | ⟨c,q1,q2⟩
  ·exact .inl (by rw[upd_ne (ne_of_none q hD)];exact q)
  ·exact .inr ⟨c,by rw[upd_ne (ne_of_none q1 hD)];exact q1,by rw[upd_ne (ne_of_none q2 hD)];exact q2⟩
 ·rw[List.take_zero]
  exact .nil
theorem closed {α:Type} {R:Hp->Addr->α->Prop} (mono:∀ {H H':Hp} {a:Addr} {x:α},Sub H H'->R H a x->R H' a x) {st:Stmt} {q:Str} {H Hf H4:Hp} {D f c:Addr} {rs:List Addr} {xs:List α} (hDH:H D=none) (hD:Hf D=some (.lst (rs.map V.ref))) (x1:ExtT M H Hf) (x2:ExtT M Hf H4)
  (hp:Paired (fun r x=>R (era (noL H Hf) D) r x) rs xs) (hc:Hf c=none) (clo:CloAt st "fits" "rules" q H4 f c (.ref D)):
  CloAt st "fits" "rules" q (noL H H4) f c (.ref D)/\era (noL H H4) c D=some (.lst (rs.map V.ref))/\Paired (fun r x=>R (era (noL H H4) c) r x) rs xs:=by
 refine⟨clo_noL (Sub.of (x1.trans x2)) clo,?_,L2.Paired.mapP hp fun r y z=>mono (fun b o e n=>?_) z⟩
 ·rw[era_ne (ne_of_none hD hc)]
  exact noL_mk (fun xs z=>by rw[hDH]at z;cases z) (x2.same _ _ hD (fun ps z=>nomatch z))
 ·obtain⟨_,e⟩:=of_era e
  obtain⟨q1,q2⟩:=noL_of e
  rw[era_ne (ne_of_none q2 hc)]
  exact noL_mk q1 (x2.same b o q2 n)
theorem none_of {H H':Hp} {D:Addr} (x:ExtT M H H') (h:H' D=none):H D=none:=by
 cases q:H D with
 | none=>rfl
 | some o=>exact absurd h (x.dom D (by rw[q];exact fun z=>nomatch z))
noncomputable def altTx (ts:List (Nat × Nat)):Str:=Txt.join (Str.ofString " and ") (ts.map txP)
noncomputable def ruleTx (as:List (List (Nat × Nat))):Str:=Txt.join (Str.ofString " or ") (as.map altTx)
structure OkA (ts:List (Nat × Nat)):Prop where
 ne:ts ≠ []
 len:ts.length<=10
 all:∀x ∈ ts,okT x
structure OkR (as:List (List (Nat × Nat))):Prop where
 ne:as ≠ []
 len:as.length<=10
 all:∀x ∈ as,OkA x
theorem joinN_L (g:List Nat):∀ps:List Str,joinN g (ps.map fun p=>p.cps.toList)=joinL g ps
 | []=>rfl
 | [p]=>by simp[joinN,joinL,cps]
 | p::q::r=>by
  have ih:=joinN_L g (q::r)
  rw[List.map_cons]at ih
  show cps p++g++joinN g (List.map (fun p=>p.cps.toList) (q::r))=_
  rw[List.map_cons,ih]
  simp[joinL,cps]
theorem tx_facts {x:Nat × Nat} (h:okT x):bOk 97 (cps (txP x))=true/\bOk 111 (cps (txP x))=true/\(cps (txP x)).head? ≠ some 97/\(cps (txP x)).head? ≠ some 111/\(txP x).length<=40/\1<=(txP x).length/\∀c ∈ cps (txP x),c < 256:=by
 have f:=tx_tok (t:=x.1) h.2
 exact⟨f.a,f.o,f.ha,f.ho,tx_le h.1 h.2,by rw[len_cps];exact f.n,f.s⟩
theorem kind1 {x:Str} (h:∀c ∈ cps x,c < 256):Builtin.Str.strKind x=1:=by
 unfold Builtin.Str.strKind
 rw[if_pos]
 rw[Array.all_eq_true']
 intro c hc
 exact decide_eq_true (h c (by simpa using hc))
theorem and_codes:cps (Str.ofString " and ")=[32,97,110,100,32]:=by decide +kernel
theorem or_codes:cps (Str.ofString " or ")=[32,111,114,32]:=by decide +kernel
theorem mem_joinL {g:List Nat} {c:Nat}:∀ {ps:List Str},c ∈ joinL g ps->c ∈ g\/∃p ∈ ps,c ∈ cps p
 | [],h=>by simp[joinL]at h
 | p::r,h=>by
  unfold joinL at h
  rcases List.mem_append.mp h with h | h
  ·exact .inr ⟨p,by simp,h⟩
  ·obtain⟨l,hl,hc⟩:=List.mem_flatten.mp h
   obtain⟨q,hq,rfl⟩:=List.mem_map.mp hl
   rcases List.mem_append.mp hc with hc | hc
   ·exact .inl hc
   ·exact .inr ⟨q,by simp[hq],hc⟩
theorem len_joinL (g:List Nat) (B:Nat):∀ps:List Str,(∀ p ∈ ps,p.length<=B)->(joinL g ps).length<=ps.length * (B + g.length)
 | [],_=>Nat.zero_le _
 | p::r,h=>by
  have h1:∀r:List Str,(∀ p ∈ r,p.length<=B)->((r.map fun p=>g++cps p).flatten).length<=r.length * (B + g.length):=by
   intro r
   induction r with
   | nil=>intro _;simp
   | cons q r ih=>
    intro h
    have:=ih fun p hp=>h p (by simp[hp])
    have h2:=h q (by simp)
    rw[len_cps]at h2
    simp only[List.map_cons,List.flatten_cons,List.length_append,List.length_cons,Nat.succ_mul]
    omega
  have h2:=h p (by simp)
  rw[len_cps]at h2
  have h3:=h1 r fun p hp=>h p (by simp[hp])
  unfold joinL
  simp only[List.length_append,List.length_cons,Nat.succ_mul]
  omega
theorem alt_len {ts:List (Nat × Nat)} (h:OkA ts):(altTx ts).length<=450:=by
 rw[len_cps]
 unfold altTx
 rw[cps_join,and_codes]
 refine Nat.le_trans (len_joinL _ 40 _ fun p hp=>?_) ?_
 ·obtain⟨x,hx,rfl⟩:=List.mem_map.mp hp
  exact(tx_facts (h.all x hx)).2.2.2.2.1
 ·rw[List.length_map]
  have:=h.len
  show ts.length * 45<=450
  omega
theorem alt_bOk:∀ {ts:List (Nat × Nat)},ts ≠ []->(∀ x ∈ ts,okT x)->bOk 111 (joinL [32,97,110,100,32] (ts.map txP))=true/\(joinL [32,97,110,100,32] (ts.map txP)).head? ≠ some 111/\joinL [32,97,110,100,32] (ts.map txP) ≠ []
 | [],h,_=>absurd rfl h
 | [x],_,h=>by
  have f:=tx_facts (h x (by simp))
  have e:joinL [32,97,110,100,32] ([x].map txP)=cps (txP x):=by simp[joinL]
  rw[e]
  refine⟨f.2.1,f.2.2.2.1,fun z=>?_⟩
  have:=f.2.2.2.2.2.1
  rw[len_cps,z]at this
  simp at this
 | x::y::r,_,h=>by
  have f:=tx_facts (h x (by simp))
  obtain⟨i1,i2,i3⟩:=alt_bOk (ts:=y::r) (by simp) fun z hz=>h z (by simp[List.mem_cons.mp hz])
  have e:joinL [32,97,110,100,32] ((x::y::r).map txP)=cps (txP x)++32::97::(110::100::32::joinL [32,97,110,100,32] ((y::r).map txP)):=by simp[joinL]
  rw[e]
  generalize joinL [32,97,110,100,32] ((y::r).map txP)=q at i1 i2 i3
  cases q with
  | nil=>exact absurd rfl i3
  | cons c q=>
   have hc:(c != 111)=true:=by simpa using i2
   have b0:bOk 111 (110::100::32::c::q)=true:=by
    show((110 != 32 || 100 != 111) && ((100 != 32 || 32 != 111) && ((32 != 32 || c != 111) && bOk 111 (c::q))))=true
    rw[i1,hc]
    rfl
   refine⟨?_,?_,by simp⟩
   ·rw[bOk_app f.2.1 b0 (by decide)]
    show((97 != 32 || 110 != 111) && bOk 111 (110::100::32::c::q))=true
    rw[b0]
    rfl
   ·have hl:=f.2.2.2.2.2.1
    rw[len_cps]at hl
    cases hx:cps (txP x)with
    | nil=>rw[hx]at hl;simp at hl
    | cons d l=>
     have:=f.2.2.2.1
     rw[hx]at this
     simpa using this
@[reducible] noncomputable def RT (F:Fx):Hp->Addr->Nat × Nat->Prop:=fun H a x=>TmR F H a (tmOf x)
@[reducible] noncomputable def RA (F:Fx):Hp->Addr->List (Nat × Nat)->Prop:=fun H a x=>AlR F H a (x.map tmOf)
@[reducible] noncomputable def RR (F:Fx):Hp->Addr->List (List (Nat × Nat))->Prop:=fun H a x=>RuR F H a (x.map fun y=>y.map tmOf)
noncomputable def spAR (M:Mo) (Ts:List Tb) (F:Fx):Sp:=fun vs H Q _=>∃x,OkA x/\vs=[.str (altTx x)]/\Makes M Ts (RA F) x H Q
theorem pr_map {α β γ:Type} {G:α->γ->Prop} (f:β->γ):∀ {l:List α} {m:List β},Paired (fun a b=>G a (f b)) l m->Paired G l (m.map f)
 | _,_,.nil=>.nil
 | _,_,.cons r t=>.cons r (pr_map f t)
structure RG3 (Γ:Gam) (M:Mo) (Ts:List Tb) (F:Fx):Prop where
 cm:Γ.cm=true
 mod:Γ.mod=M
 tr:Γ.has "term_rule" =true/\Γ.fn "term_rule" =spTR M Ts F
 al:Γ.has "all_of" =true/\Γ.fn "all_of" =spMk M Ts F.al "fits" "rules" "all_of.<locals>.fits"
structure RG4 (Γ:Gam) (M:Mo) (Ts:List Tb) (F:Fx):Prop where
 cm:Γ.cm=true
 mod:Γ.mod=M
 ca:Γ.cat "NoRow" =true
 ar:Γ.has "alternative_rule" =true/\Γ.fn "alternative_rule" =spAR M Ts F
 an:Γ.has "any_of" =true/\Γ.fn "any_of" =spMk M Ts F.an "fits" "rules" "any_of.<locals>.fits"
end Rl
namespace Rl
set_option genInjectivity false
open PySem PySem.Spec PyProof.Rows L2 Sw Wd Tx PySem.StrLaws
variable {M:Mo}
noncomputable def Refuse (M:Mo) (c:Addr) (H:Hp) (E:XK):Prop:=∀ (H':Hp) (d:Option Addr),ExtT M H H'->E (.ref c) d H'
noncomputable def spPR2 (M:Mo) (Ts:List Tb) (F:Fx) (c:Addr):Sp:=fun vs H Q E=>∃t:Str,vs=[.str t]/\t.length<=640/\TabsOk Ts H/\(∀ q,q < 101->t=plainTx q->Makes M Ts (PlR F) (plOf q) H Q)/\((∀ q,q < 101->t ≠ plainTx q)->Refuse M c H E)
theorem starts_iff (t y:Str):Txt.startswith t y=true ↔ ∃r,t.cps.toList=y.cps.toList++r:=by
 unfold Txt.startswith
 rw[subAt_eq,len_l,len_l]
 constructor
 ·intro h
  simp only[Bool.and_eq_true,decide_eq_true_eq,beq_iff_eq]at h
  refine⟨t.cps.toList.drop y.cps.toList.length,?_⟩
  have h2:=h.2
  simp only[List.drop_zero]at h2
  have:=List.take_append_drop y.cps.toList.length t.cps.toList
  rw[h2]at this
  exact this.symm
 ·rintro⟨r,e⟩
  rw[e]
  simp
theorem drop_slice {t y:Str} {r:List Nat} (h:t.cps.toList=y.cps.toList++r):(Txt.slice t (some (y.length:Int)) none).cps.toList=r:=by
 rw[slice_drop t y.length (by rw[len_l,len_l,h];simp),h,len_l]
 simp
structure RG5 (Γ:Gam) (M:Mo) (Ts:List Tb) (F:Fx) (c:Addr):Prop where
 cm:Γ.cm=true
 mod:Γ.mod=M
 cg:Γ.con "fits_by_groups" =some (.ref F.gr)
 ck:Γ.con "fits_by_marks" =some (.ref F.ma)
 cs:Γ.con "SIZES" =some (.str "sizes ")
 mg:Γ.con "MOST_GAP" =some (.int 98)
 ex:Γ.exc "NoRow" =some (c,[Str.ofString "row"])
 nw:Γ.has "number_within" =true/\Γ.fn "number_within" =spWithin M c
 sz:Γ.has "sizes_rule" =true/\Γ.fn "sizes_rule" =spMk M Ts F.sz "fits" "bound" "sizes_rule.<locals>.fits"
theorem ok_plain2 {Γ:Gam} {Ts:List Tb} {F:Fx} {c:Addr} (g:RG5 Γ M Ts F c) (vs:List V) (H:Hp) (Q:VK) (E:XK) (h:spPR2 M Ts F c vs H Q E):spOf Γ N_plain_rule 1 b_plain_rule vs H Q E:=by
 obtain⟨t,rfl,hl,hT,hy,hn⟩:=h
 refine⟨rfl,?_⟩
 obtain rfl:=g.mod
 unfold b_plain_rule
 refine seq ?_
 dsimp only[Sw.wS,Sw.wE,Sw.wT,Sw.wEs,Sw.wTs,Sw.wI,Sw.wP,Sw.vars,L2.start,Sw.r_get0,Sw.r_getS,Sw.r_set0,Sw.r_setS,Sw.r_map0,Sw.r_mapS,Sw.r_app0,Sw.r_appS,Sw.r_len0,Sw.r_lenS,Sw.r_rep0,Sw.r_repS,Sw.r_join,Sw.startC,Nat.reduceAdd,Nat.reduceSub]
 (first | with_reducible refine Eq.mpr (Sw.v_eqs ..) ?_ | rw[Sw.v_eqs])
 refine⟨_,rfl,?_⟩
 by_cases e0:t=Str.ofString "groups"
 ·(first | with_reducible refine Eq.mpr (if_pos (by simpa using e0)) ?_ | rw[if_pos (by simpa using e0)])
  dsimp only[Sw.wSs,Sw.wS,Sw.wE,Sw.wT,Sw.wEs,Sw.wTs,Sw.wI,Sw.wP,Sw.vars,L2.start,Sw.r_get0,Sw.r_getS,Sw.r_set0,Sw.r_setS,Sw.r_map0,Sw.r_mapS,Sw.r_app0,Sw.r_appS,Sw.r_len0,Sw.r_lenS,Sw.r_rep0,Sw.r_repS,Sw.r_join,Sw.startC,Nat.reduceAdd,Nat.reduceSub]
  rw[g.cg]
  exact(hy 0 (by omega) e0).2 H F.gr ExtT.refl hT rfl
 (first | with_reducible refine Eq.mpr (if_neg (by simpa using e0)) ?_ | rw[if_neg (by simpa using e0)])
 dsimp only[Sw.wSs,Sw.wS,Sw.wE,Sw.wT,Sw.wEs,Sw.wTs,Sw.wI,Sw.wP,Sw.vars,L2.start,Sw.r_get0,Sw.r_getS,Sw.r_set0,Sw.r_setS,Sw.r_map0,Sw.r_mapS,Sw.r_app0,Sw.r_appS,Sw.r_len0,Sw.r_lenS,Sw.r_rep0,Sw.r_repS,Sw.r_join,Sw.startC,Nat.reduceAdd,Nat.reduceSub]
 (first | with_reducible refine Eq.mpr (Sw.v_eqs ..) ?_ | rw[Sw.v_eqs])
 refine⟨_,rfl,?_⟩
 by_cases e1:t=Str.ofString "marks"
 ·((first | with_reducible refine Eq.mpr (if_pos (by simpa using e1)) ?_ | rw[if_pos (by simpa using e1)]);rw[g.ck])
  exact(hy 1 (by omega) e1).2 H F.ma ExtT.refl hT rfl
 ((first | with_reducible refine Eq.mpr (if_neg (by simpa using e1)) ?_ | rw[if_neg (by simpa using e1)]);rw[g.cs])
 refine⟨rfl,?_⟩
 dsimp only
 ((first | with_reducible refine Eq.mpr (Sw.m_sw ..) ?_ | rw[Sw.m_sw]);(first | with_reducible refine Eq.mpr (Sw.t_bl ..) ?_ | rw[Sw.t_bl]))
 by_cases e2:Txt.startswith t (Str.ofString "sizes ")=true
 ·(rw [e2]; (first | with_reducible refine Eq.mpr (if_pos rfl) ?_ | rw [if_pos rfl]))
  obtain⟨r,er⟩:=(starts_iff _ _).mp e2
  have es:=drop_slice er
  generalize hS:Txt.slice t (some ((Str.ofString "sizes ").length:Int)) none=S at es
  refine⟨⟨g.cm,g.sz.1⟩,⟨g.cm,g.nw.1⟩,⟨g.cm,?_⟩⟩
  (first | with_reducible refine Eq.mpr (Sw.b_lens ..) ?_ | rw[Sw.b_lens])
  refine⟨by decide +kernel,?_⟩
  dsimp only
  (first | with_reducible refine Eq.mpr (Sw.s_str ..) ?_ | rw[Sw.s_str])
  refine⟨Nat.le_trans hl (by decide),?_⟩
  rw[hS,g.mg,g.nw.2]
  dsimp only
  refine⟨_,_,_,rfl,?_,?_⟩
  ·rw[len_l,es]
   rw[len_l,er,List.length_append]at hl
   omega
  ·cases hnum:numIn S 0 98 with
   | none=>
    show Refuses c Γ.mod H _
    intro H1 d r x1 hd
    refine hn (fun q hq z=>?_) _ _ (ExtT.of x1)
    rcases plain_cases q with rfl | rfl | ⟨n,rfl⟩
    ·exact e0 z
    ·exact e1 z
    ·have es2:S=Str.ofString (toString (n:Int)):=by
      apply ext_l
      have:=plain_sz n
      rw[<-z,er,sizes_codes]at this
      rw[es]
      exact List.append_cancel_left this
     rw[es2,numIn_back (n:=(n:Int)) (a:=0) (b:=98) (by omega) (by omega) (by omega) (by omega)]at hnum
     cases hnum
   | some n=>
    obtain⟨n0,n1,n2,n3⟩:=numIn_canon hnum
    intro H1 x1
    rw[g.sz.2]
    refine⟨_,rfl,fun t ht=>(hT t ht).ext x1,fun H2 f c x2 t2 hc mc hf mf clo=>?_⟩
    obtain⟨k,rfl⟩:∃k:Nat,n=(k:Int):=⟨n.toNat,by omega⟩
    refine(hy (k + 2) (by omega) ?_).2 H2 f ((ExtT.of x1).trans x2) t2 ⟨c,?_⟩
    ·apply ext_l
     rw[er,plain_sz,sizes_codes,<-es,n1]
    ·have e:((k + 2 - 2:Nat):Int)=(k:Int):=by simp
     rw[e]
     exact clo_noL (Sub.of ((ExtT.of x1).trans x2)) clo
 ·(first | with_reducible refine Eq.mpr (if_neg e2) ?_ | rw[if_neg e2])
  refine⟨g.cm,?_⟩
  rw[g.ex]
  dsimp only
  intro d hd md
  refine hn (fun q hq z=>?_) _ _ (ExtT.of (Ext.upd hd md))
  rcases plain_cases q with rfl | rfl | ⟨n,rfl⟩
  ·exact e0 z
  ·exact e1 z
  ·exact e2 (by rw[z];exact starts_sz n)
noncomputable def spTR2 (M:Mo) (Ts:List Tb) (F:Fx) (c:Addr):Sp:=fun vs H Q E=>∃t:Str,vs=[.str t]/\t.length<=640/\TabsOk Ts H/\(∀ x,okT x->t=txP x->Makes M Ts (RT F) x H Q)/\((∀ x,okT x->t ≠ txP x)->Refuse M c H E)
structure RG6 (Γ:Gam) (M:Mo) (Ts:List Tb) (F:Fx) (c:Addr):Prop where
 cm:Γ.cm=true
 mod:Γ.mod=M
 no:Γ.con "NO" =some (.str "no ")
 mn:Γ.con "MOST_NOES" =some (.int 5)
 pr:Γ.has "plain_rule" =true/\Γ.fn "plain_rule" =spPR2 M Ts F c
 op:Γ.has "opposite" =true/\Γ.fn "opposite" =spMk M Ts F.op "fits" "rule" "opposite.<locals>.fits"
theorem noC_app:∀ (a b:Nat),noC (a + b)=noC a++noC b
 | 0,b=>by rw[Nat.zero_add];rfl
 | a + 1,b=>by
  rw[show a + 1 + b=(a + b) + 1 by omega]
  show 110::111::32::noC (a + b)=110::111::32::(noC a++noC b)
  rw[noC_app a b]
theorem noC_snoc (j:Nat):noC (j + 1)=noC j++[110,111,32]:=noC_app j 1
theorem cut_one {t r:Str} {j k q:Nat} (h1:t.cps.toList=noC j++r.cps.toList) (hk:k < 6) (hq:q < 101) (h2:t=tx k q) (hj:j<=5) (hr:j=5\/Txt.startswith r (Str.ofString "no ")=false):j=k/\r=plainTx q:=by
 rw[h2,tx_cps]at h1
 have p:=(p_tok hq).2.2
 rcases Nat.lt_trichotomy j k with z | z | z
 ·exfalso
  obtain⟨i,rfl⟩:∃i,k=j + (i + 1):=⟨k - j - 1,by omega⟩
  rw[noC_app,List.append_assoc]at h1
  have h3:=List.append_cancel_left h1
  rcases hr with e | e
  ·omega
  ·have:Txt.startswith r (Str.ofString "no ")=true:=(starts_iff _ _).mpr ⟨noC i++(plainTx q).cps.toList,by rw[<-h3,no_codes];rfl⟩
   rw[this]at e;cases e
 ·subst z
  exact⟨rfl,ext_l (List.append_cancel_left h1).symm⟩
 ·exfalso
  obtain⟨i,rfl⟩:∃i,j=k + (i + 1):=⟨j - k - 1,by omega⟩
  rw[noC_app,List.append_assoc]at h1
  have h3:=List.append_cancel_left h1
  rw[h3]at p
  exact p rfl
theorem ok_term2 {Γ:Gam} {Ts:List Tb} {F:Fx} {c:Addr} (g:RG6 Γ M Ts F c) (vs:List V) (H:Hp) (Q:VK) (E:XK) (h:spTR2 M Ts F c vs H Q E):spOf Γ N_term_rule 1 b_term_rule vs H Q E:=by
 obtain⟨t,rfl,hl,hT,hy,hn⟩:=h
 refine⟨rfl,?_⟩
 obtain rfl:=g.mod
 unfold b_term_rule
 refine seq ?_
 dsimp only[Sw.wS,Sw.wE,Sw.wT,Sw.wEs,Sw.wTs,Sw.wI,Sw.wP,Sw.vars,L2.start,Sw.r_get0,Sw.r_getS,Sw.r_set0,Sw.r_setS,Sw.r_map0,Sw.r_mapS,Sw.r_app0,Sw.r_appS,Sw.r_len0,Sw.r_lenS,Sw.r_rep0,Sw.r_repS,Sw.r_join,Sw.startC,Nat.reduceAdd,Nat.reduceSub]
 refine seq ?_
 dsimp only[Sw.wS,Sw.wE,Sw.wT,Sw.wEs,Sw.wTs,Sw.wI,Sw.wP,Sw.vars,L2.start,Sw.r_get0,Sw.r_getS,Sw.r_set0,Sw.r_setS,Sw.r_map0,Sw.r_mapS,Sw.r_app0,Sw.r_appS,Sw.r_len0,Sw.r_lenS,Sw.r_rep0,Sw.r_repS,Sw.r_join,Sw.startC,Nat.reduceAdd,Nat.reduceSub]
 refine seq ?_
 show wS (.whl _ _) Γ _ _ _ _
 unfold wS
 refine⟨fun m σ H'=>∃ (j:Nat) (r:Str),j<=5/\m=5 - j/\t.cps.toList=noC j++r.cps.toList/\σ=[some (.str t),some (.int j),some (.str r),none]/\H'=H,⟨5,0,t,Nat.zero_le _,rfl,rfl,rfl,rfl⟩,?_⟩
 rintro m σ H' ⟨j,r,hj,rfl,hr,rfl,rfl⟩
 have hrl:r.length<=640:=by
  rw[len_l,hr,List.length_append]at hl
  rw[len_l]
  omega
 dsimp only[Sw.wS,Sw.wE,Sw.wT,Sw.wEs,Sw.wTs,Sw.wI,Sw.wP,Sw.vars,L2.start,Sw.r_get0,Sw.r_getS,Sw.r_set0,Sw.r_setS,Sw.r_map0,Sw.r_mapS,Sw.r_app0,Sw.r_appS,Sw.r_len0,Sw.r_lenS,Sw.r_rep0,Sw.r_repS,Sw.r_join,Sw.startC,Nat.reduceAdd,Nat.reduceSub]
 rw[g.mn]
 dsimp only
 (first | with_reducible refine Eq.mpr (Sw.v_lt ..) ?_ | rw[Sw.v_lt])
 refine⟨_,rfl,?_⟩
 have fin:(j=5\/Txt.startswith r (Str.ofString "no ")=false)->wSs (.cons (.asg 3 (.call "plain_rule" (.cons (.var 2) .nil))) (.cons (.ret (.ite (.cmp .Eq (.bin .Mod (.var 1) (.con (.int 2))) (.con (.int 0))) (.var 3) (.call "opposite" (.cons (.var 3) .nil)))) .nil)) Γ (fun C d _ H'=>E C d H') {nx:=fun _ H'=>Q .non H',rt:=Q}
   [some (.str t),some (.int j),some (.str r),none] H':=by
  intro hstop
  refine seq ?_
  dsimp only[Sw.wS,Sw.wE,Sw.wT,Sw.wEs,Sw.wTs,Sw.wI,Sw.wP,Sw.vars,L2.start,Sw.r_get0,Sw.r_getS,Sw.r_set0,Sw.r_setS,Sw.r_map0,Sw.r_mapS,Sw.r_app0,Sw.r_appS,Sw.r_len0,Sw.r_lenS,Sw.r_rep0,Sw.r_repS,Sw.r_join,Sw.startC,Nat.reduceAdd,Nat.reduceSub]
  rw[g.pr.2]
  refine⟨⟨g.cm,g.pr.1⟩,r,rfl,hrl,hT,fun q hq er=>⟨hT,fun H1 a x1 t1 r1=>?_⟩,fun no=>hn fun x ox ex=>?_⟩
  ·have et:t=txP (j,q):=by
    apply ext_l
    show _=(tx j q).cps.toList
    rw[tx_cps,hr,er]
   have mk:=(hy (j,q) ⟨by show j < 6;omega,hq⟩ et).2
   dsimp only[Sw.wSs,Sw.wS,Sw.wE,Sw.wT,Sw.wEs,Sw.wTs,Sw.wI,Sw.wP,Sw.vars,L2.start,Sw.r_get0,Sw.r_getS,Sw.r_set0,Sw.r_setS,Sw.r_map0,Sw.r_mapS,Sw.r_app0,Sw.r_appS,Sw.r_len0,Sw.r_lenS,Sw.r_rep0,Sw.r_repS,Sw.r_join,Sw.startC,Nat.reduceAdd,Nat.reduceSub]
   (first | with_reducible refine Eq.mpr (Sw.v_mod ..) ?_ | rw[Sw.v_mod])
   refine⟨by decide,?_⟩
   (first | with_reducible refine Eq.mpr (Sw.v_eqi ..) ?_ | rw[Sw.v_eqi])
   refine⟨_,rfl,?_⟩
   by_cases e:(j:Int) % 2=0
   ·(first | with_reducible refine Eq.mpr (if_pos (by simpa using e)) ?_ | rw[if_pos (by simpa using e)])
    exact mk H1 a x1 t1 (.inl ⟨by show j % 2=0;omega,r1⟩)
   ·((first | with_reducible refine Eq.mpr (if_neg (by simpa using e)) ?_ | rw[if_neg (by simpa using e)]);rw[g.op.2])
    refine⟨⟨g.cm,g.op.1⟩,_,rfl,t1,fun H2 f c x2 t2 hc mc hf mf clo=>?_⟩
    refine mk H2 f (x1.trans x2) t2 (.inr ⟨by show j % 2 ≠ 0;omega,c,a,clo_noL (Sub.of (x1.trans x2)) clo,?_⟩)
    refine r1.mono fun b o e' n=>?_
    obtain⟨n1,n2⟩:=noL_of e'
    rw[era_ne (ne_of_none n2 hc)]
    exact noL_mk n1 (x2.same _ _ n2 n)
  ·obtain⟨_,e2⟩:=cut_one hr ox.1 ox.2 ex hj hstop
   exact no x.2 ox.2 e2
 by_cases h5:(j:Int) < 5
 ·((first | with_reducible refine Eq.mpr (if_pos (by simpa using h5)) ?_ | rw [if_pos (by simpa using h5)]); rw [g.no])
  refine⟨rfl,?_⟩
  dsimp only
  ((first | with_reducible refine Eq.mpr (Sw.m_sw ..) ?_ | rw[Sw.m_sw]);(first | with_reducible refine Eq.mpr (Sw.t_bl ..) ?_ | rw[Sw.t_bl]))
  by_cases hs:Txt.startswith r (Str.ofString "no ")=true
  ·(rw[hs];(first | with_reducible refine Eq.mpr (if_pos rfl) ?_ | rw[if_pos rfl]))
   obtain⟨u,eu⟩:=(starts_iff _ _).mp hs
   refine⟨fun σ' H2=>∃r':Str,r'.cps.toList=u/\σ'=[some (.str t),some (.int ((j + 1:Nat):Int)),some (.str r'),none]/\H2=H',fun σ' H2 ⟨r',h1,h2,h3⟩=>⟨5 - (j + 1),by omega,j + 1,r',by omega,rfl,?_,h2,h3⟩,?_⟩
   ·rw[hr,eu,h1,noC_snoc,no_codes,List.append_assoc]
   refine seq ?_
   dsimp only[Sw.wS,Sw.wE,Sw.wT,Sw.wEs,Sw.wTs,Sw.wI,Sw.wP,Sw.vars,L2.start,Sw.r_get0,Sw.r_getS,Sw.r_set0,Sw.r_setS,Sw.r_map0,Sw.r_mapS,Sw.r_app0,Sw.r_appS,Sw.r_len0,Sw.r_lenS,Sw.r_rep0,Sw.r_repS,Sw.r_join,Sw.startC,Nat.reduceAdd,Nat.reduceSub]
   (first | with_reducible refine Eq.mpr (Sw.v_add ..) ?_ | rw[Sw.v_add])
   refine seq ?_
   dsimp only[Sw.wS,Sw.wE,Sw.wT,Sw.wEs,Sw.wTs,Sw.wI,Sw.wP,Sw.vars,L2.start,Sw.r_get0,Sw.r_getS,Sw.r_set0,Sw.r_setS,Sw.r_map0,Sw.r_mapS,Sw.r_app0,Sw.r_appS,Sw.r_len0,Sw.r_lenS,Sw.r_rep0,Sw.r_repS,Sw.r_join,Sw.startC,Nat.reduceAdd,Nat.reduceSub]
   rw[g.no]
   refine⟨g.cm,?_⟩
   dsimp only
   (first | with_reducible refine Eq.mpr (Sw.b_lens ..) ?_ | rw[Sw.b_lens])
   refine⟨by decide +kernel,?_⟩
   dsimp only
   (first | with_reducible refine Eq.mpr (Sw.s_str ..) ?_ | rw[Sw.s_str])
   refine⟨Nat.le_trans hrl (by decide),?_⟩
   exact seq0 ⟨_,drop_slice eu,rfl,rfl⟩
  ·(first | with_reducible refine Eq.mpr (if_neg hs) ?_ | rw[if_neg hs])
   exact fin (.inr (by simpa using hs))
 ·((first | with_reducible refine Eq.mpr (if_neg (by simpa using h5)) ?_ | rw[if_neg (by simpa using h5)]);(first | with_reducible refine Eq.mpr (if_neg (by decide)) ?_ | rw[if_neg (by decide)]))
  exact fin (.inl (by omega))
end Rl
namespace Rl
set_option genInjectivity false
open PySem PySem.Spec PyProof.Rows L2 Sw Wd Tx PySem.StrLaws
variable {M:Mo}
theorem plain_inj {q q':Nat} (h:q < 101) (h':q' < 101) (e:plainTx q=plainTx q'):q=q':=by
 rcases plain_cases q with rfl | rfl | ⟨n,rfl⟩<;>rcases plain_cases q' with rfl | rfl | ⟨m,rfl⟩
 ·rfl
 ·exact absurd e (by decide +kernel)
 ·exact absurd e.symm (sz_ne_g m)
 ·exact absurd e (by decide +kernel)
 ·rfl
 ·exact absurd e.symm (sz_ne_m m)
 ·exact absurd e (sz_ne_g n)
 ·exact absurd e (sz_ne_m n)
 ·have e1:=congrArg (fun x:Str=>x.cps.toList) e
  simp only[plain_sz]at e1
  have e2:=ext_l (List.append_cancel_left e1)
  have a:=numIn_back (n:=(n:Int)) (a:=0) (b:=98) (by omega) (by omega) (by omega) (by omega)
  rw[e2,numIn_back (n:=(m:Int)) (a:=0) (b:=98) (by omega) (by omega) (by omega) (by omega)]at a
  have:=Option.some.inj a
  omega
theorem tx_inj {x y:Nat × Nat} (hx:okT x) (hy:okT y) (e:txP x=txP y):x=y:=by
 have:=cut_one (t:=txP x) (r:=plainTx x.2) (j:=x.1) (k:=y.1) (q:=y.2) (tx_cps _ _) hy.1 hy.2 e (by have:=hx.1;omega) (.inr (by have:=no_start hx.2;rwa[tx_zero]at this))
 exact Prod.ext this.1 (plain_inj hx.2 hy.2 this.2)
theorem map_on {α β:Type} {f:α->β} {P:α->Prop} (inj:∀ {x y},P x->P y->f x=f y->x=y):∀ {l m:List α},(∀ x ∈ l,P x)->(∀ x ∈ m,P x)->l.map f=m.map f->l=m
 | [],[],_,_,_=>rfl
 | [],_::_,_,_,e=>by simp at e
 | _::_,[],_,_,e=>by simp at e
 | a::l,b::m,h1,h2,e=>by
  simp only[List.map_cons,List.cons.injEq]at e
  rw[inj (h1 a (by simp)) (h2 b (by simp)) e.1,map_on inj (fun x hx=>h1 x (by simp[hx])) (fun x hx=>h2 x (by simp[hx])) e.2]
theorem split_ne (x y:Str):Txt.split x y ≠ []:=by
 unfold Txt.split
 split
 ·simp
 ·split
  ·simp
  ·rw[partsBetween_eq]
   cases Builtin.Str.occurrences x y 0 x.length (x.length + 1)<;>simp[partsFrom]
theorem split_cps (x y:Str):cps x=joinL (cps y) (Txt.split x y):=by
 have hj:=StrLaws.join_split x y
 rw[<-StrLaws.glued_eq_join]at hj
 rw[<-cps_join]
 exact congrArg cps hj.symm
theorem flat_len {g:List Nat} {p:Str}:∀ {r:List Str},p ∈ r->p.length<=((r.map fun p=>g++cps p).flatten).length
 | [],h=>by cases h
 | z::r,h=>by
  simp only[List.map_cons,List.flatten_cons,List.length_append]
  rcases List.mem_cons.mp h with rfl | h
  ·rw[len_cps];omega
  ·have:=flat_len (g:=g) h;omega
theorem part_len {g:List Nat} {p:Str}:∀ {ps:List Str},p ∈ ps->p.length<=(joinL g ps).length
 | [],h=>by cases h
 | q::r,h=>by
  unfold joinL
  rw[List.length_append]
  rcases List.mem_cons.mp h with rfl | h
  ·rw[len_cps];exact Nat.le_add_right _ _
  ·have:=flat_len (g:=g) h
   omega
theorem parts_many {g:List Nat}:∀ps:List Str,ps.length * g.length<=(joinL g ps).length + g.length
 | []=>by simp
 | q::r=>by
  have:∀r:List Str,r.length * g.length<=((r.map fun p=>g++cps p).flatten).length:=by
   intro r
   induction r with
   | nil=>simp
   | cons z r ih=>
    simp only[List.map_cons,List.flatten_cons,List.length_append,List.length_cons,Nat.succ_mul]
    omega
  have:=this r
  unfold joinL
  simp only[List.length_append,List.length_cons,Nat.succ_mul]
  omega
structure OkA2 (ts:List (Nat × Nat)):Prop where
 ne:ts ≠ []
 all:∀x ∈ ts,okT x
structure OkR2 (as:List (List (Nat × Nat))):Prop where
 ne:as ≠ []
 all:∀x ∈ as,OkA2 x
theorem alt_small2 {ts:List (Nat × Nat)} (h:OkA2 ts):∀c ∈ cps (altTx ts),c < 256:=fun c hc=>by
 unfold altTx at hc
 rw[cps_join,and_codes]at hc
 rcases mem_joinL hc with q | ⟨p,hp,q⟩
 ·simp at q
  omega
 ·obtain⟨x,hx,rfl⟩:=List.mem_map.mp hp
  exact(tx_facts (h.all x hx)).2.2.2.2.2.2 c q
theorem split_alt2 {ts:List (Nat × Nat)} (h:OkA2 ts):Txt.split (altTx ts) (Str.ofString " and ")=ts.map txP:=by
 refine split_join (by decide +kernel) ?_ (by simpa using h.ne) (fun p hp=>?_) ?_
 ·rw[kind1 (alt_small2 h)]
  decide +kernel
 ·obtain⟨x,hx,rfl⟩:=List.mem_map.mp hp
  exact free_of (c:=97) (tx_facts (h.all x hx)).1 ⟨_,and_codes⟩
 ·rw[joinN_L]
  exact cps_join _ _
theorem split_rule2 {as:List (List (Nat × Nat))} (h:OkR2 as):Txt.split (ruleTx as) (Str.ofString " or ")=as.map altTx:=by
 refine split_join (by decide +kernel) ?_ (by simpa using h.ne) (fun p hp=>?_) ?_
 ·rw[kind1 fun c hc=>?_]
  ·decide +kernel
  ·unfold ruleTx at hc
   rw[cps_join,or_codes]at hc
   rcases mem_joinL hc with q | ⟨p,hp,q⟩
   ·simp at q
    omega
   ·obtain⟨x,hx,rfl⟩:=List.mem_map.mp hp
    exact alt_small2 (h.all x hx) c q
 ·obtain⟨x,hx,rfl⟩:=List.mem_map.mp hp
  refine free_of (c:=111) ?_ ⟨_,or_codes⟩
  show bOk 111 (cps (altTx x))=true
  unfold altTx
  rw[cps_join,and_codes]
  exact(alt_bOk (h.all x hx).ne (h.all x hx).all).1
 ·rw[joinN_L]
  exact cps_join _ _
theorem alt_inj {a b:List (Nat × Nat)} (ha:OkA2 a) (hb:OkA2 b) (e:altTx a=altTx b):a=b:=by
 have h:=split_alt2 ha
 rw[e,split_alt2 hb]at h
 exact(map_on (f:=txP) (P:=okT) tx_inj hb.all ha.all h).symm
theorem rule_inj {a b:List (List (Nat × Nat))} (ha:OkR2 a) (hb:OkR2 b) (e:ruleTx a=ruleTx b):a=b:=by
 have h:=split_rule2 ha
 rw[e,split_rule2 hb]at h
 exact(map_on (f:=altTx) (P:=OkA2) alt_inj hb.all ha.all h).symm
noncomputable def spTwo {α:Type} (M:Mo) (Ts:List Tb) (R:Hp->Addr->α->Prop) (okx:α->Prop) (txt:α->Str) (c:Addr):Sp:=fun vs H Q E=>∃t:Str,vs=[.str t]/\t.length<=640/\TabsOk Ts H/\(∀ x,okx x->t=txt x->Makes M Ts R x H Q)/\((∀ x,okx x->t ≠ txt x)->Refuse M c H E)
theorem first_bad {α:Type} {okx:α->Prop} {txt:α->Str}:∀ (ps:List Str),(∀ xs:List α,(∀ x ∈ xs,okx x)->ps ≠ xs.map txt)->∃ (m:Nat) (p:Str),ps[m]?=some p/\(∀ x,okx x->p ≠ txt x)/\∀n:Nat,n < m->∃x,okx x/\ps[n]?=some (txt x)
 | [],h=>absurd rfl (h [] (by simp))
 | p::r,h=>by
  by_cases hp:∃x,okx x/\p=txt x
  ·obtain⟨x,ox,rfl⟩:=hp
   obtain⟨m,p,h1,h2,h3⟩:=first_bad r fun xs hx e=>h (x::xs) (fun y hy=>by
    rcases List.mem_cons.mp hy with rfl | hy
    ·exact ox
    ·exact hx y hy) (by rw[List.map_cons,e])
   refine⟨m + 1,p,by simpa using h1,h2,fun n hn=>?_⟩
   cases n with
   | zero=>exact⟨x,ox,rfl⟩
   | succ n=>
    obtain⟨y,oy,ey⟩:=h3 n (by omega)
    exact⟨y,oy,by simpa using ey⟩
  ·exact⟨0,p,rfl,fun x ox e=>hp ⟨x,ox,e⟩,fun n hn=>absurd hn (by omega)⟩
theorem made_or {α:Type} {R:Hp->Addr->α->Prop} (mono:∀ {H H':Hp} {a:Addr} {x:α},Sub H H'->R H a x->R H' a x) {Ts:List Tb} {okx:α->Prop} {txt:α->Str} {c:Addr} (inj:∀ {x y},okx x->okx y->txt x=txt y->x=y)
  {ps:List Str} (hlen:∀p ∈ ps,p.length<=640) (hn:ps.length<=400) {H Hs:Hp} {l D:Addr} (hl:Hs l=some (.lst (ps.map V.str))) (xt:ExtT M H Hs) (tabs:TabsOk Ts Hs) (hD:Hs D=none) (mD:M D=none) {te:TE} {EE:XK}
  (hte:∀v Hn Q,spTwo M Ts R okx txt c [v] Hn Q EE->te [some v] Hn Q) {k:Hp->Prop}
  (fin:∀xs:List α,(∀ x ∈ xs,okx x)->ps=xs.map txt->∀Hf rs,Hf D=some (.lst (rs.map V.ref))->ExtT M H Hf->TabsOk Ts Hf->Paired (fun r x=>R (era (noL H Hf) D) r x) rs xs->k Hf)
  (bad:(∀ xs:List α,(∀ x ∈ xs,okx x)->ps ≠ xs.map txt)->∀H' d,ExtT M Hs H'->EE (.ref c) d H'):
  compW te (fun _ H Q=>Q true H) [] D (fun H'=>rd M H' l=some (.lst (ps.map V.str))) (ps.map V.str) [] (upd Hs D (.lst [])) k:=by
 have stay:∀Hn,ExtT M Hs Hn->rd M Hn l=some (.lst (ps.map V.str)):=fun Hn xn=>by
  unfold rd
  rw[xn.same _ _ hl (fun ps z=>nomatch z)]
 by_cases hall:∃xs:List α,(∀ x ∈ xs,okx x)/\ps=xs.map txt
 ·obtain⟨xs,ox,rfl⟩:=hall
  refine made2 (M:=M) (R:=R) (Ts:=Ts) mono (xs:=xs) (by rw[List.length_map,List.length_map]) (fun n v x Hn Q hv ex xn mk=>?_) stay xt tabs hD mD (by rwa[List.length_map]at hn) (fin xs ox rfl)
  have ev:v=.str (txt x):=by
   rw[List.getElem?_map,List.getElem?_map,ex]at hv
   exact(Option.some.inj hv).symm
  subst ev
  have hx:=ox x (List.mem_of_getElem? ex)
  refine hte _ _ _ ⟨_,rfl,hlen _ (List.mem_map_of_mem (List.mem_of_getElem? ex)),mk.1,fun y oy e=>?_,fun no=>absurd rfl (no x hx)⟩
  rw[<-inj hx oy e]
  exact mk
 ·have hall:∀xs:List α,(∀ x ∈ xs,okx x)->ps ≠ xs.map txt:=fun xs h e=>hall ⟨xs,h,e⟩
  obtain⟨m,p,hm,hp,hgo⟩:=first_bad ps hall
  refine comp_inv (fun n acc Hn=>n<=m/\acc.length=n/\Hn D=some (.lst acc)/\ExtT M Hs (era Hn D)/\TabsOk Ts Hn) (fun n acc Hn q=>stay Hn (q.2.2.2.1.trans (ext_unera mD))) (fun n acc Hn q=>⟨q.2.2.1,q.2.1⟩) (by rw[List.length_map];exact Nat.le_trans hn (by decide)) ?_ ?_ ⟨Nat.zero_le _,rfl,upd_same,⟨fun a o e _=>?_,fun a m e=>?_,fun a h z=>?_⟩,fun t ht=>?_⟩
  ·intro n v acc Hn Q hv q hQ
   obtain⟨q1,q2,q3,q4,q5⟩:=q
   rw[List.getElem?_map]at hv
   by_cases hnm:n=m
   ·subst hnm
    rw[hm]at hv
    obtain rfl:=Option.some.inj hv
    exact hte _ _ _ ⟨p,rfl,hlen p (List.mem_of_getElem? hm),q5,fun x ox e=>absurd e (hp x ox),fun _ H' d x'=>bad hall H' d ((q4.trans (ext_unera mD)).trans x')⟩
   ·obtain⟨x,ox,ex⟩:=hgo n (by omega)
    rw[ex]at hv
    obtain rfl:=Option.some.inj hv
    refine hte _ _ _ ⟨txt x,rfl,hlen _ (List.mem_of_getElem? ex),q5,fun y oy e=>⟨q5,fun H' a x' t' r'=>hQ (.ref a) H' (x'.same _ _ q3 (fun ps z=>nomatch z)) ?_⟩,fun no=>absurd rfl (no x ox)⟩
    have hD':H' D=some (.lst acc):=x'.same _ _ q3 (fun ps z=>nomatch z)
    refine⟨by omega,by rw[List.length_append,q2];rfl,upd_same,⟨fun b o e n=>?_,fun b m e=>?_,fun b h z=>?_⟩,fun t ht=>(t' t ht).upd hD'⟩
    ·obtain⟨ne,e'⟩:=of_era (q4.same b o e n)
     rw[era_ne ne,upd_ne ne]
     exact x'.same b o e' n
    ·have ne:b ≠ D:=fun z=>m (by rw[z];exact mD)
     have:=q4.off b m e
     rw[era_ne ne]at this ⊢
     rw[upd_ne ne]
     exact x'.off b m this
    ·have:=q4.dom b h
     have ne:b ≠ D:=fun z=>this (by rw[z];exact era_same)
     rw[era_ne ne]at this z
     rw[upd_ne ne]at z
     exact x'.dom b this z
  ·intro acc Hn q
   have:=(List.getElem?_eq_some_iff.mp hm).1
   have q1:=q.1
   rw[List.length_map]at q1
   omega
  ·rw[era_ne (ne_of_none e hD),upd_ne (ne_of_none e hD)]
   exact e
  ·have ne:a ≠ D:=fun z=>m (by rw[z];exact mD)
   rw[era_ne ne,upd_ne ne]
   exact e
  ·have ne:a ≠ D:=fun z=>h (by rw[z];exact hD)
   rw[era_ne ne,upd_ne ne]at z
   exact h z
  ·rcases tabs t ht with q | ⟨c,q1,q2⟩
   ·exact .inl (by rw[upd_ne (ne_of_none q hD)];exact q)
   ·exact .inr ⟨c,by rw[upd_ne (ne_of_none q1 hD)];exact q1,by rw[upd_ne (ne_of_none q2 hD)];exact q2⟩
@[reducible] noncomputable def spAR2 (M:Mo) (Ts:List Tb) (F:Fx) (c:Addr):Sp:=spTwo M Ts (RA F) OkA2 altTx c
structure RG7 (Γ:Gam) (M:Mo) (Ts:List Tb) (F:Fx) (c:Addr):Prop where
 cm:Γ.cm=true
 mod:Γ.mod=M
 tr:Γ.has "term_rule" =true/\Γ.fn "term_rule" =spTR2 M Ts F c
 al:Γ.has "all_of" =true/\Γ.fn "all_of" =spMk M Ts F.al "fits" "rules" "all_of.<locals>.fits"
theorem ok_alt2 {Γ:Gam} {Ts:List Tb} {F:Fx} {c:Addr} (g:RG7 Γ M Ts F c) (vs:List V) (H:Hp) (Q:VK) (E:XK) (h:spAR2 M Ts F c vs H Q E):spOf Γ N_alternative_rule 1 b_alternative_rule vs H Q E:=by
 obtain⟨t,rfl,hlt,hT,hy,hno⟩:=h
 refine⟨rfl,?_⟩
 obtain rfl:=g.mod
 unfold b_alternative_rule
 dsimp only[Sw.wSs,Sw.wS,Sw.wE,Sw.wT,Sw.wEs,Sw.wTs,Sw.wI,Sw.wP,Sw.vars,L2.start,Sw.r_get0,Sw.r_getS,Sw.r_set0,Sw.r_setS,Sw.r_map0,Sw.r_mapS,Sw.r_app0,Sw.r_appS,Sw.r_len0,Sw.r_lenS,Sw.r_rep0,Sw.r_repS,Sw.r_join,Sw.startC,Nat.reduceAdd,Nat.reduceSub]
 refine⟨⟨g.cm,g.al.1⟩,g.cm,rfl,?_⟩
 (first | with_reducible refine Eq.mpr (Sw.m_split ..) ?_ | rw[Sw.m_split])
 refine⟨by decide +kernel,Nat.le_trans hlt (by decide),fun l hl ml=>?_⟩
 have hc:=split_cps t (Str.ofString " and ")
 have hne:=split_ne t (Str.ofString " and ")
 have hsp:∀xs,OkA2 xs->t=altTx xs->Txt.split t (Str.ofString " and ")=xs.map txP:=fun xs o e=>by rw[e];exact split_alt2 o
 have hback:∀xs:List (Nat × Nat),Txt.split t (Str.ofString " and ")=xs.map txP->t=altTx xs:=fun xs e=>by
  apply ext_l
  show cps t=cps (altTx xs)
  rw[hc,e]
  exact(cps_join _ _).symm
 generalize Txt.split t (Str.ofString " and ")=ps at hc hne hsp hback
 have x0:=Ext.upd (o:=.lst (ps.map V.str)) hl ml
 have hlc:(joinL (cps (Str.ofString " and ")) ps).length<=640:=by rw[<-hc,<-len_cps];exact hlt
 show iterV Γ.mod (.ref l) _ _
 unfold iterV
 dsimp only
 rw[rd_upd (by intro _ _ z;cases z)]
 dsimp only
 intro D hD mD
 refine made_or (R:=RT F) (txt:=txP) (okx:=okT) (Ts:=Ts) (c:=c) (fun s h=>h.mono s) tx_inj (fun p hp=>Nat.le_trans (part_len hp) hlc) (by
  have:=parts_many (g:=cps (Str.ofString " and ")) ps
  rw[show(cps (Str.ofString " and ")).length=5 from by rw[and_codes];rfl]at this
  omega) (H:=H) upd_same (ExtT.of x0) (fun t ht=>(hT t ht).ext x0) hD mD (EE:=fun C d H'=>E C d H') (fun v Hn Q q=>⟨⟨g.cm,g.tr.1⟩,by rw[g.tr.2];exact q⟩) (fun xs ox ep Hf rs hDf xf tf pf=>?_) (fun no H' d x'=>hno (fun xs o e=>no xs o.all (hsp xs o e)) H' d ((ExtT.of x0).trans x'))
 have hx:OkA2 xs:=⟨fun z=>hne (by rw[ep,z];rfl),ox⟩
 rw[g.al.2]
 refine⟨_,rfl,tf,fun H4 f c x4 t4 hc mc hf mf clo=>?_⟩
 have hDH:H D=none:=none_of (ExtT.of x0) hD
 obtain⟨c1,c2,c3⟩:=closed (R:=RT F) (fun s h=>h.mono s) hDH hDf xf x4 pf hc clo
 refine(hy xs hx (hback xs ep)).2 H4 f (xf.trans x4) t4 ⟨c,D,rs,c1,c2,?_,pr_map tmOf c3⟩
 have:=parts_many (g:=cps (Str.ofString " and ")) ps
 rw[show(cps (Str.ofString " and ")).length=5 from by rw[and_codes];rfl,ep,List.length_map]at this
 rw[ep]at hlc
 rw[List.length_map]
 omega
noncomputable def RefuseAs (M:Mo) (c:Addr) (t:Str) (H:Hp) (E:XK):Prop:=∀ (H':Hp) (d:Addr),ExtT M H H'->H' d=some (.xd [(Str.ofString "row",.str t)])->E (rawInt c) (some d) H'
noncomputable def spRO2 (M:Mo) (Ts:List Tb) (F:Fx) (c:Addr):Sp:=fun vs H Q E=>∃t:Str,vs=[.str t]/\t.length<=640/\TabsOk Ts H/\(∀ x,OkR2 x->t=ruleTx x->Makes M Ts (RR F) x H Q)/\((∀ x,OkR2 x->t ≠ ruleTx x)->RefuseAs M c t H E)
structure RG8 (Γ:Gam) (M:Mo) (Ts:List Tb) (F:Fx) (c:Addr):Prop where
 cm:Γ.cm=true
 mod:Γ.mod=M
 ca:Γ.cat "NoRow" =true
 su:Γ.sub c "NoRow" =some true
 ex:Γ.exc "NoRow" =some (c,[Str.ofString "row"])
 ar:Γ.has "alternative_rule" =true/\Γ.fn "alternative_rule" =spAR2 M Ts F c
 an:Γ.has "any_of" =true/\Γ.fn "any_of" =spMk M Ts F.an "fits" "rules" "any_of.<locals>.fits"
theorem ok_rule2 {Γ:Gam} {Ts:List Tb} {F:Fx} {c:Addr} (g:RG8 Γ M Ts F c) (vs:List V) (H:Hp) (Q:VK) (E:XK) (h:spRO2 M Ts F c vs H Q E):spOf Γ N_rule_of 1 b_rule_of vs H Q E:=by
 obtain⟨t,rfl,hlt,hT,hy,hno⟩:=h
 refine⟨rfl,?_⟩
 obtain rfl:=g.mod
 unfold b_rule_of
 refine seq ?_
 dsimp only[Sw.wS,Sw.wE,Sw.wT,Sw.wEs,Sw.wTs,Sw.wI,Sw.wP,Sw.vars,L2.start,Sw.r_get0,Sw.r_getS,Sw.r_set0,Sw.r_setS,Sw.r_map0,Sw.r_mapS,Sw.r_app0,Sw.r_appS,Sw.r_len0,Sw.r_lenS,Sw.r_rep0,Sw.r_repS,Sw.r_join,Sw.startC,Nat.reduceAdd,Nat.reduceSub]
 refine⟨rfl,?_⟩
 (first | with_reducible refine Eq.mpr (Sw.m_split ..) ?_ | rw[Sw.m_split])
 refine⟨by decide +kernel,Nat.le_trans hlt (by decide),fun l hl ml=>?_⟩
 have hc:=split_cps t (Str.ofString " or ")
 have hne:=split_ne t (Str.ofString " or ")
 have hsp:∀xs,OkR2 xs->t=ruleTx xs->Txt.split t (Str.ofString " or ")=xs.map altTx:=fun xs o e=>by rw[e];exact split_rule2 o
 have hback:∀xs:List (List (Nat × Nat)),Txt.split t (Str.ofString " or ")=xs.map altTx->t=ruleTx xs:=fun xs e=>by
  apply ext_l
  show cps t=cps (ruleTx xs)
  rw[hc,e]
  exact(cps_join _ _).symm
 generalize Txt.split t (Str.ofString " or ")=ps at hc hne hsp hback
 have x0:=Ext.upd (o:=.lst (ps.map V.str)) hl ml
 have hlc:(joinL (cps (Str.ofString " or ")) ps).length<=640:=by rw[<-hc,<-len_cps];exact hlt
 have hmany:=parts_many (g:=cps (Str.ofString " or ")) ps
 rw[show(cps (Str.ofString " or ")).length=4 from by rw[or_codes];rfl]at hmany
 refine seq ?_
 show wS (.tryx _ _ _ _) Γ _ _ _ _
 unfold wS
 refine⟨g.cm,g.ca,?_⟩
 dsimp only[Sw.wSs,Sw.wS,Sw.wE,Sw.wT,Sw.wEs,Sw.wTs,Sw.wI,Sw.wP,Sw.vars,L2.start,Sw.r_get0,Sw.r_getS,Sw.r_set0,Sw.r_setS,Sw.r_map0,Sw.r_mapS,Sw.r_app0,Sw.r_appS,Sw.r_len0,Sw.r_lenS,Sw.r_rep0,Sw.r_repS,Sw.r_join,Sw.startC,Nat.reduceAdd,Nat.reduceSub]
 refine⟨⟨g.cm,g.an.1⟩,g.cm,?_⟩
 show iterV Γ.mod (.ref l) _ _
 unfold iterV
 dsimp only
 rw[rd_upd (by intro _ _ z;cases z)]
 dsimp only
 intro D hD mD
 refine made_or (R:=RA F) (txt:=altTx) (okx:=OkA2) (Ts:=Ts) (c:=c) (fun s h=>h.mono s) alt_inj (fun p hp=>Nat.le_trans (part_len hp) hlc) (by omega) (H:=H) upd_same (ExtT.of x0) (fun t ht=>(hT t ht).ext x0) hD mD
  (fun v Hn Q q=>⟨⟨g.cm,g.ar.1⟩,by rw[g.ar.2];exact q⟩) (fun xs ox ep Hf rs hDf xf tf pf=>?_) (fun no H' d x'=>?_)
 ·have hx:OkR2 xs:=⟨fun z=>hne (by rw[ep,z];rfl),ox⟩
  rw[g.an.2]
  refine⟨_,rfl,tf,fun H4 f c x4 t4 hc mc hf mf clo=>?_⟩
  have hDH:H D=none:=none_of (ExtT.of x0) hD
  obtain⟨c1,c2,c3⟩:=closed (R:=RA F) (fun s h=>h.mono s) hDH hDf xf x4 pf hc clo
  refine(hy xs hx (hback xs ep)).2 H4 f (xf.trans x4) t4 ⟨c,D,rs,c1,c2,?_,pr_map (G:=fun r ts=>AlR F (era (noL H H4) c) r ts) (fun y:List (Nat × Nat)=>y.map tmOf) c3⟩
  rw[ep,List.length_map]at hmany
  rw[ep]at hlc
  rw[List.length_map]
  omega
 ·have hx:∀x,OkR2 x->t ≠ ruleTx x:=fun xs o e=>no xs o.all (hsp xs o e)
  unfold handW
  dsimp only
  (first | with_reducible refine Eq.mpr (if_pos (by rw[g.su];rfl)) ?_ | rw[if_pos (by rw[g.su];rfl)])
  dsimp only[Sw.wSs,Sw.wS,Sw.wE,Sw.wT,Sw.wEs,Sw.wTs,Sw.wI,Sw.wP,Sw.vars,L2.start,Sw.r_get0,Sw.r_getS,Sw.r_set0,Sw.r_setS,Sw.r_map0,Sw.r_mapS,Sw.r_app0,Sw.r_appS,Sw.r_len0,Sw.r_lenS,Sw.r_rep0,Sw.r_repS,Sw.r_join,Sw.startC,Nat.reduceAdd,Nat.reduceSub]
  refine⟨rfl,?_⟩
  show(match Γ.exc (Str.ofString "NoRow")with | some (c,[f])=>_ | _=>False)
  rw[g.ex]
  intro d hd md
  exact hno hx _ d (((ExtT.of x0).trans x').trans (ExtT.of (Ext.upd hd md))) upd_same
end Rl
namespace Sw
set_option genInjectivity false
open PySem PySem.Spec PyProof.Rows L2
theorem comp_filt {te:TE} {tt:TT} {fvs:L2.St} {D:Addr} {stay:Hp->Prop} {H0:Hp} {k:Hp->Prop} (f:V->V) (p:V->Bool):∀ (xs acc:List V),(∀ v ∈ xs,∀H Q,Q (p v) H->tt (some v::fvs) H Q)->(∀ v ∈ xs,∀H Q,Q (f v) H->te (some v::fvs) H Q)->
  (∀ l,stay (upd H0 D (.lst l)))->acc.length + xs.length<=sizeLine->k (upd H0 D (.lst (acc++(xs.filter p).map f)))->compW te tt fvs D stay xs acc (upd H0 D (.lst acc)) k:=by
 intro xs
 induction xs with
 | nil=>
  intro acc h0 h1 h2 h3 h4
  exact⟨h2 _,upd_same,by simpa using h4⟩
 | cons v r ih=>
  intro acc h0 h1 h2 h3 h4
  refine⟨h2 _,h0 v List.mem_cons_self _ _ ?_⟩
  cases q:p v with
  | true=>
   (first | with_reducible refine Eq.mpr (if_pos rfl) ?_ | rw[if_pos rfl])
   refine h1 v List.mem_cons_self _ _ ⟨upd_same,by rw[List.length_cons]at h3;omega,?_⟩
   rw[upd_upd]
   refine ih (acc++[f v]) (fun v hv=>h0 v (List.mem_cons_of_mem _ hv)) (fun v hv=>h1 v (List.mem_cons_of_mem _ hv)) h2 (by rw[List.length_append];simp at h3 ⊢;omega) ?_
   rw[List.filter_cons_of_pos q]at h4
   simpa using h4
  | false=>
   (first | with_reducible refine Eq.mpr (if_neg (by decide)) ?_ | rw[if_neg (by decide)])
   refine ih acc (fun v hv=>h0 v (List.mem_cons_of_mem _ hv)) (fun v hv=>h1 v (List.mem_cons_of_mem _ hv)) h2 (by simp at h3 ⊢;omega) ?_
   rw[List.filter_cons_of_neg (by rw[q];decide)]at h4
   exact h4
end Sw
namespace Lw
set_option genInjectivity false
open PySem PySem.Spec PyProof.Rows L2 Sw Wd Tx Rl
@[reducible] noncomputable def N__law_cell:List Str:=["_law_script","_law_k"]
noncomputable def b__law_cell:Sxs:=(.cons (.iff (.cmp .Lt (.var 1) (.blt .len (.cons (.var 0) .nil))) (.cons (.ret (.idx (.var 0) (.var 1)))
 .nil) .nil)
 (.cons (.ret (.con (.int 0)))
 .nil))
@[reducible] noncomputable def N__law_mix:List Str:=["_law_cell_here","_law_k","_law_number"]
noncomputable def b__law_mix:Sxs:=(.cons (.asg 2 (.bin .Mod (.bin .Add (.bin .Add (.bin .Mod (.var 0) (.con (.int 2147483629))) (.bin .Mult (.con (.int 7919)) (.var 1))) (.con (.int 12345))) (.con (.int 2147483629))))
 (.cons (.asg 2 (.bin .Mod (.bin .Add (.bin .Mult (.var 2) (.var 2)) (.bin .Mult (.con (.int 104729)) (.var 1))) (.con (.int 2147483629))))
 (.cons (.ret (.bin .Mod (.bin .Mult (.bin .Add (.var 2) (.var 1)) (.bin .Add (.var 2) (.var 1))) (.con (.int 2147483587))))
 .nil)))
@[reducible] noncomputable def N__law_marks:List Str:=["_law_number","_law_letters","_law_way"]
noncomputable def b__law_marks:Sxs:=(.cons (.asg 1 (.con (.str "abcdefghijklmnopqrstuvwxyz")))
 (.cons (.asg 2 (.bin .Mod (.var 0) (.con (.int 3))))
 (.cons (.iff (.cmp .Eq (.var 2) (.con (.int 0))) (.cons (.ret (.con (.str "")))
 .nil) .nil)
 (.cons (.iff (.cmp .Eq (.var 2) (.con (.int 1))) (.cons (.ret (.idx (.var 1) (.bin .Mod (.bin .FloorDiv (.var 0) (.con (.int 3))) (.con (.int 26)))))
 .nil) .nil)
 (.cons (.ret (.mth .join (.con (.str "")) (.cons (.comp "_law_k" [("_law_letters",1),("_law_number",0)] (.rng1 (.con (.int 26))) (.idx (.var 1) (.var 0)) (.cons (.cmp .Eq (.bin .Mod (.bin .FloorDiv (.bin .FloorDiv (.var 2) (.con (.int 3))) (.bin .Add (.var 0) (.con (.int 1)))) (.con (.int 3))) (.con (.int 0))) .nil)) .nil)))
 .nil)))))
@[reducible] noncomputable def N__law_side:List Str:=["_law_cell_here","_law_k","_law_number"]
noncomputable def b__law_side:Sxs:=(.cons (.asg 2 (.call "_law_mix" (.cons (.var 0) (.cons (.var 1) .nil))))
 (.cons (.ret (.tup (.cons (.idx (.lst (.cons (.con (.str "O")) (.cons (.con (.str "A")) (.cons (.con (.str "B")) (.cons (.con (.str "AB")) .nil))))) (.bin .Mod (.var 2) (.con (.int 4)))) (.cons (.bin .Add (.con (.int 1)) (.bin .Mod (.bin .FloorDiv (.var 2) (.con (.int 4))) (.con (.int 99)))) (.cons (.call "_law_marks" (.cons (.bin .FloorDiv (.var 2) (.con (.int 400))) .nil)) .nil)))))
 .nil))
@[reducible] noncomputable def N__law_term:List Str:=["_law_number","_law_kind","_law_bound"]
noncomputable def b__law_term:Sxs:=(.cons (.asg 1 (.idx (.lst (.cons (.con (.str "groups")) (.cons (.con (.str "marks")) (.cons (.con (.str "sizes")) .nil)))) (.bin .Mod (.bin .FloorDiv (.var 0) (.con (.int 6))) (.con (.int 3)))))
 (.cons (.asg 2 (.idx (.lst (.cons (.bin .Mod (.bin .FloorDiv (.var 0) (.con (.int 18))) (.con (.int 99))) (.cons (.bin .Mod (.bin .FloorDiv (.var 0) (.con (.int 18))) (.con (.int 30))) .nil))) (.bin .Mod (.bin .FloorDiv (.var 0) (.con (.int 1782))) (.con (.int 2)))))
 (.cons (.ret (.tup (.cons (.bin .Mod (.var 0) (.con (.int 6))) (.cons (.var 1) (.cons (.var 2) .nil)))))
 .nil)))
@[reducible] noncomputable def N__law_alternatives:List Str:=["_law_cell_here","_law_found","_law_count","_law_k","_law_many"]
noncomputable def b__law_alternatives:Sxs:=(.cons (.asg 1 (.lst .nil))
 (.cons (.asg 2 (.bin .Add (.con (.int 1)) (.bin .Mod (.call "_law_mix" (.cons (.var 0) (.cons (.con (.int 60)) .nil))) (.con (.int 3)))))
 (.cons (.fr 3 (.rng1 (.var 2)) (.cons (.asg 4 (.bin .Add (.con (.int 1)) (.bin .Mod (.call "_law_mix" (.cons (.var 0) (.cons (.bin .Add (.con (.int 61)) (.var 3)) .nil))) (.idx (.lst (.cons (.con (.int 3)) (.cons (.con (.int 3)) (.cons (.con (.int 2)) .nil)))) (.bin .Sub (.var 2) (.con (.int 1)))))))
 (.cons (.exp (.mth .append (.var 1) (.cons (.comp "_law_j" [("_law_cell_here",0),("_law_k",3)] (.rng1 (.var 4)) (.call "_law_term" (.cons (.call "_law_mix" (.cons (.var 1) (.cons (.bin .Add (.bin .Add (.con (.int 70)) (.bin .Mult (.con (.int 3)) (.var 2))) (.var 0)) .nil))) .nil)) .nil) .nil)))
 .nil)))
 (.cons (.ret (.var 1))
 .nil))))
@[reducible] noncomputable def N__law_term_text:List Str:=["_law_term_here","_law_times","_law_kind","_law_bound"]
noncomputable def b__law_term_text:Sxs:=(.cons (.asgT [1,2,3] (.var 0))
 (.cons (.iff (.cmp .Eq (.var 2) (.con (.str "sizes"))) (.cons (.ret (.bin .Add (.bin .Add (.bin .Mult (.con (.str "no ")) (.var 1)) (.con (.str "sizes "))) (.blt .str (.cons (.var 3) .nil))))
 .nil) .nil)
 (.cons (.ret (.bin .Add (.bin .Mult (.con (.str "no ")) (.var 1)) (.var 2)))
 .nil)))
@[reducible] noncomputable def N__law_rule_text:List Str:=["_law_alternatives_here"]
noncomputable def b__law_rule_text:Sxs:=(.cons (.ret (.mth .join (.con (.str " or ")) (.cons (.comp "_law_terms" [] (.ex (.var 0)) (.mth .join (.con (.str " and ")) (.cons (.comp "_law_term_here" [] (.ex (.var 0)) (.call "_law_term_text" (.cons (.var 0) .nil)) .nil) .nil)) .nil) .nil)))
 .nil)
@[reducible] noncomputable def N__law_plain:List Str:=["_law_kind","_law_bound","_law_giver","_law_taker","_law_pairs"]
noncomputable def b__law_plain:Sxs:=(.cons (.iff (.cmp .Eq (.var 0) (.con (.str "groups"))) (.cons (.asg 4 (.lst (.cons (.con (.str "O O")) (.cons (.con (.str "O A")) (.cons (.con (.str "O B")) (.cons (.con (.str "O AB")) (.cons (.con (.str "A A")) (.cons (.con (.str "A AB")) (.cons (.con (.str "B B")) (.cons (.con (.str "B AB")) (.cons (.con (.str "AB AB")) .nil)))))))))))
 (.cons (.ret (.cmp .In (.bin .Add (.bin .Add (.idx (.var 2) (.con (.int 0))) (.con (.str " "))) (.idx (.var 3) (.con (.int 0)))) (.var 4)))
 .nil)) .nil)
 (.cons (.iff (.cmp .Eq (.var 0) (.con (.str "marks"))) (.cons (.ret (.cmp .Eq (.comp "_law_mark" [("_law_taker",3)] (.ex (.idx (.var 2) (.con (.int 2)))) (.var 0) (.cons (.cmp .In (.var 0) (.idx (.var 1) (.con (.int 2)))) .nil)) (.lst .nil)))
 .nil) .nil)
 (.cons (.ret (.and (.cmp .LtE (.bin .Sub (.idx (.var 2) (.con (.int 1))) (.idx (.var 3) (.con (.int 1)))) (.var 1)) (.cmp .LtE (.bin .Sub (.idx (.var 3) (.con (.int 1))) (.idx (.var 2) (.con (.int 1)))) (.var 1))))
 .nil)))
@[reducible] noncomputable def N__law_lets:List Str:=["_law_alternatives_here","_law_giver","_law_taker","_law_terms","_law_good","_law_times","_law_kind","_law_bound"]
noncomputable def b__law_lets:Sxs:=(.cons (.fr 3 (.ex (.var 0)) (.cons (.asg 4 (.con (.bl true)))
 (.cons (.frT [5,6,7] (.ex (.var 3)) (.cons (.iff (.cmp .Eq (.call "_law_plain" (.cons (.var 6) (.cons (.var 7) (.cons (.var 1) (.cons (.var 2) .nil))))) (.cmp .Eq (.bin .Mod (.var 5) (.con (.int 2))) (.con (.int 1)))) (.cons (.asg 4 (.con (.bl false)))
  .nil) .nil)
  .nil))
 (.cons (.iff (.var 4) (.cons (.ret (.con (.bl true)))
  .nil) .nil)
 .nil))))
 (.cons (.ret (.con (.bl false)))
 .nil))
variable {M:Mo}
noncomputable def spCell (M:Mo):Sp:=fun vs H Q _=>∃a i,∃ns:List Int,vs=[.ref a,.int i]/\0<=i/\rd M H a=some (.lst (ns.map V.int))/\∀c,Q (.int c) H
theorem ok_cell {Γ:Gam} (hc:Γ.cm=true) (hM:Γ.mod=M) (vs:List V) (H:Hp) (Q:VK) (E:XK) (h:spCell M vs H Q E):spOf Γ N__law_cell 2 b__law_cell vs H Q E:=by
 subst hM
 obtain⟨a,i,ns,rfl,h0,ha,h⟩:=h
 refine⟨rfl,?_⟩
 unfold b__law_cell
 dsimp only[Sw.wSs,Sw.wS,Sw.wE,Sw.wT,Sw.wEs,Sw.wTs,Sw.wI,Sw.wP,Sw.vars,L2.start,Sw.r_get0,Sw.r_getS,Sw.r_set0,Sw.r_setS,Sw.r_map0,Sw.r_mapS,Sw.r_app0,Sw.r_appS,Sw.r_len0,Sw.r_lenS,Sw.r_rep0,Sw.r_repS,Sw.r_join,Sw.startC,Nat.reduceAdd,Nat.reduceSub]
 refine⟨hc,?_⟩
 ((first | with_reducible refine Eq.mpr (Sw.b_lenr ..) ?_ | rw[Sw.b_lenr]);rw[ha])
 dsimp only
 (first | with_reducible refine Eq.mpr (Sw.v_lt ..) ?_ | rw[Sw.v_lt])
 refine⟨_,rfl,?_⟩
 by_cases q:i < (ns.map V.int).length
 ·(first | with_reducible refine Eq.mpr (if_pos (by simpa using q)) ?_ | rw[if_pos (by simpa using q)])
  obtain⟨x,e1,e2⟩:=atI_some h0 q
  rw[List.getElem?_map]at e2
  obtain⟨n,_,rfl⟩:=Option.map_eq_some_iff.mp e2
  exact ix_at ha e1 (h n)
 ·(first | with_reducible refine Eq.mpr (if_neg (by simpa using q)) ?_ | rw[if_neg (by simpa using q)])
  exact h 0
noncomputable def mixZ (c k:Int):Int:=
 let n:=(c % 2147483629 + 7919 * k + 12345) % 2147483629
 let n:=(n * n + 104729 * k) % 2147483629
 (n + k) * (n + k) % 2147483587
theorem mix_range (c k:Int):0<=mixZ c k/\mixZ c k < 2147483587:=⟨Int.emod_nonneg _ (by decide),Int.emod_lt_of_pos _ (by decide)⟩
theorem bnd_of {i:Int} (h0: -4294967296<=i) (h1:i<=4294967296):bnd i=true:=by
 unfold bnd
 simp only[Bool.and_eq_true,decide_eq_true_eq]
 omega
noncomputable def spMix:Sp:=fun vs H Q _=>∃c k,vs=[.int c,.int k]/\0<=k/\k<=100/\Q (.int (mixZ c k)) H
theorem ok_mix {Γ:Gam} (vs:List V) (H:Hp) (Q:VK) (E:XK) (h:spMix vs H Q E):spOf Γ N__law_mix 2 b__law_mix vs H Q E:=by
 obtain⟨c,k,rfl,h0,h1,h⟩:=h
 refine⟨rfl,?_⟩
 unfold b__law_mix
 dsimp only[Sw.wSs,Sw.wS,Sw.wE,Sw.wT,Sw.wEs,Sw.wTs,Sw.wI,Sw.wP,Sw.vars,L2.start,Sw.r_get0,Sw.r_getS,Sw.r_set0,Sw.r_setS,Sw.r_map0,Sw.r_mapS,Sw.r_app0,Sw.r_appS,Sw.r_len0,Sw.r_lenS,Sw.r_rep0,Sw.r_repS,Sw.r_join,Sw.startC,Nat.reduceAdd,Nat.reduceSub]
 simp (config:={maxSteps:=10000000,failIfUnchanged:=false}) only[Sw.v_add,Sw.v_adds,Sw.v_sub,Sw.v_mul,Sw.v_div,Sw.v_mod,Sw.v_lt,Sw.v_le,Sw.v_gt,Sw.v_les,Sw.v_ins,Sw.v_eqi,Sw.v_nei,Sw.v_eqs,Sw.v_nes,Sw.v_neb,Sw.v_eqb,Sw.v_is,Sw.v_isnot,Sw.t_bl,Sw.t_non,Sw.t_int,Sw.b_lens,Sw.b_lenr,Sw.b_str,Sw.b_int,Sw.b_abs,Sw.i_str,Sw.i_ref,Sw.s_str,Sw.s_ref,Sw.m_sw]
 have r1:∀x:Int,0<=x % 2147483629/\x % 2147483629 < 2147483629:=fun x=>⟨Int.emod_nonneg _ (by decide),Int.emod_lt_of_pos _ (by decide)⟩
 have b1:∀x:Int,bnd (x % 2147483629)=true:=fun x=>bnd_of (by have:=r1 x;omega) (by have:=r1 x;omega)
 have b2:∀x:Int,bnd (x % 2147483629 + k)=true:=fun x=>bnd_of (by have:=r1 x;omega) (by have:=r1 x;omega)
 have bk:bnd k=true:=bnd_of (by omega) (by omega)
 refine⟨by decide,by rw[bk];simp,by decide,by rw[b1];simp,by rw[bk];simp,by decide,by rw[b2];simp,by decide,?_⟩
 unfold mixZ at h
 dsimp only at h
 exact h
noncomputable def spMarks (M:Mo):Sp:=fun vs H Q _=>∃n,vs=[.int n]/\0<=n/\∀m H',Ext M H H'->m.length<=26->Q (.str m) H'
theorem letters_at {i:Int} (h0:0<=i) (h1:i < 26):atI (cps letters) i=some (97 + i.toNat):=by
 have e:cps letters=(List.range 26).map (97 + ·):=by decide +kernel
 unfold atI ixN
 (rw[e];(first | with_reducible refine Eq.mpr (if_pos h0) ?_ | rw[if_pos h0]);rw[List.length_map,List.length_range];(first | with_reducible refine Eq.mpr (if_pos (by omega)) ?_ | rw[if_pos (by omega)]);rw[Option.bind_some,List.getElem?_map,List.getElem?_range (by omega)])
 rfl
theorem ok_marks {Γ:Gam} (hc:Γ.cm=true) (hM:Γ.mod=M) (vs:List V) (H:Hp) (Q:VK) (E:XK) (h:spMarks M vs H Q E):spOf Γ N__law_marks 1 b__law_marks vs H Q E:=by
 obtain⟨n,rfl,h0,h⟩:=h
 refine⟨rfl,?_⟩
 subst hM
 unfold b__law_marks
 refine seq ?_
 dsimp only[Sw.wS,Sw.wE,Sw.wT,Sw.wEs,Sw.wTs,Sw.wI,Sw.wP,Sw.vars,L2.start,Sw.r_get0,Sw.r_getS,Sw.r_set0,Sw.r_setS,Sw.r_map0,Sw.r_mapS,Sw.r_app0,Sw.r_appS,Sw.r_len0,Sw.r_lenS,Sw.r_rep0,Sw.r_repS,Sw.r_join,Sw.startC,Nat.reduceAdd,Nat.reduceSub]
 refine seq ?_
 dsimp only[Sw.wS,Sw.wE,Sw.wT,Sw.wEs,Sw.wTs,Sw.wI,Sw.wP,Sw.vars,L2.start,Sw.r_get0,Sw.r_getS,Sw.r_set0,Sw.r_setS,Sw.r_map0,Sw.r_mapS,Sw.r_app0,Sw.r_appS,Sw.r_len0,Sw.r_lenS,Sw.r_rep0,Sw.r_repS,Sw.r_join,Sw.startC,Nat.reduceAdd,Nat.reduceSub]
 (first | with_reducible refine Eq.mpr (Sw.v_mod ..) ?_ | rw[Sw.v_mod])
 refine⟨by decide,?_⟩
 refine seq ?_
 dsimp only[Sw.wS,Sw.wE,Sw.wT,Sw.wEs,Sw.wTs,Sw.wI,Sw.wP,Sw.vars,L2.start,Sw.r_get0,Sw.r_getS,Sw.r_set0,Sw.r_setS,Sw.r_map0,Sw.r_mapS,Sw.r_app0,Sw.r_appS,Sw.r_len0,Sw.r_lenS,Sw.r_rep0,Sw.r_repS,Sw.r_join,Sw.startC,Nat.reduceAdd,Nat.reduceSub]
 (first | with_reducible refine Eq.mpr (Sw.v_eqi ..) ?_ | rw[Sw.v_eqi])
 refine⟨_,rfl,?_⟩
 by_cases q0:n % 3=0
 ·(first | with_reducible refine Eq.mpr (if_pos (decide_eq_true q0)) ?_ | rw[if_pos (decide_eq_true q0)])
  dsimp only[Sw.wSs,Sw.wS,Sw.wE,Sw.wT,Sw.wEs,Sw.wTs,Sw.wI,Sw.wP,Sw.vars,L2.start,Sw.r_get0,Sw.r_getS,Sw.r_set0,Sw.r_setS,Sw.r_map0,Sw.r_mapS,Sw.r_app0,Sw.r_appS,Sw.r_len0,Sw.r_lenS,Sw.r_rep0,Sw.r_repS,Sw.r_join,Sw.startC,Nat.reduceAdd,Nat.reduceSub]
  exact h _ H Ext.refl (by decide +kernel)
 (first | with_reducible refine Eq.mpr (if_neg (by simpa using q0)) ?_ | rw[if_neg (by simpa using q0)])
 dsimp only[Sw.wSs,Sw.wS,Sw.wE,Sw.wT,Sw.wEs,Sw.wTs,Sw.wI,Sw.wP,Sw.vars,L2.start,Sw.r_get0,Sw.r_getS,Sw.r_set0,Sw.r_setS,Sw.r_map0,Sw.r_mapS,Sw.r_app0,Sw.r_appS,Sw.r_len0,Sw.r_lenS,Sw.r_rep0,Sw.r_repS,Sw.r_join,Sw.startC,Nat.reduceAdd,Nat.reduceSub]
 (first | with_reducible refine Eq.mpr (Sw.v_eqi ..) ?_ | rw[Sw.v_eqi])
 refine⟨_,rfl,?_⟩
 have el:(Str.ofString "abcdefghijklmnopqrstuvwxyz").cps.toList=cps letters:=rfl
 by_cases q1:n % 3=1
 ·((first | with_reducible refine Eq.mpr (if_pos (decide_eq_true q1)) ?_ | rw[if_pos (decide_eq_true q1)]);(first | with_reducible refine Eq.mpr (Sw.v_div ..) ?_ | rw[Sw.v_div]))
  refine⟨by decide,by decide,?_⟩
  (first | with_reducible refine Eq.mpr (Sw.v_mod ..) ?_ | rw[Sw.v_mod])
  refine⟨by decide,?_⟩
  (first | with_reducible refine Eq.mpr (i_str ..) ?_ | rw[i_str])
  have r0:0<=n / 3 % 26:=Int.emod_nonneg _ (by decide)
  have r1:n / 3 % 26 < 26:=Int.emod_lt_of_pos _ (by decide)
  refine⟨by decide +kernel,?_⟩
  rw[el,letters_at r0 r1]
  exact h _ H Ext.refl (show(1:Nat)<=26 from by decide)
 (first | with_reducible refine Eq.mpr (if_neg (by simpa using q1)) ?_ | rw[if_neg (by simpa using q1)])
 refine⟨rfl,hc,by decide,by decide,fun D hD mD=>?_⟩
 refine comp_filt (fun v=>match v with | .int i=>.str ⟨#[97 + i.toNat]⟩ | v=>v) (fun v=>match v with | .int i=>decide (n / 3 / (i + 1) % 3=0) | _=>false) _ [] ?_ ?_ (fun _=>trivial) (by rw[sizeLine_eq];simp) ?_
 ·intro v hv H1 Q1 q
  obtain⟨i,hi,rfl⟩:=List.mem_map.mp hv
  have hi:i < 26:=by simpa using hi
  show binV Γ.mod Operator.FloorDiv (V.int n) (V.int 3) H1 _
  (first | with_reducible refine Eq.mpr (Sw.v_div ..) ?_ | rw[Sw.v_div])
  refine⟨by decide,by decide,?_⟩
  show binV Γ.mod Operator.Add (V.int i) (V.int 1) H1 _
  ((first | with_reducible refine Eq.mpr (Sw.v_add ..) ?_ | rw[Sw.v_add]);(first | with_reducible refine Eq.mpr (Sw.v_div ..) ?_ | rw[Sw.v_div]))
  refine⟨by omega,by omega,?_⟩
  (first | with_reducible refine Eq.mpr (Sw.v_mod ..) ?_ | rw[Sw.v_mod])
  refine⟨by decide,?_⟩
  (first | with_reducible refine Eq.mpr (Sw.v_eqi ..) ?_ | rw[Sw.v_eqi])
  exact⟨_,rfl,q⟩
 ·intro v hv H1 Q1 q
  obtain⟨i,hi,rfl⟩:=List.mem_map.mp hv
  have hi:i < 26:=by simpa using hi
  show idxV Γ.mod (V.str (Str.ofString "abcdefghijklmnopqrstuvwxyz")) (V.int i) H1 Q1
  (first | with_reducible refine Eq.mpr (i_str ..) ?_ | rw[i_str])
  refine⟨by decide +kernel,?_⟩
  rw[el,letters_at (by omega) (by omega)]
  exact q
 ·generalize hl:(List.filter (fun v=>match v with | V.int i=>decide (n / 3 / (i + 1) % 3=0) | _=>false) (List.map (fun i:Nat=>V.int (i:Int)) (List.range (Int.toNat 26))))=fl
  have e:∃ks:List Nat,fl=ks.map (fun i:Nat=>V.int (i:Int))/\ks.Pairwise (·< ·)/\∀k ∈ ks,k < 26:=by
   rw[List.filter_map]at hl
   refine⟨_,hl.symm,?_,?_⟩
   ·exact List.Pairwise.filter _ List.pairwise_lt_range
   ·intro k hk
    have:=(List.mem_filter.mp hk).1
    simpa using this
  obtain⟨ks,rfl,pw,lt⟩:=e
  have e2:List.map (fun v=>match v with | V.int i=>V.str ⟨#[97 + i.toNat]⟩ | v=>v) (List.map (fun i:Nat=>V.int (i:Int)) ks)=((ks.map (97 + ·)).map Wd.single).map V.str:=by
   rw[List.map_map,List.map_map,List.map_map]
   exact List.map_congr_left fun k _=>rfl
  rw[List.nil_append,e2]
  have kl:ks.length<=26:=by
   have nd:ks.Nodup:=pw.imp fun h=>Nat.ne_of_lt h
   have:=List.Nodup.length_le_of_subset nd (l₂:=List.range 26) fun k hk=>List.mem_range.mpr (lt k hk)
   simpa using this
  refine join_at (rd_upd (by intro _ _ z;cases z)) (joinOk _ _ 1 (fun x hx=>?_) ?_) (h _ _ (Ext.upd hD mD) ?_)
  ·obtain⟨c,_,rfl⟩:=List.mem_map.mp hx
   exact Nat.le_refl _
  ·rw[show(Str.ofString "").length=0 from rfl,List.length_map,List.length_map]
   omega
  ·rw[len_cps,cps_join,show cps (Str.ofString "")=[]from rfl,joinL_nil,List.map_map]
   rw[show((ks.map (97 + ·)).map (cps ∘ Wd.single)).flatten=ks.map (97 + ·)from flat_single _,List.length_map]
   exact kl
noncomputable def spSide (M:Mo):Sp:=fun vs H Q _=>∃c k,vs=[.int c,.int k]/\0<=k/\k<=100/\∀ (s:Sd) H' q,s.Ok->Ext M H H'->SdAt M H' q s->Q (.ref q) H'
structure L1 (Γ:Gam) (M:Mo):Prop where
 cm:Γ.cm=true
 mod:Γ.mod=M
 mx:Γ.has "_law_mix" =true/\Γ.fn "_law_mix" =spMix
 ma:Γ.has "_law_marks" =true/\Γ.fn "_law_marks" =spMarks M
theorem ok_side {Γ:Gam} (g:L1 Γ M) (vs:List V) (H:Hp) (Q:VK) (E:XK) (h:spSide M vs H Q E):spOf Γ N__law_side 2 b__law_side vs H Q E:=by
 obtain⟨c,k,rfl,h0,h1,h⟩:=h
 refine⟨rfl,?_⟩
 obtain rfl:=g.mod
 unfold b__law_side
 refine seq ?_
 dsimp only[Sw.wS,Sw.wE,Sw.wT,Sw.wEs,Sw.wTs,Sw.wI,Sw.wP,Sw.vars,L2.start,Sw.r_get0,Sw.r_getS,Sw.r_set0,Sw.r_setS,Sw.r_map0,Sw.r_mapS,Sw.r_app0,Sw.r_appS,Sw.r_len0,Sw.r_lenS,Sw.r_rep0,Sw.r_repS,Sw.r_join,Sw.startC,Nat.reduceAdd,Nat.reduceSub]
 rw[g.mx.2]
 refine⟨⟨g.cm,g.mx.1⟩,c,k,rfl,h0,h1,?_⟩
 obtain⟨n0,n1⟩:=mix_range c k
 generalize mixZ c k=n at n0 n1 ⊢
 dsimp only[Sw.wSs,Sw.wS,Sw.wE,Sw.wT,Sw.wEs,Sw.wTs,Sw.wI,Sw.wP,Sw.vars,L2.start,Sw.r_get0,Sw.r_getS,Sw.r_set0,Sw.r_setS,Sw.r_map0,Sw.r_mapS,Sw.r_app0,Sw.r_appS,Sw.r_len0,Sw.r_lenS,Sw.r_rep0,Sw.r_repS,Sw.r_join,Sw.startC,Nat.reduceAdd,Nat.reduceSub]
 refine⟨by decide,fun p hp mp=>?_⟩
 (first | with_reducible refine Eq.mpr (Sw.v_mod ..) ?_ | rw[Sw.v_mod])
 refine⟨by decide,?_⟩
 have x1:=Ext.upd (o:=.lst [V.str (Str.ofString "O"),V.str (Str.ofString "A"),V.str (Str.ofString "B"),V.str (Str.ofString "AB")]) hp mp
 have r0:0<=n % 4:=Int.emod_nonneg _ (by decide)
 have r1:n % 4 < 4:=Int.emod_lt_of_pos _ (by decide)
 have gr:∃t,atI [V.str (Str.ofString "O"),V.str (Str.ofString "A"),V.str (Str.ofString "B"),V.str (Str.ofString "AB")] (n % 4)=some (.str t)/\isGroup t=true:=by
  generalize n % 4=r at r0 r1
  have:r=0\/r=1\/r=2\/r=3:=by omega
  rcases this with rfl | rfl | rfl | rfl
  ·exact⟨Str.ofString "O",rfl,by decide +kernel⟩
  ·exact⟨Str.ofString "A",rfl,by decide +kernel⟩
  ·exact⟨Str.ofString "B",rfl,by decide +kernel⟩
  ·exact⟨Str.ofString "AB",rfl,by decide +kernel⟩
 obtain⟨t,et,gt⟩:=gr
 refine ix_at (rd_upd (by intro _ _ z;cases z)) et ?_
 (first | with_reducible refine Eq.mpr (Sw.v_div ..) ?_ | rw[Sw.v_div])
 refine⟨by decide,by decide,?_⟩
 (first | with_reducible refine Eq.mpr (Sw.v_mod ..) ?_ | rw[Sw.v_mod])
 refine⟨by decide,?_⟩
 (first | with_reducible refine Eq.mpr (Sw.v_add ..) ?_ | rw[Sw.v_add])
 refine⟨⟨g.cm,g.ma.1⟩,?_⟩
 (first | with_reducible refine Eq.mpr (Sw.v_div ..) ?_ | rw[Sw.v_div])
 refine⟨by decide,by decide,?_⟩
 rw[g.ma.2]
 refine⟨_,rfl,Int.ediv_nonneg n0 (by decide),fun m H2 x2 hm=>⟨by decide,fun q hq mq=>?_⟩⟩
 have s0:0<=n / 4 % 99:=Int.emod_nonneg _ (by decide)
 have s1:n / 4 % 99 < 99:=Int.emod_lt_of_pos _ (by decide)
 exact h ⟨t,1 + n / 4 % 99,m⟩ _ q ⟨gt,⟨by show 1<=1 + n / 4 % 99;omega,by show 1 + n / 4 % 99<=99;omega⟩,hm⟩ ((x1.trans x2).trans (Ext.upd hq mq)) (rd_upd (by intro _ _ z;cases z))
structure Lt where
 t:Nat
 k:Nat
 b:Nat
noncomputable def kname (k:Nat):Str:=if k=0 then "groups" else if k=1 then "marks" else "sizes"
noncomputable def Lt.vs (x:Lt):List V:=[.int x.t,.str (kname x.k),.int x.b]
structure Lt.Ok (x:Lt):Prop where
 t:x.t < 6
 k:x.k < 3
 b:x.b < 99
noncomputable def Lt.code (x:Lt):Nat × Nat:=(x.t,if x.k=0 then 0 else if x.k=1 then 1 else x.b + 2)
theorem Lt.Ok.code {x:Lt} (h:x.Ok):okT x.code:=by
 refine⟨h.t,?_⟩
 show(if x.k=0 then 0 else if x.k=1 then 1 else x.b + 2) < 101
 have:=h.b
 split
 ·omega
 ·split<;>omega
noncomputable def spTerm (M:Mo):Sp:=fun vs H Q _=>∃n,vs=[.int n]/\0<=n/\∀ (x:Lt) H' a,x.Ok->Ext M H H'->M a=none->H' a=some (.tup x.vs)->H a=none->Q (.ref a) H'
theorem ok_ltm {Γ:Gam} (hM:Γ.mod=M) (vs:List V) (H:Hp) (Q:VK) (E:XK) (h:spTerm M vs H Q E):spOf Γ N__law_term 1 b__law_term vs H Q E:=by
 subst hM
 obtain⟨n,rfl,h0,h⟩:=h
 refine⟨rfl,?_⟩
 unfold b__law_term
 refine seq ?_
 dsimp only[Sw.wS,Sw.wE,Sw.wT,Sw.wEs,Sw.wTs,Sw.wI,Sw.wP,Sw.vars,L2.start,Sw.r_get0,Sw.r_getS,Sw.r_set0,Sw.r_setS,Sw.r_map0,Sw.r_mapS,Sw.r_app0,Sw.r_appS,Sw.r_len0,Sw.r_lenS,Sw.r_rep0,Sw.r_repS,Sw.r_join,Sw.startC,Nat.reduceAdd,Nat.reduceSub]
 refine⟨by decide,fun p hp mp=>?_⟩
 have x1:=Ext.upd (o:=.lst [V.str (Str.ofString "groups"),V.str (Str.ofString "marks"),V.str (Str.ofString "sizes")]) hp mp
 (first | with_reducible refine Eq.mpr (Sw.v_div ..) ?_ | rw[Sw.v_div])
 refine⟨by decide,by decide,?_⟩
 (first | with_reducible refine Eq.mpr (Sw.v_mod ..) ?_ | rw[Sw.v_mod])
 refine⟨by decide,?_⟩
 have r0:0<=n / 6 % 3:=Int.emod_nonneg _ (by decide)
 have r1:n / 6 % 3 < 3:=Int.emod_lt_of_pos _ (by decide)
 have gr:∃k:Nat,k < 3/\atI [V.str (Str.ofString "groups"),V.str (Str.ofString "marks"),V.str (Str.ofString "sizes")] (n / 6 % 3)=some (.str (kname k)):=by
  generalize n / 6 % 3=r at r0 r1
  have:r=0\/r=1\/r=2:=by omega
  rcases this with rfl | rfl | rfl
  ·exact⟨0,by decide,rfl⟩
  ·exact⟨1,by decide,rfl⟩
  ·exact⟨2,by decide,rfl⟩
 obtain⟨k,hk,ek⟩:=gr
 refine ix_at (rd_upd (by intro _ _ z;cases z)) ek ?_
 refine seq ?_
 dsimp only[Sw.wS,Sw.wE,Sw.wT,Sw.wEs,Sw.wTs,Sw.wI,Sw.wP,Sw.vars,L2.start,Sw.r_get0,Sw.r_getS,Sw.r_set0,Sw.r_setS,Sw.r_map0,Sw.r_mapS,Sw.r_app0,Sw.r_appS,Sw.r_len0,Sw.r_lenS,Sw.r_rep0,Sw.r_repS,Sw.r_join,Sw.startC,Nat.reduceAdd,Nat.reduceSub]
 (first | with_reducible refine Eq.mpr (Sw.v_div ..) ?_ | rw[Sw.v_div])
 refine⟨by decide,by decide,?_⟩
 (first | with_reducible refine Eq.mpr (Sw.v_mod ..) ?_ | rw[Sw.v_mod])
 refine⟨by decide,?_⟩
 (first | with_reducible refine Eq.mpr (Sw.v_div ..) ?_ | rw[Sw.v_div])
 refine⟨by decide,by decide,?_⟩
 (first | with_reducible refine Eq.mpr (Sw.v_mod ..) ?_ | rw[Sw.v_mod])
 refine⟨by decide,by decide,fun p2 hp2 mp2=>?_⟩
 (first | with_reducible refine Eq.mpr (Sw.v_div ..) ?_ | rw[Sw.v_div])
 refine⟨by decide,by decide,?_⟩
 (first | with_reducible refine Eq.mpr (Sw.v_mod ..) ?_ | rw[Sw.v_mod])
 refine⟨by decide,?_⟩
 have b0:0<=n / 1782 % 2:=Int.emod_nonneg _ (by decide)
 have b1:n / 1782 % 2 < 2:=Int.emod_lt_of_pos _ (by decide)
 have c0:0<=n / 18 % 99:=Int.emod_nonneg _ (by decide)
 have c1:n / 18 % 99 < 99:=Int.emod_lt_of_pos _ (by decide)
 have d0:0<=n / 18 % 30:=Int.emod_nonneg _ (by decide)
 have d1:n / 18 % 30 < 30:=Int.emod_lt_of_pos _ (by decide)
 have gb:∃b:Nat,b < 99/\atI [V.int (n / 18 % 99),V.int (n / 18 % 30)] (n / 1782 % 2)=some (.int b):=by
  generalize n / 1782 % 2=r at b0 b1
  have:r=0\/r=1:=by omega
  rcases this with rfl | rfl
  ·exact⟨(n / 18 % 99).toNat,by omega,by rw[Int.toNat_of_nonneg c0];rfl⟩
  ·exact⟨(n / 18 % 30).toNat,by omega,by rw[Int.toNat_of_nonneg d0];rfl⟩
 obtain⟨b,hb,eb⟩:=gb
 refine ix_at (rd_upd (by intro _ _ z;cases z)) eb ?_
 dsimp only[Sw.wSs,Sw.wS,Sw.wE,Sw.wT,Sw.wEs,Sw.wTs,Sw.wI,Sw.wP,Sw.vars,L2.start,Sw.r_get0,Sw.r_getS,Sw.r_set0,Sw.r_setS,Sw.r_map0,Sw.r_mapS,Sw.r_app0,Sw.r_appS,Sw.r_len0,Sw.r_lenS,Sw.r_rep0,Sw.r_repS,Sw.r_join,Sw.startC,Nat.reduceAdd,Nat.reduceSub]
 (first | with_reducible refine Eq.mpr (Sw.v_mod ..) ?_ | rw[Sw.v_mod])
 refine⟨by decide,by decide,fun q hq mq=>?_⟩
 have x2:=Ext.upd (o:=.lst [V.int (n / 18 % 99),V.int (n / 18 % 30)]) hp2 mp2
 have t0:0<=n % 6:=Int.emod_nonneg _ (by decide)
 have t1:n % 6 < 6:=Int.emod_lt_of_pos _ (by decide)
 have xx:=(x1.trans x2).trans (Ext.upd (o:=.tup [V.int (n % 6),V.str (kname k),V.int b]) hq mq)
 have hH:H q=none:=by
  cases z:H q with
  | none=>rfl
  | some o=>
   have:=(x1.trans x2).same _ _ z
   rw[hq]at this;cases this
 refine h ⟨(n % 6).toNat,k,b⟩ _ q ⟨by show(n % 6).toNat < 6;omega,hk,hb⟩ xx mq ?_ hH
 rw[upd_same]
 unfold Lt.vs
 rw[Int.toNat_of_nonneg t0]
end Lw
namespace Lw
set_option genInjectivity false
open PySem PySem.Spec PyProof.Rows L2 Sw Wd Tx Rl
variable {M:Mo}
theorem rd_h {H:Hp} {a:Addr} {o:HO} (h:H a=some o) (n:∀ob u,o ≠ .frz ob u):rd M H a=some o:=by
 unfold rd
 rw[h]
 cases o<;>first | rfl | exact absurd rfl (n _ _)
theorem rd_l {H:Hp} {a:Addr} {xs:List V} (h:H a=some (.lst xs)):rd M H a=some (.lst xs):=rd_h h (fun _ _ z=>nomatch z)
theorem rd_t {H:Hp} {a:Addr} {xs:List V} (h:H a=some (.tup xs)):rd M H a=some (.tup xs):=rd_h h (fun _ _ z=>nomatch z)
noncomputable def LtH (H:Hp) (a:Addr) (x:Lt):Prop:=H a=some (.tup x.vs)
noncomputable def AltH (H:Hp) (a:Addr) (ts:List Lt):Prop:=∃qs:List Addr,H a=some (.lst (qs.map V.ref))/\Paired (LtH H) qs ts
noncomputable def SomeH (H:Hp) (a:Addr) (as:List (List Lt)):Prop:=∃rs:List Addr,H a=some (.lst (rs.map V.ref))/\Paired (AltH H) rs as
theorem AltH.mono {H H':Hp} {a:Addr} {ts:List Lt} (s:Sub H H') (h:AltH H a ts):AltH H' a ts:=by
 obtain⟨qs,h1,h2⟩:=h
 exact⟨qs,s _ _ h1 (fun ps z=>nomatch z),L2.Paired.mapP h2 fun r x z=>s _ _ z (fun ps y=>nomatch y)⟩
theorem SomeH.mono {H H':Hp} {a:Addr} {as:List (List Lt)} (s:Sub H H') (h:SomeH H a as):SomeH H' a as:=by
 obtain⟨rs,h1,h2⟩:=h
 exact⟨rs,s _ _ h1 (fun ps z=>nomatch z),L2.Paired.mapP h2 fun r x z=>z.mono s⟩
theorem LtH.upd {H:Hp} {a p:Addr} {x:Lt} {l:List V} {o:HO} (h:LtH H a x) (hp:H p=some (.lst l)):LtH (upd H p o) a x:=by
 unfold LtH at h ⊢
 rw[upd_ne (fun z=>by rw[z,hp]at h;cases h)]
 exact h
theorem AltH.upd {H:Hp} {a p:Addr} {ts:List Lt} {l:List V} {o:HO} (h:AltH H a ts) (hp:H p=some (.lst l)) (ne:a ≠ p):AltH (upd H p o) a ts:=by
 obtain⟨qs,h1,h2⟩:=h
 exact⟨qs,by rw[upd_ne ne];exact h1,L2.Paired.mapP h2 fun r x z=>z.upd hp⟩
structure OkLA (ts:List Lt):Prop where
 ne:ts ≠ []
 len:ts.length<=3
 all:∀x ∈ ts,x.Ok
structure OkLR (as:List (List Lt)):Prop where
 ne:as ≠ []
 len:as.length<=3
 all:∀x ∈ as,OkLA x
theorem ext_D {Hb Hm H':Hp} {D:Addr} {y:HO} (e:Ext M Hb (era Hm D)) (x:Ext M Hm H') (mD:M D=none):Ext M Hb (era (upd H' D y) D):=by
 refine⟨fun b o h=>?_,fun b m h=>?_⟩
 ·obtain⟨ne,h⟩:=of_era (e.same b o h)
  rw[era_ne ne,upd_ne ne]
  exact x.same b o h
 ·have ne:b ≠ D:=fun z=>m (by rw[z];exact mD)
  have:=e.off b m h
  rw[era_ne ne]at this ⊢
  rw[upd_ne ne]
  exact x.off b m this
theorem ext_D0 {Hb:Hp} {D:Addr} {y:HO} (hD:Hb D=none) (mD:M D=none):Ext M Hb (era (upd Hb D y) D):=by
 refine⟨fun b o h=>?_,fun b m h=>?_⟩
 ·have ne:=ne_of_none h hD
  rw[era_ne ne,upd_ne ne]
  exact h
 ·have ne:b ≠ D:=fun z=>m (by rw[z];exact mD)
  rw[era_ne ne,upd_ne ne]
  exact h
theorem ext_un {Hb Hm:Hp} {D:Addr} (e:Ext M Hb (era Hm D)) (mD:M D=none):Ext M Hb Hm:=
 ⟨fun b o h=>(of_era (e.same b o h)).2,fun b m h=>by
  have:=e.off b m h
  rwa[era_ne (fun z=>m (by rw[z];exact mD))]at this⟩
theorem ne_D {Hb Hm:Hp} {D b:Addr} {o:HO} (e:Ext M Hb (era Hm D)) (h:Hb b=some o):b ≠ D:=(of_era (e.same b o h)).1
theorem pr_mem {α β:Type} {F G:α->β->Prop}:∀ {l₁:List α} {l₂:List β},Paired F l₁ l₂->(∀ a ∈ l₁,∀b,F a b->G a b)->Paired G l₁ l₂
 | _,_,.nil,_=>.nil
 | _,_,.cons r t,f=>.cons (f _ List.mem_cons_self _ r) (pr_mem t fun a ha=>f a (List.mem_cons_of_mem _ ha))
structure L2s (Γ:Gam) (M:Mo):Prop where
 cm:Γ.cm=true
 mod:Γ.mod=M
 mx:Γ.has "_law_mix" =true/\Γ.fn "_law_mix" =spMix
 tm:Γ.has "_law_term" =true/\Γ.fn "_law_term" =spTerm M
noncomputable def spAlts (M:Mo):Sp:=fun vs H Q _=>∃c,vs=[.int c]/\∀as H' a,OkLR as->Ext M H H'->SomeH H' a as->Q (.ref a) H'
theorem terms {Ξ:XS} {Γ:Gam} (g:L2s Γ M) {Hb:Hp} {D:Addr} {c k m:Int} (hk:0<=k/\k<=2) (hm:1<=m/\m<=3) (hD:Hb D=none) (mD:M D=none) {K:Hp->Prop}
  (fin:∀Hf ts,OkLA ts->Ext M Hb (era Hf D)->AltH Hf D ts->K Hf):
  compW (wE Γ (.call "_law_term" (.cons (.call "_law_mix" (.cons (.var 1) (.cons (.bin .Add (.bin .Add (.con (.int 70)) (.bin .Mult (.con (.int 3)) (.var 2))) (.var 0)) .nil))) .nil)) Ξ) (fun _ H Q=>Q true H) [some (.int c),some (.int k)] D (fun _=>True)
   ((List.range m.toNat).map fun i:Nat=>V.int i) [] (upd Hb D (.lst [])) K:=by
 obtain rfl:=g.mod
 refine comp_inv (fun n acc Hm=>∃ (qs:List Addr) (xs:List Lt),acc=qs.map V.ref/\qs.length=n/\Hm D=some (.lst acc)/\Paired (LtH Hm) qs xs/\(∀ x ∈ xs,x.Ok)/\Ext Γ.mod Hb (era Hm D)) (fun _ _ _ _=>trivial) (fun n acc Hm p=>?_) (by rw[List.length_map,List.length_range];exact Nat.le_trans (show m.toNat<=3 by omega) (by decide)) ?_ ?_ ⟨[],[],rfl,rfl,upd_same,.nil,(fun x hx=>nomatch hx),ext_D0 hD mD⟩
 ·obtain⟨qs,xs,e1,e2,e3,_⟩:=p
  exact⟨e3,by rw[e1,List.length_map];exact e2⟩
 ·intro n v acc Hm Q hv p hQ
  obtain⟨qs,xs,e1,e2,e3,e4,e5,e6⟩:=p
  have hlt:n < m.toNat:=by
   have:=(List.getElem?_eq_some_iff.mp hv).1
   simpa using this
  have ev:v=.int (n:Int):=by
   rw[List.getElem?_map,List.getElem?_range hlt]at hv
   exact(Option.some.inj hv).symm
  subst ev
  dsimp only[Sw.wS,Sw.wE,Sw.wT,Sw.wEs,Sw.wTs,Sw.wI,Sw.wP,Sw.vars,L2.start,Sw.r_get0,Sw.r_getS,Sw.r_set0,Sw.r_setS,Sw.r_map0,Sw.r_mapS,Sw.r_app0,Sw.r_appS,Sw.r_len0,Sw.r_lenS,Sw.r_rep0,Sw.r_repS,Sw.r_join,Sw.startC,Nat.reduceAdd,Nat.reduceSub]
  refine⟨⟨g.cm,g.tm.1⟩,⟨g.cm,g.mx.1⟩,?_⟩
  (first | with_reducible refine Eq.mpr (Sw.v_mul ..) ?_ | rw[Sw.v_mul])
  refine⟨by rw[show bnd 3=true from by decide];rfl,?_⟩
  ((first | with_reducible refine Eq.mpr (Sw.v_add ..) ?_ | rw[Sw.v_add]);(first | with_reducible refine Eq.mpr (Sw.v_add ..) ?_ | rw[Sw.v_add]);rw[g.mx.2])
  refine⟨_,_,rfl,by omega,by omega,?_⟩
  dsimp only
  rw[g.tm.2]
  refine⟨_,rfl,(mix_range _ _).1,fun x H' a ok x' ma ha hn=>?_⟩
  have hD':H' D=some (.lst acc):=x'.same _ _ e3
  refine hQ (.ref a) H' hD' ⟨qs++[a],xs++[x],by rw[e1,List.map_append];rfl,by rw[List.length_append,e2];rfl,upd_same,pr_get (L2.Paired.mapP e4 fun r y z=>LtH.upd (x'.same _ _ z) hD') (LtH.upd ha hD'),fun y hy=>?_,ext_D e6 x' mD⟩
  rcases List.mem_append.mp hy with hy | hy
  ·exact e5 y hy
  ·rw[List.mem_singleton.mp hy]
   exact ok
 ·intro acc Hm p
  obtain⟨qs,xs,e1,e2,e3,e4,e5,e6⟩:=p
  have el:xs.length=m.toNat:=by
   rw[<-Paired.length e4,e2]
   simp
  refine fin Hm xs ⟨fun z=>?_,by omega,e5⟩ e6 ⟨qs,by rw[e3,e1],e4⟩
  rw[z]at el
  simp at el
  omega
theorem three_at {r:Int} (h0:0<=r) (h1:r<=2):∃j:Int,1<=j/\j<=3/\atI [V.int 3,V.int 3,V.int 2] r=some (.int j):=by
 have:r=0\/r=1\/r=2:=by omega
 rcases this with rfl | rfl | rfl
 ·exact⟨3,by decide,by decide,rfl⟩
 ·exact⟨3,by decide,by decide,rfl⟩
 ·exact⟨2,by decide,by decide,rfl⟩
theorem ok_alts {Γ:Gam} (g:L2s Γ M) (vs:List V) (H:Hp) (Q:VK) (E:XK) (h:spAlts M vs H Q E):spOf Γ N__law_alternatives 1 b__law_alternatives vs H Q E:=by
 obtain⟨c,rfl,h⟩:=h
 refine⟨rfl,?_⟩
 obtain rfl:=g.mod
 unfold b__law_alternatives
 refine seq ?_
 dsimp only[Sw.wS,Sw.wE,Sw.wT,Sw.wEs,Sw.wTs,Sw.wI,Sw.wP,Sw.vars,L2.start,Sw.r_get0,Sw.r_getS,Sw.r_set0,Sw.r_setS,Sw.r_map0,Sw.r_mapS,Sw.r_app0,Sw.r_appS,Sw.r_len0,Sw.r_lenS,Sw.r_rep0,Sw.r_repS,Sw.r_join,Sw.startC,Nat.reduceAdd,Nat.reduceSub]
 refine⟨by decide,fun p hp mp=>?_⟩
 refine seq ?_
 dsimp only[Sw.wS,Sw.wE,Sw.wT,Sw.wEs,Sw.wTs,Sw.wI,Sw.wP,Sw.vars,L2.start,Sw.r_get0,Sw.r_getS,Sw.r_set0,Sw.r_setS,Sw.r_map0,Sw.r_mapS,Sw.r_app0,Sw.r_appS,Sw.r_len0,Sw.r_lenS,Sw.r_rep0,Sw.r_repS,Sw.r_join,Sw.startC,Nat.reduceAdd,Nat.reduceSub]
 refine⟨⟨g.cm,g.mx.1⟩,?_⟩
 rw[g.mx.2]
 refine⟨_,_,rfl,by decide,by decide,?_⟩
 dsimp only
 (first | with_reducible refine Eq.mpr (Sw.v_mod ..) ?_ | rw[Sw.v_mod])
 refine⟨by decide,?_⟩
 (first | with_reducible refine Eq.mpr (Sw.v_add ..) ?_ | rw[Sw.v_add])
 have c0:0<=mixZ c 60 % 3:=Int.emod_nonneg _ (by decide)
 have c1:mixZ c 60 % 3 < 3:=Int.emod_lt_of_pos _ (by decide)
 generalize hcount:1 + mixZ c 60 % 3=count
 have k0:1<=count:=by omega
 have k1:count<=3:=by omega
 refine seq ?_
 show wS (.fr _ _ _) Γ _ _ _ _
 unfold wS
 refine⟨g.cm,?_⟩
 dsimp only[Sw.wS,Sw.wE,Sw.wT,Sw.wEs,Sw.wTs,Sw.wI,Sw.wP,Sw.vars,L2.start,Sw.r_get0,Sw.r_getS,Sw.r_set0,Sw.r_setS,Sw.r_map0,Sw.r_mapS,Sw.r_app0,Sw.r_appS,Sw.r_len0,Sw.r_lenS,Sw.r_rep0,Sw.r_repS,Sw.r_join,Sw.startC,Nat.reduceAdd,Nat.reduceSub]
 refine⟨by omega,by omega,?_⟩
 refine for_inv (fun n σ Hn=>∃ (rs:List Addr) (as:List (List Lt)) (o3 o4:Option V),σ=[some (.int c),some (.ref p),some (.int count),o3,o4]/\Hn p=some (.lst (rs.map V.ref))/\rs.length=n/\(∀ r ∈ rs,r ≠ p)/\Paired (AltH Hn) rs as/\(∀ x ∈ as,OkLA x)/\Ext Γ.mod H (era Hn p)) (fun _ _ _ _=>trivial) ?_ ?_
  ⟨[],[],none,none,rfl,upd_same,rfl,(fun r hr=>nomatch hr),.nil,(fun x hx=>nomatch hx),ext_D0 hp mp⟩
 ·intro n v σ Hn D' hv pv nx ct _ _
  obtain⟨rs,as,o3,o4,rfl,e1,e2,e3,e4,e5,e6⟩:=pv
  have hlt:n < count.toNat:=by
   have:=(List.getElem?_eq_some_iff.mp hv).1
   simpa using this
  have ev:v=.int (n:Int):=by
   rw[List.getElem?_map,List.getElem?_range hlt]at hv
   exact(Option.some.inj hv).symm
  subst ev
  refine seq ?_
  dsimp only[Sw.wS,Sw.wE,Sw.wT,Sw.wEs,Sw.wTs,Sw.wI,Sw.wP,Sw.vars,L2.start,Sw.r_get0,Sw.r_getS,Sw.r_set0,Sw.r_setS,Sw.r_map0,Sw.r_mapS,Sw.r_app0,Sw.r_appS,Sw.r_len0,Sw.r_lenS,Sw.r_rep0,Sw.r_repS,Sw.r_join,Sw.startC,Nat.reduceAdd,Nat.reduceSub]
  refine⟨⟨g.cm,g.mx.1⟩,?_⟩
  ((first | with_reducible refine Eq.mpr (Sw.v_add ..) ?_ | rw[Sw.v_add]);rw[g.mx.2])
  refine⟨_,_,rfl,by omega,by omega,by decide,fun p2 hp2 mp2=>?_⟩
  (first | with_reducible refine Eq.mpr (Sw.v_sub ..) ?_ | rw[Sw.v_sub])
  obtain⟨j,j0,j1,ej⟩:=three_at (r:=count - 1) (by omega) (by omega)
  refine ix_at (rd_upd (by intro _ _ z;cases z)) ej ?_
  (first | with_reducible refine Eq.mpr (Sw.v_mod ..) ?_ | rw[Sw.v_mod])
  refine⟨by omega,?_⟩
  (first | with_reducible refine Eq.mpr (Sw.v_add ..) ?_ | rw[Sw.v_add])
  have m0:0<=mixZ c (61 + n) % j:=Int.emod_nonneg _ (by omega)
  have m1:mixZ c (61 + n) % j < j:=Int.emod_lt_of_pos _ (by omega)
  generalize hmany:1 + mixZ c (61 + n) % j=many
  have x2:=Ext.upd (M:=Γ.mod) (o:=.lst [V.int 3,V.int 3,V.int 2]) hp2 mp2
  have hb1:=x2.same _ _ e1
  refine seq ?_
  dsimp only[Sw.wS,Sw.wE,Sw.wT,Sw.wEs,Sw.wTs,Sw.wI,Sw.wP,Sw.vars,L2.start,Sw.r_get0,Sw.r_getS,Sw.r_set0,Sw.r_setS,Sw.r_map0,Sw.r_mapS,Sw.r_app0,Sw.r_appS,Sw.r_len0,Sw.r_lenS,Sw.r_rep0,Sw.r_repS,Sw.r_join,Sw.startC,Nat.reduceAdd,Nat.reduceSub]
  have mt:mty Γ.mod .append (.ref p) (upd Hn p2 (.lst [V.int 3,V.int 3,V.int 2]))=true:=by
   show(match rd Γ.mod _ p with | some (.lst _)=>true | _=>false)=true
   rw[rd_l hb1]
  refine⟨mt,g.cm,by omega,by omega,fun D hD mD=>?_⟩
  refine terms g ⟨by omega,by omega⟩ ⟨by omega,by omega⟩ hD mD fun Hf ts okt xf alt=>?_
  (first | with_reducible refine Eq.mpr (Sw.m_append ..) ?_ | rw[Sw.m_append])
  have hpf:Hf p=some (.lst (rs.map V.ref)):=(ext_un xf mD).same _ _ hb1
  rw[hpf]
  dsimp only
  refine⟨by rw[List.length_map,e2];exact Nat.lt_of_lt_of_le (Nat.lt_of_lt_of_le hlt (by omega:count.toNat<=3)) (by decide),?_⟩
  refine seq0 (nx _ _ ⟨rs++[D],as++[ts],some (.int n),some (.int many),rfl,?_,by rw[List.length_append,e2];rfl,?_,pr_get (pr_mem e4 fun r hr y z=>(z.mono (Sub.ofE (x2.trans (ext_un xf mD)))).upd hpf (e3 r hr)) (alt.upd hpf (ne_D xf hb1).symm),?_,?_⟩)
  ·rw[upd_same,List.map_append]
   rfl
  ·intro r hr
   rcases List.mem_append.mp hr with hr | hr
   ·exact e3 r hr
   ·rw[List.mem_singleton.mp hr]
    exact(ne_D xf hb1).symm
  ·intro y hy
   rcases List.mem_append.mp hy with hy | hy
   ·exact e5 y hy
   ·rw[List.mem_singleton.mp hy]
    exact okt
  ·exact ext_D e6 (x2.trans (ext_un xf mD)) mp
 ·intro σ Hn pv
  obtain⟨rs,as,o3,o4,rfl,e1,e2,e3,e4,e5,e6⟩:=pv
  have el:as.length=count.toNat:=by
   rw[<-Paired.length e4,e2]
   simp
  dsimp only[Sw.wSs,Sw.wS,Sw.wE,Sw.wT,Sw.wEs,Sw.wTs,Sw.wI,Sw.wP,Sw.vars,L2.start,Sw.r_get0,Sw.r_getS,Sw.r_set0,Sw.r_setS,Sw.r_map0,Sw.r_mapS,Sw.r_app0,Sw.r_appS,Sw.r_len0,Sw.r_lenS,Sw.r_rep0,Sw.r_repS,Sw.r_join,Sw.startC,Nat.reduceAdd,Nat.reduceSub]
  refine h as Hn p ⟨fun z=>?_,by omega,e5⟩ (ext_un e6 mp) ⟨rs,e1,e4⟩
  rw[z]at el
  simp at el
  omega
end Lw
namespace Lw
set_option genInjectivity false
open PySem PySem.Spec PyProof.Rows L2 Sw Wd Tx Rl
variable {M:Mo}
noncomputable def spTT (M:Mo):Sp:=fun vs H Q _=>∃a x,vs=[.ref a]/\LtH H a x/\x.Ok/\Q (.str (txP x.code)) H
theorem kname_sz {k:Nat} (h:k < 3):decide (kname k=Str.ofString "sizes")=decide (k=2):=by
 have:k=0\/k=1\/k=2:=by omega
 rcases this with rfl | rfl | rfl<;>decide +kernel
theorem mul_len {t:Nat} (h:t < 6):(Txt.mul (Str.ofString "no ") t).length<=15:=by
 rw[len_cps]
 show(Txt.mul (Str.ofString "no ") t).cps.toList.length<=15
 rw[mul_no h,noC_len]
 omega
theorem ok_tt {Γ:Gam} (hc:Γ.cm=true) (hM:Γ.mod=M) (vs:List V) (H:Hp) (Q:VK) (E:XK) (h:spTT M vs H Q E):spOf Γ N__law_term_text 1 b__law_term_text vs H Q E:=by
 subst hM
 obtain⟨a,x,rfl,ha,ok,h⟩:=h
 refine⟨rfl,?_⟩
 unfold b__law_term_text
 refine seq ?_
 show wS (.asgT _ _) Γ _ _ _ _
 unfold wS
 refine⟨hc,?_⟩
 dsimp only[Sw.wS,Sw.wE,Sw.wT,Sw.wEs,Sw.wTs,Sw.wI,Sw.wP,Sw.vars,L2.start,Sw.r_get0,Sw.r_getS,Sw.r_set0,Sw.r_setS,Sw.r_map0,Sw.r_mapS,Sw.r_app0,Sw.r_appS,Sw.r_len0,Sw.r_lenS,Sw.r_rep0,Sw.r_repS,Sw.r_join,Sw.startC,Nat.reduceAdd,Nat.reduceSub]
 rw[rd_t ha]
 dsimp only
 refine⟨rfl,?_⟩
 have hml:=mul_len ok.t
 have no3:(Str.ofString "no ").length=3:=by decide +kernel
 have mulOk: -(2 ^ 63)<=(x.t:Int)/\(x.t:Int) < 2 ^ 63/\(Str.ofString "no ").length * ((x.t:Int)).toNat<=16777216:=by
  have:=ok.t
  rw[no3]
  refine⟨by omega,by omega,by omega⟩
 refine seq ?_
 show wS (.iff _ _ _) Γ _ _ [some (.ref a),some (.int x.t),some (.str (kname x.k)),some (.int x.b)] H
 dsimp only[Sw.wS,Sw.wE,Sw.wT,Sw.wEs,Sw.wTs,Sw.wI,Sw.wP,Sw.vars,L2.start,Sw.r_get0,Sw.r_getS,Sw.r_set0,Sw.r_setS,Sw.r_map0,Sw.r_mapS,Sw.r_app0,Sw.r_appS,Sw.r_len0,Sw.r_lenS,Sw.r_rep0,Sw.r_repS,Sw.r_join,Sw.startC,Nat.reduceAdd,Nat.reduceSub]
 ((first | with_reducible refine Eq.mpr (Sw.v_eqs ..) ?_ | rw[Sw.v_eqs]);rw[kname_sz ok.k])
 refine⟨_,rfl,?_⟩
 by_cases e:x.k=2
 ·(first | with_reducible refine Eq.mpr (if_pos (decide_eq_true e)) ?_ | rw [if_pos (decide_eq_true e)])
  dsimp only[Sw.wSs,Sw.wS,Sw.wE,Sw.wT,Sw.wEs,Sw.wTs,Sw.wI,Sw.wP,Sw.vars,L2.start,Sw.r_get0,Sw.r_getS,Sw.r_set0,Sw.r_setS,Sw.r_map0,Sw.r_mapS,Sw.r_app0,Sw.r_appS,Sw.r_len0,Sw.r_lenS,Sw.r_rep0,Sw.r_repS,Sw.r_join,Sw.startC,Nat.reduceAdd,Nat.reduceSub]
  (first | with_reducible refine Eq.mpr (Sw.v_muls ..) ?_ | rw[Sw.v_muls])
  refine⟨mulOk,?_⟩
  (first | with_reducible refine Eq.mpr (Sw.v_adds ..) ?_ | rw[Sw.v_adds])
  have s6:(Str.ofString "sizes ").length=6:=by decide +kernel
  refine⟨by rw[s6];exact Nat.le_trans (Nat.add_le_add_right hml 6) (by decide),hc,?_⟩
  (first | with_reducible refine Eq.mpr (Sw.b_str ..) ?_ | rw[Sw.b_str])
  have hb:=ok.b
  refine⟨?_,?_⟩
  ·have:((x.b:Int)).natAbs.log2<=98:=Nat.le_trans (Nat.log2_le_self _) (by omega)
   omega
  ·(first | with_reducible refine Eq.mpr (Sw.v_adds ..) ?_ | rw [Sw.v_adds])
   have hw:=(toString_writes (x.b:Int) (by omega) (by omega)).2
   refine⟨?_,?_⟩
   ·rw[len_app,s6]
    exact Nat.le_trans (Nat.add_le_add (Nat.add_le_add_right hml 6) hw) (by decide)
   ·rw[law_sz ok.t]
    have ec:x.code=(x.t,x.b + 2):=by
     unfold Lt.code
     ((first | with_reducible refine Eq.mpr (if_neg (by omega)) ?_ | rw[if_neg (by omega)]);(first | with_reducible refine Eq.mpr (if_neg (by omega)) ?_ | rw[if_neg (by omega)]))
    rw[ec]at h
    exact h
 ·(first | with_reducible refine Eq.mpr (if_neg (by simpa using e)) ?_ | rw [if_neg (by simpa using e)])
  dsimp only[Sw.wSs,Sw.wS,Sw.wE,Sw.wT,Sw.wEs,Sw.wTs,Sw.wI,Sw.wP,Sw.vars,L2.start,Sw.r_get0,Sw.r_getS,Sw.r_set0,Sw.r_setS,Sw.r_map0,Sw.r_mapS,Sw.r_app0,Sw.r_appS,Sw.r_len0,Sw.r_lenS,Sw.r_rep0,Sw.r_repS,Sw.r_join,Sw.startC,Nat.reduceAdd,Nat.reduceSub]
  (first | with_reducible refine Eq.mpr (Sw.v_muls ..) ?_ | rw[Sw.v_muls])
  refine⟨mulOk,?_⟩
  (first | with_reducible refine Eq.mpr (Sw.v_adds ..) ?_ | rw[Sw.v_adds])
  have hk:x.k=0\/x.k=1:=by
   have:=ok.k
   omega
  have kk:kname x.k=plainTx (x.code).2/\(kname x.k).length<=6:=by
   unfold Lt.code
   rcases hk with q | q
   ·rw[q];exact⟨(show kname 0=plainTx 0 from by decide +kernel),by decide +kernel⟩
   ·rw[q];exact⟨(show kname 1=plainTx 1 from by decide +kernel),by decide +kernel⟩
  refine⟨Nat.le_trans (Nat.add_le_add hml kk.2) (by decide),?_⟩
  rw[kk.1,law_pl ok.t]
  exact h
structure L3s (Γ:Gam) (M:Mo):Prop where
 cm:Γ.cm=true
 mod:Γ.mod=M
 tt:Γ.has "_law_term_text" =true/\Γ.fn "_law_term_text" =spTT M
@[reducible] noncomputable def codes (as:List (List Lt)):List (List (Nat × Nat)):=as.map fun ts=>ts.map Lt.code
theorem OkLA.codes {ts:List Lt} (h:OkLA ts):OkA (ts.map Lt.code):=⟨by simpa using h.ne,by rw[List.length_map];exact Nat.le_trans h.len (by decide),fun x hx=>by
 obtain⟨y,hy,rfl⟩:=List.mem_map.mp hx
 exact(h.all y hy).code⟩
noncomputable def spText (M:Mo):Sp:=fun vs H Q _=>∃a as,vs=[.ref a]/\OkLR as/\SomeH H a as/\∀H',Ext M H H'->Q (.str (ruleTx (codes as))) H'
theorem pr_at {α β:Type} {G:α->β->Prop}:∀ {l₁:List α} {l₂:List β} {n:Nat} {a:α},Paired G l₁ l₂->l₁[n]?=some a->∃b,l₂[n]?=some b/\G a b
 | _,_,_,_,.nil,e=>by simp at e
 | _,_,0,_,.cons r _,e=>by simp at e;subst e;exact⟨_,rfl,r⟩
 | _,_,n + 1,_,.cons _ t,e=>by
  obtain⟨b,h1,h2⟩:=pr_at (n:=n) t (by simpa using e)
  exact⟨b,by simpa using h1,h2⟩
theorem refs_inj:∀ {a b:List Addr},a.map V.ref=b.map V.ref->a=b
 | [],[],_=>rfl
 | [],_::_,h=>by simp at h
 | _::_,[],h=>by simp at h
 | x::a,y::b,h=>by
  simp only[List.map_cons,List.cons.injEq,V.ref.injEq]at h
  rw[h.1,refs_inj h.2]
theorem term_texts {Ξ:XS} {Γ:Gam} (g:L3s Γ M) {Hb:Hp} {r D:Addr} {ts:List Lt} (ok:OkLA ts) (alt:AltH Hb r ts) (hD:Hb D=none) {qs:List Addr} (hq:Hb r=some (.lst (qs.map V.ref))) {K:Hp->Prop} {st:Hp->Prop} (hst:∀l,st (upd Hb D (.lst l)))
  (fin:K (upd Hb D (.lst ((ts.map fun x=>txP x.code).map V.str)))):
  compW (wE Γ (.call "_law_term_text" (.cons (.var 0) .nil)) Ξ) (fun _ H Q=>Q true H) [] D st (qs.map V.ref) [] (upd Hb D (.lst [])) K:=by
 obtain rfl:=g.mod
 obtain⟨qs',h1,h2⟩:=alt
 rw[hq]at h1
 have eq':qs'=qs:=by
  have:=HO.lst.inj (Option.some.inj h1)
  exact(refs_inj this).symm
 subst eq'
 have len:=Paired.length h2
 refine comp_inv (fun n acc Hm=>Hm=upd Hb D (.lst acc)/\acc=((ts.take n).map fun x=>txP x.code).map V.str/\n<=ts.length) (fun n acc Hm p=>by rw[p.1];exact hst _) (fun n acc Hm p=>⟨by rw[p.1];exact upd_same,by rw[p.2.1];simp;exact Nat.min_eq_left p.2.2⟩) (by rw[List.length_map,len];exact Nat.le_trans ok.len (by decide)) ?_ ?_ ⟨rfl,rfl,Nat.zero_le _⟩
 ·intro n v acc Hm Q hv p hQ
  obtain⟨rfl,e2,e3⟩:=p
  obtain⟨q,eq1,rfl⟩:∃q,qs'[n]?=some q/\V.ref q=v:=by
   rw[List.getElem?_map]at hv
   exact Option.map_eq_some_iff.mp hv
  obtain⟨x,ex,hx⟩:=pr_at h2 eq1
  show(Γ.cm=true/\Γ.has "_law_term_text" =true)/\Γ.fn "_law_term_text" [.ref q] _ Q _
  rw[g.tt.2]
  refine⟨⟨g.cm,g.tt.1⟩,q,x,rfl,?_,ok.all x (List.mem_of_getElem? ex),hQ _ _ upd_same ⟨by rw[upd_upd],?_,?_⟩⟩
  ·unfold LtH at hx ⊢
   rw[upd_ne (ne_of_none hx hD)]
   exact hx
  ·rw[e2,List.take_succ,ex]
   simp
  ·have:=(List.getElem?_eq_some_iff.mp ex).1
   omega
 ·intro acc Hm p
  obtain⟨rfl,e2,e3⟩:=p
  rw[List.length_map,len,List.take_of_length_le (Nat.le_refl _)]at e2
  rw[e2]
  exact fin
theorem ok_text {Γ:Gam} (g:L3s Γ M) (vs:List V) (H:Hp) (Q:VK) (E:XK) (h:spText M vs H Q E):spOf Γ N__law_rule_text 1 b__law_rule_text vs H Q E:=by
 obtain⟨a,as,rfl,ok,⟨rs,h1,h2⟩,h⟩:=h
 refine⟨rfl,?_⟩
 have gm:=g.mod
 obtain rfl:=gm
 unfold b__law_rule_text
 dsimp only[Sw.wSs,Sw.wS,Sw.wE,Sw.wT,Sw.wEs,Sw.wTs,Sw.wI,Sw.wP,Sw.vars,L2.start,Sw.r_get0,Sw.r_getS,Sw.r_set0,Sw.r_setS,Sw.r_map0,Sw.r_mapS,Sw.r_app0,Sw.r_appS,Sw.r_len0,Sw.r_lenS,Sw.r_rep0,Sw.r_repS,Sw.r_join,Sw.startC,Nat.reduceAdd,Nat.reduceSub]
 refine⟨rfl,g.cm,?_⟩
 show iterV Γ.mod (.ref a) _ _
 unfold iterV
 dsimp only
 rw[rd_l h1]
 dsimp only
 intro D hD mD
 have len:=Paired.length h2
 refine comp_inv (fun n acc Hm=>Hm D=some (.lst acc)/\acc=((as.take n).map fun ts=>altTx (ts.map Lt.code)).map V.str/\n<=as.length/\Ext Γ.mod H (era Hm D)) (fun n acc Hm p=>?_) (fun n acc Hm p=>⟨p.1,by rw[p.2.1];simp;exact Nat.min_eq_left p.2.2.1⟩) (by rw[List.length_map,len];exact Nat.le_trans ok.len (by decide)) ?_ ?_ ⟨upd_same,rfl,Nat.zero_le _,ext_D0 hD mD⟩
 ·exact rd_l ((ext_un p.2.2.2 mD).same _ _ h1)
 ·intro n v acc Hm Q1 hv p hQ
  obtain⟨e1,e2,e3,e4⟩:=p
  obtain⟨r,er,rfl⟩:∃r,rs[n]?=some r/\V.ref r=v:=by
   rw[List.getElem?_map]at hv
   exact Option.map_eq_some_iff.mp hv
  obtain⟨ts,ets,alt⟩:=pr_at h2 er
  have alt':=alt.mono (Sub.ofE (ext_un e4 mD))
  have okt:=ok.all ts (List.mem_of_getElem? ets)
  obtain⟨qs,hq,_⟩:=id alt'
  dsimp only[Sw.wSs,Sw.wS,Sw.wE,Sw.wT,Sw.wEs,Sw.wTs,Sw.wI,Sw.wP,Sw.vars,L2.start,Sw.r_get0,Sw.r_getS,Sw.r_set0,Sw.r_setS,Sw.r_map0,Sw.r_mapS,Sw.r_app0,Sw.r_appS,Sw.r_len0,Sw.r_lenS,Sw.r_rep0,Sw.r_repS,Sw.r_join,Sw.startC,Nat.reduceAdd,Nat.reduceSub]
  refine⟨rfl,g.cm,?_⟩
  rw[rd_l hq]
  dsimp only
  intro D2 hD2 mD2
  have x2:∀l,Ext Γ.mod Hm (upd Hm D2 (.lst l)):=fun l=>Ext.upd hD2 mD2
  refine term_texts g okt alt' hD2 hq (fun l=>rd_l ((x2 l).same _ _ hq)) ?_
  refine join_at (ts:=ts.map fun x=>txP x.code) (rd_upd (by intro _ _ z;cases z)) (joinOk _ _ 40 (fun x hx=>?_) ?_) ?_
  ·obtain⟨y,hy,rfl⟩:=List.mem_map.mp hx
   have:=(okt.all y hy).code
   exact tx_le this.1 this.2
  ·rw[List.length_map,show(Str.ofString " and ").length=5 from by decide +kernel]
   have:=okt.len
   omega
  ·refine hQ _ _ ((x2 _).same _ _ e1) ⟨upd_same,?_,?_,ext_D e4 (x2 _) mD⟩
   ·rw[e2,List.take_succ,ets]
    have et:Txt.join (Str.ofString " and ") (ts.map fun x=>txP x.code)=altTx (ts.map Lt.code):=by
     unfold altTx
     rw[List.map_map]
     rfl
    rw[et]
    simp
   ·have:=(List.getElem?_eq_some_iff.mp ets).1
    omega
 ·intro acc Hm p
  obtain⟨e1,e2,e3,e4⟩:=p
  rw[List.length_map,len,List.take_of_length_le (Nat.le_refl _)]at e2
  rw[e2]at e1
  refine join_at (ts:=as.map fun ts=>altTx (ts.map Lt.code)) (rd_l e1) (joinOk _ _ 450 (fun x hx=>?_) ?_) ?_
  ·obtain⟨y,hy,rfl⟩:=List.mem_map.mp hx
   exact alt_len (ok.all y hy).codes
  ·rw[List.length_map,show(Str.ofString " or ").length=4 from by decide +kernel]
   have:=ok.len
   omega
  ·have et:Txt.join (Str.ofString " or ") (as.map fun ts=>altTx (ts.map Lt.code))=ruleTx (codes as):=by
    unfold ruleTx
    rw[List.map_map]
    rfl
   rw[et]
   exact h Hm (ext_un e4 mD)
end Lw
namespace Sw
set_option genInjectivity false
open PySem PySem.Spec PyProof.Rows L2
theorem comp_filtD {te:TE} {tt:TT} {fvs:L2.St} {D:Addr} {stay:Hp->Prop} {H0:Hp} {k:Hp->Prop} (f:V->V) (p:V->Bool):∀ (xs acc:List V),(∀ v ∈ xs,∀l Q,Q (p v) (upd H0 D (.lst l))->tt (some v::fvs) (upd H0 D (.lst l)) Q)->(∀ v ∈ xs,∀l Q,Q (f v) (upd H0 D (.lst l))->te (some v::fvs) (upd H0 D (.lst l)) Q)->
  (∀ l,stay (upd H0 D (.lst l)))->acc.length + xs.length<=sizeLine->k (upd H0 D (.lst (acc++(xs.filter p).map f)))->compW te tt fvs D stay xs acc (upd H0 D (.lst acc)) k:=by
 intro xs
 induction xs with
 | nil=>
  intro acc h0 h1 h2 h3 h4
  exact⟨h2 _,upd_same,by simpa using h4⟩
 | cons v r ih=>
  intro acc h0 h1 h2 h3 h4
  refine⟨h2 _,h0 v List.mem_cons_self _ _ ?_⟩
  cases q:p v with
  | true=>
   (first | with_reducible refine Eq.mpr (if_pos rfl) ?_ | rw[if_pos rfl])
   refine h1 v List.mem_cons_self _ _ ⟨upd_same,by rw[List.length_cons]at h3;omega,?_⟩
   rw[upd_upd]
   refine ih (acc++[f v]) (fun v hv=>h0 v (List.mem_cons_of_mem _ hv)) (fun v hv=>h1 v (List.mem_cons_of_mem _ hv)) h2 (by rw[List.length_append];simp at h3 ⊢;omega) ?_
   rw[List.filter_cons_of_pos q]at h4
   simpa using h4
  | false=>
   (first | with_reducible refine Eq.mpr (if_neg (by decide)) ?_ | rw[if_neg (by decide)])
   refine ih acc (fun v hv=>h0 v (List.mem_cons_of_mem _ hv)) (fun v hv=>h1 v (List.mem_cons_of_mem _ hv)) h2 (by simp at h3 ⊢;omega) ?_
   rw[List.filter_cons_of_neg (by rw[q];decide)]at h4
   exact h4
end Sw
namespace Lw
set_option genInjectivity false
open PySem PySem.Spec PyProof.Rows L2 Sw Wd Tx Rl
variable {M:Mo}
noncomputable def pl (x:Lt):Pl:=plOf x.code.2
noncomputable def tm (x:Lt):Rl.Tm:=tmOf x.code
noncomputable def spPlain (M:Mo):Sp:=fun vs H Q _=>∃x a b s t,vs=[.str (kname (Lt.k x)),.int (Lt.b x),.ref a,.ref b]/\Lt.Ok x/\SdAt M H a s/\SdAt M H b t/\s.Ok/\t.Ok/\∀H',Ext M H H'->Q (.bl ((pl x).phi s t)) H'
noncomputable def pairsL:List V:=[.str "O O",.str "O A",.str "O B",.str "O AB",.str "A A",.str "A AB",.str "B B",.str "B AB",.str "AB AB"]
theorem groups_same {g t:Str} (hg:isGroup g=true) (ht:isGroup t=true):inV (.str (g++Str.ofString " " ++t)) pairsL=grF g t/\(g++Str.ofString " ").length<=3/\t.length<=2/\g.length<=2:=by
 rcases group_cases hg with rfl | rfl | rfl | rfl<;>rcases group_cases ht with rfl | rfl | rfl | rfl<;>decide +kernel
theorem data_s {H:Hp} {p:Addr} {ws:List Str} (h:rd M H p=some (.lst (ws.map V.str))):data M H 1 (.ref p)=some (.list (ws.map PyData.str)):=by
 show(match rd M H p with | some (.lst xs)=>(allM (data M H 0) xs).map PyData.list | some (.tup xs)=>(allM (data M H 0) xs).map PyData.tuple | _=>none)=_
 rw[h]
 dsimp only
 have e:allM (data M H 0) (ws.map V.str)=some (ws.map PyData.str):=by
  clear h
  induction ws with
  | nil=>rfl
  | cons w r ih=>
   simp only[List.map_cons,allM]
   rw[ih]
   rfl
 rw[e]
 rfl
theorem eq_nil (ws:List PyData):PyData.eqv (.list ws) (.list [])=ws.isEmpty:=by
 cases ws with
 | nil=>simp[PyData.eqv,PyData.eqvAll]
 | cons a r=>simp[PyData.eqv,PyData.eqvAll]
theorem eq_refs {H:Hp} {Q:VK} {a b:Addr}:cmpV M .Eq (.ref a) (.ref b) H Q=(match data M H 1 (.ref a),data M H 1 (.ref b)with | some d,some e=>Q (.bl (PyData.eqv d e)) H | _,_=>False):=rfl
theorem marks_same (a b:Str):(((cps a).filter fun c=>decide (c ∈ cps b)).map fun c=>(⟨#[c]⟩:Str)).isEmpty=mkF a b:=by
 unfold mkF
 induction cps a with
 | nil=>rfl
 | cons c r ih=>
  by_cases h:c ∈ cps b
  ·rw[List.filter_cons_of_pos (by simpa using h),List.any_cons,decide_eq_true h]
   rfl
  ·rw[List.filter_cons_of_neg (by simpa using h),List.any_cons,decide_eq_false h,Bool.false_or]
   exact ih
theorem sizes_same (s t:Sd) (n:Int):(decide (s.n - t.n<=n) && decide (t.n - s.n<=n))=decide (gapZ s t<=n):=by
 unfold gapZ
 rw[Bool.eq_iff_iff]
 simp only[Bool.and_eq_true,decide_eq_true_eq]
 split<;>omega
theorem kn_g {k:Nat} (h:k < 3):decide (kname k=Str.ofString "groups")=decide (k=0):=by
 have:k=0\/k=1\/k=2:=by omega
 rcases this with rfl | rfl | rfl<;>decide +kernel
theorem kn_m {k:Nat} (h:k < 3):decide (kname k=Str.ofString "marks")=decide (k=1):=by
 have:k=0\/k=1\/k=2:=by omega
 rcases this with rfl | rfl | rfl<;>decide +kernel
theorem ok_plain {Γ:Gam} (hc:Γ.cm=true) (hM:Γ.mod=M) (vs:List V) (H:Hp) (Q:VK) (E:XK) (h:spPlain M vs H Q E):spOf Γ N__law_plain 4 b__law_plain vs H Q E:=by
 subst hM
 obtain⟨x,a,b,s,t,rfl,ok,ha,hb,os,ot,h⟩:=h
 refine⟨rfl,?_⟩
 unfold b__law_plain
 refine seq ?_
 dsimp only[Sw.wS,Sw.wE,Sw.wT,Sw.wEs,Sw.wTs,Sw.wI,Sw.wP,Sw.vars,L2.start,Sw.r_get0,Sw.r_getS,Sw.r_set0,Sw.r_setS,Sw.r_map0,Sw.r_mapS,Sw.r_app0,Sw.r_appS,Sw.r_len0,Sw.r_lenS,Sw.r_rep0,Sw.r_repS,Sw.r_join,Sw.startC,Nat.reduceAdd,Nat.reduceSub]
 ((first | with_reducible refine Eq.mpr (Sw.v_eqs ..) ?_ | rw[Sw.v_eqs]);rw[kn_g ok.k])
 refine⟨_,rfl,?_⟩
 by_cases e0:x.k=0
 ·(first | with_reducible refine Eq.mpr (if_pos (decide_eq_true e0)) ?_ | rw[if_pos (decide_eq_true e0)])
  have ep:pl x=.gr:=by unfold pl Lt.code;(first | with_reducible refine Eq.mpr (if_pos e0) ?_ | rw[if_pos e0]);rfl
  rw[ep]at h
  refine seq ?_
  dsimp only[Sw.wS,Sw.wE,Sw.wT,Sw.wEs,Sw.wTs,Sw.wI,Sw.wP,Sw.vars,L2.start,Sw.r_get0,Sw.r_getS,Sw.r_set0,Sw.r_setS,Sw.r_map0,Sw.r_mapS,Sw.r_app0,Sw.r_appS,Sw.r_len0,Sw.r_lenS,Sw.r_rep0,Sw.r_repS,Sw.r_join,Sw.startC,Nat.reduceAdd,Nat.reduceSub]
  refine⟨by decide,fun p hp mp=>?_⟩
  have x1:=Ext.upd (M:=Γ.mod) (o:=.lst pairsL) hp mp
  obtain⟨f1,f2,f3,f4⟩:=groups_same os.g ot.g
  dsimp only[Sw.wSs,Sw.wS,Sw.wE,Sw.wT,Sw.wEs,Sw.wTs,Sw.wI,Sw.wP,Sw.vars,L2.start,Sw.r_get0,Sw.r_getS,Sw.r_set0,Sw.r_setS,Sw.r_map0,Sw.r_mapS,Sw.r_app0,Sw.r_appS,Sw.r_len0,Sw.r_lenS,Sw.r_rep0,Sw.r_repS,Sw.r_join,Sw.startC,Nat.reduceAdd,Nat.reduceSub]
  refine(ha.ext x1).i0 ?_
  (first | with_reducible refine Eq.mpr (Sw.v_adds ..) ?_ | rw[Sw.v_adds])
  refine⟨Nat.le_trans (Nat.add_le_add f4 (show(Str.ofString " ").length<=1 from by decide +kernel)) (by decide),(hb.ext x1).i0 ?_⟩
  (first | with_reducible refine Eq.mpr (Sw.v_adds ..) ?_ | rw[Sw.v_adds])
  refine⟨Nat.le_trans (Nat.add_le_add f2 f3) (by decide),?_⟩
  show(match rd Γ.mod (upd H p (.lst pairsL)) p with | some (.lst xs)=>flatV _=true/\xs.all flatV=true/\Q (.bl (inV _ xs)) _ | some (.tup xs)=>_ | _=>False)
  rw[rd_upd (by intro _ _ z;cases z)]
  refine⟨rfl,by decide +kernel,?_⟩
  rw[f1]
  exact h _ x1
 (first | with_reducible refine Eq.mpr (if_neg (by simpa using e0)) ?_ | rw[if_neg (by simpa using e0)])
 refine seq ?_
 dsimp only[Sw.wS,Sw.wE,Sw.wT,Sw.wEs,Sw.wTs,Sw.wI,Sw.wP,Sw.vars,L2.start,Sw.r_get0,Sw.r_getS,Sw.r_set0,Sw.r_setS,Sw.r_map0,Sw.r_mapS,Sw.r_app0,Sw.r_appS,Sw.r_len0,Sw.r_lenS,Sw.r_rep0,Sw.r_repS,Sw.r_join,Sw.startC,Nat.reduceAdd,Nat.reduceSub]
 ((first | with_reducible refine Eq.mpr (Sw.v_eqs ..) ?_ | rw[Sw.v_eqs]);rw[kn_m ok.k])
 refine⟨_,rfl,?_⟩
 by_cases e1:x.k=1
 ·(first | with_reducible refine Eq.mpr (if_pos (decide_eq_true e1)) ?_ | rw [if_pos (decide_eq_true e1)])
  have ep:pl x=.mk:=by unfold pl Lt.code;((first | with_reducible refine Eq.mpr (if_neg e0) ?_ | rw[if_neg e0]);(first | with_reducible refine Eq.mpr (if_pos e1) ?_ | rw[if_pos e1]));rfl
  rw[ep]at h
  dsimp only[Sw.wSs,Sw.wS,Sw.wE,Sw.wT,Sw.wEs,Sw.wTs,Sw.wI,Sw.wP,Sw.vars,L2.start,Sw.r_get0,Sw.r_getS,Sw.r_set0,Sw.r_setS,Sw.r_map0,Sw.r_mapS,Sw.r_app0,Sw.r_appS,Sw.r_len0,Sw.r_lenS,Sw.r_rep0,Sw.r_repS,Sw.r_join,Sw.startC,Nat.reduceAdd,Nat.reduceSub]
  refine⟨hc,ha.i2 ⟨small26 os.m,fun D hD mD=>?_⟩⟩
  have x1:∀l,Ext Γ.mod H (upd H D (.lst l)):=fun l=>Ext.upd hD mD
  refine comp_filtD (fun v=>v) (fun v=>match v with | .str y=>!(Builtin.Str.occurrences t.m y 0 t.m.length 1).isEmpty | _=>false) _ [] ?_ ?_ (fun _=>trivial) (by simpa[len_cps]using small26 os.m) ?_
  ·intro v hv l Q1 q
   obtain⟨c,hc',rfl⟩:=List.mem_map.mp hv
   refine(hb.ext (x1 l)).i2 ?_
   (first | with_reducible refine Eq.mpr (Sw.v_ins ..) ?_ | rw[Sw.v_ins])
   exact⟨_,rfl,q⟩
  ·intro v hv l Q1 q
   exact q
  ·have e:List.map (fun v=>v) (List.filter (fun v=>match v with | V.str y=>!(Builtin.Str.occurrences t.m y 0 t.m.length 1).isEmpty | _=>false) (List.map (fun c=>V.str ⟨#[c]⟩) (cps s.m)))=(((cps s.m).filter fun c=>decide (c ∈ cps t.m)).map fun c=>(⟨#[c]⟩:Str)).map V.str:=by
    rw[List.map_id',List.filter_map,List.map_map]
    refine congrArg _ (List.filter_congr fun c _=>?_)
    show(!(Builtin.Str.occurrences t.m ⟨#[c]⟩ 0 t.m.length 1).isEmpty)=_
    rw[PySem.StrLaws.found_one]
   rw[List.nil_append,e]
   refine⟨by decide,fun p hp mp=>?_⟩
   have x2:=(x1 ((((cps s.m).filter fun c=>decide (c ∈ cps t.m)).map fun c=>(⟨#[c]⟩:Str)).map V.str)).trans (Ext.upd (M:=Γ.mod) (o:=.lst []) hp mp)
   rw[eq_refs]
   have d1:=data_s (M:=Γ.mod) (ws:=((cps s.m).filter fun c=>decide (c ∈ cps t.m)).map fun c=>(⟨#[c]⟩:Str)) (H:=upd (upd H D (.lst ((((cps s.m).filter fun c=>decide (c ∈ cps t.m)).map fun c=>(⟨#[c]⟩:Str)).map V.str))) p (.lst [])) (p:=D) (rd_l (by rw[upd_ne (ne_of_none upd_same hp)];exact upd_same))
   have d2:=data_s (M:=Γ.mod) (ws:=[]) (H:=upd (upd H D (.lst ((((cps s.m).filter fun c=>decide (c ∈ cps t.m)).map fun c=>(⟨#[c]⟩:Str)).map V.str))) p (.lst [])) (p:=p) (rd_l upd_same)
   rw[d1,d2]
   show Q (.bl (PyData.eqv (.list _) (.list []))) _
   rw[eq_nil]
   have e3:(List.map PyData.str (((cps s.m).filter fun c=>decide (c ∈ cps t.m)).map fun c=>(⟨#[c]⟩:Str))).isEmpty=mkF s.m t.m:=by
    rw[<-marks_same s.m t.m]
    cases ((cps s.m).filter fun c=>decide (c ∈ cps t.m))<;>rfl
   rw[e3]
   exact h _ x2
 ·(first | with_reducible refine Eq.mpr (if_neg (by simpa using e1)) ?_ | rw [if_neg (by simpa using e1)])
  have ep:pl x=.sz x.b:=by
   unfold pl Lt.code
   ((first | with_reducible refine Eq.mpr (if_neg e0) ?_ | rw[if_neg e0]);(first | with_reducible refine Eq.mpr (if_neg e1) ?_ | rw[if_neg e1]))
   show plOf (x.b + 2)=_
   unfold plOf
   ((first | with_reducible refine Eq.mpr (if_neg (by omega)) ?_ | rw[if_neg (by omega)]);(first | with_reducible refine Eq.mpr (if_neg (by omega)) ?_ | rw[if_neg (by omega)]))
   rfl
  rw[ep]at h
  dsimp only[Sw.wSs,Sw.wS,Sw.wE,Sw.wT,Sw.wEs,Sw.wTs,Sw.wI,Sw.wP,Sw.vars,L2.start,Sw.r_get0,Sw.r_getS,Sw.r_set0,Sw.r_setS,Sw.r_map0,Sw.r_mapS,Sw.r_app0,Sw.r_appS,Sw.r_len0,Sw.r_lenS,Sw.r_rep0,Sw.r_repS,Sw.r_join,Sw.startC,Nat.reduceAdd,Nat.reduceSub]
  refine ha.i1 (hb.i1 ?_)
  ((first | with_reducible refine Eq.mpr (Sw.v_sub ..) ?_ | rw[Sw.v_sub]);(first | with_reducible refine Eq.mpr (Sw.v_le ..) ?_ | rw[Sw.v_le]);(first | with_reducible refine Eq.mpr (Sw.t_bl ..) ?_ | rw[Sw.t_bl]))
  have hs:=sizes_same s t x.b
  have fin:Q (.bl (decide (gapZ s t<=(x.b:Int)))) H:=h H Ext.refl
  by_cases q:s.n - t.n<=(x.b:Int)
  ·(first | with_reducible refine Eq.mpr (if_pos (decide_eq_true q)) ?_ | rw[if_pos (decide_eq_true q)])
   refine hb.i1 (ha.i1 ?_)
   ((first | with_reducible refine Eq.mpr (Sw.v_sub ..) ?_ | rw[Sw.v_sub]);(first | with_reducible refine Eq.mpr (Sw.v_le ..) ?_ | rw[Sw.v_le]))
   rw[<-hs,decide_eq_true q,Bool.true_and]at fin
   exact fin
  ·(first | with_reducible refine Eq.mpr (if_neg (by simpa using q)) ?_ | rw[if_neg (by simpa using q)])
   rw[<-hs]at fin
   rw[decide_eq_false q]at fin ⊢
   exact fin
structure L4s (Γ:Gam) (M:Mo):Prop where
 cm:Γ.cm=true
 mod:Γ.mod=M
 pl:Γ.has "_law_plain" =true/\Γ.fn "_law_plain" =spPlain M
noncomputable def tms (as:List (List Lt)):List (List Rl.Tm):=as.map fun ts=>ts.map tm
noncomputable def AllOk (as:List (List Lt)):Prop:=∀ts ∈ as,∀x ∈ ts,x.Ok
noncomputable def spLets (M:Mo):Sp:=fun vs H Q _=>∃a as g b s t,vs=[.ref a,.ref g,.ref b]/\AllOk as/\SomeH H a as/\SdAt M H g s/\SdAt M H b t/\s.Ok/\t.Ok/\∀H',Ext M H H'->Q (.bl (Ruphi (tms as) s t)) H'
theorem fails (x:Lt) (s t:Sd):decide (((pl x).phi s t)=decide ((x.t:Int) % 2=1))=!((tm x).phi s t):=by
 have e:(tm x).phi s t=if x.t % 2=0 then(pl x).phi s t else !(pl x).phi s t:=rfl
 rw[e]
 by_cases q:x.t % 2=0
 ·((first | with_reducible refine Eq.mpr (if_pos q) ?_ | rw[if_pos q]);rw[decide_eq_false (by omega:¬ (x.t:Int) % 2=1)])
  cases (pl x).phi s t<;>rfl
 ·((first | with_reducible refine Eq.mpr (if_neg q) ?_ | rw[if_neg q]);rw[decide_eq_true (by omega:(x.t:Int) % 2=1)])
  cases (pl x).phi s t<;>rfl
end Lw
namespace Sw
set_option genInjectivity false
open PySem PySem.Spec PyProof.Rows L2
theorem forT_inv {M:Mo} {is:List Nat} {tb:TS} {stay:Hp->Prop} {D:Ends} {xs:List V} (Pv:Nat->L2.St->Hp->Prop) (st:∀n σ H,Pv n σ H->stay H)
  (step:∀n v σ H (D':Ends),xs[n]?=some v->Pv n σ H->(∀ σ' H',Pv (n + 1) σ' H'->D'.nx σ' H')->(∀ σ' H',Pv (n + 1) σ' H'->D'.ct σ' H')->D'.rt=D.rt->∃p ys,v=.ref p/\rd M H p=some (.tup ys)/\ys.length=is.length/\tb D' (setAll σ is ys) H)
  (fin:∀σ H,Pv xs.length σ H->D.nx σ H) {σ:L2.St} {H:Hp} (h0:Pv 0 σ H):forWT M is tb stay xs D σ H:=by
 have go:∀ (r:List V) (n:Nat),xs.drop n=r->n<=xs.length->∀σ H,Pv n σ H->forWT M is tb stay r D σ H:=by
  intro r
  induction r with
  | nil=>
   intro n e hn σ H p
   have:xs.length<=n:=by simpa using e
   have hn':n=xs.length:=by omega
   subst hn'
   exact⟨st _ σ H p,fin σ H p⟩
  | cons v r ih=>
   intro n e hn σ H p
   have hlt:n < xs.length:=by
    have:=congrArg List.length e
    simp at this
    omega
   have hv:xs[n]?=some v:=by
    have:=congrArg (fun l=>l[0]?) e
    simpa using this
   have hr:xs.drop (n + 1)=r:=by
    have:=congrArg List.tail e
    simpa[List.tail_drop]using this
   obtain⟨q,ys,rfl,h1,h2,h3⟩:=step n v σ H {D with nx:=forWT M is tb stay r D,ct:=forWT M is tb stay r D,bk:=D.nx} hv p (fun σ' H' q=>ih (n + 1) hr hlt σ' H' q) (fun σ' H' q=>ih (n + 1) hr hlt σ' H' q) rfl
   refine⟨st _ σ H p,?_⟩
   show(match rd M H q with | some (.tup xs)=>xs.length=is.length/\tb _ (setAll σ is xs) H | _=>False)
   rw[h1]
   exact⟨h2,h3⟩
 exact go xs 0 (by simp) (Nat.zero_le _) σ H h0
end Sw
namespace Lw
set_option genInjectivity false
open PySem PySem.Spec PyProof.Rows L2 Sw Wd Tx Rl
variable {M:Mo}
theorem tk_s {α:Type} {l:List α} {n:Nat} {x:α} (h:l[n]?=some x):l.take (n + 1)=l.take n++[x]:=by rw[List.take_succ,h];rfl
theorem ok_lets {Γ:Gam} (g:L4s Γ M) (vs:List V) (H:Hp) (Q:VK) (E:XK) (h:spLets M vs H Q E):spOf Γ N__law_lets 3 b__law_lets vs H Q E:=by
 obtain⟨a,as,gv,b,s,t,rfl,ok,⟨rs,h1,h2⟩,ha,hb,os,ot,h⟩:=h
 refine⟨rfl,?_⟩
 have gm:=g.mod
 obtain rfl:=gm
 unfold b__law_lets
 have len:=Paired.length h2
 refine seq ?_
 show wS (.fr _ _ _) Γ _ _ _ _
 unfold wS
 refine⟨g.cm,?_⟩
 dsimp only[Sw.wS,Sw.wE,Sw.wT,Sw.wEs,Sw.wTs,Sw.wI,Sw.wP,Sw.vars,L2.start,Sw.r_get0,Sw.r_getS,Sw.r_set0,Sw.r_setS,Sw.r_map0,Sw.r_mapS,Sw.r_app0,Sw.r_appS,Sw.r_len0,Sw.r_lenS,Sw.r_rep0,Sw.r_repS,Sw.r_join,Sw.startC,Nat.reduceAdd,Nat.reduceSub]
 show iterV Γ.mod (.ref a) _ _
 unfold iterV
 dsimp only
 rw[rd_l h1]
 dsimp only
 refine for_inv (fun n σ Hn=>∃o3 o4 o5 o6 o7,σ=[some (.ref a),some (.ref gv),some (.ref b),o3,o4,o5,o6,o7]/\Ext Γ.mod H Hn/\∀ts ∈ as.take n,Alphi (ts.map tm) s t=false) (fun n σ Hn p=>?_) ?_ ?_ ⟨none,none,none,none,none,rfl,Ext.refl,fun x hx=>nomatch hx⟩
 ·obtain⟨_,_,_,_,_,_,x,_⟩:=p
  exact rd_l (x.same _ _ h1)
 ·intro n v σ Hn D' hv pv nx ct rt bk
  obtain⟨o3,o4,o5,o6,o7,rfl,x1,no⟩:=pv
  obtain⟨r,er,rfl⟩:∃r,rs[n]?=some r/\V.ref r=v:=by
   rw[List.getElem?_map]at hv
   exact Option.map_eq_some_iff.mp hv
  obtain⟨ts,ets,alt⟩:=pr_at h2 er
  obtain⟨qs,hq,hts⟩:=alt.mono (Sub.ofE x1)
  have okt:=ok ts (List.mem_of_getElem? ets)
  have lt:=Paired.length hts
  refine seq ?_
  dsimp only[Sw.wS,Sw.wE,Sw.wT,Sw.wEs,Sw.wTs,Sw.wI,Sw.wP,Sw.vars,L2.start,Sw.r_get0,Sw.r_getS,Sw.r_set0,Sw.r_setS,Sw.r_map0,Sw.r_mapS,Sw.r_app0,Sw.r_appS,Sw.r_len0,Sw.r_lenS,Sw.r_rep0,Sw.r_repS,Sw.r_join,Sw.startC,Nat.reduceAdd,Nat.reduceSub]
  refine seq ?_
  show wS (.frT _ _ _) Γ _ _ _ _
  unfold wS
  refine⟨g.cm,?_⟩
  dsimp only[Sw.wS,Sw.wE,Sw.wT,Sw.wEs,Sw.wTs,Sw.wI,Sw.wP,Sw.vars,L2.start,Sw.r_get0,Sw.r_getS,Sw.r_set0,Sw.r_setS,Sw.r_map0,Sw.r_mapS,Sw.r_app0,Sw.r_appS,Sw.r_len0,Sw.r_lenS,Sw.r_rep0,Sw.r_repS,Sw.r_join,Sw.startC,Nat.reduceAdd,Nat.reduceSub]
  show iterV Γ.mod (.ref r) _ _
  unfold iterV
  dsimp only
  rw[rd_l hq]
  dsimp only
  refine forT_inv (fun m σ Hm=>∃o5 o6 o7,σ=[some (.ref a),some (.ref gv),some (.ref b),some (.ref r),some (.bl (Alphi ((ts.take m).map tm) s t)),o5,o6,o7]/\Ext Γ.mod Hn Hm) (fun m σ Hm p=>?_) ?_ ?_ ⟨o5,o6,o7,rfl,Ext.refl⟩
  ·obtain⟨_,_,_,_,x⟩:=p
   exact rd_l (x.same _ _ hq)
  ·intro m v σ Hm D2 hv2 pv2 nx2 ct2 rt2
   obtain⟨o5,o6,o7,rfl,x2⟩:=pv2
   obtain⟨q,eq1,rfl⟩:∃q,qs[m]?=some q/\V.ref q=v:=by
    rw[List.getElem?_map]at hv2
    exact Option.map_eq_some_iff.mp hv2
   obtain⟨x,ex,hx⟩:=pr_at hts eq1
   refine⟨q,x.vs,rfl,rd_t (x2.same _ _ hx),rfl,?_⟩
   show wSs _ Γ X0 D2 [some (.ref a),some (.ref gv),some (.ref b),some (.ref r),some (.bl (Alphi ((ts.take m).map tm) s t)),some (.int x.t),some (.str (kname x.k)),some (.int x.b)] Hm
   have xx:=x1.trans x2
   have e3:Alphi ((ts.take (m + 1)).map tm) s t=(Alphi ((ts.take m).map tm) s t && (tm x).phi s t):=by
    rw[tk_s ex]
    unfold Alphi
    simp
   refine seq ?_
   dsimp only[Sw.wS,Sw.wE,Sw.wT,Sw.wEs,Sw.wTs,Sw.wI,Sw.wP,Sw.vars,L2.start,Sw.r_get0,Sw.r_getS,Sw.r_set0,Sw.r_setS,Sw.r_map0,Sw.r_mapS,Sw.r_app0,Sw.r_appS,Sw.r_len0,Sw.r_lenS,Sw.r_rep0,Sw.r_repS,Sw.r_join,Sw.startC,Nat.reduceAdd,Nat.reduceSub]
   refine⟨⟨g.cm,g.pl.1⟩,?_⟩
   try dsimp only
   rw[g.pl.2]
   refine⟨x,gv,b,s,t,rfl,okt x (List.mem_of_getElem? ex),ha.ext xx,hb.ext xx,os,ot,fun H3 x3=>?_⟩
   try dsimp only
   (first | with_reducible refine Eq.mpr (Sw.v_mod ..) ?_ | rw[Sw.v_mod])
   refine⟨by decide,?_⟩
   try dsimp only
   ((first | with_reducible refine Eq.mpr (Sw.v_eqi ..) ?_ | rw[Sw.v_eqi]);(first | with_reducible refine Eq.mpr (Sw.v_eqb ..) ?_ | rw[Sw.v_eqb]);rw[fails])
   refine⟨_,rfl,?_⟩
   cases q1:(tm x).phi s t with
   | true=>
    (first | with_reducible refine Eq.mpr (if_neg (by decide)) ?_ | rw[if_neg (by decide)])
    refine seq0 ?_
    refine seq0 (Γ:=Γ) (Ξ:=X0) (D:=D2) ?_
    refine nx2 _ _ ⟨some (.int x.t),some (.str (kname x.k)),some (.int x.b),?_,x2.trans x3⟩
    rw[e3,q1,Bool.and_true]
   | false=>
    (first | with_reducible refine Eq.mpr (if_pos (by decide)) ?_ | rw[if_pos (by decide)])
    refine seq ?_
    dsimp only[Sw.wS,Sw.wE,Sw.wT,Sw.wEs,Sw.wTs,Sw.wI,Sw.wP,Sw.vars,L2.start,Sw.r_get0,Sw.r_getS,Sw.r_set0,Sw.r_setS,Sw.r_map0,Sw.r_mapS,Sw.r_app0,Sw.r_appS,Sw.r_len0,Sw.r_lenS,Sw.r_rep0,Sw.r_repS,Sw.r_join,Sw.startC,Nat.reduceAdd,Nat.reduceSub]
    refine seq0 ?_
    refine seq0 (Γ:=Γ) (Ξ:=X0) (D:=D2) ?_
    refine nx2 _ _ ⟨some (.int x.t),some (.str (kname x.k)),some (.int x.b),?_,x2.trans x3⟩
    rw[e3,q1,Bool.and_false]
  ·intro σ Hm pv2
   obtain⟨o5,o6,o7,rfl,x2⟩:=pv2
   rw[List.length_map,lt,List.take_of_length_le (Nat.le_refl _)]
   refine seq ?_
   dsimp only[Sw.wS,Sw.wE,Sw.wT,Sw.wEs,Sw.wTs,Sw.wI,Sw.wP,Sw.vars,L2.start,Sw.r_get0,Sw.r_getS,Sw.r_set0,Sw.r_setS,Sw.r_map0,Sw.r_mapS,Sw.r_app0,Sw.r_appS,Sw.r_len0,Sw.r_lenS,Sw.r_rep0,Sw.r_repS,Sw.r_join,Sw.startC,Nat.reduceAdd,Nat.reduceSub]
   try dsimp only
   (first | with_reducible refine Eq.mpr (Sw.t_bl ..) ?_ | rw[Sw.t_bl])
   have xx:=x1.trans x2
   cases q1:Alphi (ts.map tm) s t with
   | true=>
    (first | with_reducible refine Eq.mpr (if_pos rfl) ?_ | rw[if_pos rfl])
    dsimp only[Sw.wSs,Sw.wS,Sw.wE,Sw.wT,Sw.wEs,Sw.wTs,Sw.wI,Sw.wP,Sw.vars,L2.start,Sw.r_get0,Sw.r_getS,Sw.r_set0,Sw.r_setS,Sw.r_map0,Sw.r_mapS,Sw.r_app0,Sw.r_appS,Sw.r_len0,Sw.r_lenS,Sw.r_rep0,Sw.r_repS,Sw.r_join,Sw.startC,Nat.reduceAdd,Nat.reduceSub]
    rw[rt]
    have e4:Ruphi (tms as) s t=true:=by
     unfold Ruphi tms
     rw[List.any_map]
     exact List.any_eq_true.mpr ⟨ts,List.mem_of_getElem? ets,q1⟩
    have:=h Hm xx
    rw[e4]at this
    exact this
   | false=>
    (first | with_reducible refine Eq.mpr (if_neg (by decide)) ?_ | rw[if_neg (by decide)])
    refine seq0 ?_
    refine seq0 (Γ:=Γ) (Ξ:=X0) (D:=D') ?_
    refine nx _ _ ⟨_,_,_,_,_,rfl,xx,fun y hy=>?_⟩
    rw[tk_s ets]at hy
    rcases List.mem_append.mp hy with hy | hy
    ·exact no y hy
    ·rw[List.mem_singleton.mp hy]
     exact q1
 ·intro σ Hn pv
  obtain⟨o3,o4,o5,o6,o7,rfl,x1,no⟩:=pv
  rw[List.length_map,len,List.take_of_length_le (Nat.le_refl _)]at no
  dsimp only[Sw.wSs,Sw.wS,Sw.wE,Sw.wT,Sw.wEs,Sw.wTs,Sw.wI,Sw.wP,Sw.vars,L2.start,Sw.r_get0,Sw.r_getS,Sw.r_set0,Sw.r_setS,Sw.r_map0,Sw.r_mapS,Sw.r_app0,Sw.r_appS,Sw.r_len0,Sw.r_lenS,Sw.r_rep0,Sw.r_repS,Sw.r_join,Sw.startC,Nat.reduceAdd,Nat.reduceSub]
  have e4:Ruphi (tms as) s t=false:=by
   unfold Ruphi tms
   rw[List.any_map]
   cases q:as.any ((fun x=>Alphi x s t) ∘ fun ts=>ts.map tm)with
   | false=>rfl
   | true=>
    obtain⟨y,hy,e⟩:=List.any_eq_true.mp q
    have:=no y hy
    have e:Alphi (y.map tm) s t=true:=e
    rw[this]at e
    cases e
  have:=h Hn x1
  rw[e4]at this
  exact this
structure L5s (Γ:Gam) (M:Mo):Prop where
 cm:Γ.cm=true
 mod:Γ.mod=M
 mx:Γ.has "_law_mix" =true/\Γ.fn "_law_mix" =spMix
 sd:Γ.has "_law_side" =true/\Γ.fn "_law_side" =spSide M
end Lw
namespace Ls
set_option genInjectivity false
open PySem PySem.Spec PyProof.Rows L2 Sw Wd Tx Rl
@[reducible] noncomputable def N__law_sign:List Str:=["_law_cell_here","_law_signs"]
noncomputable def b__law_sign:Sxs:=(.cons (.asg 1 (.con (.str " !\"#$&'()*+,-./0123456789:;<=>?@ABCDEFGHIJKLMNOPQRSTUVWXYZ[\\]^_`")))
 (.cons (.asg 1 (.bin .Add (.var 1) (.con (.str "abcdefghijklmnopqrstuvwxyz{|}~"))))
 (.cons (.iff (.cmp .Eq (.bin .Mod (.var 0) (.con (.int 2))) (.con (.int 0))) (.cons (.asg 1 (.con (.str "0123456789 osnd")))
 .nil) .nil)
 (.cons (.ret (.idx (.var 1) (.bin .Mod (.bin .FloorDiv (.var 0) (.con (.int 2))) (.blt .len (.cons (.var 1) .nil)))))
 .nil))))
@[reducible] noncomputable def N__law_odd_word:List Str:=["_law_cell_here","_law_some"]
noncomputable def b__law_odd_word:Sxs:=(.cons (.asg 1 (.lst (.cons (.con (.str "98")) (.cons (.con (.str "99")) (.cons (.con (.str "100")) (.cons (.con (.str "0")) (.cons (.con (.str "00")) (.cons (.con (.str "098")) (.cons (.con (.str "-1")) (.cons (.con (.str "")) (.cons (.con (.str "no")) (.cons (.con (.str "or")) (.cons (.con (.str "and")) (.cons (.con (.str "groups")) (.cons (.con (.str "marks")) (.cons (.con (.str "sizes")) (.cons (.con (.str "Groups")) .nil)))))))))))))))))
 (.cons (.asg 1 (.bin .Add (.var 1) (.lst (.cons (.con (.str "size")) (.cons (.con (.str "no no no no no no")) (.cons (.con (.str "sizes 3")) (.cons (.con (.str "not")) (.cons (.con (.str "999999999999")) (.cons (.con (.str "1000000000000")) (.cons (.con (.str "x")) .nil))))))))))
 (.cons (.ret (.idx (.var 1) (.bin .Mod (.var 0) (.blt .len (.cons (.var 1) .nil)))))
 .nil)))
@[reducible] noncomputable def N__law_spoilt:List Str:=["_law_text","_law_cell_here","_law_other","_law_way","_law_at","_law_words","_law_place","_law_to","_law_kept"]
noncomputable def b__law_spoilt:Sxs:=(.cons (.asg 3 (.bin .Mod (.var 1) (.con (.int 8))))
 (.cons (.asg 4 (.bin .Mod (.bin .FloorDiv (.var 1) (.con (.int 8))) (.bin .Add (.blt .len (.cons (.var 0) .nil)) (.con (.int 1)))))
 (.cons (.asg 5 (.mth .split (.var 0) (.cons (.con (.str " ")) .nil)))
 (.cons (.asg 6 (.bin .Mod (.bin .FloorDiv (.var 1) (.con (.int 8))) (.blt .len (.cons (.var 5) .nil))))
 (.cons (.asg 7 (.bin .Mod (.var 2) (.blt .len (.cons (.var 5) .nil))))
 (.cons (.iff (.cmp .Eq (.var 3) (.con (.int 0))) (.cons (.ret (.bin .Add (.bin .Add (.slc (.var 0) .nil (.cons (.var 4) .nil)) (.call "_law_sign" (.cons (.var 2) .nil))) (.slc (.var 0) (.cons (.var 4) .nil) .nil)))
 .nil) .nil)
 (.cons (.iff (.cmp .Eq (.var 3) (.con (.int 1))) (.cons (.ret (.bin .Add (.slc (.var 0) .nil (.cons (.var 4) .nil)) (.slc (.var 0) (.cons (.bin .Add (.var 4) (.con (.int 1))) .nil) .nil)))
 .nil) .nil)
 (.cons (.iff (.cmp .Eq (.var 3) (.con (.int 2))) (.cons (.ret (.bin .Add (.bin .Add (.slc (.var 0) .nil (.cons (.var 4) .nil)) (.call "_law_sign" (.cons (.var 2) .nil))) (.slc (.var 0) (.cons (.bin .Add (.var 4) (.con (.int 1))) .nil) .nil)))
 .nil) .nil)
 (.cons (.iff (.cmp .Eq (.var 3) (.con (.int 3))) (.cons (.asg 8 (.idx (.var 5) (.var 6)))
 (.cons (.sto (.var 5) (.var 6) (.idx (.var 5) (.var 7)))
 (.cons (.sto (.var 5) (.var 7) (.var 8))
 .nil))) .nil)
 (.cons (.iff (.cmp .Eq (.var 3) (.con (.int 4))) (.cons (.asg 5 (.bin .Add (.slc (.var 5) .nil (.cons (.var 6) .nil)) (.slc (.var 5) (.cons (.bin .Add (.var 6) (.con (.int 1))) .nil) .nil)))
 .nil) .nil)
 (.cons (.iff (.cmp .Eq (.var 3) (.con (.int 5))) (.cons (.asg 5 (.bin .Add (.bin .Add (.slc (.var 5) .nil (.cons (.var 6) .nil)) (.lst (.cons (.idx (.var 5) (.var 7)) .nil))) (.slc (.var 5) (.cons (.var 6) .nil) .nil)))
 .nil) .nil)
 (.cons (.iff (.cmp .Eq (.var 3) (.con (.int 6))) (.cons (.sto (.var 5) (.var 6) (.call "_law_odd_word" (.cons (.var 2) .nil)))
 .nil) .nil)
 (.cons (.ret (.mth .join (.con (.str " ")) (.cons (.var 5) .nil)))
 .nil)))))))))))))
variable {M:Mo}
noncomputable def spSign:Sp:=fun vs H Q _=>∃i,vs=[.int i]/\∀c,Q (.str ⟨#[c]⟩) H
theorem ok_sign {Γ:Gam} (hc:Γ.cm=true) (vs:List V) (H:Hp) (Q:VK) (E:XK) (h:spSign vs H Q E):spOf Γ N__law_sign 1 b__law_sign vs H Q E:=by
 obtain⟨i,rfl,h⟩:=h
 refine⟨rfl,?_⟩
 unfold b__law_sign
 refine seq ?_
 dsimp only[Sw.wS,Sw.wE,Sw.wT,Sw.wEs,Sw.wTs,Sw.wI,Sw.wP,Sw.vars,L2.start,Sw.r_get0,Sw.r_getS,Sw.r_set0,Sw.r_setS,Sw.r_map0,Sw.r_mapS,Sw.r_app0,Sw.r_appS,Sw.r_len0,Sw.r_lenS,Sw.r_rep0,Sw.r_repS,Sw.r_join,Sw.startC,Nat.reduceAdd,Nat.reduceSub]
 refine seq ?_
 dsimp only[Sw.wS,Sw.wE,Sw.wT,Sw.wEs,Sw.wTs,Sw.wI,Sw.wP,Sw.vars,L2.start,Sw.r_get0,Sw.r_getS,Sw.r_set0,Sw.r_setS,Sw.r_map0,Sw.r_mapS,Sw.r_app0,Sw.r_appS,Sw.r_len0,Sw.r_lenS,Sw.r_rep0,Sw.r_repS,Sw.r_join,Sw.startC,Nat.reduceAdd,Nat.reduceSub]
 (first | with_reducible refine Eq.mpr (Sw.v_adds ..) ?_ | rw[Sw.v_adds])
 refine⟨by decide +kernel,?_⟩
 refine seq ?_
 dsimp only[Sw.wS,Sw.wE,Sw.wT,Sw.wEs,Sw.wTs,Sw.wI,Sw.wP,Sw.vars,L2.start,Sw.r_get0,Sw.r_getS,Sw.r_set0,Sw.r_setS,Sw.r_map0,Sw.r_mapS,Sw.r_app0,Sw.r_appS,Sw.r_len0,Sw.r_lenS,Sw.r_rep0,Sw.r_repS,Sw.r_join,Sw.startC,Nat.reduceAdd,Nat.reduceSub]
 (first | with_reducible refine Eq.mpr (Sw.v_mod ..) ?_ | rw[Sw.v_mod])
 refine⟨by decide,?_⟩
 (first | with_reducible refine Eq.mpr (Sw.v_eqi ..) ?_ | rw[Sw.v_eqi])
 refine⟨_,rfl,?_⟩
 have pick:∀ (T:Str) (n:Nat),T.length=n->0 < n->n<=100->idxV Γ.mod (.str T) (.int (i / 2 % (n:Int))) H Q:=by
  intro T n hl h0 h1
  (first | with_reducible refine Eq.mpr (i_str ..) ?_ | rw[i_str])
  obtain⟨x,e,_⟩:=atI_some (xs:=T.cps.toList) (i:=i / 2 % (n:Int)) (Int.emod_nonneg _ (by omega)) (by rw[<-len_l,hl];exact Int.emod_lt_of_pos _ (by omega))
  rw[e]
  exact⟨by rw[hl];exact Nat.le_trans h1 (by decide),h x⟩
 by_cases q:i % 2=0
 ·(first | with_reducible refine Eq.mpr (if_pos (decide_eq_true q)) ?_ | rw[if_pos (decide_eq_true q)])
  dsimp only[Sw.wSs,Sw.wS,Sw.wE,Sw.wT,Sw.wEs,Sw.wTs,Sw.wI,Sw.wP,Sw.vars,L2.start,Sw.r_get0,Sw.r_getS,Sw.r_set0,Sw.r_setS,Sw.r_map0,Sw.r_mapS,Sw.r_app0,Sw.r_appS,Sw.r_len0,Sw.r_lenS,Sw.r_rep0,Sw.r_repS,Sw.r_join,Sw.startC,Nat.reduceAdd,Nat.reduceSub]
  (first | with_reducible refine Eq.mpr (Sw.v_div ..) ?_ | rw[Sw.v_div])
  refine⟨by decide,by decide,hc,?_⟩
  (first | with_reducible refine Eq.mpr (b_lens ..) ?_ | rw[b_lens])
  refine⟨by decide +kernel,?_⟩
  have hl:(Str.ofString "0123456789 osnd").length=15:=by decide +kernel
  (rw[hl];(first | with_reducible refine Eq.mpr (Sw.v_mod ..) ?_ | rw[Sw.v_mod]))
  refine⟨by decide,?_⟩
  exact pick _ 15 hl (by decide) (by decide)
 ·(first | with_reducible refine Eq.mpr (if_neg (by simpa using q)) ?_ | rw[if_neg (by simpa using q)])
  dsimp only[Sw.wSs,Sw.wS,Sw.wE,Sw.wT,Sw.wEs,Sw.wTs,Sw.wI,Sw.wP,Sw.vars,L2.start,Sw.r_get0,Sw.r_getS,Sw.r_set0,Sw.r_setS,Sw.r_map0,Sw.r_mapS,Sw.r_app0,Sw.r_appS,Sw.r_len0,Sw.r_lenS,Sw.r_rep0,Sw.r_repS,Sw.r_join,Sw.startC,Nat.reduceAdd,Nat.reduceSub]
  (first | with_reducible refine Eq.mpr (Sw.v_div ..) ?_ | rw[Sw.v_div])
  refine⟨by decide,by decide,hc,?_⟩
  (first | with_reducible refine Eq.mpr (b_lens ..) ?_ | rw[b_lens])
  refine⟨by decide +kernel,?_⟩
  have hl:(Str.ofString " !\"#$&'()*+,-./0123456789:;<=>?@ABCDEFGHIJKLMNOPQRSTUVWXYZ[\\]^_`" ++Str.ofString "abcdefghijklmnopqrstuvwxyz{|}~").length=94:=by decide +kernel
  (rw[hl];(first | with_reducible refine Eq.mpr (Sw.v_mod ..) ?_ | rw[Sw.v_mod]))
  refine⟨by decide,?_⟩
  exact pick _ 94 hl (by decide) (by decide)
noncomputable def odds1:List Str:=["98","99","100","0","00","098","-1","","no","or","and","groups","marks","sizes","Groups"]
noncomputable def odds2:List Str:=["size","no no no no no no","sizes 3","not","999999999999","1000000000000","x"]
theorem odds_in:∀t ∈ odds1++odds2,t.length<=20:=by decide +kernel
noncomputable def spOdd (M:Mo):Sp:=fun vs H Q _=>∃i,vs=[.int i]/\∀ (t:Str) H',t.length<=20->Ext M H H'->Q (.str t) H'
theorem ok_odd {Γ:Gam} (hc:Γ.cm=true) (hM:Γ.mod=M) (vs:List V) (H:Hp) (Q:VK) (E:XK) (h:spOdd M vs H Q E):spOf Γ N__law_odd_word 1 b__law_odd_word vs H Q E:=by
 obtain⟨i,rfl,h⟩:=h
 refine⟨rfl,?_⟩
 unfold b__law_odd_word
 refine seq ?_
 dsimp only[Sw.wS,Sw.wE,Sw.wT,Sw.wEs,Sw.wTs,Sw.wI,Sw.wP,Sw.vars,L2.start,Sw.r_get0,Sw.r_getS,Sw.r_set0,Sw.r_setS,Sw.r_map0,Sw.r_mapS,Sw.r_app0,Sw.r_appS,Sw.r_len0,Sw.r_lenS,Sw.r_rep0,Sw.r_repS,Sw.r_join,Sw.startC,Nat.reduceAdd,Nat.reduceSub]
 rw[hM]
 refine⟨by decide,fun p hp mp=>?_⟩
 have x1:=Ext.upd (o:=.lst (odds1.map V.str)) hp mp
 refine seq ?_
 dsimp only[Sw.wS,Sw.wE,Sw.wT,Sw.wEs,Sw.wTs,Sw.wI,Sw.wP,Sw.vars,L2.start,Sw.r_get0,Sw.r_getS,Sw.r_set0,Sw.r_setS,Sw.r_map0,Sw.r_mapS,Sw.r_app0,Sw.r_appS,Sw.r_len0,Sw.r_lenS,Sw.r_rep0,Sw.r_repS,Sw.r_join,Sw.startC,Nat.reduceAdd,Nat.reduceSub]
 rw[hM]
 refine⟨by decide,fun p2 hp2 mp2=>?_⟩
 have hp2:upd H p (.lst (odds1.map V.str)) p2=none:=hp2
 have x2:=Ext.upd (o:=.lst (odds2.map V.str)) hp2 mp2
 show binV M .Add (.ref p) (.ref p2) (upd (upd H p (.lst (odds1.map V.str))) p2 (.lst (odds2.map V.str))) _
 ((first | with_reducible refine Eq.mpr (Sw.v_cat ..) ?_ | rw[Sw.v_cat]);rw[x2.rd (rd_upd (by intro _ _ z;cases z)),rd_upd (by intro _ _ z;cases z)])
 dsimp only
 refine⟨by decide,fun p3 hp3 mp3=>?_⟩
 rw[<-List.map_append]
 have x3:=Ext.upd (o:=.lst ((odds1++odds2).map V.str)) hp3 mp3
 have hr:rd M (upd (upd (upd H p (.lst (odds1.map V.str))) p2 (.lst (odds2.map V.str))) p3 (.lst ((odds1++odds2).map V.str))) p3=some (.lst ((odds1++odds2).map V.str)):=rd_upd (by intro _ _ z;cases z)
 have x:=(x1.trans x2).trans x3
 generalize upd (upd (upd H p (.lst (odds1.map V.str))) p2 (.lst (odds2.map V.str))) p3 (.lst ((odds1++odds2).map V.str))=H3 at hr x ⊢
 dsimp only[Sw.wSs,Sw.wS,Sw.wE,Sw.wT,Sw.wEs,Sw.wTs,Sw.wI,Sw.wP,Sw.vars,L2.start,Sw.r_get0,Sw.r_getS,Sw.r_set0,Sw.r_setS,Sw.r_map0,Sw.r_mapS,Sw.r_app0,Sw.r_appS,Sw.r_len0,Sw.r_lenS,Sw.r_rep0,Sw.r_repS,Sw.r_join,Sw.startC,Nat.reduceAdd,Nat.reduceSub]
 (rw[hM];(first | with_reducible refine Eq.mpr (b_lenr ..) ?_ | rw[b_lenr]);rw[hr])
 dsimp only
 refine⟨hc,?_⟩
 ((first | with_reducible refine Eq.mpr (Sw.v_mod ..) ?_ | rw[Sw.v_mod]);rw[List.length_map])
 refine⟨by decide,?_⟩
 have hl:(odds1++odds2).length=22:=rfl
 obtain⟨v,e,e2⟩:=atI_some (xs:=(odds1++odds2).map V.str) (i:=i % ((odds1++odds2).length:Nat)) (Int.emod_nonneg _ (by rw[hl];decide)) (by rw[List.length_map];exact Int.emod_lt_of_pos _ (by rw[hl];decide))
 rw[List.getElem?_map]at e2
 obtain⟨t,ht,rfl⟩:=Option.map_eq_some_iff.mp e2
 exact ix_at hr e (h t H3 (odds_in t (List.mem_of_getElem? ht)) x)
noncomputable def S (ws:List Str):Nat:=(ws.map fun w=>w.length + 1).sum
theorem S_app (a b:List Str):S (a++b)=S a + S b:=by simp[S]
theorem S_take_drop (ws:List Str) (n:Nat):S (ws.take n) + S (ws.drop n)=S ws:=by rw[<-S_app,List.take_append_drop]
theorem S_drop (ws:List Str) (n:Nat):S (ws.drop n)<=S ws:=by have:=S_take_drop ws n;omega
theorem S_mem {w:Str}:∀ {ws:List Str},w ∈ ws->w.length + 1<=S ws
 | [],h=>by cases h
 | v::r,h=>by
  simp only[S,List.map_cons,List.sum_cons]
  rcases List.mem_cons.mp h with rfl | h
  ·omega
  ·have:=S_mem h
   simp only[S]at this
   omega
theorem S_set (ws:List Str) (n:Nat) (w:Str):S (ws.set n w)<=S ws + w.length + 1:=by
 induction ws generalizing n with
 | nil=>simp[S]
 | cons v r ih=>
  cases n with
  | zero=>simp[S];omega
  | succ n=>
   have:=ih n
   simp only[S,List.set_cons_succ,List.map_cons,List.sum_cons]at this ⊢
   omega
theorem S_count (ws:List Str):ws.length<=S ws:=by
 induction ws with
 | nil=>simp
 | cons v r ih=>simp only[S,List.map_cons,List.sum_cons,List.length_cons]at ih ⊢;omega
theorem S_flat (r:List Str):((r.map fun p=>[32]++cps p).flatten).length=S r:=by
 induction r with
 | nil=>rfl
 | cons v r ih=>
  simp only[List.map_cons,List.flatten_cons,List.length_append,ih]
  simp only[S,List.map_cons,List.sum_cons,len_cps,List.length_singleton]
  omega
theorem S_join {ws:List Str} (h:ws ≠ []):(joinL [32] ws).length + 1=S ws:=by
 cases ws with
 | nil=>exact absurd rfl h
 | cons v r=>
  unfold joinL
  rw[List.length_append,S_flat]
  simp only[S,List.map_cons,List.sum_cons,len_cps]
  omega
theorem S_text (ws:List Str):(Txt.join (Str.ofString " ") ws).length<=S ws:=by
 have e:cps (Str.ofString " ")=[32]:=by decide +kernel
 rw[len_cps,cps_join,e]
 cases ws with
 | nil=>simp[joinL]
 | cons v r=>have:=S_join (ws:=v::r) (by simp);omega
theorem cut_S (ws:List Str) (lo hi:Option Int):∃us:List Str,cutV (ws.map V.str) lo hi=us.map V.str/\S us<=S ws:=by
 unfold cutV
 rw[<-List.map_drop,<-List.map_take]
 refine⟨_,rfl,?_⟩
 have h1:=S_take_drop (ws.drop (HT.sIx (ws.map V.str).length 0 lo)) (HT.sIx (ws.map V.str).length (ws.map V.str).length hi - HT.sIx (ws.map V.str).length 0 lo)
 have h2:=S_drop ws (HT.sIx (ws.map V.str).length 0 lo)
 omega
theorem cut_two (ws:List Str) (k:Int):∃u1 u2:List Str,cutV (ws.map V.str) none (some k)=u1.map V.str/\cutV (ws.map V.str) (some k) none=u2.map V.str/\S u1 + S u2<=S ws:=by
 unfold cutV
 rw[<-List.map_drop,<-List.map_take,<-List.map_drop,<-List.map_take]
 refine⟨_,_,rfl,rfl,?_⟩
 show S ((ws.drop 0).take (HT.sIx (ws.map V.str).length 0 (some k) - 0)) + S ((ws.drop (HT.sIx (ws.map V.str).length 0 (some k))).take _)<=S ws
 generalize HT.sIx (ws.map V.str).length 0 (some k)=c
 generalize HT.sIx (ws.map V.str).length (ws.map V.str).length none - c=m
 have h1:=S_take_drop ws c
 have h2:=S_take_drop (ws.drop c) m
 rw[List.drop_zero,Nat.sub_zero]
 omega
theorem S_set_eq:∀ {ws:List Str} {n:Nat} {v:Str} (w:Str),ws[n]?=some v->S (ws.set n w) + v.length=S ws + w.length
 | [],n,v,w,h=>by simp at h
 | x::r,0,v,w,h=>by
  obtain rfl:x=v:=by simpa using h
  simp only[S,List.set_cons_zero,List.map_cons,List.sum_cons]
  omega
 | x::r,n + 1,v,w,h=>by
  have:=S_set_eq (ws:=r) (n:=n) w (by simpa using h)
  simp only[S,List.set_cons_succ,List.map_cons,List.sum_cons]at this ⊢
  omega
theorem ixN_of {n:Nat} {j:Int} (h0:0<=j) (h1:j < n):ixN n j=some j.toNat:=by
 unfold ixN
 ((first | with_reducible refine Eq.mpr (if_pos h0) ?_ | rw[if_pos h0]);(first | with_reducible refine Eq.mpr (if_pos h1) ?_ | rw[if_pos h1]))
theorem word_at {ws:List Str} {j:Int} (h0:0<=j) (h1:j < ws.length):∃w,atI (ws.map V.str) j=some (.str w)/\ws[j.toNat]?=some w:=by
 obtain⟨v,e,e2⟩:=atI_some (xs:=ws.map V.str) (i:=j) h0 (by rw[List.length_map];exact h1)
 rw[List.getElem?_map]at e2
 obtain⟨t,ht,rfl⟩:=Option.map_eq_some_iff.mp e2
 exact⟨t,e,ht⟩
theorem set_strs (ws:List Str) (n:Nat) (w:Str):(ws.map V.str).set n (.str w)=(ws.set n w).map V.str:=by
 rw[List.map_set]
noncomputable def spSpoilt (M:Mo):Sp:=fun vs H Q _=>∃ (T:Str) (a b:Int),T.length<=300/\vs=[.str T,.int a,.int b]/\∀ (t:Str) H',t.length<=640->Ext M H H'->Q (.str t) H'
structure L7 (Γ:Gam) (M:Mo):Prop where
 cm:Γ.cm=true
 mod:Γ.mod=M
 sg:Γ.has "_law_sign" =true/\Γ.fn "_law_sign" =spSign
 ow:Γ.has "_law_odd_word" =true/\Γ.fn "_law_odd_word" =spOdd M
theorem ok_spoilt {Γ:Gam} (g:L7 Γ M) (vs:List V) (H:Hp) (Q:VK) (E:XK) (h:spSpoilt M vs H Q E):spOf Γ N__law_spoilt 3 b__law_spoilt vs H Q E:=by
 obtain⟨T,a,b,ln,rfl,h⟩:=h
 refine⟨rfl,?_⟩
 obtain rfl:=g.mod
 have lz:T.length<=sizeLine:=Nat.le_trans ln (by decide)
 have w0:Txt.split T (Str.ofString " ") ≠ []:=split_ne _ _
 have ws0:S (Txt.split T (Str.ofString " "))<=301:=by
  have e:cps (Str.ofString " ")=[32]:=by decide +kernel
  have e1:=split_cps T (Str.ofString " ")
  have e2:=S_join w0
  rw[e]at e1
  rw[<-e1,<-len_cps]at e2
  omega
 unfold b__law_spoilt
 refine seq ?_
 dsimp only[Sw.wS,Sw.wE,Sw.wT,Sw.wEs,Sw.wTs,Sw.wI,Sw.wP,Sw.vars,L2.start,Sw.r_get0,Sw.r_getS,Sw.r_set0,Sw.r_setS,Sw.r_map0,Sw.r_mapS,Sw.r_app0,Sw.r_appS,Sw.r_len0,Sw.r_lenS,Sw.r_rep0,Sw.r_repS,Sw.r_join,Sw.startC,Nat.reduceAdd,Nat.reduceSub]
 (first | with_reducible refine Eq.mpr (Sw.v_mod ..) ?_ | rw[Sw.v_mod])
 refine⟨by decide,?_⟩
 refine seq ?_
 dsimp only[Sw.wS,Sw.wE,Sw.wT,Sw.wEs,Sw.wTs,Sw.wI,Sw.wP,Sw.vars,L2.start,Sw.r_get0,Sw.r_getS,Sw.r_set0,Sw.r_setS,Sw.r_map0,Sw.r_mapS,Sw.r_app0,Sw.r_appS,Sw.r_len0,Sw.r_lenS,Sw.r_rep0,Sw.r_repS,Sw.r_join,Sw.startC,Nat.reduceAdd,Nat.reduceSub]
 (first | with_reducible refine Eq.mpr (Sw.v_div ..) ?_ | rw[Sw.v_div])
 refine⟨by decide,by decide,g.cm,?_⟩
 (first | with_reducible refine Eq.mpr (b_lens ..) ?_ | rw[b_lens])
 refine⟨lz,?_⟩
 ((first | with_reducible refine Eq.mpr (Sw.v_add ..) ?_ | rw[Sw.v_add]);(first | with_reducible refine Eq.mpr (Sw.v_mod ..) ?_ | rw[Sw.v_mod]))
 refine⟨by omega,?_⟩
 generalize a / 8 % ((T.length:Int) + 1)=at'
 refine seq ?_
 dsimp only[Sw.wS,Sw.wE,Sw.wT,Sw.wEs,Sw.wTs,Sw.wI,Sw.wP,Sw.vars,L2.start,Sw.r_get0,Sw.r_getS,Sw.r_set0,Sw.r_setS,Sw.r_map0,Sw.r_mapS,Sw.r_app0,Sw.r_appS,Sw.r_len0,Sw.r_lenS,Sw.r_rep0,Sw.r_repS,Sw.r_join,Sw.startC,Nat.reduceAdd,Nat.reduceSub]
 refine⟨rfl,?_⟩
 (first | with_reducible refine Eq.mpr (m_split ..) ?_ | rw[m_split])
 refine⟨rfl,by omega,fun l hl ml=>?_⟩
 generalize Txt.split T (Str.ofString " ")=ws at w0 ws0 ⊢
 have wl:0 < ws.length:=List.length_pos_iff.mpr w0
 have wc:=S_count ws
 have x1:=Ext.upd (o:=.lst (ws.map V.str)) hl ml
 have hr1:upd H l (.lst (ws.map V.str)) l=some (.lst (ws.map V.str)):=upd_same
 have xs:∀H2 o',Ext Γ.mod (upd H l (.lst (ws.map V.str))) H2->Ext Γ.mod H (upd H2 l o'):=fun H2 o' x=>Ext.upd2 hl ml x
 generalize upd H l (.lst (ws.map V.str))=H1 at x1 hr1 xs ⊢
 have hr:rd Γ.mod H1 l=some (.lst (ws.map V.str)):=by unfold rd;rw[hr1]
 refine seq ?_
 dsimp only[Sw.wS,Sw.wE,Sw.wT,Sw.wEs,Sw.wTs,Sw.wI,Sw.wP,Sw.vars,L2.start,Sw.r_get0,Sw.r_getS,Sw.r_set0,Sw.r_setS,Sw.r_map0,Sw.r_mapS,Sw.r_app0,Sw.r_appS,Sw.r_len0,Sw.r_lenS,Sw.r_rep0,Sw.r_repS,Sw.r_join,Sw.startC,Nat.reduceAdd,Nat.reduceSub]
 (first | with_reducible refine Eq.mpr (Sw.v_div ..) ?_ | rw[Sw.v_div])
 refine⟨by decide,by decide,g.cm,?_⟩
 ((first | with_reducible refine Eq.mpr (b_lenr ..) ?_ | rw[b_lenr]);rw[hr])
 dsimp only
 (rw[List.length_map];(first | with_reducible refine Eq.mpr (Sw.v_mod ..) ?_ | rw[Sw.v_mod]))
 refine⟨by omega,?_⟩
 refine seq ?_
 dsimp only[Sw.wS,Sw.wE,Sw.wT,Sw.wEs,Sw.wTs,Sw.wI,Sw.wP,Sw.vars,L2.start,Sw.r_get0,Sw.r_getS,Sw.r_set0,Sw.r_setS,Sw.r_map0,Sw.r_mapS,Sw.r_app0,Sw.r_appS,Sw.r_len0,Sw.r_lenS,Sw.r_rep0,Sw.r_repS,Sw.r_join,Sw.startC,Nat.reduceAdd,Nat.reduceSub]
 ((first | with_reducible refine Eq.mpr (b_lenr ..) ?_ | rw[b_lenr]);rw[hr])
 dsimp only
 refine⟨g.cm,?_⟩
 (rw[List.length_map];(first | with_reducible refine Eq.mpr (Sw.v_mod ..) ?_ | rw[Sw.v_mod]))
 refine⟨by omega,?_⟩
 have p0:0<=a / 8 % (ws.length:Int):=Int.emod_nonneg _ (by omega)
 have p1:a / 8 % (ws.length:Int) < ws.length:=Int.emod_lt_of_pos _ (by omega)
 have t0:0<=b % (ws.length:Int):=Int.emod_nonneg _ (by omega)
 have t1:b % (ws.length:Int) < ws.length:=Int.emod_lt_of_pos _ (by omega)
 have r0:0<=a % 8:=Int.emod_nonneg _ (by decide)
 have r1:a % 8 < 8:=Int.emod_lt_of_pos _ (by decide)
 generalize a / 8 % (ws.length:Int)=pl at p0 p1 ⊢
 generalize b % (ws.length:Int)=to at t0 t1 ⊢
 generalize a % 8=r at r0 r1 ⊢
 have sl:∀lo hi,(Txt.slice T lo hi).length<=300:=fun lo hi=>Nat.le_trans (Txt.slice_le _ _ _) ln
 have jo:∀ (us:List Str) (H':Hp) (p:Addr),S us<=640->rd Γ.mod H' p=some (.lst (us.map V.str))->Ext Γ.mod H H'->mthV Γ.mod .join (.str (Str.ofString " ")) [.ref p] H' Q:=by
  intro us H' p hb hp hx
  have hc:=S_count us
  refine join_at hp (joinOk _ _ 640 (fun x hx=>by have:=S_mem hx;omega) (by rw[show(Str.ofString " ").length=1 from rfl];omega)) (h _ H' (Nat.le_trans (S_text us) hb) hx)
 have cases8:r=0\/r=1\/r=2\/r=3\/r=4\/r=5\/r=6\/r=7:=by omega
 rcases cases8 with rfl | rfl | rfl | rfl | rfl | rfl | rfl | rfl
 ·(refine seq ?_;dsimp only[Sw.wS,Sw.wE,Sw.wT,Sw.wEs,Sw.wTs,Sw.wI,Sw.wP,Sw.vars,L2.start,Sw.r_get0,Sw.r_getS,Sw.r_set0,Sw.r_setS,Sw.r_map0,Sw.r_mapS,Sw.r_app0,Sw.r_appS,Sw.r_len0,Sw.r_lenS,Sw.r_rep0,Sw.r_repS,Sw.r_join,Sw.startC,Nat.reduceAdd,Nat.reduceSub];(first | with_reducible refine Eq.mpr (Sw.v_eqi ..) ?_ | rw[Sw.v_eqi]);refine⟨_,rfl,?_⟩;(first | with_reducible refine Eq.mpr (if_pos (by decide)) ?_ | rw[if_pos (by decide)]))
  dsimp only[Sw.wSs,Sw.wS,Sw.wE,Sw.wT,Sw.wEs,Sw.wTs,Sw.wI,Sw.wP,Sw.vars,L2.start,Sw.r_get0,Sw.r_getS,Sw.r_set0,Sw.r_setS,Sw.r_map0,Sw.r_mapS,Sw.r_app0,Sw.r_appS,Sw.r_len0,Sw.r_lenS,Sw.r_rep0,Sw.r_repS,Sw.r_join,Sw.startC,Nat.reduceAdd,Nat.reduceSub]
  (first | with_reducible refine Eq.mpr (s_str ..) ?_ | rw[s_str])
  refine⟨lz,⟨g.cm,g.sg.1⟩,?_⟩
  rw[g.sg.2]
  refine⟨b,rfl,fun c=>?_⟩
  dsimp only
  (first | with_reducible refine Eq.mpr (Sw.v_adds ..) ?_ | rw[Sw.v_adds])
  have l1:=sl none (some at')
  have l2:=sl (some at') none
  have lc:(⟨#[c]⟩:Str).length=1:=rfl
  refine⟨by rw[sizeLine_eq];omega,?_⟩
  (first | with_reducible refine Eq.mpr (s_str ..) ?_ | rw[s_str])
  refine⟨lz,?_⟩
  (first | with_reducible refine Eq.mpr (Sw.v_adds ..) ?_ | rw[Sw.v_adds])
  refine⟨by rw[sizeLine_eq,len_app];omega,h _ H1 (by rw[len_app,len_app];omega) x1⟩
 ·(refine seq ?_;dsimp only[Sw.wS,Sw.wE,Sw.wT,Sw.wEs,Sw.wTs,Sw.wI,Sw.wP,Sw.vars,L2.start,Sw.r_get0,Sw.r_getS,Sw.r_set0,Sw.r_setS,Sw.r_map0,Sw.r_mapS,Sw.r_app0,Sw.r_appS,Sw.r_len0,Sw.r_lenS,Sw.r_rep0,Sw.r_repS,Sw.r_join,Sw.startC,Nat.reduceAdd,Nat.reduceSub];(first | with_reducible refine Eq.mpr (Sw.v_eqi ..) ?_ | rw[Sw.v_eqi]);refine⟨_,rfl,?_⟩;(first | with_reducible refine Eq.mpr (if_neg (by decide)) ?_ | rw[if_neg (by decide)]);refine seq0 ?_)
  (refine seq ?_;dsimp only[Sw.wS,Sw.wE,Sw.wT,Sw.wEs,Sw.wTs,Sw.wI,Sw.wP,Sw.vars,L2.start,Sw.r_get0,Sw.r_getS,Sw.r_set0,Sw.r_setS,Sw.r_map0,Sw.r_mapS,Sw.r_app0,Sw.r_appS,Sw.r_len0,Sw.r_lenS,Sw.r_rep0,Sw.r_repS,Sw.r_join,Sw.startC,Nat.reduceAdd,Nat.reduceSub];(first | with_reducible refine Eq.mpr (Sw.v_eqi ..) ?_ | rw[Sw.v_eqi]);refine⟨_,rfl,?_⟩;(first | with_reducible refine Eq.mpr (if_pos (by decide)) ?_ | rw[if_pos (by decide)]))
  dsimp only[Sw.wSs,Sw.wS,Sw.wE,Sw.wT,Sw.wEs,Sw.wTs,Sw.wI,Sw.wP,Sw.vars,L2.start,Sw.r_get0,Sw.r_getS,Sw.r_set0,Sw.r_setS,Sw.r_map0,Sw.r_mapS,Sw.r_app0,Sw.r_appS,Sw.r_len0,Sw.r_lenS,Sw.r_rep0,Sw.r_repS,Sw.r_join,Sw.startC,Nat.reduceAdd,Nat.reduceSub]
  (first | with_reducible refine Eq.mpr (s_str ..) ?_ | rw[s_str])
  refine⟨lz,?_⟩
  (first | with_reducible refine Eq.mpr (Sw.v_add ..) ?_ | rw[Sw.v_add])
  dsimp only
  (first | with_reducible refine Eq.mpr (s_str ..) ?_ | rw[s_str])
  refine⟨lz,?_⟩
  (first | with_reducible refine Eq.mpr (Sw.v_adds ..) ?_ | rw[Sw.v_adds])
  have l1:=sl none (some at')
  have l2:=sl (some (at' + 1)) none
  refine⟨by rw[sizeLine_eq];omega,h _ H1 (by rw[len_app];omega) x1⟩
 ·(refine seq ?_;dsimp only[Sw.wS,Sw.wE,Sw.wT,Sw.wEs,Sw.wTs,Sw.wI,Sw.wP,Sw.vars,L2.start,Sw.r_get0,Sw.r_getS,Sw.r_set0,Sw.r_setS,Sw.r_map0,Sw.r_mapS,Sw.r_app0,Sw.r_appS,Sw.r_len0,Sw.r_lenS,Sw.r_rep0,Sw.r_repS,Sw.r_join,Sw.startC,Nat.reduceAdd,Nat.reduceSub];(first | with_reducible refine Eq.mpr (Sw.v_eqi ..) ?_ | rw[Sw.v_eqi]);refine⟨_,rfl,?_⟩;(first | with_reducible refine Eq.mpr (if_neg (by decide)) ?_ | rw[if_neg (by decide)]);refine seq0 ?_)
  (refine seq ?_;dsimp only[Sw.wS,Sw.wE,Sw.wT,Sw.wEs,Sw.wTs,Sw.wI,Sw.wP,Sw.vars,L2.start,Sw.r_get0,Sw.r_getS,Sw.r_set0,Sw.r_setS,Sw.r_map0,Sw.r_mapS,Sw.r_app0,Sw.r_appS,Sw.r_len0,Sw.r_lenS,Sw.r_rep0,Sw.r_repS,Sw.r_join,Sw.startC,Nat.reduceAdd,Nat.reduceSub];(first | with_reducible refine Eq.mpr (Sw.v_eqi ..) ?_ | rw[Sw.v_eqi]);refine⟨_,rfl,?_⟩;(first | with_reducible refine Eq.mpr (if_neg (by decide)) ?_ | rw[if_neg (by decide)]);refine seq0 ?_)
  (refine seq ?_;dsimp only[Sw.wS,Sw.wE,Sw.wT,Sw.wEs,Sw.wTs,Sw.wI,Sw.wP,Sw.vars,L2.start,Sw.r_get0,Sw.r_getS,Sw.r_set0,Sw.r_setS,Sw.r_map0,Sw.r_mapS,Sw.r_app0,Sw.r_appS,Sw.r_len0,Sw.r_lenS,Sw.r_rep0,Sw.r_repS,Sw.r_join,Sw.startC,Nat.reduceAdd,Nat.reduceSub];(first | with_reducible refine Eq.mpr (Sw.v_eqi ..) ?_ | rw[Sw.v_eqi]);refine⟨_,rfl,?_⟩;(first | with_reducible refine Eq.mpr (if_pos (by decide)) ?_ | rw[if_pos (by decide)]))
  dsimp only[Sw.wSs,Sw.wS,Sw.wE,Sw.wT,Sw.wEs,Sw.wTs,Sw.wI,Sw.wP,Sw.vars,L2.start,Sw.r_get0,Sw.r_getS,Sw.r_set0,Sw.r_setS,Sw.r_map0,Sw.r_mapS,Sw.r_app0,Sw.r_appS,Sw.r_len0,Sw.r_lenS,Sw.r_rep0,Sw.r_repS,Sw.r_join,Sw.startC,Nat.reduceAdd,Nat.reduceSub]
  (first | with_reducible refine Eq.mpr (s_str ..) ?_ | rw[s_str])
  refine⟨lz,⟨g.cm,g.sg.1⟩,?_⟩
  rw[g.sg.2]
  refine⟨b,rfl,fun c=>?_⟩
  dsimp only
  (first | with_reducible refine Eq.mpr (Sw.v_adds ..) ?_ | rw[Sw.v_adds])
  have l1:=sl none (some at')
  have l2:=sl (some (at' + 1)) none
  have lc:(⟨#[c]⟩:Str).length=1:=rfl
  refine⟨by rw[sizeLine_eq];omega,?_⟩
  (first | with_reducible refine Eq.mpr (Sw.v_add ..) ?_ | rw[Sw.v_add])
  dsimp only
  (first | with_reducible refine Eq.mpr (s_str ..) ?_ | rw[s_str])
  refine⟨lz,?_⟩
  (first | with_reducible refine Eq.mpr (Sw.v_adds ..) ?_ | rw[Sw.v_adds])
  refine⟨by rw[sizeLine_eq,len_app];omega,h _ H1 (by rw[len_app,len_app];omega) x1⟩
 ·(refine seq ?_; dsimp only [Sw.wS, Sw.wE, Sw.wT, Sw.wEs, Sw.wTs, Sw.wI, Sw.wP, Sw.vars, L2.start, Sw.r_get0, Sw.r_getS, Sw.r_set0, Sw.r_setS, Sw.r_map0, Sw.r_mapS, Sw.r_app0, Sw.r_appS, Sw.r_len0, Sw.r_lenS, Sw.r_rep0, Sw.r_repS, Sw.r_join, Sw.startC, Nat.reduceAdd, Nat.reduceSub]; (first | with_reducible refine Eq.mpr (Sw.v_eqi ..) ?_ | rw [Sw.v_eqi]); refine ⟨_, rfl, ?_⟩; (first | with_reducible refine Eq.mpr (if_neg (by decide)) ?_ | rw [if_neg (by decide)]); refine seq0 ?_)
  (refine seq ?_;dsimp only[Sw.wS,Sw.wE,Sw.wT,Sw.wEs,Sw.wTs,Sw.wI,Sw.wP,Sw.vars,L2.start,Sw.r_get0,Sw.r_getS,Sw.r_set0,Sw.r_setS,Sw.r_map0,Sw.r_mapS,Sw.r_app0,Sw.r_appS,Sw.r_len0,Sw.r_lenS,Sw.r_rep0,Sw.r_repS,Sw.r_join,Sw.startC,Nat.reduceAdd,Nat.reduceSub];(first | with_reducible refine Eq.mpr (Sw.v_eqi ..) ?_ | rw[Sw.v_eqi]);refine⟨_,rfl,?_⟩;(first | with_reducible refine Eq.mpr (if_neg (by decide)) ?_ | rw[if_neg (by decide)]);refine seq0 ?_)
  (refine seq ?_;dsimp only[Sw.wS,Sw.wE,Sw.wT,Sw.wEs,Sw.wTs,Sw.wI,Sw.wP,Sw.vars,L2.start,Sw.r_get0,Sw.r_getS,Sw.r_set0,Sw.r_setS,Sw.r_map0,Sw.r_mapS,Sw.r_app0,Sw.r_appS,Sw.r_len0,Sw.r_lenS,Sw.r_rep0,Sw.r_repS,Sw.r_join,Sw.startC,Nat.reduceAdd,Nat.reduceSub];(first | with_reducible refine Eq.mpr (Sw.v_eqi ..) ?_ | rw[Sw.v_eqi]);refine⟨_,rfl,?_⟩;(first | with_reducible refine Eq.mpr (if_neg (by decide)) ?_ | rw[if_neg (by decide)]);refine seq0 ?_)
  (refine seq ?_;dsimp only[Sw.wS,Sw.wE,Sw.wT,Sw.wEs,Sw.wTs,Sw.wI,Sw.wP,Sw.vars,L2.start,Sw.r_get0,Sw.r_getS,Sw.r_set0,Sw.r_setS,Sw.r_map0,Sw.r_mapS,Sw.r_app0,Sw.r_appS,Sw.r_len0,Sw.r_lenS,Sw.r_rep0,Sw.r_repS,Sw.r_join,Sw.startC,Nat.reduceAdd,Nat.reduceSub];(first | with_reducible refine Eq.mpr (Sw.v_eqi ..) ?_ | rw[Sw.v_eqi]);refine⟨_,rfl,?_⟩;(first | with_reducible refine Eq.mpr (if_pos (by decide)) ?_ | rw[if_pos (by decide)]))
  obtain⟨w1,e1,m1⟩:=word_at (ws:=ws) p0 p1
  obtain⟨w2,e2,m2⟩:=word_at (ws:=ws) t0 t1
  refine seq ?_
  dsimp only[Sw.wS,Sw.wE,Sw.wT,Sw.wEs,Sw.wTs,Sw.wI,Sw.wP,Sw.vars,L2.start,Sw.r_get0,Sw.r_getS,Sw.r_set0,Sw.r_setS,Sw.r_map0,Sw.r_mapS,Sw.r_app0,Sw.r_appS,Sw.r_len0,Sw.r_lenS,Sw.r_rep0,Sw.r_repS,Sw.r_join,Sw.startC,Nat.reduceAdd,Nat.reduceSub]
  refine ix_at hr e1 ?_
  refine seq ?_
  dsimp only[Sw.wS,Sw.wE,Sw.wT,Sw.wEs,Sw.wTs,Sw.wI,Sw.wP,Sw.vars,L2.start,Sw.r_get0,Sw.r_getS,Sw.r_set0,Sw.r_setS,Sw.r_map0,Sw.r_mapS,Sw.r_app0,Sw.r_appS,Sw.r_len0,Sw.r_lenS,Sw.r_rep0,Sw.r_repS,Sw.r_join,Sw.startC,Nat.reduceAdd,Nat.reduceSub]
  refine ix_at hr e2 ?_
  unfold stoV
  dsimp only
  rw[hr1]
  dsimp only
  rw[ixN_of p0 (by rw[List.length_map];exact p1)]
  dsimp only
  rw[set_strs]
  refine seq ?_
  dsimp only[Sw.wS,Sw.wE,Sw.wT,Sw.wEs,Sw.wTs,Sw.wI,Sw.wP,Sw.vars,L2.start,Sw.r_get0,Sw.r_getS,Sw.r_set0,Sw.r_setS,Sw.r_map0,Sw.r_mapS,Sw.r_app0,Sw.r_appS,Sw.r_len0,Sw.r_lenS,Sw.r_rep0,Sw.r_repS,Sw.r_join,Sw.startC,Nat.reduceAdd,Nat.reduceSub]
  unfold stoV
  dsimp only
  rw[upd_same]
  dsimp only
  rw[ixN_of t0 (by rw[List.length_map,List.length_set];exact t1)]
  dsimp only
  rw[set_strs,upd_upd]
  refine seq0 ?_
  (refine seq ?_;dsimp only[Sw.wS,Sw.wE,Sw.wT,Sw.wEs,Sw.wTs,Sw.wI,Sw.wP,Sw.vars,L2.start,Sw.r_get0,Sw.r_getS,Sw.r_set0,Sw.r_setS,Sw.r_map0,Sw.r_mapS,Sw.r_app0,Sw.r_appS,Sw.r_len0,Sw.r_lenS,Sw.r_rep0,Sw.r_repS,Sw.r_join,Sw.startC,Nat.reduceAdd,Nat.reduceSub];(first | with_reducible refine Eq.mpr (Sw.v_eqi ..) ?_ | rw[Sw.v_eqi]);refine⟨_,rfl,?_⟩;(first | with_reducible refine Eq.mpr (if_neg (by decide)) ?_ | rw[if_neg (by decide)]);refine seq0 ?_)
  (refine seq ?_;dsimp only[Sw.wS,Sw.wE,Sw.wT,Sw.wEs,Sw.wTs,Sw.wI,Sw.wP,Sw.vars,L2.start,Sw.r_get0,Sw.r_getS,Sw.r_set0,Sw.r_setS,Sw.r_map0,Sw.r_mapS,Sw.r_app0,Sw.r_appS,Sw.r_len0,Sw.r_lenS,Sw.r_rep0,Sw.r_repS,Sw.r_join,Sw.startC,Nat.reduceAdd,Nat.reduceSub];(first | with_reducible refine Eq.mpr (Sw.v_eqi ..) ?_ | rw[Sw.v_eqi]);refine⟨_,rfl,?_⟩;(first | with_reducible refine Eq.mpr (if_neg (by decide)) ?_ | rw[if_neg (by decide)]);refine seq0 ?_)
  (refine seq ?_;dsimp only[Sw.wS,Sw.wE,Sw.wT,Sw.wEs,Sw.wTs,Sw.wI,Sw.wP,Sw.vars,L2.start,Sw.r_get0,Sw.r_getS,Sw.r_set0,Sw.r_setS,Sw.r_map0,Sw.r_mapS,Sw.r_app0,Sw.r_appS,Sw.r_len0,Sw.r_lenS,Sw.r_rep0,Sw.r_repS,Sw.r_join,Sw.startC,Nat.reduceAdd,Nat.reduceSub];(first | with_reducible refine Eq.mpr (Sw.v_eqi ..) ?_ | rw[Sw.v_eqi]);refine⟨_,rfl,?_⟩;(first | with_reducible refine Eq.mpr (if_neg (by decide)) ?_ | rw[if_neg (by decide)]);refine seq0 ?_)
  dsimp only[Sw.wSs,Sw.wS,Sw.wE,Sw.wT,Sw.wEs,Sw.wTs,Sw.wI,Sw.wP,Sw.vars,L2.start,Sw.r_get0,Sw.r_getS,Sw.r_set0,Sw.r_setS,Sw.r_map0,Sw.r_mapS,Sw.r_app0,Sw.r_appS,Sw.r_len0,Sw.r_lenS,Sw.r_rep0,Sw.r_repS,Sw.r_join,Sw.startC,Nat.reduceAdd,Nat.reduceSub]
  have b1:=S_set_eq w2 m1
  have b3:(ws.set pl.toNat w2)[to.toNat]?=some w2:=by
   rw[List.getElem?_set]
   by_cases q:pl.toNat=to.toNat
   ·((first | with_reducible refine Eq.mpr (if_pos q) ?_ | rw[if_pos q]);(first | with_reducible refine Eq.mpr (if_pos (by omega)) ?_ | rw[if_pos (by omega)]))
   ·(first | with_reducible refine Eq.mpr (if_neg q) ?_ | rw[if_neg q]);exact m2
  have b2:=S_set_eq w1 b3
  have big:S ((ws.set pl.toNat w2).set to.toNat w1)<=640:=by omega
  exact⟨rfl,jo _ _ l big (rd_upd (by intro _ _ z;cases z)) (xs H1 _ Ext.refl)⟩
 ·(refine seq ?_;dsimp only[Sw.wS,Sw.wE,Sw.wT,Sw.wEs,Sw.wTs,Sw.wI,Sw.wP,Sw.vars,L2.start,Sw.r_get0,Sw.r_getS,Sw.r_set0,Sw.r_setS,Sw.r_map0,Sw.r_mapS,Sw.r_app0,Sw.r_appS,Sw.r_len0,Sw.r_lenS,Sw.r_rep0,Sw.r_repS,Sw.r_join,Sw.startC,Nat.reduceAdd,Nat.reduceSub];(first | with_reducible refine Eq.mpr (Sw.v_eqi ..) ?_ | rw[Sw.v_eqi]);refine⟨_,rfl,?_⟩;(first | with_reducible refine Eq.mpr (if_neg (by decide)) ?_ | rw[if_neg (by decide)]);refine seq0 ?_)
  (refine seq ?_;dsimp only[Sw.wS,Sw.wE,Sw.wT,Sw.wEs,Sw.wTs,Sw.wI,Sw.wP,Sw.vars,L2.start,Sw.r_get0,Sw.r_getS,Sw.r_set0,Sw.r_setS,Sw.r_map0,Sw.r_mapS,Sw.r_app0,Sw.r_appS,Sw.r_len0,Sw.r_lenS,Sw.r_rep0,Sw.r_repS,Sw.r_join,Sw.startC,Nat.reduceAdd,Nat.reduceSub];(first | with_reducible refine Eq.mpr (Sw.v_eqi ..) ?_ | rw[Sw.v_eqi]);refine⟨_,rfl,?_⟩;(first | with_reducible refine Eq.mpr (if_neg (by decide)) ?_ | rw[if_neg (by decide)]);refine seq0 ?_)
  (refine seq ?_;dsimp only[Sw.wS,Sw.wE,Sw.wT,Sw.wEs,Sw.wTs,Sw.wI,Sw.wP,Sw.vars,L2.start,Sw.r_get0,Sw.r_getS,Sw.r_set0,Sw.r_setS,Sw.r_map0,Sw.r_mapS,Sw.r_app0,Sw.r_appS,Sw.r_len0,Sw.r_lenS,Sw.r_rep0,Sw.r_repS,Sw.r_join,Sw.startC,Nat.reduceAdd,Nat.reduceSub];(first | with_reducible refine Eq.mpr (Sw.v_eqi ..) ?_ | rw[Sw.v_eqi]);refine⟨_,rfl,?_⟩;(first | with_reducible refine Eq.mpr (if_neg (by decide)) ?_ | rw[if_neg (by decide)]);refine seq0 ?_)
  (refine seq ?_;dsimp only[Sw.wS,Sw.wE,Sw.wT,Sw.wEs,Sw.wTs,Sw.wI,Sw.wP,Sw.vars,L2.start,Sw.r_get0,Sw.r_getS,Sw.r_set0,Sw.r_setS,Sw.r_map0,Sw.r_mapS,Sw.r_app0,Sw.r_appS,Sw.r_len0,Sw.r_lenS,Sw.r_rep0,Sw.r_repS,Sw.r_join,Sw.startC,Nat.reduceAdd,Nat.reduceSub];(first | with_reducible refine Eq.mpr (Sw.v_eqi ..) ?_ | rw[Sw.v_eqi]);refine⟨_,rfl,?_⟩;(first | with_reducible refine Eq.mpr (if_neg (by decide)) ?_ | rw[if_neg (by decide)]);refine seq0 ?_)
  (refine seq ?_;dsimp only[Sw.wS,Sw.wE,Sw.wT,Sw.wEs,Sw.wTs,Sw.wI,Sw.wP,Sw.vars,L2.start,Sw.r_get0,Sw.r_getS,Sw.r_set0,Sw.r_setS,Sw.r_map0,Sw.r_mapS,Sw.r_app0,Sw.r_appS,Sw.r_len0,Sw.r_lenS,Sw.r_rep0,Sw.r_repS,Sw.r_join,Sw.startC,Nat.reduceAdd,Nat.reduceSub];(first | with_reducible refine Eq.mpr (Sw.v_eqi ..) ?_ | rw[Sw.v_eqi]);refine⟨_,rfl,?_⟩;(first | with_reducible refine Eq.mpr (if_pos (by decide)) ?_ | rw[if_pos (by decide)]))
  refine seq ?_
  dsimp only[Sw.wS,Sw.wE,Sw.wT,Sw.wEs,Sw.wTs,Sw.wI,Sw.wP,Sw.vars,L2.start,Sw.r_get0,Sw.r_getS,Sw.r_set0,Sw.r_setS,Sw.r_map0,Sw.r_mapS,Sw.r_app0,Sw.r_appS,Sw.r_len0,Sw.r_lenS,Sw.r_rep0,Sw.r_repS,Sw.r_join,Sw.startC,Nat.reduceAdd,Nat.reduceSub]
  obtain⟨u1,c1,n1⟩:=cut_S ws none (some pl)
  obtain⟨u2,c2,n2⟩:=cut_S ws (some (pl + 1)) none
  have k1:=S_count u1
  have k2:=S_count u2
  refine sl_at hr c1 fun l1 hl1 ml1=>?_
  have y1:=Ext.upd (o:=.lst (u1.map V.str)) hl1 ml1
  (first | with_reducible refine Eq.mpr (Sw.v_add ..) ?_ | rw[Sw.v_add])
  dsimp only
  refine sl_at (y1.rd hr) c2 fun l2 hl2 ml2=>?_
  have y2:=Ext.upd (o:=.lst (u2.map V.str)) hl2 ml2
  ((first | with_reducible refine Eq.mpr (Sw.v_cat ..) ?_ | rw[Sw.v_cat]);rw[y2.rd (rd_upd (by intro _ _ z;cases z)),rd_upd (by intro _ _ z;cases z)])
  dsimp only
  refine⟨by rw[sizeLine_eq,List.length_map,List.length_map];omega,fun l3 hl3 ml3=>?_⟩
  rw[<-List.map_append]
  have y3:=Ext.upd (o:=.lst ((u1++u2).map V.str)) hl3 ml3
  refine seq0 ?_
  (refine seq ?_;dsimp only[Sw.wS,Sw.wE,Sw.wT,Sw.wEs,Sw.wTs,Sw.wI,Sw.wP,Sw.vars,L2.start,Sw.r_get0,Sw.r_getS,Sw.r_set0,Sw.r_setS,Sw.r_map0,Sw.r_mapS,Sw.r_app0,Sw.r_appS,Sw.r_len0,Sw.r_lenS,Sw.r_rep0,Sw.r_repS,Sw.r_join,Sw.startC,Nat.reduceAdd,Nat.reduceSub];(first | with_reducible refine Eq.mpr (Sw.v_eqi ..) ?_ | rw[Sw.v_eqi]);refine⟨_,rfl,?_⟩;(first | with_reducible refine Eq.mpr (if_neg (by decide)) ?_ | rw[if_neg (by decide)]);refine seq0 ?_)
  (refine seq ?_;dsimp only[Sw.wS,Sw.wE,Sw.wT,Sw.wEs,Sw.wTs,Sw.wI,Sw.wP,Sw.vars,L2.start,Sw.r_get0,Sw.r_getS,Sw.r_set0,Sw.r_setS,Sw.r_map0,Sw.r_mapS,Sw.r_app0,Sw.r_appS,Sw.r_len0,Sw.r_lenS,Sw.r_rep0,Sw.r_repS,Sw.r_join,Sw.startC,Nat.reduceAdd,Nat.reduceSub];(first | with_reducible refine Eq.mpr (Sw.v_eqi ..) ?_ | rw[Sw.v_eqi]);refine⟨_,rfl,?_⟩;(first | with_reducible refine Eq.mpr (if_neg (by decide)) ?_ | rw[if_neg (by decide)]);refine seq0 ?_)
  dsimp only[Sw.wSs,Sw.wS,Sw.wE,Sw.wT,Sw.wEs,Sw.wTs,Sw.wI,Sw.wP,Sw.vars,L2.start,Sw.r_get0,Sw.r_getS,Sw.r_set0,Sw.r_setS,Sw.r_map0,Sw.r_mapS,Sw.r_app0,Sw.r_appS,Sw.r_len0,Sw.r_lenS,Sw.r_rep0,Sw.r_repS,Sw.r_join,Sw.startC,Nat.reduceAdd,Nat.reduceSub]
  have big:S (u1++u2)<=640:=by rw[S_app];omega
  exact⟨rfl,jo _ _ l3 big (rd_upd (by intro _ _ z;cases z)) (x1.trans ((y1.trans y2).trans y3))⟩
 ·(refine seq ?_; dsimp only [Sw.wS, Sw.wE, Sw.wT, Sw.wEs, Sw.wTs, Sw.wI, Sw.wP, Sw.vars, L2.start, Sw.r_get0, Sw.r_getS, Sw.r_set0, Sw.r_setS, Sw.r_map0, Sw.r_mapS, Sw.r_app0, Sw.r_appS, Sw.r_len0, Sw.r_lenS, Sw.r_rep0, Sw.r_repS, Sw.r_join, Sw.startC, Nat.reduceAdd, Nat.reduceSub]; (first | with_reducible refine Eq.mpr (Sw.v_eqi ..) ?_ | rw [Sw.v_eqi]); refine ⟨_, rfl, ?_⟩; (first | with_reducible refine Eq.mpr (if_neg (by decide)) ?_ | rw [if_neg (by decide)]); refine seq0 ?_)
  (refine seq ?_;dsimp only[Sw.wS,Sw.wE,Sw.wT,Sw.wEs,Sw.wTs,Sw.wI,Sw.wP,Sw.vars,L2.start,Sw.r_get0,Sw.r_getS,Sw.r_set0,Sw.r_setS,Sw.r_map0,Sw.r_mapS,Sw.r_app0,Sw.r_appS,Sw.r_len0,Sw.r_lenS,Sw.r_rep0,Sw.r_repS,Sw.r_join,Sw.startC,Nat.reduceAdd,Nat.reduceSub];(first | with_reducible refine Eq.mpr (Sw.v_eqi ..) ?_ | rw[Sw.v_eqi]);refine⟨_,rfl,?_⟩;(first | with_reducible refine Eq.mpr (if_neg (by decide)) ?_ | rw[if_neg (by decide)]);refine seq0 ?_)
  (refine seq ?_;dsimp only[Sw.wS,Sw.wE,Sw.wT,Sw.wEs,Sw.wTs,Sw.wI,Sw.wP,Sw.vars,L2.start,Sw.r_get0,Sw.r_getS,Sw.r_set0,Sw.r_setS,Sw.r_map0,Sw.r_mapS,Sw.r_app0,Sw.r_appS,Sw.r_len0,Sw.r_lenS,Sw.r_rep0,Sw.r_repS,Sw.r_join,Sw.startC,Nat.reduceAdd,Nat.reduceSub];(first | with_reducible refine Eq.mpr (Sw.v_eqi ..) ?_ | rw[Sw.v_eqi]);refine⟨_,rfl,?_⟩;(first | with_reducible refine Eq.mpr (if_neg (by decide)) ?_ | rw[if_neg (by decide)]);refine seq0 ?_)
  (refine seq ?_;dsimp only[Sw.wS,Sw.wE,Sw.wT,Sw.wEs,Sw.wTs,Sw.wI,Sw.wP,Sw.vars,L2.start,Sw.r_get0,Sw.r_getS,Sw.r_set0,Sw.r_setS,Sw.r_map0,Sw.r_mapS,Sw.r_app0,Sw.r_appS,Sw.r_len0,Sw.r_lenS,Sw.r_rep0,Sw.r_repS,Sw.r_join,Sw.startC,Nat.reduceAdd,Nat.reduceSub];(first | with_reducible refine Eq.mpr (Sw.v_eqi ..) ?_ | rw[Sw.v_eqi]);refine⟨_,rfl,?_⟩;(first | with_reducible refine Eq.mpr (if_neg (by decide)) ?_ | rw[if_neg (by decide)]);refine seq0 ?_)
  (refine seq ?_;dsimp only[Sw.wS,Sw.wE,Sw.wT,Sw.wEs,Sw.wTs,Sw.wI,Sw.wP,Sw.vars,L2.start,Sw.r_get0,Sw.r_getS,Sw.r_set0,Sw.r_setS,Sw.r_map0,Sw.r_mapS,Sw.r_app0,Sw.r_appS,Sw.r_len0,Sw.r_lenS,Sw.r_rep0,Sw.r_repS,Sw.r_join,Sw.startC,Nat.reduceAdd,Nat.reduceSub];(first | with_reducible refine Eq.mpr (Sw.v_eqi ..) ?_ | rw[Sw.v_eqi]);refine⟨_,rfl,?_⟩;(first | with_reducible refine Eq.mpr (if_neg (by decide)) ?_ | rw[if_neg (by decide)]);refine seq0 ?_)
  (refine seq ?_;dsimp only[Sw.wS,Sw.wE,Sw.wT,Sw.wEs,Sw.wTs,Sw.wI,Sw.wP,Sw.vars,L2.start,Sw.r_get0,Sw.r_getS,Sw.r_set0,Sw.r_setS,Sw.r_map0,Sw.r_mapS,Sw.r_app0,Sw.r_appS,Sw.r_len0,Sw.r_lenS,Sw.r_rep0,Sw.r_repS,Sw.r_join,Sw.startC,Nat.reduceAdd,Nat.reduceSub];(first | with_reducible refine Eq.mpr (Sw.v_eqi ..) ?_ | rw[Sw.v_eqi]);refine⟨_,rfl,?_⟩;(first | with_reducible refine Eq.mpr (if_pos (by decide)) ?_ | rw[if_pos (by decide)]))
  refine seq ?_
  dsimp only[Sw.wS,Sw.wE,Sw.wT,Sw.wEs,Sw.wTs,Sw.wI,Sw.wP,Sw.vars,L2.start,Sw.r_get0,Sw.r_getS,Sw.r_set0,Sw.r_setS,Sw.r_map0,Sw.r_mapS,Sw.r_app0,Sw.r_appS,Sw.r_len0,Sw.r_lenS,Sw.r_rep0,Sw.r_repS,Sw.r_join,Sw.startC,Nat.reduceAdd,Nat.reduceSub]
  obtain⟨u1,u2,c1,c2,n1⟩:=cut_two ws pl
  have k1:=S_count u1
  have k2:=S_count u2
  obtain⟨w2,e2,m3⟩:=word_at (ws:=ws) t0 t1
  refine sl_at hr c1 fun l1 hl1 ml1=>?_
  have y1:=Ext.upd (o:=.lst (u1.map V.str)) hl1 ml1
  refine ix_at (y1.rd hr) e2 ⟨by decide,fun l4 hl4 ml4=>?_⟩
  have y4:=Ext.upd (o:=.lst [V.str w2]) hl4 ml4
  ((first | with_reducible refine Eq.mpr (Sw.v_cat ..) ?_ | rw[Sw.v_cat]);rw[y4.rd (rd_upd (by intro _ _ z;cases z)),rd_upd (by intro _ _ z;cases z)])
  dsimp only
  refine⟨by rw[sizeLine_eq,List.length_map,List.length_singleton];omega,fun l5 hl5 ml5=>?_⟩
  rw[show u1.map V.str++[V.str w2]=(u1++[w2]).map V.str by rw[List.map_append];rfl]
  have y5:=Ext.upd (o:=.lst ((u1++[w2]).map V.str)) hl5 ml5
  refine sl_at (y5.rd (y4.rd (y1.rd hr))) c2 fun l2 hl2 ml2=>?_
  have y2:=Ext.upd (o:=.lst (u2.map V.str)) hl2 ml2
  ((first | with_reducible refine Eq.mpr (Sw.v_cat ..) ?_ | rw[Sw.v_cat]);rw[y2.rd (rd_upd (by intro _ _ z;cases z)),rd_upd (by intro _ _ z;cases z)])
  dsimp only
  refine⟨by rw[sizeLine_eq,List.length_map,List.length_map,List.length_append,List.length_singleton];omega,fun l3 hl3 ml3=>?_⟩
  rw[<-List.map_append]
  have y3:=Ext.upd (o:=.lst ((u1++[w2]++u2).map V.str)) hl3 ml3
  refine seq0 ?_
  (refine seq ?_;dsimp only[Sw.wS,Sw.wE,Sw.wT,Sw.wEs,Sw.wTs,Sw.wI,Sw.wP,Sw.vars,L2.start,Sw.r_get0,Sw.r_getS,Sw.r_set0,Sw.r_setS,Sw.r_map0,Sw.r_mapS,Sw.r_app0,Sw.r_appS,Sw.r_len0,Sw.r_lenS,Sw.r_rep0,Sw.r_repS,Sw.r_join,Sw.startC,Nat.reduceAdd,Nat.reduceSub];(first | with_reducible refine Eq.mpr (Sw.v_eqi ..) ?_ | rw[Sw.v_eqi]);refine⟨_,rfl,?_⟩;(first | with_reducible refine Eq.mpr (if_neg (by decide)) ?_ | rw[if_neg (by decide)]);refine seq0 ?_)
  dsimp only[Sw.wSs,Sw.wS,Sw.wE,Sw.wT,Sw.wEs,Sw.wTs,Sw.wI,Sw.wP,Sw.vars,L2.start,Sw.r_get0,Sw.r_getS,Sw.r_set0,Sw.r_setS,Sw.r_map0,Sw.r_mapS,Sw.r_app0,Sw.r_appS,Sw.r_len0,Sw.r_lenS,Sw.r_rep0,Sw.r_repS,Sw.r_join,Sw.startC,Nat.reduceAdd,Nat.reduceSub]
  have c4:=S_mem (List.mem_of_getElem? m3)
  have big:S (u1++[w2]++u2)<=640:=by
   rw[S_app,S_app,show S [w2]=w2.length + 1 from by simp[S]]
   omega
  exact⟨rfl,jo _ _ l3 big (rd_upd (by intro _ _ z;cases z)) (x1.trans ((((y1.trans y4).trans y5).trans y2).trans y3))⟩
 ·(refine seq ?_;dsimp only[Sw.wS,Sw.wE,Sw.wT,Sw.wEs,Sw.wTs,Sw.wI,Sw.wP,Sw.vars,L2.start,Sw.r_get0,Sw.r_getS,Sw.r_set0,Sw.r_setS,Sw.r_map0,Sw.r_mapS,Sw.r_app0,Sw.r_appS,Sw.r_len0,Sw.r_lenS,Sw.r_rep0,Sw.r_repS,Sw.r_join,Sw.startC,Nat.reduceAdd,Nat.reduceSub];(first | with_reducible refine Eq.mpr (Sw.v_eqi ..) ?_ | rw[Sw.v_eqi]);refine⟨_,rfl,?_⟩;(first | with_reducible refine Eq.mpr (if_neg (by decide)) ?_ | rw[if_neg (by decide)]);refine seq0 ?_)
  (refine seq ?_;dsimp only[Sw.wS,Sw.wE,Sw.wT,Sw.wEs,Sw.wTs,Sw.wI,Sw.wP,Sw.vars,L2.start,Sw.r_get0,Sw.r_getS,Sw.r_set0,Sw.r_setS,Sw.r_map0,Sw.r_mapS,Sw.r_app0,Sw.r_appS,Sw.r_len0,Sw.r_lenS,Sw.r_rep0,Sw.r_repS,Sw.r_join,Sw.startC,Nat.reduceAdd,Nat.reduceSub];(first | with_reducible refine Eq.mpr (Sw.v_eqi ..) ?_ | rw[Sw.v_eqi]);refine⟨_,rfl,?_⟩;(first | with_reducible refine Eq.mpr (if_neg (by decide)) ?_ | rw[if_neg (by decide)]);refine seq0 ?_)
  (refine seq ?_;dsimp only[Sw.wS,Sw.wE,Sw.wT,Sw.wEs,Sw.wTs,Sw.wI,Sw.wP,Sw.vars,L2.start,Sw.r_get0,Sw.r_getS,Sw.r_set0,Sw.r_setS,Sw.r_map0,Sw.r_mapS,Sw.r_app0,Sw.r_appS,Sw.r_len0,Sw.r_lenS,Sw.r_rep0,Sw.r_repS,Sw.r_join,Sw.startC,Nat.reduceAdd,Nat.reduceSub];(first | with_reducible refine Eq.mpr (Sw.v_eqi ..) ?_ | rw[Sw.v_eqi]);refine⟨_,rfl,?_⟩;(first | with_reducible refine Eq.mpr (if_neg (by decide)) ?_ | rw[if_neg (by decide)]);refine seq0 ?_)
  (refine seq ?_;dsimp only[Sw.wS,Sw.wE,Sw.wT,Sw.wEs,Sw.wTs,Sw.wI,Sw.wP,Sw.vars,L2.start,Sw.r_get0,Sw.r_getS,Sw.r_set0,Sw.r_setS,Sw.r_map0,Sw.r_mapS,Sw.r_app0,Sw.r_appS,Sw.r_len0,Sw.r_lenS,Sw.r_rep0,Sw.r_repS,Sw.r_join,Sw.startC,Nat.reduceAdd,Nat.reduceSub];(first | with_reducible refine Eq.mpr (Sw.v_eqi ..) ?_ | rw[Sw.v_eqi]);refine⟨_,rfl,?_⟩;(first | with_reducible refine Eq.mpr (if_neg (by decide)) ?_ | rw[if_neg (by decide)]);refine seq0 ?_)
  (refine seq ?_;dsimp only[Sw.wS,Sw.wE,Sw.wT,Sw.wEs,Sw.wTs,Sw.wI,Sw.wP,Sw.vars,L2.start,Sw.r_get0,Sw.r_getS,Sw.r_set0,Sw.r_setS,Sw.r_map0,Sw.r_mapS,Sw.r_app0,Sw.r_appS,Sw.r_len0,Sw.r_lenS,Sw.r_rep0,Sw.r_repS,Sw.r_join,Sw.startC,Nat.reduceAdd,Nat.reduceSub];(first | with_reducible refine Eq.mpr (Sw.v_eqi ..) ?_ | rw[Sw.v_eqi]);refine⟨_,rfl,?_⟩;(first | with_reducible refine Eq.mpr (if_neg (by decide)) ?_ | rw[if_neg (by decide)]);refine seq0 ?_)
  (refine seq ?_;dsimp only[Sw.wS,Sw.wE,Sw.wT,Sw.wEs,Sw.wTs,Sw.wI,Sw.wP,Sw.vars,L2.start,Sw.r_get0,Sw.r_getS,Sw.r_set0,Sw.r_setS,Sw.r_map0,Sw.r_mapS,Sw.r_app0,Sw.r_appS,Sw.r_len0,Sw.r_lenS,Sw.r_rep0,Sw.r_repS,Sw.r_join,Sw.startC,Nat.reduceAdd,Nat.reduceSub];(first | with_reducible refine Eq.mpr (Sw.v_eqi ..) ?_ | rw[Sw.v_eqi]);refine⟨_,rfl,?_⟩;(first | with_reducible refine Eq.mpr (if_neg (by decide)) ?_ | rw[if_neg (by decide)]);refine seq0 ?_)
  (refine seq ?_;dsimp only[Sw.wS,Sw.wE,Sw.wT,Sw.wEs,Sw.wTs,Sw.wI,Sw.wP,Sw.vars,L2.start,Sw.r_get0,Sw.r_getS,Sw.r_set0,Sw.r_setS,Sw.r_map0,Sw.r_mapS,Sw.r_app0,Sw.r_appS,Sw.r_len0,Sw.r_lenS,Sw.r_rep0,Sw.r_repS,Sw.r_join,Sw.startC,Nat.reduceAdd,Nat.reduceSub];(first | with_reducible refine Eq.mpr (Sw.v_eqi ..) ?_ | rw[Sw.v_eqi]);refine⟨_,rfl,?_⟩;(first | with_reducible refine Eq.mpr (if_pos (by decide)) ?_ | rw[if_pos (by decide)]))
  refine seq ?_
  dsimp only[Sw.wS,Sw.wE,Sw.wT,Sw.wEs,Sw.wTs,Sw.wI,Sw.wP,Sw.vars,L2.start,Sw.r_get0,Sw.r_getS,Sw.r_set0,Sw.r_setS,Sw.r_map0,Sw.r_mapS,Sw.r_app0,Sw.r_appS,Sw.r_len0,Sw.r_lenS,Sw.r_rep0,Sw.r_repS,Sw.r_join,Sw.startC,Nat.reduceAdd,Nat.reduceSub]
  rw[g.ow.2]
  refine⟨⟨g.cm,g.ow.1⟩,b,rfl,fun t H2 hl2 y2=>?_⟩
  dsimp only
  have hr2:H2 l=some (.lst (ws.map V.str)):=y2.same _ _ hr1
  unfold stoV
  dsimp only
  rw[hr2]
  dsimp only
  rw[ixN_of p0 (by rw[List.length_map];exact p1)]
  dsimp only
  rw[set_strs]
  refine seq0 ?_
  dsimp only[Sw.wSs,Sw.wS,Sw.wE,Sw.wT,Sw.wEs,Sw.wTs,Sw.wI,Sw.wP,Sw.vars,L2.start,Sw.r_get0,Sw.r_getS,Sw.r_set0,Sw.r_setS,Sw.r_map0,Sw.r_mapS,Sw.r_app0,Sw.r_appS,Sw.r_len0,Sw.r_lenS,Sw.r_rep0,Sw.r_repS,Sw.r_join,Sw.startC,Nat.reduceAdd,Nat.reduceSub]
  have b1:=S_set ws pl.toNat t
  exact⟨rfl,jo _ _ l (by omega) (rd_upd (by intro _ _ z;cases z)) (xs H2 _ y2)⟩
 ·(refine seq ?_;dsimp only[Sw.wS,Sw.wE,Sw.wT,Sw.wEs,Sw.wTs,Sw.wI,Sw.wP,Sw.vars,L2.start,Sw.r_get0,Sw.r_getS,Sw.r_set0,Sw.r_setS,Sw.r_map0,Sw.r_mapS,Sw.r_app0,Sw.r_appS,Sw.r_len0,Sw.r_lenS,Sw.r_rep0,Sw.r_repS,Sw.r_join,Sw.startC,Nat.reduceAdd,Nat.reduceSub];(first | with_reducible refine Eq.mpr (Sw.v_eqi ..) ?_ | rw[Sw.v_eqi]);refine⟨_,rfl,?_⟩;(first | with_reducible refine Eq.mpr (if_neg (by decide)) ?_ | rw[if_neg (by decide)]);refine seq0 ?_)
  (refine seq ?_;dsimp only[Sw.wS,Sw.wE,Sw.wT,Sw.wEs,Sw.wTs,Sw.wI,Sw.wP,Sw.vars,L2.start,Sw.r_get0,Sw.r_getS,Sw.r_set0,Sw.r_setS,Sw.r_map0,Sw.r_mapS,Sw.r_app0,Sw.r_appS,Sw.r_len0,Sw.r_lenS,Sw.r_rep0,Sw.r_repS,Sw.r_join,Sw.startC,Nat.reduceAdd,Nat.reduceSub];(first | with_reducible refine Eq.mpr (Sw.v_eqi ..) ?_ | rw[Sw.v_eqi]);refine⟨_,rfl,?_⟩;(first | with_reducible refine Eq.mpr (if_neg (by decide)) ?_ | rw[if_neg (by decide)]);refine seq0 ?_)
  (refine seq ?_;dsimp only[Sw.wS,Sw.wE,Sw.wT,Sw.wEs,Sw.wTs,Sw.wI,Sw.wP,Sw.vars,L2.start,Sw.r_get0,Sw.r_getS,Sw.r_set0,Sw.r_setS,Sw.r_map0,Sw.r_mapS,Sw.r_app0,Sw.r_appS,Sw.r_len0,Sw.r_lenS,Sw.r_rep0,Sw.r_repS,Sw.r_join,Sw.startC,Nat.reduceAdd,Nat.reduceSub];(first | with_reducible refine Eq.mpr (Sw.v_eqi ..) ?_ | rw[Sw.v_eqi]);refine⟨_,rfl,?_⟩;(first | with_reducible refine Eq.mpr (if_neg (by decide)) ?_ | rw[if_neg (by decide)]);refine seq0 ?_)
  (refine seq ?_;dsimp only[Sw.wS,Sw.wE,Sw.wT,Sw.wEs,Sw.wTs,Sw.wI,Sw.wP,Sw.vars,L2.start,Sw.r_get0,Sw.r_getS,Sw.r_set0,Sw.r_setS,Sw.r_map0,Sw.r_mapS,Sw.r_app0,Sw.r_appS,Sw.r_len0,Sw.r_lenS,Sw.r_rep0,Sw.r_repS,Sw.r_join,Sw.startC,Nat.reduceAdd,Nat.reduceSub];(first | with_reducible refine Eq.mpr (Sw.v_eqi ..) ?_ | rw[Sw.v_eqi]);refine⟨_,rfl,?_⟩;(first | with_reducible refine Eq.mpr (if_neg (by decide)) ?_ | rw[if_neg (by decide)]);refine seq0 ?_)
  (refine seq ?_;dsimp only[Sw.wS,Sw.wE,Sw.wT,Sw.wEs,Sw.wTs,Sw.wI,Sw.wP,Sw.vars,L2.start,Sw.r_get0,Sw.r_getS,Sw.r_set0,Sw.r_setS,Sw.r_map0,Sw.r_mapS,Sw.r_app0,Sw.r_appS,Sw.r_len0,Sw.r_lenS,Sw.r_rep0,Sw.r_repS,Sw.r_join,Sw.startC,Nat.reduceAdd,Nat.reduceSub];(first | with_reducible refine Eq.mpr (Sw.v_eqi ..) ?_ | rw[Sw.v_eqi]);refine⟨_,rfl,?_⟩;(first | with_reducible refine Eq.mpr (if_neg (by decide)) ?_ | rw[if_neg (by decide)]);refine seq0 ?_)
  (refine seq ?_;dsimp only[Sw.wS,Sw.wE,Sw.wT,Sw.wEs,Sw.wTs,Sw.wI,Sw.wP,Sw.vars,L2.start,Sw.r_get0,Sw.r_getS,Sw.r_set0,Sw.r_setS,Sw.r_map0,Sw.r_mapS,Sw.r_app0,Sw.r_appS,Sw.r_len0,Sw.r_lenS,Sw.r_rep0,Sw.r_repS,Sw.r_join,Sw.startC,Nat.reduceAdd,Nat.reduceSub];(first | with_reducible refine Eq.mpr (Sw.v_eqi ..) ?_ | rw[Sw.v_eqi]);refine⟨_,rfl,?_⟩;(first | with_reducible refine Eq.mpr (if_neg (by decide)) ?_ | rw[if_neg (by decide)]);refine seq0 ?_)
  (refine seq ?_;dsimp only[Sw.wS,Sw.wE,Sw.wT,Sw.wEs,Sw.wTs,Sw.wI,Sw.wP,Sw.vars,L2.start,Sw.r_get0,Sw.r_getS,Sw.r_set0,Sw.r_setS,Sw.r_map0,Sw.r_mapS,Sw.r_app0,Sw.r_appS,Sw.r_len0,Sw.r_lenS,Sw.r_rep0,Sw.r_repS,Sw.r_join,Sw.startC,Nat.reduceAdd,Nat.reduceSub];(first | with_reducible refine Eq.mpr (Sw.v_eqi ..) ?_ | rw[Sw.v_eqi]);refine⟨_,rfl,?_⟩;(first | with_reducible refine Eq.mpr (if_neg (by decide)) ?_ | rw[if_neg (by decide)]);refine seq0 ?_)
  dsimp only[Sw.wSs,Sw.wS,Sw.wE,Sw.wT,Sw.wEs,Sw.wTs,Sw.wI,Sw.wP,Sw.vars,L2.start,Sw.r_get0,Sw.r_getS,Sw.r_set0,Sw.r_setS,Sw.r_map0,Sw.r_mapS,Sw.r_app0,Sw.r_appS,Sw.r_len0,Sw.r_lenS,Sw.r_rep0,Sw.r_repS,Sw.r_join,Sw.startC,Nat.reduceAdd,Nat.reduceSub]
  exact⟨rfl,jo ws _ l (by omega) hr x1⟩
end Ls
namespace Ls
set_option genInjectivity false
open PySem PySem.Spec PyProof.Rows L2 Sw Wd Tx Rl
@[reducible] noncomputable def T2:=Nat × Nat
@[reducible] noncomputable def wNo:Str:=Str.ofString "no"
@[reducible] noncomputable def wOr:Str:=Str.ofString "or"
@[reducible] noncomputable def wAnd:Str:=Str.ofString "and"
@[reducible] noncomputable def wGr:Str:=Str.ofString "groups"
@[reducible] noncomputable def wMk:Str:=Str.ofString "marks"
@[reducible] noncomputable def wSz:Str:=Str.ofString "sizes"
noncomputable def plW (q:Nat):List Str:=if q=0 then [wGr]else if q=1 then [wMk]else [wSz,Str.ofString (toString ((q - 2:Nat):Int))]
noncomputable def tmW (x:T2):List Str:=List.replicate x.1 wNo++plW x.2
noncomputable def noes:List Str->Nat
 | []=>0
 | w::r=>if w=wNo then noes r + 1 else 0
noncomputable def readP (r:List Str):Option Nat:=if r=[wGr]then some 0 else if r=[wMk]then some 1 else match r with
 | [a,w]=>if a=wSz then(numIn w 0 98).map (fun n=>n.toNat + 2)else none
 | _=>none
noncomputable def readT (ws:List Str):Option T2:=if noes ws > 5 then none else(readP (ws.drop (noes ws))).map fun q=>(noes ws,q)
theorem plW_sz (n:Nat):plW (n + 2)=[wSz,Str.ofString (toString (n:Int))]:=by
 unfold plW
 ((first | with_reducible refine Eq.mpr (if_neg (by omega)) ?_ | rw[if_neg (by omega)]);(first | with_reducible refine Eq.mpr (if_neg (by omega)) ?_ | rw[if_neg (by omega)]))
 rfl
theorem gr_ne_mk:wGr ≠ wMk:=by decide +kernel
theorem readP_iff (r:List Str) (q:Nat):readP r=some q ↔ q < 101/\r=plW q:=by
 constructor
 ·intro h
  unfold readP at h
  split at h
  ·rename_i e;cases h;exact⟨by omega,e⟩
  ·split at h
   ·rename_i e;cases h;exact⟨by omega,e⟩
   ·split at h
    ·rename_i a w h1 h2
     split at h
     ·rename_i ea
      cases hn:numIn w 0 98 with
      | none=>rw[hn]at h;cases h
      | some n=>
       rw[hn]at h
       obtain⟨h0,h1,h2,h3⟩:=numIn_canon hn
       have:q=n.toNat + 2:=(Option.some.inj h).symm
       subst this
       refine⟨by omega,?_⟩
       rw[plW_sz,ea,h1,Int.toNat_of_nonneg h0]
     ·cases h
    ·cases h
 ·rintro⟨h,rfl⟩
  rcases plain_cases q with rfl | rfl | ⟨n,rfl⟩
  ·rfl
  ·unfold readP
   ((first | with_reducible refine Eq.mpr (if_neg (fun z=>gr_ne_mk (by simpa[plW]using (show [wMk]=[wGr]from z).symm))) ?_ | rw[if_neg (fun z=>gr_ne_mk (by simpa[plW]using (show [wMk]=[wGr]from z).symm))]);(first | with_reducible refine Eq.mpr (if_pos (show plW 1=[wMk]from rfl)) ?_ | rw[if_pos (show plW 1=[wMk]from rfl)]))
  ·rw[plW_sz]
   unfold readP
   ((first | with_reducible refine Eq.mpr (if_neg (by simp)) ?_ | rw[if_neg (by simp)]);(first | with_reducible refine Eq.mpr (if_neg (by simp)) ?_ | rw[if_neg (by simp)]))
   dsimp only
   ((first | with_reducible refine Eq.mpr (if_pos rfl) ?_ | rw[if_pos rfl]);rw[numIn_back (n:=(n:Int)) (a:=0) (b:=98) (by omega) (by omega) (by omega) (by omega)])
   simp
theorem noes_rep (k:Nat) (r:List Str) (h:r.head? ≠ some wNo):noes (List.replicate k wNo++r)=k:=by
 induction k with
 | zero=>
  cases r with
  | nil=>rfl
  | cons w r=>
   show noes (w::r)=0
   unfold noes
   (first | with_reducible refine Eq.mpr (if_neg (fun z=>h (by rw[z];rfl))) ?_ | rw[if_neg (fun z=>h (by rw[z];rfl))])
 | succ k ih=>
  rw[List.replicate_succ,List.cons_append]
  unfold noes
  ((first | with_reducible refine Eq.mpr (if_pos rfl) ?_ | rw[if_pos rfl]);rw[ih])
theorem noes_split (ws:List Str):ws=List.replicate (noes ws) wNo++ws.drop (noes ws):=by
 induction ws with
 | nil=>rfl
 | cons w r ih=>
  unfold noes
  by_cases h:w=wNo
  ·((first | with_reducible refine Eq.mpr (if_pos h) ?_ | rw[if_pos h]);rw[List.replicate_succ,List.drop_succ_cons,List.cons_append,<-ih,h])
  ·(first | with_reducible refine Eq.mpr (if_neg h) ?_ | rw[if_neg h]);rfl
theorem pl_head (q:Nat):(plW q).head? ≠ some wNo:=by
 rcases plain_cases q with rfl | rfl | ⟨n,rfl⟩
 ·show some wGr ≠ some wNo
  decide +kernel
 ·show some wMk ≠ some wNo
  decide +kernel
 ·rw[plW_sz]
  show some wSz ≠ some wNo
  decide +kernel
theorem readT_iff (ws:List Str) (x:T2):readT ws=some x ↔ okT x/\ws=tmW x:=by
 constructor
 ·intro h
  unfold readT at h
  split at h
  ·cases h
  ·rename_i hk
   cases hp:readP (ws.drop (noes ws))with
   | none=>rw[hp]at h;cases h
   | some q=>
    rw[hp]at h
    obtain rfl:=Option.some.inj h
    obtain⟨h1,h2⟩:=(readP_iff _ _).mp hp
    refine⟨⟨by show noes ws < 6;omega,h1⟩,?_⟩
    show ws=List.replicate (noes ws) wNo++plW q
    rw[<-h2]
    exact noes_split ws
 ·rintro⟨⟨h1,h2⟩,rfl⟩
  unfold readT tmW
  (rw[noes_rep _ _ (pl_head _)];(first | with_reducible refine Eq.mpr (if_neg (by omega)) ?_ | rw[if_neg (by omega)]))
  rw[List.drop_append_of_le_length (by simp),List.drop_of_length_le (by simp),List.nil_append,(readP_iff _ _).mpr ⟨h2,rfl⟩]
  rfl
noncomputable def go:List Str->List (List T2)->List T2->List Str->Option (List (List T2))
 | [],done,_,_=>some done
 | w::r,done,alt,cur=>if w=wOr\/w=wAnd then(match readT cur with
   | none=>none
   | some x=>if w=wOr then go r (done++[alt++[x]]) [] []else go r done (alt++[x]) [])
  else go r done alt (cur++[w])
noncomputable def preW (alt:List T2):List Str:=(alt.map fun x=>tmW x++[wAnd]).flatten
noncomputable def altW:List T2->List Str
 | []=>[]
 | [x]=>tmW x++[wOr]
 | x::y::r=>tmW x++[wAnd]++altW (y::r)
noncomputable def ruleW (as:List (List T2)):List Str:=(as.map altW).flatten
theorem altW_snoc:∀ (alt:List T2) (x:T2),altW (alt++[x])=preW alt++tmW x++[wOr]
 | [],x=>by simp[altW,preW]
 | [y],x=>by simp[altW,preW]
 | y::z::r,x=>by
  have:=altW_snoc (z::r) x
  simp only[List.cons_append]at this ⊢
  show tmW y++[wAnd]++altW (z::(r++[x]))=_
  rw[this]
  simp[preW]
theorem or_ne_and:wOr ≠ wAnd:=by decide +kernel
theorem go_sound:∀ (r:List Str) (done:List (List T2)) (alt:List T2) (cur:List Str) (res:List (List T2)),go r done alt cur=some res->(∀ a ∈ done,OkA2 a)->(∀ x ∈ alt,okT x)->
  ∃al cu,ruleW done++preW alt++cur++r=ruleW res++preW al++cu/\(∀ a ∈ res,OkA2 a)/\(r=[]->al=alt/\cu=cur)/\(r.getLast?=some wOr->al=[]/\cu=[])
 | [],done,alt,cur,res,h,hd,ha=>by
  obtain rfl:=Option.some.inj h
  exact⟨alt,cur,by simp,hd,fun _=>⟨rfl,rfl⟩,fun z=>by simp at z⟩
 | w::r,done,alt,cur,res,h,hd,ha=>by
  unfold go at h
  by_cases hs:w=wOr\/w=wAnd
  ·rw[if_pos hs]at h
   cases hx:readT cur with
   | none=>rw[hx]at h;cases h
   | some x=>
    rw[hx]at h
    dsimp only at h
    obtain⟨ok,rfl⟩:=(readT_iff _ _).mp hx
    have ha':∀y ∈ alt++[x],okT y:=fun y hy=>by
     rcases List.mem_append.mp hy with hy | hy
     ·exact ha y hy
     ·rw[List.mem_singleton.mp hy];exact ok
    by_cases ho:w=wOr
    ·rw[if_pos ho]at h
     obtain⟨al,cu,e,e2,e3,e4⟩:=go_sound r _ _ _ res h (fun a hm=>by
      rcases List.mem_append.mp hm with hm | hm
      ·exact hd a hm
      ·rw[List.mem_singleton.mp hm];exact⟨by simp,ha'⟩) (fun y hy=>nomatch hy)
     refine⟨al,cu,?_,e2,(fun z=>nomatch z),fun z=>?_⟩
     ·rw[<-e,ho]
      simp[ruleW,altW_snoc,preW]
     ·cases r with
      | nil=>exact e3 rfl
      | cons v r=>exact e4 (by rw[List.getLast?_cons_cons]at z;exact z)
    ·rw[if_neg ho]at h
     obtain⟨al,cu,e,e2,e3,e4⟩:=go_sound r _ _ _ res h hd ha'
     have hw:w=wAnd:=hs.resolve_left ho
     refine⟨al,cu,?_,e2,(fun z=>nomatch z),fun z=>?_⟩
     ·rw[<-e,hw]
      simp[preW]
     ·cases r with
      | nil=>exact absurd (by simpa using z) ho
      | cons v r=>exact e4 (by rw[List.getLast?_cons_cons]at z;exact z)
  ·rw[if_neg hs]at h
   obtain⟨al,cu,e,e2,e3,e4⟩:=go_sound r _ _ _ res h hd ha
   refine⟨al,cu,?_,e2,(fun z=>nomatch z),fun z=>?_⟩
   ·rw[<-e]
    simp
   ·cases r with
    | nil=>exact absurd (.inl (by simpa using z)) hs
    | cons v r=>exact e4 (by rw[List.getLast?_cons_cons]at z;exact z)
noncomputable def plain (w:Str):Prop:=w ≠ wOr/\w ≠ wAnd
theorem go_words:∀ (ws r:List Str) (done:List (List T2)) (alt:List T2) (cur:List Str),(∀ w ∈ ws,plain w)->go (ws++r) done alt cur=go r done alt (cur++ws)
 | [],r,done,alt,cur,_=>by simp
 | w::ws,r,done,alt,cur,h=>by
  have hw:=h w (by simp)
  rw[List.cons_append]
  show(if w=wOr\/w=wAnd then _ else go (ws++r) done alt (cur++[w]))=_
  ((first | with_reducible refine Eq.mpr (if_neg (fun z=>z.elim hw.1 hw.2)) ?_ | rw[if_neg (fun z=>z.elim hw.1 hw.2)]);rw[go_words ws r done alt (cur++[w]) fun v hv=>h v (by simp[hv])])
  simp
theorem num_plain:((List.range 99).all fun n=>decide (Str.ofString (toString (n:Int)) ≠ wOr/\Str.ofString (toString (n:Int)) ≠ wAnd/\32 ∉ cps (Str.ofString (toString (n:Int)))))=true:=by decide +kernel
theorem tmW_plain {x:T2} (h:okT x):∀w ∈ tmW x,plain w/\32 ∉ cps w:=by
 intro w hw
 unfold tmW at hw
 rcases List.mem_append.mp hw with hw | hw
 ·rw[(List.mem_replicate.mp hw).2]
  exact⟨⟨by decide +kernel,by decide +kernel⟩,by decide +kernel⟩
 ·rcases plain_cases x.2 with e | e | ⟨n,e⟩
  ·rw[e]at hw
   rw[show w=wGr from by simpa[plW]using hw]
   exact⟨⟨by decide +kernel,by decide +kernel⟩,by decide +kernel⟩
  ·rw[e]at hw
   rw[show w=wMk from by simpa[plW]using hw]
   exact⟨⟨by decide +kernel,by decide +kernel⟩,by decide +kernel⟩
  ·rw[e,plW_sz]at hw
   have hn:n < 99:=by have:=h.2;omega
   rcases List.mem_cons.mp hw with hw | hw
   ·rw[hw]
    exact⟨⟨by decide +kernel,by decide +kernel⟩,by decide +kernel⟩
   ·rw[List.mem_singleton.mp hw]
    have:=of_decide_eq_true (List.all_eq_true.mp num_plain n (List.mem_range.mpr hn))
    exact⟨⟨this.1,this.2.1⟩,this.2.2⟩
theorem go_alt:∀ (ts:List T2) (r:List Str) (done:List (List T2)) (alt:List T2),ts ≠ []->(∀ x ∈ ts,okT x)->go (altW ts++r) done alt []=go r (done++[alt++ts]) [] []
 | [],_,_,_,h,_=>absurd rfl h
 | [x],r,done,alt,_,h=>by
  have hx:=h x (by simp)
  show go (tmW x++[wOr]++r) done alt []=_
  rw[List.append_assoc,go_words _ _ _ _ _ fun w hw=>(tmW_plain hx w hw).1,List.nil_append]
  show(if wOr=wOr\/wOr=wAnd then _ else _)=_
  ((first | with_reducible refine Eq.mpr (if_pos (.inl rfl)) ?_ | rw[if_pos (.inl rfl)]);rw[(readT_iff _ _).mpr ⟨hx,rfl⟩])
  dsimp only
  (first | with_reducible refine Eq.mpr (if_pos rfl) ?_ | rw[if_pos rfl])
  rfl
 | x::y::q,r,done,alt,_,h=>by
  have hx:=h x (by simp)
  have ih:=go_alt (y::q) r done (alt++[x]) (by simp) fun z hz=>h z (List.mem_cons_of_mem _ hz)
  show go (tmW x++[wAnd]++altW (y::q)++r) done alt []=_
  rw[List.append_assoc,List.append_assoc,go_words _ _ _ _ _ fun w hw=>(tmW_plain hx w hw).1,List.nil_append]
  show(if wAnd=wOr\/wAnd=wAnd then _ else _)=_
  ((first | with_reducible refine Eq.mpr (if_pos (.inr rfl)) ?_ | rw[if_pos (.inr rfl)]);rw[(readT_iff _ _).mpr ⟨hx,rfl⟩])
  dsimp only
  (first | with_reducible refine Eq.mpr (if_neg (fun z=>or_ne_and z.symm)) ?_ | rw[if_neg (fun z=>or_ne_and z.symm)])
  show go (altW (y::q)++r) done (alt++[x]) []=_
  rw[ih]
  simp
theorem go_rule:∀ (as:List (List T2)) (done:List (List T2)),(∀ a ∈ as,OkA2 a)->go (ruleW as) done [] []=some (done++as)
 | [],done,_=>by simp[ruleW,go]
 | a::as,done,h=>by
  have ha:=h a (by simp)
  have ih:=go_rule as (done++[a]) fun z hz=>h z (List.mem_cons_of_mem _ hz)
  show go (altW a++ruleW as) done [] []=_
  rw[go_alt a _ _ _ ha.ne ha.all,List.nil_append,ih]
  simp
noncomputable def sp (ws:List Str):List Nat:=(ws.map fun w=>cps w++[32]).flatten
theorem sp_app (a b:List Str):sp (a++b)=sp a++sp b:=by simp[sp]
theorem sp_one (w:Str):sp [w]=cps w++[32]:=by simp[sp]
theorem sp_join {ws:List Str} (h:ws ≠ []):joinL [32] ws++[32]=sp ws:=by
 cases ws with
 | nil=>exact absurd rfl h
 | cons v r=>
  unfold joinL
  show cps v++_++[32]=(cps v++[32])++sp r
  have:∀r:List Str,(r.map fun p=>[32]++cps p).flatten++[32]=[32]++sp r:=by
   intro r
   induction r with
   | nil=>rfl
   | cons w r ih=>
    rw[List.map_cons,List.flatten_cons,List.append_assoc,ih]
    simp[sp]
  rw[List.append_assoc,this r,List.append_assoc]
theorem first_blank:∀ {a b x y:List Nat},32 ∉ a->32 ∉ b->a++32::x=b++32::y->a=b/\x=y
 | [],[],x,y,_,_,e=>⟨rfl,by simpa using e⟩
 | [],d::b,x,y,_,hb,e=>by
  simp only[List.nil_append,List.cons_append,List.cons.injEq]at e
  exact absurd (by rw[<-e.1];simp) hb
 | c::a,[],x,y,ha,_,e=>by
  simp only[List.nil_append,List.cons_append,List.cons.injEq]at e
  exact absurd (by rw[e.1];simp) ha
 | c::a,d::b,x,y,ha,hb,e=>by
  simp only[List.cons_append,List.cons.injEq]at e
  obtain⟨h1,h2⟩:=first_blank (fun z=>ha (List.mem_cons_of_mem _ z)) (fun z=>hb (List.mem_cons_of_mem _ z)) e.2
  exact⟨by rw[e.1,h1],h2⟩
theorem sp_inj:∀ {a b:List Str},(∀ w ∈ a,32 ∉ cps w)->(∀ w ∈ b,32 ∉ cps w)->sp a=sp b->a=b
 | [],[],_,_,_=>rfl
 | [],w::b,_,_,e=>by simp[sp]at e
 | w::a,[],_,_,e=>by simp[sp]at e
 | v::a,w::b,ha,hb,e=>by
  have e:cps v++32::sp a=cps w++32::sp b:=by simpa[sp]using e
  obtain⟨h1,h2⟩:=first_blank (ha v (by simp)) (hb w (by simp)) e
  rw[ext_l (x:=v) (y:=w) h1,sp_inj (fun z hz=>ha z (by simp[hz])) (fun z hz=>hb z (by simp[hz])) h2]
theorem no_sp (k:Nat):sp (List.replicate k wNo)=noC k:=by
 induction k with
 | zero=>rfl
 | succ k ih=>
  rw[List.replicate_succ]
  show cps wNo++[32]++sp (List.replicate k wNo)=110::111::32::noC k
  rw[ih,show cps wNo=[110,111]from by decide +kernel]
  rfl
theorem pl_sp (q:Nat):sp (plW q)=cps (plainTx q)++[32]:=by
 rcases plain_cases q with rfl | rfl | ⟨n,rfl⟩
 ·simp[sp,plW,plainTx]
 ·simp[sp,plW,plainTx]
 ·have:=plain_sz n
  rw[plW_sz]
  show cps wSz++[32]++sp [_]=(plainTx (n + 2)).cps.toList++[32]
  rw[this,sp_one,show cps wSz=[115,105,122,101,115]from by decide +kernel]
  simp[cps]
theorem tm_sp (x:T2):sp (tmW x)=cps (txP x)++[32]:=by
 unfold tmW
 rw[sp_app,no_sp,pl_sp]
 show _=(tx x.1 x.2).cps.toList++[32]
 rw[tx_cps,List.append_assoc]
theorem alt_sp:∀ (ts:List T2),ts ≠ []->sp (altW ts)=cps (altTx ts)++[32,111,114,32]
 | [],h=>absurd rfl h
 | [x],_=>by
  show sp (tmW x++[wOr])=_
  rw[sp_app,tm_sp,sp_one,show cps wOr=[111,114]from by decide +kernel]
  have e:cps (altTx [x])=cps (txP x):=by
   unfold altTx
   rw[cps_join]
   simp[joinL]
  rw[e]
  simp
 | x::y::r,_=>by
  have ih:=alt_sp (y::r) (by simp)
  show sp (tmW x++[wAnd]++altW (y::r))=_
  rw[sp_app,sp_app,tm_sp,sp_one,show cps wAnd=[97,110,100]from by decide +kernel,ih]
  have e:cps (altTx (x::y::r))=cps (txP x)++[32,97,110,100,32]++cps (altTx (y::r)):=by
   unfold altTx
   rw[cps_join,cps_join,and_codes]
   simp[joinL]
  rw[e]
  simp
theorem rule_sp:∀ (as:List (List T2)),as ≠ []->(∀ a ∈ as,OkA2 a)->sp (ruleW as)=cps (ruleTx as)++[32,111,114,32]
 | [],h,_=>absurd rfl h
 | [a],_,ok=>by
  have e:cps (ruleTx [a])=cps (altTx a):=by
   unfold ruleTx
   rw[cps_join]
   simp[joinL]
  rw[e,<-alt_sp a (ok a (by simp)).ne]
  simp[ruleW]
 | a::b::r,_,ok=>by
  have ih:=rule_sp (b::r) (by simp) fun z hz=>ok z (List.mem_cons_of_mem _ hz)
  have e:cps (ruleTx (a::b::r))=cps (altTx a)++[32,111,114,32]++cps (ruleTx (b::r)):=by
   unfold ruleTx
   rw[cps_join,cps_join,or_codes]
   simp[joinL]
  show sp (altW a++ruleW (b::r))=_
  rw[sp_app,ih,alt_sp a (ok a (by simp)).ne,e]
  simp
theorem altW_free:∀ (ts:List T2),(∀ x ∈ ts,okT x)->∀w ∈ altW ts,32 ∉ cps w
 | [],_,w,hw=>nomatch hw
 | [x],h,w,hw=>by
  rcases List.mem_append.mp hw with hw | hw
  ·exact(tmW_plain (h x (by simp)) w hw).2
  ·rw[List.mem_singleton.mp hw];decide +kernel
 | x::y::r,h,w,hw=>by
  rcases List.mem_append.mp hw with hw | hw
  ·rcases List.mem_append.mp hw with hw | hw
   ·exact(tmW_plain (h x (by simp)) w hw).2
   ·rw[List.mem_singleton.mp hw];decide +kernel
  ·exact altW_free (y::r) (fun z hz=>h z (List.mem_cons_of_mem _ hz)) w hw
noncomputable def readR (t:Str):Option (List (List T2)):=go (Txt.split t (Str.ofString " ")++[wOr]) [] [] []
theorem blank_one:(Str.ofString " ")=(⟨#[32]⟩:Str):=by decide +kernel
theorem readR_iff (t:Str) (as:List (List T2)):readR t=some as ↔ OkR2 as/\t=ruleTx as:=by
 have hj:=split_joins t 32
 have hn:=split_some t 32
 have hf:∀p ∈ Txt.split t ⟨#[32]⟩,32 ∉ cps p:=Wd.split_free
 unfold readR
 rw[blank_one]
 generalize Txt.split t ⟨#[32]⟩=ws at hj hn hf ⊢
 have hsp:sp (ws++[wOr])=cps t++[32,111,114,32]:=by
  rw[sp_app,<-sp_join hn,<-hj,sp_one,show cps wOr=[111,114]from by decide +kernel]
  simp
 constructor
 ·intro h
  obtain⟨al,cu,e,e2,_,e4⟩:=go_sound _ _ _ _ as h (fun a ha=>nomatch ha) (fun a ha=>nomatch ha)
  obtain⟨rfl,rfl⟩:=e4 (by simp)
  have e:ws++[wOr]=ruleW as:=by simpa[ruleW,preW]using e
  have hne:as ≠ []:=fun z=>by
   rw[z]at e
   simp[ruleW]at e
  have:=rule_sp as hne e2
  rw[<-e,hsp]at this
  exact⟨⟨hne,e2⟩,ext_l (List.append_cancel_right this)⟩
 ·rintro⟨ok,rfl⟩
  have e:ws++[wOr]=ruleW as:=by
   refine sp_inj (fun w hw=>?_) (fun w hw=>?_) (hsp.trans (rule_sp as ok.ne ok.all).symm)
   ·rcases List.mem_append.mp hw with hw | hw
    ·exact hf w hw
    ·rw[List.mem_singleton.mp hw];decide +kernel
   ·obtain⟨l,hl,hw⟩:=List.mem_flatten.mp hw
    obtain⟨a,ha,rfl⟩:=List.mem_map.mp hl
    exact altW_free a (ok.all a ha).all w hw
  rw[e,go_rule as [] ok.all]
  rfl
end Ls
namespace Ls
set_option genInjectivity false
open PySem PySem.Spec PyProof.Rows L2 Sw Wd Tx Rl
@[reducible] noncomputable def N__law_bound:List Str:=["_law_word","_law_sign_here"]
noncomputable def b__law_bound:Sxs:=(.cons (.fr 1 (.ex (.var 0)) (.cons (.iff (.not (.cmp2 .LtE .LtE (.con (.str "0")) (.var 1) (.con (.str "9")))) (.cons (.ret (.con .non))
  .nil) .nil)
 .nil))
 (.cons (.iff (.or (.not (.cmp2 .LtE .LtE (.con (.int 1)) (.blt .len (.cons (.var 0) .nil)) (.con (.int 2)))) (.or (.and (.cmp .Eq (.blt .len (.cons (.var 0) .nil)) (.con (.int 2))) (.cmp .Eq (.idx (.var 0) (.con (.int 0))) (.con (.str "0")))) (.cmp .Gt (.blt .int (.cons (.var 0) .nil)) (.con (.int 98))))) (.cons (.ret (.con .non))
 .nil) .nil)
 (.cons (.ret (.blt .int (.cons (.var 0) .nil)))
 .nil)))
@[reducible] noncomputable def N__law_read_term:List Str:=["_law_words","_law_times"]
noncomputable def b__law_read_term:Sxs:=(.cons (.asg 1 (.con (.int 0)))
 (.cons (.whl (.and (.cmp .Lt (.var 1) (.blt .len (.cons (.var 0) .nil))) (.cmp .Eq (.idx (.var 0) (.var 1)) (.con (.str "no")))) (.cons (.asg 1 (.bin .Add (.var 1) (.con (.int 1))))
 .nil))
 (.cons (.iff (.cmp .Gt (.var 1) (.con (.int 5))) (.cons (.ret (.con .non))
 .nil) .nil)
 (.cons (.iff (.or (.cmp .Eq (.slc (.var 0) (.cons (.var 1) .nil) .nil) (.lst (.cons (.con (.str "groups")) .nil))) (.cmp .Eq (.slc (.var 0) (.cons (.var 1) .nil) .nil) (.lst (.cons (.con (.str "marks")) .nil)))) (.cons (.ret (.tup (.cons (.var 1) (.cons (.idx (.var 0) (.var 1)) (.cons (.con (.int 0)) .nil)))))
 .nil) .nil)
 (.cons (.iff (.or (.cmp .NotEq (.blt .len (.cons (.var 0) .nil)) (.bin .Add (.var 1) (.con (.int 2)))) (.or (.cmp .NotEq (.idx (.var 0) (.var 1)) (.con (.str "sizes"))) (.cmp .Is (.call "_law_bound" (.cons (.idx (.var 0) (.bin .Add (.var 1) (.con (.int 1)))) .nil)) (.con .non)))) (.cons (.ret (.con .non))
 .nil) .nil)
 (.cons (.ret (.tup (.cons (.var 1) (.cons (.con (.str "sizes")) (.cons (.call "_law_bound" (.cons (.idx (.var 0) (.bin .Add (.var 1) (.con (.int 1)))) .nil)) .nil)))))
 .nil))))))
@[reducible] noncomputable def N__law_read:List Str:=["_law_text","_law_found","_law_words","_law_word","_law_term_here"]
noncomputable def b__law_read:Sxs:=(.cons (.asg 1 (.lst (.cons (.lst .nil) .nil)))
 (.cons (.asg 2 (.lst .nil))
 (.cons (.fr 3 (.ex (.bin .Add (.mth .split (.var 0) (.cons (.con (.str " ")) .nil)) (.lst (.cons (.con (.str "or")) .nil)))) (.cons (.iff (.or (.cmp .Eq (.var 3) (.con (.str "or"))) (.cmp .Eq (.var 3) (.con (.str "and")))) (.cons (.asg 4 (.call "_law_read_term" (.cons (.var 2) .nil)))
  (.cons (.iff (.cmp .Is (.var 4) (.con .non)) (.cons (.ret (.con .non))
  .nil) .nil)
  (.cons (.exp (.mth .append (.idx (.var 1) (.neg (.con (.int 1)))) (.cons (.var 4) .nil)))
  (.cons (.asg 2 (.lst .nil))
  (.cons (.iff (.cmp .Eq (.var 3) (.con (.str "or"))) (.cons (.exp (.mth .append (.var 1) (.cons (.lst .nil) .nil)))
  .nil) .nil)
  .nil))))) (.cons (.exp (.mth .append (.var 2) (.cons (.var 3) .nil)))
  .nil))
 .nil))
 (.cons (.ret (.slc (.var 1) .nil (.cons (.neg (.con (.int 1))) .nil)))
 .nil))))
variable {M:Mo}
theorem le_chr (lo c:Nat):(!decide ([c] < [lo]))=decide (lo<=c):=by
 rw[Bool.eq_iff_iff]
 simp[lt_one]
theorem sign_loop {Γ:Gam} {lo hi:Str} {l h:Nat} (hl:lo.cps.toList=[l]) (hh:hi.cps.toList=[h]) {t:Str} {D:Ends} {H:Hp} {stay:Hp->Prop} {i:Nat} {σ:L2.St} (hi':i < σ.length) (hs:stay H)
  (h0:((cps t).all (inRange l h))=false->D.rt .non H) (h1:((cps t).all (inRange l h))=true->∀v,D.nx (σ.set i v) H):
  forW i (wSs (.cons (.iff (.not (.cmp2 .LtE .LtE (.con (.str lo)) (.var i) (.con (.str hi)))) (.cons (.ret (.con .non)) .nil) .nil) .nil) Γ X0) stay ((cps t).map fun c=>.str ⟨#[c]⟩) D σ H:=by
 refine for_inv (fun n σ' H'=>H'=H/\(∃ v,σ'=σ.set i v)/\((cps t).take n).all (inRange l h)=true) (fun n σ H' p=>p.1 ▸ hs) ?_ ?_ ⟨rfl,⟨σ[i],by simp⟩,rfl⟩
 ·rintro n v σ' H' D' hv ⟨rfl,⟨w,rfl⟩,ha⟩ hn hct hrt hbk
  rw[List.getElem?_map]at hv
  obtain⟨c,hc,rfl⟩:=Option.map_eq_some_iff.mp hv
  have hmem:c ∈ cps t:=List.mem_of_getElem? hc
  have htk:(cps t).take (n + 1)=(cps t).take n++[c]:=by
   rw[List.take_succ,hc]
   rfl
  rw[List.set_set]
  have hg:(σ.set i (some (V.str ⟨#[c]⟩)))[i]?=some (some (V.str ⟨#[c]⟩)):=by rw[List.getElem?_set_self hi']
  dsimp only[Sw.wSs,Sw.wS,Sw.wE,Sw.wT,Sw.wEs,Sw.wTs,Sw.wI,Sw.wP,Sw.vars,L2.start,Sw.r_get0,Sw.r_getS,Sw.r_set0,Sw.r_setS,Sw.r_map0,Sw.r_mapS,Sw.r_app0,Sw.r_appS,Sw.r_len0,Sw.r_lenS,Sw.r_rep0,Sw.r_repS,Sw.r_join,Sw.startC,Nat.reduceAdd,Nat.reduceSub]
  simp only[hg]
  simp only[Sw.v_les,hl,hh,le_chr]
  refine⟨_,rfl,?_⟩
  by_cases q1:l<=c
  ·(first | with_reducible refine Eq.mpr (if_pos (by simpa using q1)) ?_ | rw [if_pos (by simpa using q1)])
   refine⟨_,rfl,?_⟩
   by_cases q2:c<=h
   ·(first | with_reducible refine Eq.mpr (if_neg (by simpa using q2)) ?_ | rw[if_neg (by simpa using q2)])
    refine hn _ _ ⟨rfl,⟨_,rfl⟩,?_⟩
    rw[htk,List.all_append,ha]
    simp[inRange,q1,q2]
   ·(first | with_reducible refine Eq.mpr (if_pos (by simpa using q2)) ?_ | rw[if_pos (by simpa using q2)])
    rw[hrt]
    refine h0 (List.all_eq_false.mpr ⟨c,hmem,?_⟩)
    simp[inRange,q2]
  ·(first | with_reducible refine Eq.mpr (if_neg (by simpa using q1)) ?_ | rw[if_neg (by simpa using q1)])
   refine⟨_,rfl,?_⟩
   show D'.rt .non H'
   rw[hrt]
   refine h0 (List.all_eq_false.mpr ⟨c,hmem,?_⟩)
   simp[inRange,q1]
 ·rintro σ' H' ⟨rfl,⟨v,rfl⟩,ha⟩
  rw[List.length_map,List.take_length]at ha
  exact h1 ha v
noncomputable def optI:Option Int->V
 | some n=>.int n
 | none=>.non
theorem num1:((List.range 10).all fun c=>decide (numIn ⟨#[48 + c]⟩ 0 98=some (c:Int)) && decide (PySem.intText? ⟨#[48 + c]⟩=some (c:Int)))=true:=by decide +kernel
theorem num2:((List.range 10).all fun c=>(List.range 10).all fun d=>decide (numIn ⟨#[48 + c,48 + d]⟩ 0 98=if c=0\/98 < 10 * c + d then none else some ((10 * c + d:Nat):Int)) && decide (PySem.intText? ⟨#[48 + c,48 + d]⟩=some ((10 * c + d:Nat):Int)))=true:=by decide +kernel
theorem num_dig:((List.range 99).all fun n=>(cps (Str.ofString (toString (n:Int)))).all (inRange 48 57) && decide ((cps (Str.ofString (toString (n:Int)))).length<=2))=true:=by decide +kernel
theorem num_of {t:Str} {n:Int} (h:numIn t 0 98=some n):(cps t).all (inRange 48 57)=true/\(cps t).length<=2:=by
 obtain⟨h0,h1,_,h3⟩:=numIn_canon h
 obtain⟨k,rfl⟩:∃k:Nat,n=(k:Int):=⟨n.toNat,by omega⟩
 have:=List.all_eq_true.mp num_dig k (List.mem_range.mpr (by omega))
 rw[Bool.and_eq_true,decide_eq_true_eq,<-h1]at this
 exact this
theorem range_dig {c:Nat} (h:inRange 48 57 c=true):∃k,k < 10/\c=48 + k:=by
 simp only[inRange,Bool.and_eq_true,decide_eq_true_eq]at h
 exact⟨c - 48,by omega,by omega⟩
noncomputable def spBound:Sp:=fun vs H Q _=>∃t:Str,vs=[.str t]/\t.length<=640/\Q (optI (numIn t 0 98)) H
theorem of_l (t:Str) (l:List Nat) (h:cps t=l):t=⟨l.toArray⟩:=ext_l (by rw[<-h])
theorem ok_bound {Γ:Gam} (hc:Γ.cm=true) (vs:List V) (H:Hp) (Q:VK) (E:XK) (h:spBound vs H Q E):spOf Γ N__law_bound 1 b__law_bound vs H Q E:=by
 obtain⟨t,rfl,ht,h⟩:=h
 refine⟨rfl,?_⟩
 have hz:t.length<=sizeLine:=Nat.le_trans ht (by decide)
 unfold b__law_bound
 refine seq ?_
 dsimp only[Sw.wS,Sw.wE,Sw.wT,Sw.wEs,Sw.wTs,Sw.wI,Sw.wP,Sw.vars,L2.start,Sw.r_get0,Sw.r_getS,Sw.r_set0,Sw.r_setS,Sw.r_map0,Sw.r_mapS,Sw.r_app0,Sw.r_appS,Sw.r_len0,Sw.r_lenS,Sw.r_rep0,Sw.r_repS,Sw.r_join,Sw.startC,Nat.reduceAdd,Nat.reduceSub]
 refine⟨hc,hz,?_⟩
 have none_of:numIn t 0 98=none->Q .non H:=fun e=>by rw[e]at h;exact h
 refine sign_loop n0_codes n9_codes (by simp) trivial (fun q=>?_) fun q v=>?_
 ·refine none_of ?_
  cases e:numIn t 0 98 with
  | none=>rfl
  | some n=>rw[(num_of e).1]at q;cases q
 ·dsimp only[Sw.wSs,Sw.wS,Sw.wE,Sw.wT,Sw.wEs,Sw.wTs,Sw.wI,Sw.wP,Sw.vars,L2.start,Sw.r_get0,Sw.r_getS,Sw.r_set0,Sw.r_setS,Sw.r_map0,Sw.r_mapS,Sw.r_app0,Sw.r_appS,Sw.r_len0,Sw.r_lenS,Sw.r_rep0,Sw.r_repS,Sw.r_join,Sw.startC,Nat.reduceAdd,Nat.reduceSub]
  simp only[hc,true_and,Sw.b_lens,hz]
  have hlen:(t.length:Int)=((cps t).length:Int):=by rw[len_cps]
  rw[hlen]
  rcases hcs:cps t with _ | ⟨c,_ | ⟨d,_ | ⟨e,r⟩⟩⟩
  ·(first | with_reducible refine Eq.mpr (Sw.v_le ..) ?_ | rw[Sw.v_le])
   refine⟨_,rfl,?_⟩
   (first | with_reducible refine Eq.mpr (if_neg (by simp)) ?_ | rw[if_neg (by simp)])
   refine⟨_,rfl,?_⟩
   (first | with_reducible refine Eq.mpr (if_pos (by rfl)) ?_ | rw[if_pos (by rfl)])
   refine none_of ?_
   rw[of_l t [] hcs]
   decide +kernel
  ·rw[hcs]at q
   obtain⟨k,hk,rfl⟩:=range_dig (c:=c) (by simpa using q)
   have et:=of_l t [48 + k] hcs
   have:=List.all_eq_true.mp num1 k (List.mem_range.mpr hk)
   rw[Bool.and_eq_true,decide_eq_true_eq,decide_eq_true_eq,<-et]at this
   rw[this.1]at h
   (first | with_reducible refine Eq.mpr (Sw.v_le ..) ?_ | rw[Sw.v_le])
   refine⟨_,rfl,?_⟩
   ((first | with_reducible refine Eq.mpr (if_pos (by simp)) ?_ | rw[if_pos (by simp)]);(first | with_reducible refine Eq.mpr (Sw.v_le ..) ?_ | rw[Sw.v_le]))
   refine⟨_,rfl,?_⟩
   ((first | with_reducible refine Eq.mpr (if_neg (by simp)) ?_ | rw[if_neg (by simp)]);(first | with_reducible refine Eq.mpr (Sw.v_eqi ..) ?_ | rw[Sw.v_eqi]))
   refine⟨_,rfl,?_⟩
   ((first | with_reducible refine Eq.mpr (if_neg (by simp)) ?_ | rw[if_neg (by simp)]);(first | with_reducible refine Eq.mpr (if_neg (by decide)) ?_ | rw[if_neg (by decide)]);(first | with_reducible refine Eq.mpr (Sw.b_int ..) ?_ | rw[Sw.b_int]);rw[this.2])
   refine⟨ht,?_⟩
   dsimp only
   (first | with_reducible refine Eq.mpr (Sw.v_gt ..) ?_ | rw[Sw.v_gt])
   refine⟨_,rfl,?_⟩
   ((first | with_reducible refine Eq.mpr (if_neg (by simp;omega)) ?_ | rw[if_neg (by simp;omega)]);(first | with_reducible refine Eq.mpr (Sw.b_int ..) ?_ | rw[Sw.b_int]);rw[this.2])
   exact⟨ht,h⟩
  ·rw[hcs]at q
   simp only[List.all_cons,List.all_nil,Bool.and_true,Bool.and_eq_true]at q
   obtain⟨k,hk,rfl⟩:=range_dig (c:=c) q.1
   obtain⟨j,hj,rfl⟩:=range_dig (c:=d) q.2
   have et:=of_l t [48 + k,48 + j] hcs
   have:=List.all_eq_true.mp (List.all_eq_true.mp num2 k (List.mem_range.mpr hk)) j (List.mem_range.mpr hj)
   rw[Bool.and_eq_true,decide_eq_true_eq,decide_eq_true_eq,<-et]at this
   rw[this.1]at h
   (first | with_reducible refine Eq.mpr (Sw.v_le ..) ?_ | rw[Sw.v_le])
   refine⟨_,rfl,?_⟩
   ((first | with_reducible refine Eq.mpr (if_pos (by simp)) ?_ | rw[if_pos (by simp)]);(first | with_reducible refine Eq.mpr (Sw.v_le ..) ?_ | rw[Sw.v_le]))
   refine⟨_,rfl,?_⟩
   ((first | with_reducible refine Eq.mpr (if_neg (by simp)) ?_ | rw[if_neg (by simp)]);(first | with_reducible refine Eq.mpr (Sw.v_eqi ..) ?_ | rw[Sw.v_eqi]))
   refine⟨_,rfl,?_⟩
   ((first | with_reducible refine Eq.mpr (if_pos (by simp)) ?_ | rw[if_pos (by simp)]);(first | with_reducible refine Eq.mpr (i_str ..) ?_ | rw[i_str]))
   have e0:atI t.cps.toList 0=some (48 + k):=by
    show atI (cps t) 0=_
    rw[hcs]
    rfl
   rw[e0]
   refine⟨hz,?_⟩
   dsimp only
   (first | with_reducible refine Eq.mpr (Sw.v_eqs ..) ?_ | rw[Sw.v_eqs])
   refine⟨_,rfl,?_⟩
   have ez:((⟨#[48 + k]⟩:Str)=Str.ofString "0") ↔ k=0:=by
    constructor
    ·intro z
     have:=congrArg (fun x:Str=>x.cps.toList) z
     rw[n0_codes]at this
     simpa using this
    ·rintro rfl
     decide +kernel
   by_cases k0:k=0
   ·((first | with_reducible refine Eq.mpr (if_pos (by simpa using ez.mpr k0)) ?_ | rw[if_pos (by simpa using ez.mpr k0)]);(first | with_reducible refine Eq.mpr (if_pos trivial) ?_ | rw[if_pos trivial]))
    rw[if_pos (.inl k0)]at h
    exact h
   ·((first | with_reducible refine Eq.mpr (if_neg (by simpa using fun z => k0 (ez.mp z))) ?_ | rw [if_neg (by simpa using fun z => k0 (ez.mp z))]); (first | with_reducible refine Eq.mpr (Sw.b_int ..) ?_ | rw [Sw.b_int]); rw [this.2])
    refine⟨ht,?_⟩
    dsimp only
    (first | with_reducible refine Eq.mpr (Sw.v_gt ..) ?_ | rw[Sw.v_gt])
    refine⟨_,rfl,?_⟩
    by_cases k1:98 < 10 * k + j
    ·(first | with_reducible refine Eq.mpr (if_pos (by simp;omega)) ?_ | rw[if_pos (by simp;omega)])
     rw[if_pos (.inr k1)]at h
     exact h
    ·((first | with_reducible refine Eq.mpr (if_neg (by simp;omega)) ?_ | rw[if_neg (by simp;omega)]);(first | with_reducible refine Eq.mpr (Sw.b_int ..) ?_ | rw[Sw.b_int]);rw[this.2])
     rw[if_neg (by omega)]at h
     exact⟨ht,h⟩
  ·(first | with_reducible refine Eq.mpr (Sw.v_le ..) ?_ | rw [Sw.v_le])
   refine⟨_,rfl,?_⟩
   ((first | with_reducible refine Eq.mpr (if_pos (by simp;omega)) ?_ | rw[if_pos (by simp;omega)]);(first | with_reducible refine Eq.mpr (Sw.v_le ..) ?_ | rw[Sw.v_le]))
   refine⟨_,rfl,?_⟩
   (first | with_reducible refine Eq.mpr (if_pos (by simp;omega)) ?_ | rw[if_pos (by simp;omega)])
   refine none_of ?_
   cases e:numIn t 0 98 with
   | none=>rfl
   | some n=>
    have:=(num_of e).2
    rw[hcs]at this
    simp at this
end Ls
namespace Ls
set_option genInjectivity false
open PySem PySem.Spec PyProof.Rows L2 Sw Wd Tx Rl Lw
variable {M:Mo}
theorem eqv_strs:∀a b:List Str,PyData.eqvAll (a.map PyData.str) (b.map PyData.str)=decide (a=b)
 | [],[]=>by simp[PyData.eqvAll]
 | [],_::_=>by simp[PyData.eqvAll]
 | _::_,[]=>by simp[PyData.eqvAll]
 | x::a,y::b=>by
  simp only[List.map_cons,PyData.eqvAll,PyData.eqv,eqv_strs a b]
  rw[Bool.eq_iff_iff]
  simp
theorem allM_data {H:Hp}:∀ws:List Str,allM (data M H 0) (ws.map V.str)=some (ws.map PyData.str)
 | []=>rfl
 | w::r=>by
  have ih:=allM_data (H:=H) r
  rw[List.map_cons,List.map_cons]
  unfold allM
  rw[ih]
  rfl
theorem eq_lists {H:Hp} {p q:Addr} {a b:List Str} {Q:VK} (hp:rd M H p=some (.lst (a.map V.str))) (hq:rd M H q=some (.lst (b.map V.str))) (h:Q (.bl (decide (a=b))) H):cmpV M .Eq (.ref p) (.ref q) H Q:=by
 have e1:data M H 1 (.ref p)=some (.list (a.map PyData.str)):=by
  show(match rd M H p with | some (.lst xs)=>(allM (data M H 0) xs).map PyData.list | some (.tup xs)=>(allM (data M H 0) xs).map PyData.tuple | _=>none)=_
  rw[hp]
  dsimp only
  rw[allM_data]
  rfl
 have e2:data M H 1 (.ref q)=some (.list (b.map PyData.str)):=by
  show(match rd M H q with | some (.lst xs)=>(allM (data M H 0) xs).map PyData.list | some (.tup xs)=>(allM (data M H 0) xs).map PyData.tuple | _=>none)=_
  rw[hq]
  dsimp only
  rw[allM_data]
  rfl
 show(if scal (.ref p) (.ref q)=true then Q (.bl (decide (V.ref p=V.ref q))) H else match data M H 1 (.ref p),data M H 1 (.ref q)with | some d,some e=>Q (.bl (PyData.eqv d e)) H | _,_=>False)
 ((first | with_reducible refine Eq.mpr (Sw.s_rr ..) ?_ | rw[Sw.s_rr]);(first | with_reducible refine Eq.mpr (if_neg (by decide)) ?_ | rw[if_neg (by decide)]);rw[e1,e2])
 dsimp only
 have:PyData.eqv (.list (a.map PyData.str)) (.list (b.map PyData.str))=decide (a=b):=by
  simp only[PyData.eqv,eqv_strs]
 rw[this]
 exact h
noncomputable def ltOf:T2->Lt
 | (t,0)=>⟨t,0,0⟩
 | (t,1)=>⟨t,1,0⟩
 | (t,n + 2)=>⟨t,2,n⟩
theorem ltOf_ok:∀ {x:T2},okT x->(ltOf x).Ok
 | (t,0),h=>⟨h.1,by show 0 < 3;omega,by show 0 < 99;omega⟩
 | (t,1),h=>⟨h.1,by show 1 < 3;omega,by show 0 < 99;omega⟩
 | (t,n + 2),h=>⟨h.1,by show 2 < 3;omega,by have:n + 2 < 101:=h.2;show n < 99;omega⟩
theorem ltOf_code:∀ {x:T2},(ltOf x).code=x
 | (t,0)=>rfl
 | (t,1)=>rfl
 | (t,n + 2)=>rfl
theorem noes_le:∀ws:List Str,noes ws<=ws.length
 | []=>Nat.le_refl _
 | w::r=>by
  unfold noes
  have:=noes_le r
  split
  ·rw[List.length_cons];omega
  ·omega
theorem noes_get:∀ {ws:List Str} {j:Nat},j < noes ws->ws[j]?=some wNo
 | [],j,h=>by simp[noes]at h
 | w::r,j,h=>by
  unfold noes at h
  split at h
  ·rename_i e
   cases j with
   | zero=>rw[e];rfl
   | succ j=>simpa using noes_get (ws:=r) (j:=j) (by omega)
  ·omega
theorem noes_stop:∀ {ws:List Str},ws[noes ws]? ≠ some wNo
 | []=>by simp
 | w::r=>by
  unfold noes
  split
  ·have:=noes_stop (ws:=r)
   simpa using this
  ·rename_i e
   simpa using e
noncomputable def GivesR (M:Mo) (o:Option T2) (H:Hp) (Q:VK):Prop:=match o with
 | none=>∀H',Ext M H H'->Q .non H'
 | some x=>∀H' a,Ext M H H'->H' a=some (.tup (ltOf x).vs)->Q (.ref a) H'
noncomputable def spReadT (M:Mo):Sp:=fun vs H Q _=>∃l ws,vs=[.ref l]/\rd M H l=some (.lst (ws.map V.str))/\ws.length<=700/\(∀ w ∈ ws,w.length<=640)/\GivesR M (readT ws) H Q
structure L8 (Γ:Gam) (M:Mo):Prop where
 cm:Γ.cm=true
 mod:Γ.mod=M
 bd:Γ.has "_law_bound" =true/\Γ.fn "_law_bound" =spBound
theorem at_str {ws:List Str} {j:Nat} {w:Str} (h:ws[j]?=some w):atI (ws.map V.str) (j:Int)=some (.str w):=by
 have hlt:=(List.getElem?_eq_some_iff.mp h).1
 obtain⟨v,e,e2⟩:=atI_some (xs:=ws.map V.str) (i:=(j:Int)) (by omega) (by rw[List.length_map];omega)
 rw[Int.toNat_natCast,List.getElem?_map,h]at e2
 rw[e,<-e2]
 rfl
theorem cut_from (ws:List Str) (j:Nat):cutV (ws.map V.str) (some (j:Int)) none=(ws.drop j).map V.str:=by
 unfold cutV
 rw[HT.sIx_none,HT.sIx_nat,List.length_map]
 by_cases h:j<=ws.length
 ·rw[Nat.min_eq_left h,List.map_drop,List.take_of_length_le (by simp)]
 ·rw[Nat.min_eq_right (by omega),List.drop_of_length_le (by simp),List.drop_of_length_le (by omega)]
  simp
theorem ok_readT {Γ:Gam} (g:L8 Γ M) (vs:List V) (H:Hp) (Q:VK) (E:XK) (h:spReadT M vs H Q E):spOf Γ N__law_read_term 1 b__law_read_term vs H Q E:=by
 obtain⟨l,ws,rfl,hr,hn,hw,h⟩:=h
 refine⟨rfl,?_⟩
 obtain rfl:=g.mod
 unfold b__law_read_term
 refine seq ?_
 dsimp only[Sw.wS,Sw.wE,Sw.wT,Sw.wEs,Sw.wTs,Sw.wI,Sw.wP,Sw.vars,L2.start,Sw.r_get0,Sw.r_getS,Sw.r_set0,Sw.r_setS,Sw.r_map0,Sw.r_mapS,Sw.r_app0,Sw.r_appS,Sw.r_len0,Sw.r_lenS,Sw.r_rep0,Sw.r_repS,Sw.r_join,Sw.startC,Nat.reduceAdd,Nat.reduceSub]
 refine seq ?_
 show wS (.whl _ _) Γ _ _ _ _
 unfold wS
 refine⟨fun m σ H'=>∃j:Nat,j<=noes ws/\m=noes ws - j/\σ=[some (.ref l),some (.int j)]/\H'=H,⟨noes ws,0,Nat.zero_le _,rfl,rfl,rfl⟩,?_⟩
 rintro m σ H' ⟨j,hj,rfl,rfl,rfl⟩
 have hle:=noes_le ws
 dsimp only[Sw.wS,Sw.wE,Sw.wT,Sw.wEs,Sw.wTs,Sw.wI,Sw.wP,Sw.vars,L2.start,Sw.r_get0,Sw.r_getS,Sw.r_set0,Sw.r_setS,Sw.r_map0,Sw.r_mapS,Sw.r_app0,Sw.r_appS,Sw.r_len0,Sw.r_lenS,Sw.r_rep0,Sw.r_repS,Sw.r_join,Sw.startC,Nat.reduceAdd,Nat.reduceSub]
 refine⟨g.cm,?_⟩
 ((first | with_reducible refine Eq.mpr (b_lenr ..) ?_ | rw[b_lenr]);rw[hr])
 dsimp only
 (rw[List.length_map];(first | with_reducible refine Eq.mpr (Sw.v_lt ..) ?_ | rw[Sw.v_lt]))
 refine⟨_,rfl,?_⟩
 have fin:j=noes ws->wSs (.cons (.iff (.cmp .Gt (.var 1) (.con (.int 5))) (.cons (.ret (.con .non)) .nil) .nil)
   (.cons (.iff (.or (.cmp .Eq (.slc (.var 0) (.cons (.var 1) .nil) .nil) (.lst (.cons (.con (.str "groups")) .nil))) (.cmp .Eq (.slc (.var 0) (.cons (.var 1) .nil) .nil) (.lst (.cons (.con (.str "marks")) .nil)))) (.cons (.ret (.tup (.cons (.var 1) (.cons (.idx (.var 0) (.var 1)) (.cons (.con (.int 0)) .nil))))) .nil) .nil)
   (.cons (.iff (.or (.cmp .NotEq (.blt .len (.cons (.var 0) .nil)) (.bin .Add (.var 1) (.con (.int 2)))) (.or (.cmp .NotEq (.idx (.var 0) (.var 1)) (.con (.str "sizes"))) (.cmp .Is (.call "_law_bound" (.cons (.idx (.var 0) (.bin .Add (.var 1) (.con (.int 1)))) .nil)) (.con .non)))) (.cons (.ret (.con .non)) .nil) .nil)
   (.cons (.ret (.tup (.cons (.var 1) (.cons (.con (.str "sizes")) (.cons (.call "_law_bound" (.cons (.idx (.var 0) (.bin .Add (.var 1) (.con (.int 1)))) .nil)) .nil))))) .nil)))) Γ (fun C d _ H'=>E C d H') {nx:=fun _ H'=>Q .non H',rt:=Q} [some (.ref l),some (.int j)] H':=by
  rintro rfl
  have eT:readT ws=if noes ws > 5 then none else(readP (ws.drop (noes ws))).map fun q=>(noes ws,q):=rfl
  have hd:∀i,(ws.drop (noes ws))[i]?=ws[noes ws + i]?:=fun i=>by rw[List.getElem?_drop]
  have hdl:(ws.drop (noes ws)).length=ws.length - noes ws:=List.length_drop ..
  generalize noes ws=k at *
  refine seq ?_
  dsimp only[Sw.wS,Sw.wE,Sw.wT,Sw.wEs,Sw.wTs,Sw.wI,Sw.wP,Sw.vars,L2.start,Sw.r_get0,Sw.r_getS,Sw.r_set0,Sw.r_setS,Sw.r_map0,Sw.r_mapS,Sw.r_app0,Sw.r_appS,Sw.r_len0,Sw.r_lenS,Sw.r_rep0,Sw.r_repS,Sw.r_join,Sw.startC,Nat.reduceAdd,Nat.reduceSub]
  (first | with_reducible refine Eq.mpr (Sw.v_gt ..) ?_ | rw[Sw.v_gt])
  refine⟨_,rfl,?_⟩
  by_cases k5:k > 5
  ·(first | with_reducible refine Eq.mpr (if_pos (by simp;omega)) ?_ | rw[if_pos (by simp;omega)])
   dsimp only[Sw.wSs,Sw.wS,Sw.wE,Sw.wT,Sw.wEs,Sw.wTs,Sw.wI,Sw.wP,Sw.vars,L2.start,Sw.r_get0,Sw.r_getS,Sw.r_set0,Sw.r_setS,Sw.r_map0,Sw.r_mapS,Sw.r_app0,Sw.r_appS,Sw.r_len0,Sw.r_lenS,Sw.r_rep0,Sw.r_repS,Sw.r_join,Sw.startC,Nat.reduceAdd,Nat.reduceSub]
   rw[eT,if_pos k5]at h
   exact h H' Ext.refl
  (first | with_reducible refine Eq.mpr (if_neg (by simp;omega)) ?_ | rw[if_neg (by simp;omega)])
  rw[if_neg k5]at eT
  refine seq0 ?_
  refine seq ?_
  dsimp only[Sw.wS,Sw.wE,Sw.wT,Sw.wEs,Sw.wTs,Sw.wI,Sw.wP,Sw.vars,L2.start,Sw.r_get0,Sw.r_getS,Sw.r_set0,Sw.r_setS,Sw.r_map0,Sw.r_mapS,Sw.r_app0,Sw.r_appS,Sw.r_len0,Sw.r_lenS,Sw.r_rep0,Sw.r_repS,Sw.r_join,Sw.startC,Nat.reduceAdd,Nat.reduceSub]
  refine sl_at hr (cut_from ws k) fun l1 hl1 ml1=>?_
  have y1:=Ext.upd (o:=.lst ((ws.drop k).map V.str)) hl1 ml1
  refine⟨by decide,fun p1 hp1 mp1=>?_⟩
  have y2:=Ext.upd (o:=.lst ([wGr].map V.str)) hp1 mp1
  refine eq_lists (a:=ws.drop k) (b:=[wGr]) (y2.rd (rd_upd (by intro _ _ z;cases z))) (rd_upd (by intro _ _ z;cases z)) ⟨_,rfl,?_⟩
  have hr2:=(y1.trans y2).rd hr
  have x2:=y1.trans y2
  generalize hH2:upd (upd H' l1 (.lst ((ws.drop k).map V.str))) p1 (.lst ([wGr].map V.str))=H2 at hr2 x2
  have give:∀ (q:Nat) (w:Str) (H3:Hp),readP (ws.drop k)=some q->Ext Γ.mod H' H3->q < 2->ws[k]?=some w->w=(if q=0 then wGr else wMk)->
    ∀ (Ξ:XS) (D:Ends),D.rt=Q->wSs (.cons (.ret (.tup (.cons (.var 1) (.cons (.idx (.var 0) (.var 1)) (.cons (.con (.int 0)) .nil))))) .nil) Γ Ξ D [some (.ref l),some (.int k)] H3:=by
   intro q w H3 hp x3 hq hwk ew Ξ D hD
   dsimp only[Sw.wSs,Sw.wS,Sw.wE,Sw.wT,Sw.wEs,Sw.wTs,Sw.wI,Sw.wP,Sw.vars,L2.start,Sw.r_get0,Sw.r_getS,Sw.r_set0,Sw.r_setS,Sw.r_map0,Sw.r_mapS,Sw.r_app0,Sw.r_appS,Sw.r_len0,Sw.r_lenS,Sw.r_rep0,Sw.r_repS,Sw.r_join,Sw.startC,Nat.reduceAdd,Nat.reduceSub]
   rw[hD]
   refine ix_at (x3.rd hr) (at_str hwk) ⟨by decide,fun a ha ma=>?_⟩
   have y:=Ext.upd (o:=.tup [.int k,.str w,.int 0]) ha ma
   rw[eT,hp]at h
   refine h _ a (x3.trans y) ?_
   rw[upd_same,ew]
   have:q=0\/q=1:=by omega
   rcases this with rfl | rfl<;>rfl
  have hk0:∀w,ws.drop k=[w]->ws[k]?=some w:=fun w e=>by
   have:=hd 0
   rw[e]at this
   simpa using this.symm
  have hno:readP (ws.drop k)=none->∀H3,Ext Γ.mod H' H3->Q .non H3:=fun e H3 x3=>by
   rw[eT,e]at h
   exact h H3 x3
  by_cases e1:ws.drop k=[wGr]
  ·((first | with_reducible refine Eq.mpr (if_pos (decide_eq_true e1)) ?_ | rw[if_pos (decide_eq_true e1)]);(first | with_reducible refine Eq.mpr (if_pos rfl) ?_ | rw[if_pos rfl]))
   show wSs _ Γ _ _ _ (upd (upd H' l1 (.lst ((ws.drop k).map V.str))) p1 (.lst ([wGr].map V.str)))
   rw[hH2]
   exact give 0 wGr H2 (by rw[e1];rfl) x2 (by decide) (hk0 _ e1) rfl _ _ rfl
  (first | with_reducible refine Eq.mpr (if_neg (by simpa using e1)) ?_ | rw[if_neg (by simpa using e1)])
  show slcV Γ.mod (.ref l) (some (k:Int)) none (upd (upd H' l1 (.lst ((ws.drop k).map V.str))) p1 (.lst ([wGr].map V.str))) _
  rw[hH2]
  refine sl_at hr2 (cut_from ws k) fun l2 hl2 ml2=>?_
  have y3:=Ext.upd (o:=.lst ((ws.drop k).map V.str)) hl2 ml2
  refine⟨by decide,fun p2 hp2 mp2=>?_⟩
  have y4:=Ext.upd (o:=.lst ([wMk].map V.str)) hp2 mp2
  refine eq_lists (a:=ws.drop k) (b:=[wMk]) (y4.rd (rd_upd (by intro _ _ z;cases z))) (rd_upd (by intro _ _ z;cases z)) ⟨_,rfl,?_⟩
  have x4:=x2.trans (y3.trans y4)
  generalize hH4:upd (upd H2 l2 (.lst ((ws.drop k).map V.str))) p2 (.lst ([wMk].map V.str))=H4 at x4
  by_cases e2:ws.drop k=[wMk]
  ·(first | with_reducible refine Eq.mpr (if_pos (decide_eq_true e2)) ?_ | rw[if_pos (decide_eq_true e2)])
   show wSs _ Γ _ _ _ (upd (upd H2 l2 (.lst ((ws.drop k).map V.str))) p2 (.lst ([wMk].map V.str)))
   rw[hH4]
   exact give 1 wMk H4 ((readP_iff _ 1).mpr ⟨by omega,by rw[e2];rfl⟩) x4 (by decide) (hk0 _ e2) rfl _ _ rfl
  (first | with_reducible refine Eq.mpr (if_neg (by simpa using e2)) ?_ | rw[if_neg (by simpa using e2)])
  refine seq0 ?_
  show wSs _ Γ _ _ _ (upd (upd H2 l2 (.lst ((ws.drop k).map V.str))) p2 (.lst ([wMk].map V.str)))
  rw[hH4]
  have hr4:=x4.rd hr
  refine seq ?_
  dsimp only[Sw.wS,Sw.wE,Sw.wT,Sw.wEs,Sw.wTs,Sw.wI,Sw.wP,Sw.vars,L2.start,Sw.r_get0,Sw.r_getS,Sw.r_set0,Sw.r_setS,Sw.r_map0,Sw.r_mapS,Sw.r_app0,Sw.r_appS,Sw.r_len0,Sw.r_lenS,Sw.r_rep0,Sw.r_repS,Sw.r_join,Sw.startC,Nat.reduceAdd,Nat.reduceSub]
  refine⟨g.cm,?_⟩
  ((first | with_reducible refine Eq.mpr (b_lenr ..) ?_ | rw[b_lenr]);rw[hr4])
  dsimp only
  (rw[List.length_map];(first | with_reducible refine Eq.mpr (Sw.v_add ..) ?_ | rw[Sw.v_add]);(first | with_reducible refine Eq.mpr (Sw.v_nei ..) ?_ | rw[Sw.v_nei]))
  refine⟨_,rfl,?_⟩
  by_cases e3:ws.length=k + 2
  ·(first | with_reducible refine Eq.mpr (if_neg (by simp; omega)) ?_ | rw [if_neg (by simp; omega)])
   obtain⟨a,w,ed⟩:∃a w,ws.drop k=[a,w]:=by
    have:(ws.drop k).length=2:=by rw[hdl];omega
    match hh:ws.drop k,this with
    | [a,w],_=>exact⟨a,w,rfl⟩
   have ha:ws[k]?=some a:=by
    have:=hd 0
    rw[ed]at this
    simpa using this.symm
   have hb:ws[k + 1]?=some w:=by
    have:=hd 1
    rw[ed]at this
    simpa using this.symm
   refine ix_at hr4 (at_str ha) ?_
   (first | with_reducible refine Eq.mpr (Sw.v_nes ..) ?_ | rw[Sw.v_nes])
   refine⟨_,rfl,?_⟩
   by_cases e4:a=wSz
   ·((first | with_reducible refine Eq.mpr (if_neg (by simpa using e4)) ?_ | rw [if_neg (by simpa using e4)]); (first | with_reducible refine Eq.mpr (Sw.v_add ..) ?_ | rw [Sw.v_add]))
    refine⟨⟨g.cm,g.bd.1⟩,?_⟩
    refine ix_at hr4 (at_str (j:=k + 1) hb) ?_
    rw[g.bd.2]
    have hwl:=hw w (List.mem_of_getElem? hb)
    refine⟨w,rfl,hwl,?_⟩
    dsimp only
    (first | with_reducible refine Eq.mpr (Sw.v_is ..) ?_ | rw[Sw.v_is])
    refine⟨_,rfl,?_⟩
    have eP:readP (ws.drop k)=(numIn w 0 98).map (fun n=>n.toNat + 2):=by
     rw[ed]
     unfold readP
     ((first | with_reducible refine Eq.mpr (if_neg (by simp)) ?_ | rw[if_neg (by simp)]);(first | with_reducible refine Eq.mpr (if_neg (by simp)) ?_ | rw[if_neg (by simp)]))
     dsimp only
     (first | with_reducible refine Eq.mpr (if_pos e4) ?_ | rw[if_pos e4])
    cases hnum:numIn w 0 98 with
    | none=>
     rw[hnum]at eP
     (first | with_reducible refine Eq.mpr (if_pos (by rfl)) ?_ | rw[if_pos (by rfl)])
     dsimp only[Sw.wSs,Sw.wS,Sw.wE,Sw.wT,Sw.wEs,Sw.wTs,Sw.wI,Sw.wP,Sw.vars,L2.start,Sw.r_get0,Sw.r_getS,Sw.r_set0,Sw.r_setS,Sw.r_map0,Sw.r_mapS,Sw.r_app0,Sw.r_appS,Sw.r_len0,Sw.r_lenS,Sw.r_rep0,Sw.r_repS,Sw.r_join,Sw.startC,Nat.reduceAdd,Nat.reduceSub]
     exact hno eP _ x4
    | some n=>
     rw[hnum]at eP
     (first | with_reducible refine Eq.mpr (if_neg (by simp[optI])) ?_ | rw[if_neg (by simp[optI])])
     refine seq0 ?_
     dsimp only[Sw.wSs,Sw.wS,Sw.wE,Sw.wT,Sw.wEs,Sw.wTs,Sw.wI,Sw.wP,Sw.vars,L2.start,Sw.r_get0,Sw.r_getS,Sw.r_set0,Sw.r_setS,Sw.r_map0,Sw.r_mapS,Sw.r_app0,Sw.r_appS,Sw.r_len0,Sw.r_lenS,Sw.r_rep0,Sw.r_repS,Sw.r_join,Sw.startC,Nat.reduceAdd,Nat.reduceSub]
     (first | with_reducible refine Eq.mpr (Sw.v_add ..) ?_ | rw[Sw.v_add])
     refine⟨⟨g.cm,g.bd.1⟩,?_⟩
     refine ix_at hr4 (at_str (j:=k + 1) hb) ?_
     rw[g.bd.2]
     refine⟨w,rfl,hwl,?_⟩
     rw[hnum]
     dsimp only
     refine⟨by decide,fun q hq mq=>?_⟩
     have y5:=Ext.upd (o:=.tup [.int k,.str wSz,optI (some n)]) hq mq
     rw[eT,eP]at h
     have n0:=(numIn_canon hnum).1
     refine h _ q (x4.trans y5) ?_
     rw[upd_same]
     show some (HO.tup [.int k,.str wSz,.int n])=some (HO.tup [.int k,.str (kname 2),.int (n.toNat:Int)])
     rw[Int.toNat_of_nonneg n0]
     rfl
   ·(first | with_reducible refine Eq.mpr (if_pos (by simpa using e4)) ?_ | rw[if_pos (by simpa using e4)])
    refine hno ?_ _ x4
    rw[ed]
    unfold readP
    ((first | with_reducible refine Eq.mpr (if_neg (by simp)) ?_ | rw[if_neg (by simp)]);(first | with_reducible refine Eq.mpr (if_neg (by simp)) ?_ | rw[if_neg (by simp)]))
    dsimp only
    (first | with_reducible refine Eq.mpr (if_neg e4) ?_ | rw[if_neg e4])
  ·(first | with_reducible refine Eq.mpr (if_pos (by simp; omega)) ?_ | rw [if_pos (by simp; omega)])
   refine hno ?_ _ x4
   unfold readP
   ((first | with_reducible refine Eq.mpr (if_neg e1) ?_ | rw[if_neg e1]);(first | with_reducible refine Eq.mpr (if_neg e2) ?_ | rw[if_neg e2]))
   split
   ·rename_i hh
    have:=congrArg List.length hh
    rw[hdl]at this
    simp at this
    omega
   ·rfl
 by_cases hjn:j < noes ws
 ·(first | with_reducible refine Eq.mpr (if_pos (by simp;omega)) ?_ | rw[if_pos (by simp;omega)])
  refine ix_at hr (at_str (noes_get hjn)) ?_
  (first | with_reducible refine Eq.mpr (Sw.v_eqs ..) ?_ | rw[Sw.v_eqs])
  refine⟨_,rfl,?_⟩
  (first | with_reducible refine Eq.mpr (if_pos (by simp)) ?_ | rw[if_pos (by simp)])
  refine⟨fun σ' H2=>σ'=[some (.ref l),some (.int ((j + 1:Nat):Int))]/\H2=H',fun σ' H2 z92q=>by obtain⟨h1,h2⟩:=z92q;exact⟨noes ws - (j + 1),by omega,j + 1,by omega,rfl,h1,h2⟩,?_⟩
  refine seq ?_
  dsimp only[Sw.wS,Sw.wE,Sw.wT,Sw.wEs,Sw.wTs,Sw.wI,Sw.wP,Sw.vars,L2.start,Sw.r_get0,Sw.r_getS,Sw.r_set0,Sw.r_setS,Sw.r_map0,Sw.r_mapS,Sw.r_app0,Sw.r_appS,Sw.r_len0,Sw.r_lenS,Sw.r_rep0,Sw.r_repS,Sw.r_join,Sw.startC,Nat.reduceAdd,Nat.reduceSub]
  (first | with_reducible refine Eq.mpr (Sw.v_add ..) ?_ | rw[Sw.v_add])
  exact seq0 ⟨rfl,rfl⟩
 ·have ej:j=noes ws:=by omega
  by_cases hjl:j < ws.length
  ·(first | with_reducible refine Eq.mpr (if_pos (by simp; omega)) ?_ | rw [if_pos (by simp; omega)])
   obtain⟨w,hwj⟩:∃w,ws[j]?=some w:=⟨_,List.getElem?_eq_getElem hjl⟩
   refine ix_at hr (at_str hwj) ?_
   (first | with_reducible refine Eq.mpr (Sw.v_eqs ..) ?_ | rw[Sw.v_eqs])
   refine⟨_,rfl,?_⟩
   have hne:w ≠ wNo:=fun z=>by
    rw[ej,z]at hwj
    exact noes_stop hwj
   (first | with_reducible refine Eq.mpr (if_neg (by simpa using hne)) ?_ | rw[if_neg (by simpa using hne)])
   exact fin ej
  ·((first | with_reducible refine Eq.mpr (if_neg (by simp;omega)) ?_ | rw[if_neg (by simp;omega)]);(first | with_reducible refine Eq.mpr (if_neg (by decide)) ?_ | rw[if_neg (by decide)]))
   exact fin ej
end Ls
namespace Ls
set_option genInjectivity false
open PySem PySem.Spec PyProof.Rows L2 Sw Wd Tx Rl Lw
variable {M:Mo}
theorem ext_new {H Hn:Hp} {p:Addr} {o:HO} (x:Ext M H Hn) (h:H p=none) (m:M p=none):Ext M H (upd Hn p o):=
 ⟨fun b u e=>by rw[upd_ne (ne_of_none e h)];exact x.same b u e,fun b mb e=>by rw[upd_ne (fun z=>mb (by rw[z];exact m))];exact x.off b mb e⟩
theorem fresh_of {H Hn:Hp} {p:Addr} (x:Ext M H Hn) (h:Hn p=none):H p=none:=by
 cases q:H p with
 | none=>rfl
 | some o=>rw[x.same _ _ q]at h;cases h
structure RI (M:Mo) (H Hn:Hp) (W:List Str) (p q c l3:Addr) (rs qs:List Addr) (cur:List Str) (done:List (List T2)) (alt:List T2) (n:Nat):Prop where
 hp:Hn p=some (.lst (rs.map V.ref++[.ref q]))
 hq:Hn q=some (.lst (qs.map V.ref))
 hc:Hn c=some (.lst (cur.map V.str))
 hw:Hn l3=some (.lst (W.map V.str))
 fp:H p=none/\M p=none
 fq:H q=none/\M q=none
 fc:H c=none/\M c=none
 pq:p ≠ q
 pc:p ≠ c
 qc:q ≠ c
 lp:l3 ≠ p
 lq:l3 ≠ q
 lc:l3 ≠ c
 ra:∀r ∈ rs,r ≠ p/\r ≠ q/\r ≠ c
 pd:Paired (AltH Hn) rs (done.map fun a=>a.map ltOf)
 pa:Paired (LtH Hn) qs (alt.map ltOf)
 ext:Ext M H Hn
 l1:rs.length<=n
 l2:qs.length<=n
 l4:cur.length<=n
 wl:∀w ∈ cur,w.length<=640
variable {H Hn:Hp} {W:List Str} {t:Str} {p q c l3:Addr} {rs qs:List Addr} {cur:List Str} {done:List (List T2)} {alt:List T2} {n:Nat}
theorem RI.word (I:RI M H Hn W p q c l3 rs qs cur done alt n) {w:Str} (hl:w.length<=640):RI M H (upd Hn c (.lst (cur.map V.str++[.str w]))) W p q c l3 rs qs (cur++[w]) done alt (n + 1):=by
 refine⟨by rw[upd_ne I.pc];exact I.hp,by rw[upd_ne I.qc];exact I.hq,by rw[upd_same,List.map_append];rfl,by rw[upd_ne I.lc];exact I.hw,I.fp,I.fq,I.fc,I.pq,I.pc,I.qc,I.lp,I.lq,I.lc,I.ra,pr_mem I.pd fun r hr y z=>z.upd I.hc (I.ra r hr).2.2,L2.Paired.mapP I.pa fun r y z=>z.upd I.hc,ext_new I.ext I.fc.1 I.fc.2,Nat.le_succ_of_le I.l1,Nat.le_succ_of_le I.l2,?_,?_⟩
 ·rw[List.length_append];exact Nat.succ_le_succ I.l4
 ·intro v hv
  rcases List.mem_append.mp hv with hv | hv
  ·exact I.wl v hv
  ·rw[List.mem_singleton.mp hv];exact hl
theorem RI.term {H1:Hp} {a c':Addr} {x:T2} (I:RI M H Hn W p q c l3 rs qs cur done alt n) (x1:Ext M Hn H1) (ha:H1 a=some (.tup (ltOf x).vs)) (hc':upd H1 q (.lst (qs.map V.ref++[.ref a])) c'=none) (mc:M c'=none):
  RI M H (upd (upd H1 q (.lst (qs.map V.ref++[.ref a]))) c' (.lst [])) W p q c' l3 rs (qs++[a]) [] done (alt++[x]) (n + 1):=by
 have h1q:=x1.same _ _ I.hq
 have keep:∀b o,H1 b=some o->b ≠ q->upd (upd H1 q (.lst (qs.map V.ref++[.ref a]))) c' (.lst []) b=some o:=fun b o e n=>by
  have e':upd H1 q (.lst (qs.map V.ref++[.ref a])) b=some o:=by rw[upd_ne n];exact e
  rw[upd_ne (ne_of_none e' hc')]
  exact e'
 have e2:=ext_new (o:=.lst (qs.map V.ref++[.ref a])) (I.ext.trans x1) I.fq.1 I.fq.2
 have nc:∀b o,H1 b=some o->b ≠ c':=fun b o e z=>by
  rw[<-z]at hc'
  by_cases hb:b=q
  ·rw[hb,upd_same]at hc';cases hc'
  ·rw[upd_ne hb,e]at hc';cases hc'
 have lt1:∀r (y:Lt),LtH H1 r y->LtH (upd (upd H1 q (.lst (qs.map V.ref++[.ref a]))) c' (.lst [])) r y:=fun r y z=>keep r _ z (fun e=>by
  unfold LtH at z
  rw[e,h1q]at z
  cases z)
 have lt:∀r (y:Lt),LtH Hn r y->LtH (upd (upd H1 q (.lst (qs.map V.ref++[.ref a]))) c' (.lst [])) r y:=fun r y z=>lt1 r y (x1.same _ _ z)
 refine⟨keep _ _ (x1.same _ _ I.hp) I.pq,by rw[upd_ne (nc _ _ h1q),upd_same,List.map_append];rfl,by rw[upd_same];rfl,keep _ _ (x1.same _ _ I.hw) I.lq,I.fp,I.fq,⟨fresh_of e2 hc',mc⟩,I.pq,nc _ _ (x1.same _ _ I.hp),nc _ _ h1q,I.lp,I.lq,nc _ _ (x1.same _ _ I.hw),?_,?_,?_,ext_new e2 (fresh_of e2 hc') mc,Nat.le_succ_of_le I.l1,?_,Nat.zero_le _,(fun w hw=>nomatch hw)⟩
 ·have nr:∀ (l:List Addr) (ys:List (List Lt)),Paired (AltH Hn) l ys->∀r ∈ l,r ≠ c':=by
   intro l ys h
   induction h with
   | nil=>intro r hr;cases hr
   | cons z _ ih=>
    intro r hr
    rcases List.mem_cons.mp hr with rfl | hr
    ·obtain⟨us,e,_⟩:=z
     exact nc _ _ (x1.same _ _ e)
    ·exact ih r hr
  exact fun r hr=>⟨(I.ra r hr).1,(I.ra r hr).2.1,nr _ _ I.pd r hr⟩
 ·refine pr_mem I.pd fun r hr y z=>?_
  obtain⟨us,e,ps⟩:=z
  exact⟨us,keep _ _ (x1.same _ _ e) (I.ra r hr).2.1,L2.Paired.mapP ps fun u v z=>lt u v z⟩
 ·rw[List.map_append]
  exact pr_get (L2.Paired.mapP I.pa fun r y z=>lt r y z) (lt1 a _ ha)
 ·rw[List.length_append];exact Nat.succ_le_succ I.l2
theorem RI.next {q':Addr} (I:RI M H Hn W p q c l3 rs qs cur done alt n) (hq':Hn q'=none) (mq:M q'=none) (hl:rs.length + 1<=n):
  RI M H (upd (upd Hn q' (.lst [])) p (.lst ((rs.map V.ref++[.ref q])++[.ref q']))) W p q' c l3 (rs++[q]) [] cur (done++[alt]) [] n:=by
 have ne:∀b o,Hn b=some o->b ≠ q':=fun b o e=>ne_of_none e hq'
 have keep:∀b o,Hn b=some o->b ≠ p->upd (upd Hn q' (.lst [])) p (.lst ((rs.map V.ref++[.ref q])++[.ref q'])) b=some o:=fun b o e n=>by
  rw[upd_ne n,upd_ne (ne b o e)]
  exact e
 have lt:∀r (y:Lt),LtH Hn r y->LtH (upd (upd Hn q' (.lst [])) p (.lst ((rs.map V.ref++[.ref q])++[.ref q']))) r y:=fun r y z=>keep r _ z (fun e=>by
  unfold LtH at z
  rw[e,I.hp]at z
  cases z)
 have alt':∀r (y:List Lt),r ≠ p->AltH Hn r y->AltH (upd (upd Hn q' (.lst [])) p (.lst ((rs.map V.ref++[.ref q])++[.ref q']))) r y:=fun r y n z=>by
  obtain⟨us,e,ps⟩:=z
  exact⟨us,keep _ _ e n,L2.Paired.mapP ps fun u v z=>lt u v z⟩
 have nr:∀ (l:List Addr) (ys:List (List Lt)),Paired (AltH Hn) l ys->∀r ∈ l,r ≠ q':=by
  intro l ys h
  induction h with
  | nil=>intro r hr;cases hr
  | cons z _ ih=>
   intro r hr
   rcases List.mem_cons.mp hr with rfl | hr
   ·obtain⟨us,e,_⟩:=z
    exact ne _ _ e
   ·exact ih r hr
 have e1:=ext_new (o:=.lst []) I.ext (fresh_of I.ext hq') mq
 refine⟨by rw[upd_same,List.map_append];rfl,?_,keep _ _ I.hc I.pc.symm,keep _ _ I.hw I.lp,I.fp,⟨fresh_of I.ext hq',mq⟩,I.fc,ne _ _ I.hp,I.pc,(ne _ _ I.hc).symm,I.lp,ne _ _ I.hw,I.lc,?_,?_,.nil,ext_new e1 I.fp.1 I.fp.2,by rw[List.length_append];exact hl,Nat.zero_le _,I.l4,I.wl⟩
 ·rw[upd_ne (ne _ _ I.hp).symm,upd_same];rfl
 ·intro r hr
  rcases List.mem_append.mp hr with hr | hr
  ·exact⟨(I.ra r hr).1,nr _ _ I.pd r hr,(I.ra r hr).2.2⟩
  ·rw[List.mem_singleton.mp hr]
   exact⟨I.pq.symm,ne _ _ I.hq,I.qc⟩
 ·rw[List.map_append]
  exact pr_get (pr_mem I.pd fun r hr y z=>alt' r y (I.ra r hr).1 z) (alt' q _ I.pq.symm ⟨qs,I.hq,I.pa⟩)
theorem last_at {α:Type} (l:List α) (x:α):atI (l++[x]) (-1)=some x:=by
 unfold atI ixN
 (first | with_reducible refine Eq.mpr (if_neg (by decide)) ?_ | rw[if_neg (by decide)])
 have:(l++[x]).length=l.length + 1:=by simp
 rw[this]
 (first | with_reducible refine Eq.mpr (if_pos (by omega)) ?_ | rw[if_pos (by omega)])
 show(l++[x])[((-1:Int) + ((l.length + 1:Nat):Int)).toNat]?=some x
 rw[show((-1:Int) + ((l.length + 1:Nat):Int)).toNat=l.length from by omega]
 simp
theorem cut_last (l:List V) (x:V):cutV (l++[x]) none (some (-1))=l:=by
 unfold cutV
 show((l++[x]).drop 0).take ((if(-1:Int) < 0 then((-1:Int) + ((l++[x]).length:Int)).toNat else min (-1:Int).toNat (l++[x]).length) - 0)=l
 ((first | with_reducible refine Eq.mpr (if_pos (by decide)) ?_ | rw[if_pos (by decide)]);rw[List.drop_zero,List.length_append])
 show(l++[x]).take (((-1:Int) + ((l.length + 1:Nat):Int)).toNat - 0)=l
 rw[show((-1:Int) + ((l.length + 1:Nat):Int)).toNat - 0=l.length from by omega]
 simp
noncomputable def GivesA (M:Mo) (o:Option (List (List T2))) (H:Hp) (Q:VK):Prop:=match o with
 | none=>∀H',Ext M H H'->Q .non H'
 | some as=>∀H' a,Ext M H H'->SomeH H' a (as.map fun ts=>ts.map ltOf)->Q (.ref a) H'
noncomputable def spReadL (M:Mo):Sp:=fun vs H Q _=>∃t:Str,vs=[.str t]/\t.length<=640/\GivesA M (readR t) H Q
structure L9 (Γ:Gam) (M:Mo):Prop where
 cm:Γ.cm=true
 mod:Γ.mod=M
 rt:Γ.has "_law_read_term" =true/\Γ.fn "_law_read_term" =spReadT M
theorem ok_readL {Γ:Gam} (g:L9 Γ M) (vs:List V) (H:Hp) (Q:VK) (E:XK) (h:spReadL M vs H Q E):spOf Γ N__law_read 1 b__law_read vs H Q E:=by
 obtain⟨t,rfl,hl,h⟩:=h
 refine⟨rfl,?_⟩
 obtain rfl:=g.mod
 have hcps:=split_cps t (Str.ofString " ")
 have hcount:=parts_many (g:=cps (Str.ofString " ")) (Txt.split t (Str.ofString " "))
 have hlen:∀w ∈ Txt.split t (Str.ofString " "),w.length<=640:=fun w hw=>by
  have:=part_len (g:=cps (Str.ofString " ")) hw
  rw[<-hcps,<-len_cps]at this
  omega
 rw[<-hcps,show(cps (Str.ofString " ")).length=1 from by decide +kernel,<-len_cps]at hcount
 have hrd:readR t=go (Txt.split t (Str.ofString " ")++[wOr]) [] [] []:=rfl
 unfold b__law_read
 refine seq ?_
 dsimp only[Sw.wS,Sw.wE,Sw.wT,Sw.wEs,Sw.wTs,Sw.wI,Sw.wP,Sw.vars,L2.start,Sw.r_get0,Sw.r_getS,Sw.r_set0,Sw.r_setS,Sw.r_map0,Sw.r_mapS,Sw.r_app0,Sw.r_appS,Sw.r_len0,Sw.r_lenS,Sw.r_rep0,Sw.r_repS,Sw.r_join,Sw.startC,Nat.reduceAdd,Nat.reduceSub]
 refine⟨by decide,fun q hq mq=>⟨by decide,fun p hp mp=>?_⟩⟩
 refine seq ?_
 dsimp only[Sw.wS,Sw.wE,Sw.wT,Sw.wEs,Sw.wTs,Sw.wI,Sw.wP,Sw.vars,L2.start,Sw.r_get0,Sw.r_getS,Sw.r_set0,Sw.r_setS,Sw.r_map0,Sw.r_mapS,Sw.r_app0,Sw.r_appS,Sw.r_len0,Sw.r_lenS,Sw.r_rep0,Sw.r_repS,Sw.r_join,Sw.startC,Nat.reduceAdd,Nat.reduceSub]
 refine⟨by decide,fun c hc mc=>?_⟩
 refine seq ?_
 show wS (.fr _ _ _) Γ _ _ _ _
 unfold wS
 refine⟨g.cm,?_⟩
 dsimp only[Sw.wS,Sw.wE,Sw.wT,Sw.wEs,Sw.wTs,Sw.wI,Sw.wP,Sw.vars,L2.start,Sw.r_get0,Sw.r_getS,Sw.r_set0,Sw.r_setS,Sw.r_map0,Sw.r_mapS,Sw.r_app0,Sw.r_appS,Sw.r_len0,Sw.r_lenS,Sw.r_rep0,Sw.r_repS,Sw.r_join,Sw.startC,Nat.reduceAdd,Nat.reduceSub]
 refine⟨rfl,?_⟩
 (first | with_reducible refine Eq.mpr (Sw.m_split ..) ?_ | rw[Sw.m_split])
 refine⟨by decide +kernel,Nat.le_trans hl (by decide),fun l1 hl1 ml1=>⟨by decide,fun l2 hl2 ml2=>?_⟩⟩
 generalize Txt.split t (Str.ofString " ")=ws at *
 have y1:=Ext.upd (o:=.lst (ws.map V.str)) hl1 ml1
 have y2:=Ext.upd (o:=.lst [V.str (Str.ofString "or")]) hl2 ml2
 ((first | with_reducible refine Eq.mpr (Sw.v_cat ..) ?_ | rw[Sw.v_cat]);rw[y2.rd (rd_upd (by intro _ _ z;cases z)),rd_upd (by intro _ _ z;cases z)])
 dsimp only
 refine⟨by rw[List.length_map,List.length_singleton,sizeLine_eq];omega,fun l3 hl3 ml3=>?_⟩
 rw[show ws.map V.str++[V.str (Str.ofString "or")]=(ws++[wOr]).map V.str from by rw[List.map_append];rfl]
 generalize hW:ws++[wOr]=W at *
 have hWl:W.length<=642:=by rw[<-hW,List.length_append];simp;omega
 have hWw:∀w ∈ W,w.length<=640:=fun w hw=>by
  rw[<-hW]at hw
  rcases List.mem_append.mp hw with hw | hw
  ·exact hlen w hw
  ·rw[List.mem_singleton.mp hw];decide +kernel
 have I0:RI Γ.mod H (upd (upd (upd (upd (upd (upd H q (.lst [])) p (.lst [.ref q])) c (.lst [])) l1 (.lst (ws.map V.str))) l2 (.lst [V.str (Str.ofString "or")])) l3 (.lst (W.map V.str))) W p q c l3 [] [] [] [] [] 0:=by
  have z1:=Ext.upd (o:=.lst []) hq mq
  have z2:=Ext.upd (o:=.lst [.ref q]) hp mp
  have z3:=Ext.upd (o:=.lst []) hc mc
  have y3:=Ext.upd (o:=.lst (W.map V.str)) hl3 ml3
  have zz:=y1.trans (y2.trans y3)
  have aq:upd (upd (upd H q (.lst [])) p (.lst [.ref q])) c (.lst []) q=some (.lst []):=z3.same _ _ (z2.same _ _ upd_same)
  have ap:upd (upd (upd H q (.lst [])) p (.lst [.ref q])) c (.lst []) p=some (.lst [.ref q]):=z3.same _ _ upd_same
  have b12:=y1.trans y2
  exact⟨zz.same _ _ ap,zz.same _ _ aq,zz.same _ _ upd_same,upd_same,⟨fresh_of z1 hp,mp⟩,⟨hq,mq⟩,⟨fresh_of (z1.trans z2) hc,mc⟩,(ne_of_none upd_same hp).symm,ne_of_none upd_same hc,ne_of_none (z2.same _ _ upd_same) hc,
   (ne_of_none (b12.same _ _ ap) hl3).symm,(ne_of_none (b12.same _ _ aq) hl3).symm,(ne_of_none (b12.same _ _ upd_same) hl3).symm,(fun r hr=>nomatch hr),.nil,.nil,z1.trans (z2.trans (z3.trans zz)),Nat.le_refl _,Nat.le_refl _,Nat.le_refl _,(fun w hw=>nomatch hw)⟩
 unfold iterV
 dsimp only
 rw[rd_upd (by intro _ _ z;cases z)]
 dsimp only
 refine for_inv (fun n σ Hn=>∃q c rs qs cur done alt v3 v4,σ=[some (.str t),some (.ref p),some (.ref c),v3,v4]/\RI Γ.mod H Hn W p q c l3 rs qs cur done alt n/\go (W.drop n) done alt cur=readR t) (fun n σ Hn z93q=>by obtain⟨q,c,rs,qs,cur,done,alt,v3,v4,_,I,_⟩:=z93q;exact rd_l I.hw) ?_ ?_ ⟨q,c,[],[],[],[],[],none,none,rfl,I0,hrd.symm⟩
 ·rintro n v σ Hn D' hv ⟨q,c,rs,qs,cur,done,alt,v3,v4,rfl,I,eq⟩ nx ct hrt _
  rw[List.getElem?_map]at hv
  obtain⟨w,hwn,rfl⟩:=Option.map_eq_some_iff.mp hv
  have hlt:=(List.getElem?_eq_some_iff.mp hwn).1
  have hgo:go (w::W.drop (n + 1)) done alt cur=readR t:=by
   rw[<-eq,List.drop_eq_getElem_cons hlt,(List.getElem?_eq_some_iff.mp hwn).2]
  have hwl:=hWw w (List.mem_of_getElem? hwn)
  have l1':=I.l1
  have l2':=I.l2
  have l4':=I.l4
  have sep:(w=wOr\/w=wAnd)->∀D2:Ends,(∀ σ' H',(∃ q c rs qs cur done alt v3 v4,σ'=[some (.str t),some (.ref p),some (.ref c),v3,v4]/\RI Γ.mod H H' W p q c l3 rs qs cur done alt (n + 1)/\go (W.drop (n + 1)) done alt cur=readR t)->D2.nx σ' H')->D2.rt=Q->
    wSs (.cons (.asg 4 (.call "_law_read_term" (.cons (.var 2) .nil))) (.cons (.iff (.cmp .Is (.var 4) (.con .non)) (.cons (.ret (.con .non)) .nil) .nil) (.cons (.exp (.mth .append (.idx (.var 1) (.neg (.con (.int 1)))) (.cons (.var 4) .nil))) (.cons (.asg 2 (.lst .nil)) (.cons (.iff (.cmp .Eq (.var 3) (.con (.str "or"))) (.cons (.exp (.mth .append (.var 1) (.cons (.lst .nil) .nil))) .nil) .nil) .nil))))) Γ X0 D2
     [some (.str t),some (.ref p),some (.ref c),some (.str w),v4] Hn:=by
   intro hs D2 hnx hrt2
   have hgo2:=hgo
   unfold go at hgo2
   rw[if_pos hs]at hgo2
   refine seq ?_
   dsimp only[Sw.wS,Sw.wE,Sw.wT,Sw.wEs,Sw.wTs,Sw.wI,Sw.wP,Sw.vars,L2.start,Sw.r_get0,Sw.r_getS,Sw.r_set0,Sw.r_setS,Sw.r_map0,Sw.r_mapS,Sw.r_app0,Sw.r_appS,Sw.r_len0,Sw.r_lenS,Sw.r_rep0,Sw.r_repS,Sw.r_join,Sw.startC,Nat.reduceAdd,Nat.reduceSub]
   refine⟨⟨g.cm,g.rt.1⟩,?_⟩
   rw[g.rt.2]
   refine⟨c,cur,rfl,rd_l I.hc,by omega,I.wl,?_⟩
   cases hx:readT cur with
   | none=>
    rw[hx]at hgo2
    intro H1 x1
    refine seq ?_
    dsimp only[Sw.wS,Sw.wE,Sw.wT,Sw.wEs,Sw.wTs,Sw.wI,Sw.wP,Sw.vars,L2.start,Sw.r_get0,Sw.r_getS,Sw.r_set0,Sw.r_setS,Sw.r_map0,Sw.r_mapS,Sw.r_app0,Sw.r_appS,Sw.r_len0,Sw.r_lenS,Sw.r_rep0,Sw.r_repS,Sw.r_join,Sw.startC,Nat.reduceAdd,Nat.reduceSub]
    (first | with_reducible refine Eq.mpr (Sw.v_is ..) ?_ | rw[Sw.v_is])
    refine⟨_,rfl,?_⟩
    (first | with_reducible refine Eq.mpr (if_pos (by decide)) ?_ | rw[if_pos (by decide)])
    dsimp only[Sw.wSs,Sw.wS,Sw.wE,Sw.wT,Sw.wEs,Sw.wTs,Sw.wI,Sw.wP,Sw.vars,L2.start,Sw.r_get0,Sw.r_getS,Sw.r_set0,Sw.r_setS,Sw.r_map0,Sw.r_mapS,Sw.r_app0,Sw.r_appS,Sw.r_len0,Sw.r_lenS,Sw.r_rep0,Sw.r_repS,Sw.r_join,Sw.startC,Nat.reduceAdd,Nat.reduceSub]
    rw[hrt2]
    rw[<-hgo2]at h
    exact h H1 (I.ext.trans x1)
   | some x=>
    rw[hx]at hgo2
    dsimp only at hgo2
    intro H1 a x1 ha
    have h1q:=x1.same _ _ I.hq
    refine seq ?_
    dsimp only[Sw.wS,Sw.wE,Sw.wT,Sw.wEs,Sw.wTs,Sw.wI,Sw.wP,Sw.vars,L2.start,Sw.r_get0,Sw.r_getS,Sw.r_set0,Sw.r_setS,Sw.r_map0,Sw.r_mapS,Sw.r_app0,Sw.r_appS,Sw.r_len0,Sw.r_lenS,Sw.r_rep0,Sw.r_repS,Sw.r_join,Sw.startC,Nat.reduceAdd,Nat.reduceSub]
    (first | with_reducible refine Eq.mpr (Sw.v_is ..) ?_ | rw[Sw.v_is])
    refine⟨_,rfl,?_⟩
    (first | with_reducible refine Eq.mpr (if_neg (by simp)) ?_ | rw[if_neg (by simp)])
    refine seq0 ?_
    refine seq ?_
    dsimp only[Sw.wS,Sw.wE,Sw.wT,Sw.wEs,Sw.wTs,Sw.wI,Sw.wP,Sw.vars,L2.start,Sw.r_get0,Sw.r_getS,Sw.r_set0,Sw.r_setS,Sw.r_map0,Sw.r_mapS,Sw.r_app0,Sw.r_appS,Sw.r_len0,Sw.r_lenS,Sw.r_rep0,Sw.r_repS,Sw.r_join,Sw.startC,Nat.reduceAdd,Nat.reduceSub]
    refine ix_at (rd_l (x1.same _ _ I.hp)) (last_at _ _) ?_
    refine⟨by show(match rd Γ.mod H1 q with | some (.lst _)=>true | _=>false)=true;rw[rd_l h1q],?_⟩
    ((first | with_reducible refine Eq.mpr (Sw.m_append ..) ?_ | rw[Sw.m_append]);rw[h1q])
    dsimp only
    refine⟨by rw[List.length_map];exact Nat.lt_of_lt_of_le (show qs.length < 700 by omega) (by decide),?_⟩
    refine seq ?_
    dsimp only[Sw.wS,Sw.wE,Sw.wT,Sw.wEs,Sw.wTs,Sw.wI,Sw.wP,Sw.vars,L2.start,Sw.r_get0,Sw.r_getS,Sw.r_set0,Sw.r_setS,Sw.r_map0,Sw.r_mapS,Sw.r_app0,Sw.r_appS,Sw.r_len0,Sw.r_lenS,Sw.r_rep0,Sw.r_repS,Sw.r_join,Sw.startC,Nat.reduceAdd,Nat.reduceSub]
    refine⟨by decide,fun c' hc' mc'=>?_⟩
    have I1:=I.term x1 ha hc' mc'
    refine seq ?_
    dsimp only[Sw.wS,Sw.wE,Sw.wT,Sw.wEs,Sw.wTs,Sw.wI,Sw.wP,Sw.vars,L2.start,Sw.r_get0,Sw.r_getS,Sw.r_set0,Sw.r_setS,Sw.r_map0,Sw.r_mapS,Sw.r_app0,Sw.r_appS,Sw.r_len0,Sw.r_lenS,Sw.r_rep0,Sw.r_repS,Sw.r_join,Sw.startC,Nat.reduceAdd,Nat.reduceSub]
    (first | with_reducible refine Eq.mpr (Sw.v_eqs ..) ?_ | rw[Sw.v_eqs])
    refine⟨_,rfl,?_⟩
    by_cases ho:w=wOr
    ·(first | with_reducible refine Eq.mpr (if_pos (by simpa using ho)) ?_ | rw[if_pos (by simpa using ho)])
     rw[if_pos ho]at hgo2
     refine seq ?_
     dsimp only[Sw.wS,Sw.wE,Sw.wT,Sw.wEs,Sw.wTs,Sw.wI,Sw.wP,Sw.vars,L2.start,Sw.r_get0,Sw.r_getS,Sw.r_set0,Sw.r_setS,Sw.r_map0,Sw.r_mapS,Sw.r_app0,Sw.r_appS,Sw.r_len0,Sw.r_lenS,Sw.r_rep0,Sw.r_repS,Sw.r_join,Sw.startC,Nat.reduceAdd,Nat.reduceSub]
     refine⟨by show(match rd Γ.mod _ p with | some (.lst _)=>true | _=>false)=true;rw[rd_l I1.hp],by decide,fun q' hq' mq'=>?_⟩
     have y:=Ext.upd (o:=.lst []) hq' mq'
     ((first | with_reducible refine Eq.mpr (Sw.m_append ..) ?_ | rw[Sw.m_append]);rw[y.same _ _ I1.hp])
     dsimp only
     refine⟨by rw[List.length_append,List.length_map];exact Nat.lt_of_lt_of_le (show rs.length + 1 < 700 by omega) (by decide),?_⟩
     refine seq0 (Γ:=Γ) (Ξ:=X0) (seq0 (Γ:=Γ) (Ξ:=X0) (hnx _ _ ⟨q',c',rs++[q],[],[],done++[alt++[x]],[],_,_,rfl,I1.next hq' mq' (by omega),hgo2⟩))
    ·(first | with_reducible refine Eq.mpr (if_neg (by simpa using ho)) ?_ | rw[if_neg (by simpa using ho)])
     rw[if_neg ho]at hgo2
     refine seq0 (Γ:=Γ) (Ξ:=X0) (seq0 (Γ:=Γ) (Ξ:=X0) (hnx _ _ ⟨q,c',rs,qs++[a],[],done,alt++[x],_,_,rfl,I1,hgo2⟩))
  refine seq ?_
  dsimp only[Sw.wS,Sw.wE,Sw.wT,Sw.wEs,Sw.wTs,Sw.wI,Sw.wP,Sw.vars,L2.start,Sw.r_get0,Sw.r_getS,Sw.r_set0,Sw.r_setS,Sw.r_map0,Sw.r_mapS,Sw.r_app0,Sw.r_appS,Sw.r_len0,Sw.r_lenS,Sw.r_rep0,Sw.r_repS,Sw.r_join,Sw.startC,Nat.reduceAdd,Nat.reduceSub]
  (first | with_reducible refine Eq.mpr (Sw.v_eqs ..) ?_ | rw[Sw.v_eqs])
  refine⟨_,rfl,?_⟩
  by_cases e1:w=wOr
  ·((first | with_reducible refine Eq.mpr (if_pos (by simpa using e1)) ?_ | rw[if_pos (by simpa using e1)]);(first | with_reducible refine Eq.mpr (if_pos rfl) ?_ | rw[if_pos rfl]))
   exact sep (.inl e1) _ (fun σ' H' z=>seq0 (Γ:=Γ) (Ξ:=X0) (nx σ' H' z)) hrt
  ·((first | with_reducible refine Eq.mpr (if_neg (by simpa using e1)) ?_ | rw [if_neg (by simpa using e1)]); (first | with_reducible refine Eq.mpr (Sw.v_eqs ..) ?_ | rw [Sw.v_eqs]))
   refine⟨_,rfl,?_⟩
   by_cases e2:w=wAnd
   ·(first | with_reducible refine Eq.mpr (if_pos (by simpa using e2)) ?_ | rw[if_pos (by simpa using e2)])
    exact sep (.inr e2) _ (fun σ' H' z=>seq0 (Γ:=Γ) (Ξ:=X0) (nx σ' H' z)) hrt
   ·(first | with_reducible refine Eq.mpr (if_neg (by simpa using e2)) ?_ | rw[if_neg (by simpa using e2)])
    have hgo2:=hgo
    unfold go at hgo2
    rw[if_neg (fun z=>z.elim e1 e2)]at hgo2
    refine seq ?_
    dsimp only[Sw.wS,Sw.wE,Sw.wT,Sw.wEs,Sw.wTs,Sw.wI,Sw.wP,Sw.vars,L2.start,Sw.r_get0,Sw.r_getS,Sw.r_set0,Sw.r_setS,Sw.r_map0,Sw.r_mapS,Sw.r_app0,Sw.r_appS,Sw.r_len0,Sw.r_lenS,Sw.r_rep0,Sw.r_repS,Sw.r_join,Sw.startC,Nat.reduceAdd,Nat.reduceSub]
    refine⟨by show(match rd Γ.mod Hn c with | some (.lst _)=>true | _=>false)=true;rw[rd_l I.hc],?_⟩
    ((first | with_reducible refine Eq.mpr (Sw.m_append ..) ?_ | rw[Sw.m_append]);rw[I.hc])
    dsimp only
    refine⟨by rw[List.length_map];exact Nat.lt_of_lt_of_le (show cur.length < 700 by omega) (by decide),?_⟩
    exact seq0 (Γ:=Γ) (Ξ:=X0) (seq0 (Γ:=Γ) (Ξ:=X0) (nx _ _ ⟨q,c,rs,qs,cur++[w],done,alt,_,_,rfl,I.word hwl,hgo2⟩))
 ·rintro σ Hn ⟨q,c,rs,qs,cur,done,alt,v3,v4,rfl,I,eq⟩
  rw[List.length_map,List.drop_of_length_le (Nat.le_refl _)]at eq
  rw[<-eq]at h
  dsimp only[Sw.wSs,Sw.wS,Sw.wE,Sw.wT,Sw.wEs,Sw.wTs,Sw.wI,Sw.wP,Sw.vars,L2.start,Sw.r_get0,Sw.r_getS,Sw.r_set0,Sw.r_setS,Sw.r_map0,Sw.r_mapS,Sw.r_app0,Sw.r_appS,Sw.r_len0,Sw.r_lenS,Sw.r_rep0,Sw.r_repS,Sw.r_join,Sw.startC,Nat.reduceAdd,Nat.reduceSub]
  refine sl_at (rd_l I.hp) (cut_last _ _) fun a ha ma=>?_
  have y:=Ext.upd (o:=.lst (rs.map V.ref)) ha ma
  exact h _ a (I.ext.trans y) ⟨rs,upd_same,L2.Paired.mapP I.pd fun r z w=>w.mono (Sub.ofE y)⟩
end Ls
namespace Ls
set_option genInjectivity false
open PySem PySem.Spec PyProof.Rows L2 Sw Wd Tx Rl Lw
@[reducible] noncomputable def N_law:List Str:=["_law_script","_law_text","_law_due","_law_rule","_law_told","e","_law_k","_law_giver","_law_taker"]
noncomputable def b_law:Sxs:=(.cons (.asg 1 (.call "_law_rule_text" (.cons (.call "_law_alternatives" (.cons (.call "_law_cell" (.cons (.var 0) (.cons (.con (.int 0)) .nil))) .nil)) .nil)))
 (.cons (.asg 1 (.call "_law_spoilt" (.cons (.var 1) (.cons (.call "_law_cell" (.cons (.var 0) (.cons (.con (.int 1)) .nil))) (.cons (.call "_law_cell" (.cons (.var 0) (.cons (.con (.int 2)) .nil))) .nil)))))
 (.cons (.asg 2 (.call "_law_read" (.cons (.var 1) .nil)))
 (.cons (.asg 3 (.con .non))
 (.cons (.asg 4 (.con .non))
 (.cons (.tryx (.cons (.asg 3 (.call "rule_of" (.cons (.var 1) .nil)))
 .nil) "NoRow" (some 5) (.cons (.asg 4 (.tup (.cons (.fld (.var 5) "row") (.cons (.isin (.var 5) (.own "SwapError")) (.cons (.isin (.var 5) (.own "ValueError")) (.cons (.isin (.var 5) (.own "NoCouple")) .nil))))))
 .nil))
 (.cons (.iff (.cmp .Is (.var 2) (.con .non)) (.cons (.ret (.cmp .Eq (.var 4) (.tup (.cons (.var 1) (.cons (.con (.bl true)) (.cons (.con (.bl true)) (.cons (.con (.bl false)) .nil)))))))
 .nil) .nil)
 (.cons (.iff (.or (.cmp .IsNot (.var 4) (.con .non)) (.cmp .Is (.var 3) (.con .non))) (.cons (.ret (.con (.bl false)))
 .nil) .nil)
 (.cons (.fr 6 (.rng1 (.con (.int 6))) (.cons (.asg 7 (.call "_law_side" (.cons (.call "_law_cell" (.cons (.var 0) (.cons (.con (.int 3)) .nil))) (.cons (.bin .Mult (.con (.int 2)) (.var 6)) .nil))))
 (.cons (.asg 8 (.call "_law_side" (.cons (.call "_law_cell" (.cons (.var 0) (.cons (.con (.int 3)) .nil))) (.cons (.bin .Add (.bin .Mult (.con (.int 2)) (.var 6)) (.con (.int 1))) .nil))))
 (.cons (.iff (.cmp .NotEq (.callv (.var 3) (.cons (.var 7) (.cons (.var 8) .nil))) (.call "_law_lets" (.cons (.var 2) (.cons (.var 7) (.cons (.var 8) .nil))))) (.cons (.ret (.con (.bl false)))
  .nil) .nil)
 .nil))))
 (.cons (.ret (.con (.bl true)))
 .nil))))))))))
variable {M:Mo}
theorem rdT {H H':Hp} (x:ExtT M H H') {a:Addr} {o:HO} (h:rd M H a=some o) (ho:∀ps,o ≠ .tbl ps):rd M H' a=some o:=by
 unfold rd at h ⊢
 cases q:H a with
 | none=>
  rw[q]at h
  rw[x.off a (by intro z;rw[z]at h;cases h) q]
  exact h
 | some u=>
  have nt:∀ps,u ≠ .tbl ps:=fun ps z=>by
   rw[q,z]at h
   exact ho ps (Option.some.inj h).symm
  rw[x.same a u q nt]
  rw[q]at h
  exact h
theorem pl8:((List.range 101).all fun q=>decide ((plainTx q).length<=8))=true:=by decide +kernel
theorem tx23 {x:T2} (h:okT x):(txP x).length<=23:=by
 have e:=of_decide_eq_true (List.all_eq_true.mp pl8 x.2 (List.mem_range.mpr h.2))
 have h1:=h.1
 show(tx x.1 x.2).length<=23
 rw[len_l,tx_cps,List.length_append,noC_len,<-len_l]
 omega
theorem text300 {as:List (List Lt)} (h:OkLR as):(ruleTx (codes as)).length<=300:=by
 rw[len_cps]
 unfold ruleTx
 rw[cps_join,or_codes]
 refine Nat.le_trans (len_joinL _ 84 _ fun p hp=>?_) ?_
 ·obtain⟨x,hx,rfl⟩:=List.mem_map.mp hp
  obtain⟨ts,hts,rfl⟩:=List.mem_map.mp hx
  rw[len_cps]
  unfold altTx
  rw[cps_join,and_codes]
  refine Nat.le_trans (len_joinL _ 23 _ fun p hp=>?_) ?_
  ·obtain⟨y,hy,rfl⟩:=List.mem_map.mp hp
   obtain⟨z,hz,rfl⟩:=List.mem_map.mp hy
   exact tx23 ((h.all ts hts).all z hz).code
  ·rw[List.length_map,List.length_map]
   have:=(h.all ts hts).len
   show ts.length * 28<=84
   omega
 ·rw[List.length_map,List.length_map]
  have:=h.len
  show as.length * 88<=300
  omega
@[reducible] noncomputable def lts (as:List (List T2)):List (List Lt):=as.map fun ts=>ts.map ltOf
theorem tm_of (x:T2):tm (ltOf x)=tmOf x:=by
 have:tmOf (ltOf x).code=tm (ltOf x):=rfl
 rw[<-this,ltOf_code]
theorem tms_of (as:List (List T2)):(as.map fun y=>y.map tmOf)=tms (lts as):=by
 unfold tms lts
 rw[List.map_map]
 refine List.map_congr_left fun ts _=>?_
 show ts.map tmOf=(ts.map ltOf).map tm
 rw[List.map_map]
 exact List.map_congr_left fun x _=>(tm_of x).symm
theorem lts_ok {as:List (List T2)} (h:OkR2 as):AllOk (lts as):=fun ts ht x hx=>by
 obtain⟨us,hu,rfl⟩:=List.mem_map.mp ht
 obtain⟨y,hy,rfl⟩:=List.mem_map.mp hx
 exact ltOf_ok ((h.all us hu).all y hy)
noncomputable def spLaw (M:Mo) (Ts:List Tb):Sp:=fun vs H Q _=>∃a,∃ns:List Int,vs=[.ref a]/\rd M H a=some (.lst (ns.map V.int))/\OffM M H/\TabsOk Ts H/\∀H',Q (.bl true) H'
structure LL (Γ:Gam) (M:Mo) (Ts:List Tb) (F:Fx) (c:Addr):Prop where
 cm:Γ.cm=true
 mod:Γ.mod=M
 vc:Γ.vc=spR M F
 ce:Γ.has "_law_cell" =true/\Γ.fn "_law_cell" =spCell M
 al:Γ.has "_law_alternatives" =true/\Γ.fn "_law_alternatives" =spAlts M
 tx:Γ.has "_law_rule_text" =true/\Γ.fn "_law_rule_text" =spText M
 so:Γ.has "_law_spoilt" =true/\Γ.fn "_law_spoilt" =spSpoilt M
 re:Γ.has "_law_read" =true/\Γ.fn "_law_read" =spReadL M
 ro:Γ.has "rule_of" =true/\Γ.fn "rule_of" =spRO2 M Ts F c
 sd:Γ.has "_law_side" =true/\Γ.fn "_law_side" =spSide M
 le:Γ.has "_law_lets" =true/\Γ.fn "_law_lets" =spLets M
 cat:Γ.cat "NoRow" =true
 s1:Γ.sub c "NoRow" =some true
 s2:Γ.sub c "SwapError" =some true
 s3:Γ.sub c "ValueError" =some true
 s4:Γ.sub c "NoCouple" =some false
 fo:Γ.fo c "row" =true
theorem eq_told {H:Hp} {p q:Addr} {t:Str} {Q:VK} (hp:H p=some (.tup [.str t,.bl true,.bl true,.bl false])) (hq:H q=some (.tup [.str t,.bl true,.bl true,.bl false])) (h:Q (.bl true) H):cmpV M .Eq (.ref p) (.ref q) H Q:=by
 have e:∀r,H r=some (.tup [.str t,.bl true,.bl true,.bl false])->data M H 1 (.ref r)=some (.tuple [.str t,.bool true,.bool true,.bool false]):=fun r hr=>by
  show(match rd M H r with | some (.lst xs)=>(allM (data M H 0) xs).map PyData.list | some (.tup xs)=>(allM (data M H 0) xs).map PyData.tuple | _=>none)=_
  rw[rd_t hr]
  rfl
 show(if scal (.ref p) (.ref q)=true then Q (.bl (decide (V.ref p=V.ref q))) H else match data M H 1 (.ref p),data M H 1 (.ref q)with | some d,some e=>Q (.bl (PyData.eqv d e)) H | _,_=>False)
 ((first | with_reducible refine Eq.mpr (Sw.s_rr ..) ?_ | rw[Sw.s_rr]);(first | with_reducible refine Eq.mpr (if_neg (by decide)) ?_ | rw[if_neg (by decide)]);rw[e p hp,e q hq])
 dsimp only
 have:PyData.eqv (.tuple [.str t,.bool true,.bool true,.bool false]) (.tuple [.str t,.bool true,.bool true,.bool false])=true:=by simp[PyData.eqv,PyData.eqvAll]
 rw[this]
 exact h
theorem ok_law {Γ:Gam} {Ts:List Tb} {F:Fx} {c:Addr} (g:LL Γ M Ts F c) (vs:List V) (H:Hp) (Q:VK) (E:XK) (h:spLaw M Ts vs H Q E):spOf Γ N_law 1 b_law vs H Q E:=by
 obtain⟨a,ns,rfl,ha,off,tabs,h⟩:=h
 refine⟨rfl,?_⟩
 have gm:=g.mod
 obtain rfl:=gm
 unfold b_law
 refine seq ?_
 dsimp only[Sw.wS,Sw.wE,Sw.wT,Sw.wEs,Sw.wTs,Sw.wI,Sw.wP,Sw.vars,L2.start,Sw.r_get0,Sw.r_getS,Sw.r_set0,Sw.r_setS,Sw.r_map0,Sw.r_mapS,Sw.r_app0,Sw.r_appS,Sw.r_len0,Sw.r_lenS,Sw.r_rep0,Sw.r_repS,Sw.r_join,Sw.startC,Nat.reduceAdd,Nat.reduceSub]
 refine⟨⟨g.cm,g.tx.1⟩,⟨g.cm,g.al.1⟩,⟨g.cm,g.ce.1⟩,?_⟩
 rw[g.ce.2]
 refine⟨a,_,ns,rfl,by decide,ha,fun c1=>?_⟩
 dsimp only
 rw[g.al.2]
 refine⟨c1,rfl,fun as0 H1 s1 o1 x1 h1=>?_⟩
 dsimp only
 rw[g.tx.2]
 refine⟨s1,as0,rfl,o1,h1,fun H2 x2=>?_⟩
 have x02:=x1.trans x2
 have hT:=text300 o1
 clear h1 x1 x2
 generalize ruleTx (codes as0)=T at hT ⊢
 refine seq ?_
 dsimp only[Sw.wS,Sw.wE,Sw.wT,Sw.wEs,Sw.wTs,Sw.wI,Sw.wP,Sw.vars,L2.start,Sw.r_get0,Sw.r_getS,Sw.r_set0,Sw.r_setS,Sw.r_map0,Sw.r_mapS,Sw.r_app0,Sw.r_appS,Sw.r_len0,Sw.r_lenS,Sw.r_rep0,Sw.r_repS,Sw.r_join,Sw.startC,Nat.reduceAdd,Nat.reduceSub]
 refine⟨⟨g.cm,g.so.1⟩,⟨g.cm,g.ce.1⟩,?_⟩
 rw[g.ce.2]
 refine⟨a,_,ns,rfl,by decide,x02.rd ha,fun c2=>⟨⟨g.cm,g.ce.1⟩,a,_,ns,rfl,by decide,x02.rd ha,fun c3=>?_⟩⟩
 dsimp only
 rw[g.so.2]
 refine⟨T,c2,c3,hT,rfl,fun t H3 ht x3=>?_⟩
 have x03:=x02.trans x3
 refine seq ?_
 dsimp only[Sw.wS,Sw.wE,Sw.wT,Sw.wEs,Sw.wTs,Sw.wI,Sw.wP,Sw.vars,L2.start,Sw.r_get0,Sw.r_getS,Sw.r_set0,Sw.r_setS,Sw.r_map0,Sw.r_mapS,Sw.r_app0,Sw.r_appS,Sw.r_len0,Sw.r_lenS,Sw.r_rep0,Sw.r_repS,Sw.r_join,Sw.startC,Nat.reduceAdd,Nat.reduceSub]
 rw[g.re.2]
 refine⟨⟨g.cm,g.re.1⟩,t,rfl,ht,?_⟩
 cases hr:readR t with
 | none=>
  intro H4 x4
  have x04:=x03.trans x4
  have no:∀x,OkR2 x->t ≠ ruleTx x:=fun x ok e=>by
   rw[(readR_iff t x).mpr ⟨ok,e⟩]at hr
   cases hr
  refine seq ?_
  dsimp only[Sw.wS,Sw.wE,Sw.wT,Sw.wEs,Sw.wTs,Sw.wI,Sw.wP,Sw.vars,L2.start,Sw.r_get0,Sw.r_getS,Sw.r_set0,Sw.r_setS,Sw.r_map0,Sw.r_mapS,Sw.r_app0,Sw.r_appS,Sw.r_len0,Sw.r_lenS,Sw.r_rep0,Sw.r_repS,Sw.r_join,Sw.startC,Nat.reduceAdd,Nat.reduceSub]
  refine seq ?_
  dsimp only[Sw.wS,Sw.wE,Sw.wT,Sw.wEs,Sw.wTs,Sw.wI,Sw.wP,Sw.vars,L2.start,Sw.r_get0,Sw.r_getS,Sw.r_set0,Sw.r_setS,Sw.r_map0,Sw.r_mapS,Sw.r_app0,Sw.r_appS,Sw.r_len0,Sw.r_lenS,Sw.r_rep0,Sw.r_repS,Sw.r_join,Sw.startC,Nat.reduceAdd,Nat.reduceSub]
  refine seq ?_
  dsimp only[Sw.wS,Sw.wE,Sw.wT,Sw.wEs,Sw.wTs,Sw.wI,Sw.wP,Sw.vars,L2.start,Sw.r_get0,Sw.r_getS,Sw.r_set0,Sw.r_setS,Sw.r_map0,Sw.r_mapS,Sw.r_app0,Sw.r_appS,Sw.r_len0,Sw.r_lenS,Sw.r_rep0,Sw.r_repS,Sw.r_join,Sw.startC,Nat.reduceAdd,Nat.reduceSub]
  refine⟨g.cm,g.cat,?_⟩
  refine seq ?_
  dsimp only[Sw.wS,Sw.wE,Sw.wT,Sw.wEs,Sw.wTs,Sw.wI,Sw.wP,Sw.vars,L2.start,Sw.r_get0,Sw.r_getS,Sw.r_set0,Sw.r_setS,Sw.r_map0,Sw.r_mapS,Sw.r_app0,Sw.r_appS,Sw.r_len0,Sw.r_lenS,Sw.r_rep0,Sw.r_repS,Sw.r_join,Sw.startC,Nat.reduceAdd,Nat.reduceSub]
  rw[g.ro.2]
  refine⟨⟨g.cm,g.ro.1⟩,t,rfl,ht,fun u hu=>(tabs u hu).ext x04,fun x ok e=>absurd e (no x ok),fun _ H' d x hd=>?_⟩
  show handW _ _ _ _ _ (rawInt c) (some d) _ H'
  unfold handW rawInt
  dsimp only
  (rw[Int.toNat_natCast];(first | with_reducible refine Eq.mpr (if_pos (by rw[g.s1];rfl)) ?_ | rw[if_pos (by rw[g.s1];rfl)]))
  intro e he me
  have hde:d ≠ e:=ne_of_none hd he
  have f1:upd H' e (.exo c (some d)) e=some (.exo c (some d)):=upd_same
  have f2:upd H' e (.exo c (some d)) d=some (.xd [((Str.ofString "row"),.str t)]):=by rw[upd_ne hde];exact hd
  generalize upd H' e (.exo c (some d))=H2 at f1 f2 ⊢
  have e1:Γ.hush.fo c "row" =true:=g.fo
  have e2:Γ.hush.sub c "SwapError" =some true:=g.s2
  have e3:Γ.hush.sub c "ValueError" =some true:=g.s3
  have e4:Γ.hush.sub c "NoCouple" =some false:=g.s4
  have e5:Γ.hush.mod=Γ.mod:=rfl
  have e6:List.lookup (Str.ofString "row") [((Str.ofString "row"),V.str t)]=some (.str t):=by simp[List.lookup]
  have e7:hasXd H2 (some d)=true:=by unfold hasXd;dsimp only;rw[f2]
  dsimp only[Sw.wSs,Sw.wS,Sw.wE,Sw.wT,Sw.wEs,Sw.wTs,Sw.wI,Sw.wP,Sw.vars,L2.start,Sw.r_get0,Sw.r_getS,Sw.r_set0,Sw.r_setS,Sw.r_map0,Sw.r_mapS,Sw.r_app0,Sw.r_appS,Sw.r_len0,Sw.r_lenS,Sw.r_rep0,Sw.r_repS,Sw.r_join,Sw.startC,Nat.reduceAdd,Nat.reduceSub]
  simp only[f1,f2,e1,e2,e3,e4,e5,e6,e7,true_and]
  refine⟨by decide,fun p hp mp=>?_⟩
  have f3:upd H2 p (.tup [.str t,.bl true,.bl true,.bl false]) p=some (.tup [.str t,.bl true,.bl true,.bl false]):=upd_same
  generalize upd H2 p (.tup [.str t,.bl true,.bl true,.bl false])=H5 at f3 ⊢
  unfold gone
  dsimp only[Sw.wSs,Sw.wS,Sw.wE,Sw.wT,Sw.wEs,Sw.wTs,Sw.wI,Sw.wP,Sw.vars,L2.start,Sw.r_get0,Sw.r_getS,Sw.r_set0,Sw.r_setS,Sw.r_map0,Sw.r_mapS,Sw.r_app0,Sw.r_appS,Sw.r_len0,Sw.r_lenS,Sw.r_rep0,Sw.r_repS,Sw.r_join,Sw.startC,Nat.reduceAdd,Nat.reduceSub]
  (first | with_reducible refine Eq.mpr (Sw.v_is ..) ?_ | rw[Sw.v_is])
  refine⟨_,rfl,?_⟩
  (first | with_reducible refine Eq.mpr (if_pos (by decide)) ?_ | rw[if_pos (by decide)])
  refine⟨by decide,fun p2 hp2 mp2=>?_⟩
  have y:=Ext.upd (M:=Γ.mod) (o:=.tup [.str t,.bl true,.bl true,.bl false]) hp2 mp2
  exact eq_told (y.same _ _ f3) upd_same (h _)
 | some as=>
  intro H4 s x4 hs
  have x04:=x03.trans x4
  obtain⟨ok,et⟩:=(readR_iff t as).mp hr
  have tabs4:TabsOk Ts H4:=fun u hu=>(tabs u hu).ext x04
  have off4:=off_ext off x04
  have ha4:=x04.rd ha
  refine seq ?_
  dsimp only[Sw.wS,Sw.wE,Sw.wT,Sw.wEs,Sw.wTs,Sw.wI,Sw.wP,Sw.vars,L2.start,Sw.r_get0,Sw.r_getS,Sw.r_set0,Sw.r_setS,Sw.r_map0,Sw.r_mapS,Sw.r_app0,Sw.r_appS,Sw.r_len0,Sw.r_lenS,Sw.r_rep0,Sw.r_repS,Sw.r_join,Sw.startC,Nat.reduceAdd,Nat.reduceSub]
  refine seq ?_
  dsimp only[Sw.wS,Sw.wE,Sw.wT,Sw.wEs,Sw.wTs,Sw.wI,Sw.wP,Sw.vars,L2.start,Sw.r_get0,Sw.r_getS,Sw.r_set0,Sw.r_setS,Sw.r_map0,Sw.r_mapS,Sw.r_app0,Sw.r_appS,Sw.r_len0,Sw.r_lenS,Sw.r_rep0,Sw.r_repS,Sw.r_join,Sw.startC,Nat.reduceAdd,Nat.reduceSub]
  refine seq ?_
  dsimp only[Sw.wS,Sw.wE,Sw.wT,Sw.wEs,Sw.wTs,Sw.wI,Sw.wP,Sw.vars,L2.start,Sw.r_get0,Sw.r_getS,Sw.r_set0,Sw.r_setS,Sw.r_map0,Sw.r_mapS,Sw.r_app0,Sw.r_appS,Sw.r_len0,Sw.r_lenS,Sw.r_rep0,Sw.r_repS,Sw.r_join,Sw.startC,Nat.reduceAdd,Nat.reduceSub]
  refine⟨g.cm,g.cat,?_⟩
  refine seq ?_
  dsimp only[Sw.wS,Sw.wE,Sw.wT,Sw.wEs,Sw.wTs,Sw.wI,Sw.wP,Sw.vars,L2.start,Sw.r_get0,Sw.r_getS,Sw.r_set0,Sw.r_setS,Sw.r_map0,Sw.r_mapS,Sw.r_app0,Sw.r_appS,Sw.r_len0,Sw.r_lenS,Sw.r_rep0,Sw.r_repS,Sw.r_join,Sw.startC,Nat.reduceAdd,Nat.reduceSub]
  rw[g.ro.2]
  refine⟨⟨g.cm,g.ro.1⟩,t,rfl,ht,tabs4,fun x okx e=>⟨tabs4,fun H5 f x5 t5 r5=>?_⟩,fun no=>absurd et (no as ok)⟩
  obtain rfl:x=as:=rule_inj okx ok (e.symm.trans et)
  have hf:RuR F H5 f (tms (lts x)):=by
   have:=r5.mono (noL_sub)
   rwa[tms_of]at this
  have hs5:SomeH H5 s (lts x):=hs.mono (Sub.of x5)
  have off5:OffM Γ.mod H5:=fun b m=>x5.off b m (off4 b m)
  have ha5:rd Γ.mod H5 a=some (.lst (ns.map V.int)):=rdT x5 ha4 (fun ps z=>nomatch z)
  have aok:=lts_ok okx
  refine seq0 ?_
  refine seq ?_
  dsimp only[Sw.wS,Sw.wE,Sw.wT,Sw.wEs,Sw.wTs,Sw.wI,Sw.wP,Sw.vars,L2.start,Sw.r_get0,Sw.r_getS,Sw.r_set0,Sw.r_setS,Sw.r_map0,Sw.r_mapS,Sw.r_app0,Sw.r_appS,Sw.r_len0,Sw.r_lenS,Sw.r_rep0,Sw.r_repS,Sw.r_join,Sw.startC,Nat.reduceAdd,Nat.reduceSub]
  (first | with_reducible refine Eq.mpr (Sw.v_is ..) ?_ | rw[Sw.v_is])
  refine⟨_,rfl,?_⟩
  (first | with_reducible refine Eq.mpr (if_neg (by simp)) ?_ | rw[if_neg (by simp)])
  refine seq0 ?_
  refine seq ?_
  dsimp only[Sw.wS,Sw.wE,Sw.wT,Sw.wEs,Sw.wTs,Sw.wI,Sw.wP,Sw.vars,L2.start,Sw.r_get0,Sw.r_getS,Sw.r_set0,Sw.r_setS,Sw.r_map0,Sw.r_mapS,Sw.r_app0,Sw.r_appS,Sw.r_len0,Sw.r_lenS,Sw.r_rep0,Sw.r_repS,Sw.r_join,Sw.startC,Nat.reduceAdd,Nat.reduceSub]
  (first | with_reducible refine Eq.mpr (Sw.v_isnot ..) ?_ | rw[Sw.v_isnot])
  refine⟨_,rfl,?_⟩
  ((first | with_reducible refine Eq.mpr (if_neg (by decide)) ?_ | rw[if_neg (by decide)]);(first | with_reducible refine Eq.mpr (Sw.v_is ..) ?_ | rw[Sw.v_is]))
  refine⟨_,rfl,?_⟩
  (first | with_reducible refine Eq.mpr (if_neg (by simp)) ?_ | rw[if_neg (by simp)])
  refine seq0 ?_
  refine seq ?_
  show wS (.fr _ _ _) Γ _ _ _ _
  unfold wS
  refine⟨g.cm,?_⟩
  dsimp only[Sw.wS,Sw.wE,Sw.wT,Sw.wEs,Sw.wTs,Sw.wI,Sw.wP,Sw.vars,L2.start,Sw.r_get0,Sw.r_getS,Sw.r_set0,Sw.r_setS,Sw.r_map0,Sw.r_mapS,Sw.r_app0,Sw.r_appS,Sw.r_len0,Sw.r_lenS,Sw.r_rep0,Sw.r_repS,Sw.r_join,Sw.startC,Nat.reduceAdd,Nat.reduceSub]
  refine⟨by decide,by decide,?_⟩
  refine for_inv (fun n σ Hn=>∃o6 o7 o8,σ=[some (.ref a),some (.str t),some (.ref s),some (.ref f),some .non,none,o6,o7,o8]/\Ext Γ.mod H5 Hn) (fun _ _ _ _=>trivial) ?_ ?_ ⟨none,none,none,rfl,Ext.refl⟩
  ·rintro n v σ Hn D' hv ⟨o6,o7,o8,rfl,xn⟩ nx ct hrt _
   have hlt:n < 6:=by
    have:=(List.getElem?_eq_some_iff.mp hv).1
    simpa using this
   have ev:v=.int (n:Int):=by
    rw[List.getElem?_map,List.getElem?_range (by simpa using hlt)]at hv
    exact(Option.some.inj hv).symm
   subst ev
   refine seq ?_
   dsimp only[Sw.wS,Sw.wE,Sw.wT,Sw.wEs,Sw.wTs,Sw.wI,Sw.wP,Sw.vars,L2.start,Sw.r_get0,Sw.r_getS,Sw.r_set0,Sw.r_setS,Sw.r_map0,Sw.r_mapS,Sw.r_app0,Sw.r_appS,Sw.r_len0,Sw.r_lenS,Sw.r_rep0,Sw.r_repS,Sw.r_join,Sw.startC,Nat.reduceAdd,Nat.reduceSub]
   refine⟨⟨g.cm,g.sd.1⟩,⟨g.cm,g.ce.1⟩,?_⟩
   rw[g.ce.2]
   refine⟨a,_,ns,rfl,by decide,xn.rd ha5,fun c4=>?_⟩
   dsimp only
   (first | with_reducible refine Eq.mpr (Sw.v_mul ..) ?_ | rw[Sw.v_mul])
   refine⟨by rw[show bnd 2=true from by decide];rfl,?_⟩
   rw[g.sd.2]
   refine⟨c4,_,rfl,by omega,by omega,fun sg H6 gv okg x6 hg=>?_⟩
   refine seq ?_
   dsimp only[Sw.wS,Sw.wE,Sw.wT,Sw.wEs,Sw.wTs,Sw.wI,Sw.wP,Sw.vars,L2.start,Sw.r_get0,Sw.r_getS,Sw.r_set0,Sw.r_setS,Sw.r_map0,Sw.r_mapS,Sw.r_app0,Sw.r_appS,Sw.r_len0,Sw.r_lenS,Sw.r_rep0,Sw.r_repS,Sw.r_join,Sw.startC,Nat.reduceAdd,Nat.reduceSub]
   refine⟨⟨g.cm,g.sd.1⟩,⟨g.cm,g.ce.1⟩,?_⟩
   rw[g.ce.2]
   refine⟨a,_,ns,rfl,by decide,(xn.trans x6).rd ha5,fun c5=>?_⟩
   dsimp only
   (first | with_reducible refine Eq.mpr (Sw.v_mul ..) ?_ | rw[Sw.v_mul])
   refine⟨by rw[show bnd 2=true from by decide];rfl,?_⟩
   ((first | with_reducible refine Eq.mpr (Sw.v_add ..) ?_ | rw[Sw.v_add]);rw[g.sd.2])
   refine⟨c5,_,rfl,by omega,by omega,fun st H7 tv okt x7 htk=>?_⟩
   have x57:=(xn.trans x6).trans x7
   refine seq ?_
   dsimp only[Sw.wS,Sw.wE,Sw.wT,Sw.wEs,Sw.wTs,Sw.wI,Sw.wP,Sw.vars,L2.start,Sw.r_get0,Sw.r_getS,Sw.r_set0,Sw.r_setS,Sw.r_map0,Sw.r_mapS,Sw.r_app0,Sw.r_appS,Sw.r_len0,Sw.r_lenS,Sw.r_rep0,Sw.r_repS,Sw.r_join,Sw.startC,Nat.reduceAdd,Nat.reduceSub]
   refine⟨g.cm,?_⟩
   rw[g.vc]
   refine⟨tms (lts x),gv,tv,sg,st,rfl,hf.mono (Sub.ofE x57),off_ext off5 x57,hg.ext x7,htk,okg,okt,fun H8 x8=>?_⟩
   dsimp only
   refine⟨⟨g.cm,g.le.1⟩,?_⟩
   rw[g.le.2]
   refine⟨s,lts x,gv,tv,sg,st,rfl,aok,hs5.mono (Sub.ofE (x57.trans x8)),(hg.ext x7).ext x8,htk.ext x8,okg,okt,fun H9 x9=>?_⟩
   dsimp only
   (first | with_reducible refine Eq.mpr (Sw.v_neb ..) ?_ | rw[Sw.v_neb])
   refine⟨_,rfl,?_⟩
   (first | with_reducible refine Eq.mpr (if_neg (by simp)) ?_ | rw[if_neg (by simp)])
   exact seq0 (Γ:=Γ) (Ξ:=X0) (seq0 (Γ:=Γ) (Ξ:=X0) (nx _ _ ⟨_,_,_,rfl,x57.trans (x8.trans x9)⟩))
  ·rintro σ Hn ⟨o6,o7,o8,rfl,xn⟩
   dsimp only[Sw.wSs,Sw.wS,Sw.wE,Sw.wT,Sw.wEs,Sw.wTs,Sw.wI,Sw.wP,Sw.vars,L2.start,Sw.r_get0,Sw.r_getS,Sw.r_set0,Sw.r_setS,Sw.r_map0,Sw.r_mapS,Sw.r_app0,Sw.r_appS,Sw.r_len0,Sw.r_lenS,Sw.r_rep0,Sw.r_repS,Sw.r_join,Sw.startC,Nat.reduceAdd,Nat.reduceSub]
   exact h _
end Ls
namespace K5
set_option genInjectivity false
open Wd (N_made_of b_made_of N_writes_number b_writes_number N_number_of b_number_of N_number_within b_number_within)
open Rl (N_gap b_gap N_fits_by_groups b_fits_by_groups N_fits_by_marks b_fits_by_marks N_in_sizes_rule b_in_sizes_rule N_in_opposite b_in_opposite N_in_all_of b_in_all_of N_in_any_of b_in_any_of N_plain_rule b_plain_rule N_term_rule b_term_rule N_alternative_rule b_alternative_rule N_rule_of b_rule_of)
open Lw (N__law_cell b__law_cell N__law_mix b__law_mix N__law_marks b__law_marks N__law_side b__law_side b__law_term N__law_alternatives b__law_alternatives b__law_term_text N__law_rule_text b__law_rule_text b__law_plain b__law_lets)
open Ls (N__law_sign b__law_sign N__law_odd_word b__law_odd_word N__law_spoilt b__law_spoilt N__law_bound b__law_bound N__law_read_term b__law_read_term N__law_read b__law_read N_law b_law)
open PySem PySem.Spec PyProof.Rows L2 Sw
open PySem.W (Frag codeIn codeHdIn fnOf fnX)
noncomputable def top (i:Nat):Stmt:=PySem.Challenge.pw_swapward_k05_rules_refused.main.body.getD i (.Pass ⟨0,0,0,0⟩)
@[reducible] noncomputable def st_made_of:Stmt:=top 7
@[reducible] noncomputable def P_made_of:List Str:=["text","signs"]
theorem m_made_of:mSs (defScope st_made_of) N_made_of b_made_of (defBody st_made_of):=⟨by kernel_rfl,by kernel_rfl⟩
theorem sc_made_of:FnScope N_made_of P_made_of (defScope st_made_of):=⟨rfl,rfl,rfl,by decide +kernel,rfl,by decide +kernel,by decide +kernel⟩
@[reducible] noncomputable def st_writes_number:Stmt:=top 8
@[reducible] noncomputable def P_writes_number:List Str:=["text"]
theorem m_writes_number:mSs (defScope st_writes_number) N_writes_number b_writes_number (defBody st_writes_number):=⟨by kernel_rfl,by kernel_rfl⟩
theorem sc_writes_number:FnScope N_writes_number P_writes_number (defScope st_writes_number):=⟨rfl,rfl,rfl,by decide +kernel,rfl,by decide +kernel,by decide +kernel⟩
@[reducible] noncomputable def st_number_of:Stmt:=top 9
@[reducible] noncomputable def P_number_of:List Str:=["text"]
theorem m_number_of:mSs (defScope st_number_of) N_number_of b_number_of (defBody st_number_of):=⟨by kernel_rfl,by kernel_rfl⟩
theorem sc_number_of:FnScope N_number_of P_number_of (defScope st_number_of):=⟨rfl,rfl,rfl,by decide +kernel,rfl,by decide +kernel,by decide +kernel⟩
@[reducible] noncomputable def st_number_within:Stmt:=top 10
@[reducible] noncomputable def P_number_within:List Str:=["text","least","greatest"]
theorem m_number_within:mSs (defScope st_number_within) N_number_within b_number_within (defBody st_number_within):=⟨by kernel_rfl,by kernel_rfl⟩
theorem sc_number_within:FnScope N_number_within P_number_within (defScope st_number_within):=⟨rfl,rfl,rfl,by decide +kernel,rfl,by decide +kernel,by decide +kernel⟩
@[reducible] noncomputable def st_gap:Stmt:=top 17
@[reducible] noncomputable def P_gap:List Str:=["giver","taker"]
theorem m_gap:mSs (defScope st_gap) N_gap b_gap (defBody st_gap):=⟨by kernel_rfl,by kernel_rfl⟩
theorem sc_gap:FnScope N_gap P_gap (defScope st_gap):=⟨rfl,rfl,rfl,by decide +kernel,rfl,by decide +kernel,by decide +kernel⟩
@[reducible] noncomputable def st_fits_by_groups:Stmt:=top 18
@[reducible] noncomputable def P_fits_by_groups:List Str:=["giver","taker"]
theorem m_fits_by_groups:mSs (defScope st_fits_by_groups) N_fits_by_groups b_fits_by_groups (defBody st_fits_by_groups):=⟨by kernel_rfl,by kernel_rfl⟩
theorem sc_fits_by_groups:FnScope N_fits_by_groups P_fits_by_groups (defScope st_fits_by_groups):=⟨rfl,rfl,rfl,by decide +kernel,rfl,by decide +kernel,by decide +kernel⟩
@[reducible] noncomputable def st_fits_by_marks:Stmt:=top 19
@[reducible] noncomputable def P_fits_by_marks:List Str:=["giver","taker"]
theorem m_fits_by_marks:mSs (defScope st_fits_by_marks) N_fits_by_marks b_fits_by_marks (defBody st_fits_by_marks):=⟨by kernel_rfl,by kernel_rfl⟩
theorem sc_fits_by_marks:FnScope N_fits_by_marks P_fits_by_marks (defScope st_fits_by_marks):=⟨rfl,rfl,rfl,by decide +kernel,rfl,by decide +kernel,by decide +kernel⟩
@[reducible] noncomputable def st_sizes_rule:Stmt:=top 20
@[reducible] noncomputable def N_sizes_rule:List Str:=["bound","fits"]
@[reducible] noncomputable def P_sizes_rule:List Str:=["bound"]
theorem sc_sizes_rule:FnScope N_sizes_rule P_sizes_rule (defScope st_sizes_rule):=⟨rfl,rfl,rfl,by decide +kernel,rfl,by decide +kernel,by decide +kernel⟩
@[reducible] noncomputable def in_sizes_rule:Stmt:=(defBody st_sizes_rule).getD 0 (.Pass ⟨0,0,0,0⟩)
@[reducible] noncomputable def P_in_sizes_rule:List Str:=["giver","taker"]
theorem m_in_sizes_rule:mSs (defScope in_sizes_rule) N_in_sizes_rule b_in_sizes_rule (defBody in_sizes_rule):=⟨by kernel_rfl,by kernel_rfl⟩
theorem sc_in_sizes_rule:CloScope N_in_sizes_rule P_in_sizes_rule "bound" (defScope in_sizes_rule):=⟨rfl,rfl,rfl,by decide +kernel,rfl,by decide +kernel,rfl,by decide +kernel,rfl,by decide +kernel,by decide +kernel⟩
@[reducible] noncomputable def st_opposite:Stmt:=top 21
@[reducible] noncomputable def N_opposite:List Str:=["rule","fits"]
@[reducible] noncomputable def P_opposite:List Str:=["rule"]
theorem sc_opposite:FnScope N_opposite P_opposite (defScope st_opposite):=⟨rfl,rfl,rfl,by decide +kernel,rfl,by decide +kernel,by decide +kernel⟩
@[reducible] noncomputable def in_opposite:Stmt:=(defBody st_opposite).getD 0 (.Pass ⟨0,0,0,0⟩)
@[reducible] noncomputable def P_in_opposite:List Str:=["giver","taker"]
theorem m_in_opposite:mSs (defScope in_opposite) N_in_opposite b_in_opposite (defBody in_opposite):=⟨by kernel_rfl,by kernel_rfl⟩
theorem sc_in_opposite:CloScope N_in_opposite P_in_opposite "rule" (defScope in_opposite):=⟨rfl,rfl,rfl,by decide +kernel,rfl,by decide +kernel,rfl,by decide +kernel,rfl,by decide +kernel,by decide +kernel⟩
@[reducible] noncomputable def st_all_of:Stmt:=top 22
@[reducible] noncomputable def N_all_of:List Str:=["rules","fits"]
@[reducible] noncomputable def P_all_of:List Str:=["rules"]
theorem sc_all_of:FnScope N_all_of P_all_of (defScope st_all_of):=⟨rfl,rfl,rfl,by decide +kernel,rfl,by decide +kernel,by decide +kernel⟩
@[reducible] noncomputable def in_all_of:Stmt:=(defBody st_all_of).getD 0 (.Pass ⟨0,0,0,0⟩)
@[reducible] noncomputable def P_in_all_of:List Str:=["giver","taker"]
theorem m_in_all_of:mSs (defScope in_all_of) N_in_all_of b_in_all_of (defBody in_all_of):=⟨by kernel_rfl,by kernel_rfl⟩
theorem sc_in_all_of:CloScope N_in_all_of P_in_all_of "rules" (defScope in_all_of):=⟨rfl,rfl,rfl,by decide +kernel,rfl,by decide +kernel,rfl,by decide +kernel,rfl,by decide +kernel,by decide +kernel⟩
@[reducible] noncomputable def st_any_of:Stmt:=top 23
@[reducible] noncomputable def N_any_of:List Str:=["rules","fits"]
@[reducible] noncomputable def P_any_of:List Str:=["rules"]
theorem sc_any_of:FnScope N_any_of P_any_of (defScope st_any_of):=⟨rfl,rfl,rfl,by decide +kernel,rfl,by decide +kernel,by decide +kernel⟩
@[reducible] noncomputable def in_any_of:Stmt:=(defBody st_any_of).getD 0 (.Pass ⟨0,0,0,0⟩)
@[reducible] noncomputable def P_in_any_of:List Str:=["giver","taker"]
theorem m_in_any_of:mSs (defScope in_any_of) N_in_any_of b_in_any_of (defBody in_any_of):=⟨by kernel_rfl,by kernel_rfl⟩
theorem sc_in_any_of:CloScope N_in_any_of P_in_any_of "rules" (defScope in_any_of):=⟨rfl,rfl,rfl,by decide +kernel,rfl,by decide +kernel,rfl,by decide +kernel,rfl,by decide +kernel,by decide +kernel⟩
@[reducible] noncomputable def st_plain_rule:Stmt:=top 24
@[reducible] noncomputable def P_plain_rule:List Str:=["text"]
theorem m_plain_rule:mSs (defScope st_plain_rule) N_plain_rule b_plain_rule (defBody st_plain_rule):=⟨by kernel_rfl,by kernel_rfl⟩
theorem sc_plain_rule:FnScope N_plain_rule P_plain_rule (defScope st_plain_rule):=⟨rfl,rfl,rfl,by decide +kernel,rfl,by decide +kernel,by decide +kernel⟩
@[reducible] noncomputable def st_term_rule:Stmt:=top 25
@[reducible] noncomputable def P_term_rule:List Str:=["text"]
theorem m_term_rule:mSs (defScope st_term_rule) N_term_rule b_term_rule (defBody st_term_rule):=⟨by kernel_rfl,by kernel_rfl⟩
theorem sc_term_rule:FnScope N_term_rule P_term_rule (defScope st_term_rule):=⟨rfl,rfl,rfl,by decide +kernel,rfl,by decide +kernel,by decide +kernel⟩
@[reducible] noncomputable def st_alternative_rule:Stmt:=top 26
@[reducible] noncomputable def P_alternative_rule:List Str:=["text"]
theorem m_alternative_rule:mSs (defScope st_alternative_rule) N_alternative_rule b_alternative_rule (defBody st_alternative_rule):=⟨by kernel_rfl,by kernel_rfl⟩
theorem sc_alternative_rule:FnScope N_alternative_rule P_alternative_rule (defScope st_alternative_rule):=⟨rfl,rfl,rfl,by decide +kernel,rfl,by decide +kernel,by decide +kernel⟩
@[reducible] noncomputable def st_rule_of:Stmt:=top 27
@[reducible] noncomputable def P_rule_of:List Str:=["text"]
theorem m_rule_of:mSs (defScope st_rule_of) N_rule_of b_rule_of (defBody st_rule_of):=⟨by kernel_rfl,by kernel_rfl⟩
theorem sc_rule_of:FnScope N_rule_of P_rule_of (defScope st_rule_of):=⟨rfl,rfl,rfl,by decide +kernel,rfl,by decide +kernel,by decide +kernel⟩
@[reducible] noncomputable def st__law_cell:Stmt:=top 29
@[reducible] noncomputable def P__law_cell:List Str:=["_law_script","_law_k"]
theorem m__law_cell:mSs (defScope st__law_cell) N__law_cell b__law_cell (defBody st__law_cell):=⟨by kernel_rfl,by kernel_rfl⟩
theorem sc__law_cell:FnScope N__law_cell P__law_cell (defScope st__law_cell):=⟨rfl,rfl,rfl,by decide +kernel,rfl,by decide +kernel,by decide +kernel⟩
@[reducible] noncomputable def st__law_mix:Stmt:=top 30
@[reducible] noncomputable def P__law_mix:List Str:=["_law_cell_here","_law_k"]
theorem m__law_mix:mSs (defScope st__law_mix) N__law_mix b__law_mix (defBody st__law_mix):=⟨by kernel_rfl,by kernel_rfl⟩
theorem sc__law_mix:FnScope N__law_mix P__law_mix (defScope st__law_mix):=⟨rfl,rfl,rfl,by decide +kernel,rfl,by decide +kernel,by decide +kernel⟩
@[reducible] noncomputable def st__law_marks:Stmt:=top 31
@[reducible] noncomputable def P__law_marks:List Str:=["_law_number"]
theorem m__law_marks:mSs (defScope st__law_marks) N__law_marks b__law_marks (defBody st__law_marks):=⟨by kernel_rfl,by kernel_rfl⟩
theorem sc__law_marks:FnScope N__law_marks P__law_marks (defScope st__law_marks):=⟨rfl,rfl,rfl,by decide +kernel,rfl,by decide +kernel,by decide +kernel⟩
@[reducible] noncomputable def st__law_side:Stmt:=top 32
@[reducible] noncomputable def P__law_side:List Str:=["_law_cell_here","_law_k"]
theorem m__law_side:mSs (defScope st__law_side) N__law_side b__law_side (defBody st__law_side):=⟨by kernel_rfl,by kernel_rfl⟩
theorem sc__law_side:FnScope N__law_side P__law_side (defScope st__law_side):=⟨rfl,rfl,rfl,by decide +kernel,rfl,by decide +kernel,by decide +kernel⟩
@[reducible] noncomputable def st__law_term:Stmt:=top 33
@[reducible] noncomputable def N__law_term:List Str:=["_law_number","_law_kind","_law_bound_here"]
@[reducible] noncomputable def P__law_term:List Str:=["_law_number"]
theorem m__law_term:mSs (defScope st__law_term) N__law_term b__law_term (defBody st__law_term):=⟨by kernel_rfl,by kernel_rfl⟩
theorem sc__law_term:FnScope N__law_term P__law_term (defScope st__law_term):=⟨rfl,rfl,rfl,by decide +kernel,rfl,by decide +kernel,by decide +kernel⟩
@[reducible] noncomputable def st__law_alternatives:Stmt:=top 34
@[reducible] noncomputable def P__law_alternatives:List Str:=["_law_cell_here"]
theorem m__law_alternatives:mSs (defScope st__law_alternatives) N__law_alternatives b__law_alternatives (defBody st__law_alternatives):=⟨by kernel_rfl,by kernel_rfl⟩
theorem sc__law_alternatives:FnScope N__law_alternatives P__law_alternatives (defScope st__law_alternatives):=⟨rfl,rfl,rfl,by decide +kernel,rfl,by decide +kernel,by decide +kernel⟩
@[reducible] noncomputable def st__law_term_text:Stmt:=top 35
@[reducible] noncomputable def N__law_term_text:List Str:=["_law_term_here","_law_times","_law_kind","_law_bound_here"]
@[reducible] noncomputable def P__law_term_text:List Str:=["_law_term_here"]
theorem m__law_term_text:mSs (defScope st__law_term_text) N__law_term_text b__law_term_text (defBody st__law_term_text):=⟨by kernel_rfl,by kernel_rfl⟩
theorem sc__law_term_text:FnScope N__law_term_text P__law_term_text (defScope st__law_term_text):=⟨rfl,rfl,rfl,by decide +kernel,rfl,by decide +kernel,by decide +kernel⟩
@[reducible] noncomputable def st__law_rule_text:Stmt:=top 36
@[reducible] noncomputable def P__law_rule_text:List Str:=["_law_alternatives_here"]
theorem m__law_rule_text:mSs (defScope st__law_rule_text) N__law_rule_text b__law_rule_text (defBody st__law_rule_text):=⟨by kernel_rfl,by kernel_rfl⟩
theorem sc__law_rule_text:FnScope N__law_rule_text P__law_rule_text (defScope st__law_rule_text):=⟨rfl,rfl,rfl,by decide +kernel,rfl,by decide +kernel,by decide +kernel⟩
@[reducible] noncomputable def st__law_plain:Stmt:=top 37
@[reducible] noncomputable def N__law_plain:List Str:=["_law_kind","_law_bound_here","_law_giver","_law_taker","_law_pairs"]
@[reducible] noncomputable def P__law_plain:List Str:=["_law_kind","_law_bound_here","_law_giver","_law_taker"]
theorem m__law_plain:mSs (defScope st__law_plain) N__law_plain b__law_plain (defBody st__law_plain):=⟨by kernel_rfl,by kernel_rfl⟩
theorem sc__law_plain:FnScope N__law_plain P__law_plain (defScope st__law_plain):=⟨rfl,rfl,rfl,by decide +kernel,rfl,by decide +kernel,by decide +kernel⟩
@[reducible] noncomputable def st__law_lets:Stmt:=top 38
@[reducible] noncomputable def N__law_lets:List Str:=["_law_alternatives_here","_law_giver","_law_taker","_law_terms","_law_good","_law_times","_law_kind","_law_bound_here"]
@[reducible] noncomputable def P__law_lets:List Str:=["_law_alternatives_here","_law_giver","_law_taker"]
theorem m__law_lets:mSs (defScope st__law_lets) N__law_lets b__law_lets (defBody st__law_lets):=⟨by kernel_rfl,by kernel_rfl⟩
theorem sc__law_lets:FnScope N__law_lets P__law_lets (defScope st__law_lets):=⟨rfl,rfl,rfl,by decide +kernel,rfl,by decide +kernel,by decide +kernel⟩
@[reducible] noncomputable def st__law_sign:Stmt:=top 39
@[reducible] noncomputable def P__law_sign:List Str:=["_law_cell_here"]
theorem m__law_sign:mSs (defScope st__law_sign) N__law_sign b__law_sign (defBody st__law_sign):=⟨by kernel_rfl,by kernel_rfl⟩
theorem sc__law_sign:FnScope N__law_sign P__law_sign (defScope st__law_sign):=⟨rfl,rfl,rfl,by decide +kernel,rfl,by decide +kernel,by decide +kernel⟩
@[reducible] noncomputable def st__law_odd_word:Stmt:=top 40
@[reducible] noncomputable def P__law_odd_word:List Str:=["_law_cell_here"]
theorem m__law_odd_word:mSs (defScope st__law_odd_word) N__law_odd_word b__law_odd_word (defBody st__law_odd_word):=⟨by kernel_rfl,by kernel_rfl⟩
theorem sc__law_odd_word:FnScope N__law_odd_word P__law_odd_word (defScope st__law_odd_word):=⟨rfl,rfl,rfl,by decide +kernel,rfl,by decide +kernel,by decide +kernel⟩
@[reducible] noncomputable def st__law_spoilt:Stmt:=top 41
@[reducible] noncomputable def P__law_spoilt:List Str:=["_law_text","_law_cell_here","_law_other"]
theorem m__law_spoilt:mSs (defScope st__law_spoilt) N__law_spoilt b__law_spoilt (defBody st__law_spoilt):=⟨by kernel_rfl,by kernel_rfl⟩
theorem sc__law_spoilt:FnScope N__law_spoilt P__law_spoilt (defScope st__law_spoilt):=⟨rfl,rfl,rfl,by decide +kernel,rfl,by decide +kernel,by decide +kernel⟩
@[reducible] noncomputable def st__law_bound:Stmt:=top 42
@[reducible] noncomputable def P__law_bound:List Str:=["_law_word"]
theorem m__law_bound:mSs (defScope st__law_bound) N__law_bound b__law_bound (defBody st__law_bound):=⟨by kernel_rfl,by kernel_rfl⟩
theorem sc__law_bound:FnScope N__law_bound P__law_bound (defScope st__law_bound):=⟨rfl,rfl,rfl,by decide +kernel,rfl,by decide +kernel,by decide +kernel⟩
@[reducible] noncomputable def st__law_read_term:Stmt:=top 43
@[reducible] noncomputable def P__law_read_term:List Str:=["_law_words"]
theorem m__law_read_term:mSs (defScope st__law_read_term) N__law_read_term b__law_read_term (defBody st__law_read_term):=⟨by kernel_rfl,by kernel_rfl⟩
theorem sc__law_read_term:FnScope N__law_read_term P__law_read_term (defScope st__law_read_term):=⟨rfl,rfl,rfl,by decide +kernel,rfl,by decide +kernel,by decide +kernel⟩
@[reducible] noncomputable def st__law_read:Stmt:=top 44
@[reducible] noncomputable def P__law_read:List Str:=["_law_text"]
theorem m__law_read:mSs (defScope st__law_read) N__law_read b__law_read (defBody st__law_read):=⟨by kernel_rfl,by kernel_rfl⟩
theorem sc__law_read:FnScope N__law_read P__law_read (defScope st__law_read):=⟨rfl,rfl,rfl,by decide +kernel,rfl,by decide +kernel,by decide +kernel⟩
@[reducible] noncomputable def st_law:Stmt:=top 45
@[reducible] noncomputable def P_law:List Str:=["_law_script"]
theorem m_law:mSs (defScope st_law) N_law b_law (defBody st_law):=⟨by kernel_rfl,by kernel_rfl⟩
theorem sc_law:FnScope N_law P_law (defScope st_law):=⟨rfl,rfl,rfl,by decide +kernel,rfl,by decide +kernel,by decide +kernel⟩
theorem mk_sizes_rule {K:Frag} {f cc T:Addr} {fd:FuncData} (lk:∃ (oc:Value) (od:Option Addr) (kV doc pm:Value) (an:Option Addr) (ct:Value) (osl:Array (Option Value)),fd=fnOf "sizes_rule" "sizes_rule" (defArgs st_sizes_rule) (defBody st_sizes_rule) (defScope st_sizes_rule) .none kV doc pm an (.ref cc) ct/\K.lookup f=some ⟨oc,od,.func fd,osl⟩)
  (cd:codeIn K (.ref cc) "sizes_rule" =true) (hd:codeHdIn K cc T=true):Maker K st_sizes_rule in_sizes_rule "sizes_rule" "sizes_rule" "fits" "bound" "sizes_rule.<locals>.fits" (in_sizes_rule).pos f cc T fd:=
 ⟨lk,cd,hd,⟨⟨46,11,46,15⟩,⟨46,4,46,15⟩,by kernel_rfl⟩,rfl,rfl,fun _=>rfl,sc_sizes_rule,rfl,rfl,fun _ _ _=>by kernel_rfl,fun _ _ _=>rfl,fun _=>rfl,by decide,by decide⟩
theorem bi_sizes_rule (c:Addr) (doc pm ctv cd:Value) (us:List Value) (h:us.length=P_in_sizes_rule.length):bindArgs (fnX "fits" "sizes_rule.<locals>.fits" (defArgs in_sizes_rule) (defBody in_sizes_rule) (defScope in_sizes_rule) [("bound",c)] .none .none doc pm none cd ctv) ⟨us,[]⟩=pure (P_in_sizes_rule.zip us):=by
 match us,h with
 | [_,_],_=>rfl
theorem mk_opposite {K:Frag} {f cc T:Addr} {fd:FuncData} (lk:∃ (oc:Value) (od:Option Addr) (kV doc pm:Value) (an:Option Addr) (ct:Value) (osl:Array (Option Value)),fd=fnOf "opposite" "opposite" (defArgs st_opposite) (defBody st_opposite) (defScope st_opposite) .none kV doc pm an (.ref cc) ct/\K.lookup f=some ⟨oc,od,.func fd,osl⟩)
  (cd:codeIn K (.ref cc) "opposite" =true) (hd:codeHdIn K cc T=true):Maker K st_opposite in_opposite "opposite" "opposite" "fits" "rule" "opposite.<locals>.fits" (in_opposite).pos f cc T fd:=
 ⟨lk,cd,hd,⟨⟨51,11,51,15⟩,⟨51,4,51,15⟩,by kernel_rfl⟩,rfl,rfl,fun _=>rfl,sc_opposite,rfl,rfl,fun _ _ _=>by kernel_rfl,fun _ _ _=>rfl,fun _=>rfl,by decide,by decide⟩
theorem bi_opposite (c:Addr) (doc pm ctv cd:Value) (us:List Value) (h:us.length=P_in_opposite.length):bindArgs (fnX "fits" "opposite.<locals>.fits" (defArgs in_opposite) (defBody in_opposite) (defScope in_opposite) [("rule",c)] .none .none doc pm none cd ctv) ⟨us,[]⟩=pure (P_in_opposite.zip us):=by
 match us,h with
 | [_,_],_=>rfl
theorem mk_all_of {K:Frag} {f cc T:Addr} {fd:FuncData} (lk:∃ (oc:Value) (od:Option Addr) (kV doc pm:Value) (an:Option Addr) (ct:Value) (osl:Array (Option Value)),fd=fnOf "all_of" "all_of" (defArgs st_all_of) (defBody st_all_of) (defScope st_all_of) .none kV doc pm an (.ref cc) ct/\K.lookup f=some ⟨oc,od,.func fd,osl⟩)
  (cd:codeIn K (.ref cc) "all_of" =true) (hd:codeHdIn K cc T=true):Maker K st_all_of in_all_of "all_of" "all_of" "fits" "rules" "all_of.<locals>.fits" (in_all_of).pos f cc T fd:=
 ⟨lk,cd,hd,⟨⟨56,11,56,15⟩,⟨56,4,56,15⟩,by kernel_rfl⟩,rfl,rfl,fun _=>rfl,sc_all_of,rfl,rfl,fun _ _ _=>by kernel_rfl,fun _ _ _=>rfl,fun _=>rfl,by decide,by decide⟩
theorem bi_all_of (c:Addr) (doc pm ctv cd:Value) (us:List Value) (h:us.length=P_in_all_of.length):bindArgs (fnX "fits" "all_of.<locals>.fits" (defArgs in_all_of) (defBody in_all_of) (defScope in_all_of) [("rules",c)] .none .none doc pm none cd ctv) ⟨us,[]⟩=pure (P_in_all_of.zip us):=by
 match us,h with
 | [_,_],_=>rfl
theorem mk_any_of {K:Frag} {f cc T:Addr} {fd:FuncData} (lk:∃ (oc:Value) (od:Option Addr) (kV doc pm:Value) (an:Option Addr) (ct:Value) (osl:Array (Option Value)),fd=fnOf "any_of" "any_of" (defArgs st_any_of) (defBody st_any_of) (defScope st_any_of) .none kV doc pm an (.ref cc) ct/\K.lookup f=some ⟨oc,od,.func fd,osl⟩)
  (cd:codeIn K (.ref cc) "any_of" =true) (hd:codeHdIn K cc T=true):Maker K st_any_of in_any_of "any_of" "any_of" "fits" "rules" "any_of.<locals>.fits" (in_any_of).pos f cc T fd:=
 ⟨lk,cd,hd,⟨⟨61,11,61,15⟩,⟨61,4,61,15⟩,by kernel_rfl⟩,rfl,rfl,fun _=>rfl,sc_any_of,rfl,rfl,fun _ _ _=>by kernel_rfl,fun _ _ _=>rfl,fun _=>rfl,by decide,by decide⟩
theorem bi_any_of (c:Addr) (doc pm ctv cd:Value) (us:List Value) (h:us.length=P_in_any_of.length):bindArgs (fnX "fits" "any_of.<locals>.fits" (defArgs in_any_of) (defBody in_any_of) (defScope in_any_of) [("rules",c)] .none .none doc pm none cd ctv) ⟨us,[]⟩=pure (P_in_any_of.zip us):=by
 match us,h with
 | [_,_],_=>rfl
end K5
namespace K5
set_option genInjectivity false
open Wd (N_made_of b_made_of N_writes_number b_writes_number N_number_of b_number_of N_number_within b_number_within)
open Rl (N_gap b_gap N_fits_by_groups b_fits_by_groups N_fits_by_marks b_fits_by_marks N_in_sizes_rule b_in_sizes_rule N_in_opposite b_in_opposite N_in_all_of b_in_all_of N_in_any_of b_in_any_of N_plain_rule b_plain_rule N_term_rule b_term_rule N_alternative_rule b_alternative_rule N_rule_of b_rule_of)
open Lw (N__law_cell b__law_cell N__law_mix b__law_mix N__law_marks b__law_marks N__law_side b__law_side b__law_term N__law_alternatives b__law_alternatives b__law_term_text N__law_rule_text b__law_rule_text b__law_plain b__law_lets)
open Ls (N__law_sign b__law_sign N__law_odd_word b__law_odd_word N__law_spoilt b__law_spoilt N__law_bound b__law_bound N__law_read_term b__law_read_term N__law_read b__law_read N_law b_law)
open PySem PySem.Spec PyProof.Rows L2 Sw Wd
open PySem.W (Frag keepIn ktsIn mroIn kitOne nsIn findIn typeIn takerIn hasDictIn codeIn codeHdIn fnOf mg_of mg_none_of)
structure DefK (K:Frag) (x:Str) (st:Stmt) (f:Addr):Prop where
 at_:nsIn K mainGlobals x=some (some (.ref f))
 fn:∃fd,Fun K x x st f fd
theorem defK {K:Frag} {x:Str} {st:Stmt} {f:Addr} {oc:Value} {od an:Option Addr} {osl:Array (Option Value)} {kV doc pm cdv ct:Value} (a:nsIn K mainGlobals x=some (some (.ref f)))
  (l:K.lookup f=some ⟨oc,od,.func (fnOf x x (defArgs st) (defBody st) (defScope st) .none kV doc pm an cdv ct),osl⟩) (c:codeIn K cdv x=true) (k:keepIn K (.ref f)=true):DefK K x st f:=⟨a,_,fun_mk l c k⟩
@[reducible] noncomputable def sInit:Stmt:=inClass (top 2) 0
structure ExcK (K:Frag) (x f:Str) (c fI:Addr) (q:Str) (st:Stmt):Prop where
 at_:nsIn K mainGlobals x=some (some (.ref c))
 kp:keepIn K (.ref c)=true
 cls:XCls K c fI f
 ini:∃fd,Fun K "__init__" q st fI fd
 rd:XRead K c
 no:NoAttr K c f
 kt:ktsIn K c "BaseException" =true
noncomputable def takers (p1 p2 p3 p4:Addr):List (Key × V):=[(.inr "O",.ref p1),(.inr "A",.ref p2),(.inr "B",.ref p3),(.inr "AB",.ref p4)]
noncomputable def Ts0:List Tb:=[(117,(in_sizes_rule).pos,"sizes_rule.<locals>.fits"),(124,(in_opposite).pos,"opposite.<locals>.fits"),(131,(in_all_of).pos,"all_of.<locals>.fits"),(138,(in_any_of).pos,"any_of.<locals>.fits")]
noncomputable def Fx0 (gr mk:Addr):Rl.Fx:=⟨gr,mk,in_sizes_rule,in_opposite,in_all_of,in_any_of⟩
theorem tabs_one:∀t ∈ Ts0,∀u ∈ Ts0,t.1=u.1->t=u:=by
 intro t ht u hu h
 unfold Ts0 at ht hu
 simp only[List.mem_cons,List.not_mem_nil,or_false]at ht hu
 rcases ht with rfl | rfl | rfl | rfl<;>rcases hu with rfl | rfl | rfl | rfl<;>first | rfl | exact absurd h (by decide)
structure Txt (K:Frag) (w:World) (c fI cS cN gr mk p1 p2 p3 p4:Addr):Prop where
 ex:ExcK K "NoRow" "row" c fI "NoRow.__init__" sInit
 m1:mroIn K c (.ref c)=some true
 kNoRow:kitOne K (.ref c) (.ref c)=some true
 aS:nsIn K mainGlobals "SwapError" =some (some (.ref cS))
 kS:kitOne K (.ref c) (.ref cS)=some true
 kV:kitOne K (.ref c) (.type "ValueError")=some true
 aN:nsIn K mainGlobals "NoCouple" =some (some (.ref cN))
 kN:kitOne K (.ref c) (.ref cN)=some false
 qFIGURES:∃t,nsIn K mainGlobals "FIGURES" =some (some (.str figures t))
 qMOST_FIGURES:∃t,nsIn K mainGlobals "MOST_FIGURES" =some (some (.int 12 t))
 qNO:∃t,nsIn K mainGlobals "NO" =some (some (.str "no " t))
 qMOST_NOES:∃t,nsIn K mainGlobals "MOST_NOES" =some (some (.int 5 t))
 qSIZES:∃t,nsIn K mainGlobals "SIZES" =some (some (.str "sizes " t))
 qMOST_GAP:∃t,nsIn K mainGlobals "MOST_GAP" =some (some (.int 98 t))
 agr:nsIn K mainGlobals "fits_by_groups" =some (some (.ref gr))
 amk:nsIn K mainGlobals "fits_by_marks" =some (some (.ref mk))
 t1:modK K p1=some (.tup [.str "O",.str "A",.str "B",.str "AB"])
 t2:modK K p2=some (.tup [.str "A",.str "AB"])
 t3:modK K p3=some (.tup [.str "B",.str "AB"])
 t4:modK K p4=some (.tup [.str "AB"])
 tk:∃ (pd:Addr) (od:Option Addr) (u1 u2 u3 u4:Tok) (ep:Nat),nsIn K mainGlobals "TAKERS" =some (some (.ref pd))/\
  K.lookup pd=some ⟨.type "dict",none,.dict #[⟨hashStr w "O",.str "O" u1,.ref p1⟩,⟨hashStr w "A",.str "A" u2,.ref p2⟩,⟨hashStr w "B",.str "B" u3,.ref p3⟩,⟨hashStr w "AB",.str "AB" u4,.ref p4⟩] ep,#[]⟩
 no:∀x ∈ bltNames,nsIn K mainGlobals x=some none
noncomputable def conL (gr mk:Addr):List (Str × V):=[("FIGURES",.str figures),("MOST_FIGURES",.int 12),("NO",.str "no "),("MOST_NOES",.int 5),("SIZES",.str "sizes "),("MOST_GAP",.int 98),("fits_by_groups",.ref gr),("fits_by_marks",.ref mk)]
theorem look_mem {α:Type}:∀ {l:List (Str × α)} {x:Str} {a:α},l.lookup x=some a->(x,a) ∈ l
 | y::r,x,a,h=>by
  obtain⟨n,b⟩:=y
  rw[List.lookup_cons]at h
  cases e:(x == n)with
  | true=>rw[e]at h;cases h;rw[eq_of_beq e];exact List.mem_cons_self
  | false=>rw[e]at h;exact List.mem_cons_of_mem _ (look_mem h)
noncomputable def G0 (K:Frag) (c gr mk p1 p2 p3 p4:Addr):Gam where
 con:=fun x=>(conL gr mk).lookup x
 mod:=modK K
 has:=fun _=>false
 fn:=fun _ _ _ _ _=>False
 exc:=fun x=>if x= "NoRow" then some (c,[("row" :Str)])else none
 sub:=fun a x=>if a=c then(if x= "NoRow" then some true else if x= "SwapError" then some true else if x= "ValueError" then some true else if x= "NoCouple" then some false else none)else none
 cat:=fun x=>decide (x= "NoRow")
 fo:=fun a f=>decide (a=c) && decide (f= "row")
 gd:=fun x=>if x= "TAKERS" then some (takers p1 p2 p3 p4)else none
section
variable {P:Program} {w:World} {K:Frag} {mg:Str->Option Value} {base:Heap} {c fI cS cN gr mk p1 p2 p3 p4:Addr}
theorem sc_init:FnScope ["self","row"] ["self","row"] (defScope sInit):=⟨rfl,rfl,rfl,by decide +kernel,rfl,by decide +kernel,by decide +kernel⟩
theorem init_ok {fd:FuncData} (X:XCls K c fI "row") (F:Fun K "__init__" "NoRow.__init__" sInit fI fd):FnOkU P w K mg base (CXW P w) 1 fI fd ["self","row"] (spX c "row"):=
 fn_xinit (k:=0) X F sc_init (p1:=_) (p2:=_) (p3:=_) (p4:=_) rfl (by decide +kernel) (by decide +kernel) (by decide +kernel)
theorem key_ok (x:Str) (t:Tok):(mixKind P w).is (.inr x) (.str x t)=true:=mixKind_str P w x t
theorem takers_ok (X:K.In base) (G:base.Ns mainGlobals mg) (T:Txt K w c fI cS cN gr mk p1 p2 p3 p4):DictK P w mg base "TAKERS" (takers p1 p2 p3 p4):=by
 obtain⟨pd,od,u1,u2,u3,u4,ep,h1,h2⟩:=T.tk
 refine⟨pd,[(.inr "O",.ref p1),(.inr "A",.ref p2),(.inr "B",.ref p3),(.inr "AB",.ref p4)],mg_of X G h1,.cons ⟨rfl,rfl⟩ (.cons ⟨rfl,rfl⟩ (.cons ⟨rfl,rfl⟩ (.cons ⟨rfl,rfl⟩ .nil))),_,_,_,X _ _ h2,⟨rfl,rfl,rfl⟩,rfl,fun e he=>?_,
  .cons (key_ok _ _) rfl (.cons (key_ok _ _) rfl (.cons (key_ok _ _) rfl (.cons (key_ok _ _) rfl .nil))),(show List.Nodup [(Sum.inr "O" :Key),.inr "A",.inr "B",.inr "AB"]from by decide +kernel)⟩
 have he:e ∈ [(⟨hashStr w "O",.str "O" u1,.ref p1⟩:DictEntry),⟨hashStr w "A",.str "A" u2,.ref p2⟩,⟨hashStr w "B",.str "B" u3,.ref p3⟩,⟨hashStr w "AB",.str "AB" u4,.ref p4⟩]:=by simpa using he
 simp only[List.mem_cons,List.not_mem_nil,or_false]at he
 rcases he with rfl | rfl | rfl | rfl
 ·exact⟨.inr "O",key_ok _ _,rfl⟩
 ·exact⟨.inr "A",key_ok _ _,rfl⟩
 ·exact⟨.inr "B",key_ok _ _,rfl⟩
 ·exact⟨.inr "AB",key_ok _ _,rfl⟩
theorem g0_ok (X:K.In base) (G:base.Ns mainGlobals mg) (T:Txt K w c fI cS cN gr mk p1 p2 p3 p4):GOk P w K mg base (G0 K c gr mk p1 p2 p3 p4) 1:=by
 have blt:∀x ∈ bltNames,mg x=none:=fun x hx=>mg_none_of X G (T.no x hx)
 refine⟨modK_ok K,fun x v h=>?_,fun f h=>absurd (show false=true from h) Bool.false_ne_true,fun x c' fs h=>?_,blt,fun a x b h=>?_,fun x h=>?_,fun a f h=>?_,VcOk.none,fun x kvs h=>?_⟩
 ·dsimp only[G0]at h
  have hm:=look_mem h
  unfold conL at hm
  simp only[List.mem_cons,List.not_mem_nil,or_false,Prod.mk.injEq]at hm
  rcases hm with ⟨rfl,rfl⟩ | ⟨rfl,rfl⟩ | ⟨rfl,rfl⟩ | ⟨rfl,rfl⟩ | ⟨rfl,rfl⟩ | ⟨rfl,rfl⟩ | ⟨rfl,rfl⟩ | ⟨rfl,rfl⟩
  ·obtain⟨t,e⟩:=T.qFIGURES
   exact⟨_,mg_of X G e,t,rfl⟩
  ·obtain⟨t,e⟩:=T.qMOST_FIGURES
   exact⟨_,mg_of X G e,t,rfl⟩
  ·obtain⟨t,e⟩:=T.qNO
   exact⟨_,mg_of X G e,t,rfl⟩
  ·obtain⟨t,e⟩:=T.qMOST_NOES
   exact⟨_,mg_of X G e,t,rfl⟩
  ·obtain⟨t,e⟩:=T.qSIZES
   exact⟨_,mg_of X G e,t,rfl⟩
  ·obtain⟨t,e⟩:=T.qMOST_GAP
   exact⟨_,mg_of X G e,t,rfl⟩
  ·exact⟨_,mg_of X G T.agr,rfl⟩
  ·exact⟨_,mg_of X G T.amk,rfl⟩
 ·dsimp only[G0]at h
  split at h
  ·rename_i e;subst e;cases h
   obtain⟨fd,F⟩:=T.ex.ini
   exact⟨fI,"row",fd,["self","row"],rfl,mg_of X G T.ex.at_,T.ex.kp,T.ex.cls,init_ok T.ex.cls F,binds_2 F fun _ _=>fun _ _ _ _ _ _=>rfl⟩
  ·cases h
 ·dsimp only[G0]at h
  split at h
  ·rename_i e;subst e
   refine⟨T.ex.rd,?_⟩
   split at h
   ·rename_i e;subst e;cases h
    exact⟨_,.inl (mg_of X G T.ex.at_),T.kNoRow⟩
   ·split at h
    ·rename_i e;subst e;cases h
     exact⟨_,.inl (mg_of X G T.aS),T.kS⟩
    ·split at h
     ·rename_i e;subst e;cases h
      exact⟨_,.inr ⟨blt _ (by decide +kernel),by kernel_rfl⟩,T.kV⟩
     ·split at h
      ·rename_i e;subst e;cases h
       exact⟨_,.inl (mg_of X G T.aN),T.kN⟩
      ·cases h
  ·cases h
 ·dsimp only[G0]at h
  have e:x= "NoRow" :=of_decide_eq_true h
  subst e
  refine⟨c,mg_of X G T.ex.at_,T.ex.kt,fun a ha=>?_⟩
  dsimp only[G0]at ha
  split at ha
  ·rename_i e;subst e;exact T.m1
  ·cases ha
 ·dsimp only[G0]at h
  simp only[Bool.and_eq_true,decide_eq_true_eq]at h
  obtain⟨rfl,rfl⟩:=h
  exact⟨T.ex.rd,T.ex.no⟩
 ·dsimp only[G0]at h
  split at h
  ·rename_i e;subst e;cases h
   exact takers_ok X G T
  ·cases h
noncomputable def _root_.Sw.Gam.vcd (Γ:Gam) (vc:Addr->Sp):Gam:={Γ with vc:=vc}
theorem _root_.Sw.GOk.withVcW {Γ:Gam} {k:Nat} {l:List (Str × Sp)} {vc:Addr->Sp} (g:GOk P w K mg base (Γ.wit l) k) (F:VcOk P w K mg base k vc):GOk P w K mg base ((Γ.vcd vc).wit l) k:=⟨g.mod,g.con,g.fn,g.exc,g.no,g.sub,g.cat,g.fo,F,g.gd⟩
theorem step {Γ:Gam} {k:Nat} {x:Str} {st:Stmt} {f:Addr} {N ps:List Str} {body:Sxs} {sp:Sp} (D:DefK K x st f) (S:FnScope N ps (defScope st)) (g:GOk P w K mg base Γ k) (hm:mSs (defScope st) N body (defBody st)) (hhd:Γ.hd=false)
  (h:∀vs H Q E,sp vs H Q E->spOf Γ N ps.length body vs H Q E):∃fd,Fun K x x st f fd/\FnOk P w K mg base (CXW P w) (k + 2) f fd ps sp:=by
 obtain⟨fd,F⟩:=D.fn
 exact⟨fd,F,(fn_spOf F S g hm hhd).imp h⟩
noncomputable def spFG0 (M:Mo):Sp:=fun vs H Q _=>∃a b s t,vs=[.ref a,.ref b]/\Rl.SdAt M H a s/\Rl.SdAt M H b t/\s.Ok/\Q (.bl (Rl.grF s.g t.g)) H
noncomputable def spLaw (K:Frag):Sp:=fun vs H Q _=>∃ (a:Addr) (ns:List Int),vs=[.ref a]/\ns.length<=63/\SqL K H a (ns.map V.int)/\(∀ t ∈ Ts0,TabAt H t)/\∀H',Q (.bl true) H'
noncomputable def L0 (K:Frag) (c f6 f7:Addr):List (Str × Sp):=[]
noncomputable def L1 (K:Frag) (c f6 f7:Addr):List (Str × Sp):=("made_of",Wd.spMadeOf (modK K))::L0 K c f6 f7
noncomputable def L2 (K:Frag) (c f6 f7:Addr):List (Str × Sp):=("writes_number",Wd.spWrites (modK K))::L1 K c f6 f7
noncomputable def L3 (K:Frag) (c f6 f7:Addr):List (Str × Sp):=("number_of",Wd.spNumber (modK K) c)::L2 K c f6 f7
noncomputable def L4 (K:Frag) (c f6 f7:Addr):List (Str × Sp):=("number_within",Wd.spWithin (modK K) c)::L3 K c f6 f7
noncomputable def L5 (K:Frag) (c f6 f7:Addr):List (Str × Sp):=("gap",Rl.spGap (modK K))::L4 K c f6 f7
noncomputable def L6 (K:Frag) (c f6 f7:Addr):List (Str × Sp):=("fits_by_groups",spFG0 (modK K))::L5 K c f6 f7
noncomputable def L7 (K:Frag) (c f6 f7:Addr):List (Str × Sp):=("fits_by_marks",Rl.spFM (modK K))::L6 K c f6 f7
noncomputable def L8 (K:Frag) (c f6 f7:Addr):List (Str × Sp):=("sizes_rule",spMk (modK K) Ts0 in_sizes_rule "fits" "bound" "sizes_rule.<locals>.fits")::L7 K c f6 f7
noncomputable def L9 (K:Frag) (c f6 f7:Addr):List (Str × Sp):=("opposite",spMk (modK K) Ts0 in_opposite "fits" "rule" "opposite.<locals>.fits")::L8 K c f6 f7
noncomputable def L10 (K:Frag) (c f6 f7:Addr):List (Str × Sp):=("all_of",spMk (modK K) Ts0 in_all_of "fits" "rules" "all_of.<locals>.fits")::L9 K c f6 f7
noncomputable def L11 (K:Frag) (c f6 f7:Addr):List (Str × Sp):=("any_of",spMk (modK K) Ts0 in_any_of "fits" "rules" "any_of.<locals>.fits")::L10 K c f6 f7
noncomputable def L12 (K:Frag) (c f6 f7:Addr):List (Str × Sp):=("plain_rule",Rl.spPR2 (modK K) Ts0 (Fx0 f6 f7) c)::L11 K c f6 f7
noncomputable def L13 (K:Frag) (c f6 f7:Addr):List (Str × Sp):=("term_rule",Rl.spTR2 (modK K) Ts0 (Fx0 f6 f7) c)::L12 K c f6 f7
noncomputable def L14 (K:Frag) (c f6 f7:Addr):List (Str × Sp):=("alternative_rule",Rl.spAR2 (modK K) Ts0 (Fx0 f6 f7) c)::L13 K c f6 f7
noncomputable def L15 (K:Frag) (c f6 f7:Addr):List (Str × Sp):=("rule_of",Rl.spRO2 (modK K) Ts0 (Fx0 f6 f7) c)::L14 K c f6 f7
noncomputable def L16 (K:Frag) (c f6 f7:Addr):List (Str × Sp):=("_law_cell",Lw.spCell (modK K))::L15 K c f6 f7
noncomputable def L17 (K:Frag) (c f6 f7:Addr):List (Str × Sp):=("_law_mix",Lw.spMix)::L16 K c f6 f7
noncomputable def L18 (K:Frag) (c f6 f7:Addr):List (Str × Sp):=("_law_marks",Lw.spMarks (modK K))::L17 K c f6 f7
noncomputable def L19 (K:Frag) (c f6 f7:Addr):List (Str × Sp):=("_law_side",Lw.spSide (modK K))::L18 K c f6 f7
noncomputable def L20 (K:Frag) (c f6 f7:Addr):List (Str × Sp):=("_law_term",Lw.spTerm (modK K))::L19 K c f6 f7
noncomputable def L21 (K:Frag) (c f6 f7:Addr):List (Str × Sp):=("_law_alternatives",Lw.spAlts (modK K))::L20 K c f6 f7
noncomputable def L22 (K:Frag) (c f6 f7:Addr):List (Str × Sp):=("_law_term_text",Lw.spTT (modK K))::L21 K c f6 f7
noncomputable def L23 (K:Frag) (c f6 f7:Addr):List (Str × Sp):=("_law_rule_text",Lw.spText (modK K))::L22 K c f6 f7
noncomputable def L24 (K:Frag) (c f6 f7:Addr):List (Str × Sp):=("_law_plain",Lw.spPlain (modK K))::L23 K c f6 f7
noncomputable def L25 (K:Frag) (c f6 f7:Addr):List (Str × Sp):=("_law_lets",Lw.spLets (modK K))::L24 K c f6 f7
noncomputable def L26 (K:Frag) (c f6 f7:Addr):List (Str × Sp):=("_law_sign",Ls.spSign)::L25 K c f6 f7
noncomputable def L27 (K:Frag) (c f6 f7:Addr):List (Str × Sp):=("_law_odd_word",Ls.spOdd (modK K))::L26 K c f6 f7
noncomputable def L28 (K:Frag) (c f6 f7:Addr):List (Str × Sp):=("_law_spoilt",Ls.spSpoilt (modK K))::L27 K c f6 f7
noncomputable def L29 (K:Frag) (c f6 f7:Addr):List (Str × Sp):=("_law_bound",Ls.spBound)::L28 K c f6 f7
noncomputable def L30 (K:Frag) (c f6 f7:Addr):List (Str × Sp):=("_law_read_term",Ls.spReadT (modK K))::L29 K c f6 f7
noncomputable def L31 (K:Frag) (c f6 f7:Addr):List (Str × Sp):=("_law_read",Ls.spReadL (modK K))::L30 K c f6 f7
theorem law_ok {f1 f2 f3 f4 f5 f6 f7 f8 f9 f10 f11 f12 f13 f14 f15 f16 f17 f18 f19 f20 f21 f22 f23 f24 f25 f26 f27 f28 f29 f30 f31 f32 cc1 cc2 cc3 cc4:Addr} {e8 e9 e10 e11:FuncData} (X:K.In base) (G:base.Ns mainGlobals mg) (B:∀T ∈ [117,124,131,138],base.BuiltinsAt mg T) (T:Txt K w c fI cS cN f6 f7 p1 p2 p3 p4) (d1:DefK K "made_of" st_made_of f1) (d2:DefK K "writes_number" st_writes_number f2) (d3:DefK K "number_of" st_number_of f3) (d4:DefK K "number_within" st_number_within f4) (d5:DefK K "gap" st_gap f5) (d6:DefK K "fits_by_groups" st_fits_by_groups f6) (d7:DefK K "fits_by_marks" st_fits_by_marks f7) (ma1:nsIn K mainGlobals "sizes_rule" =some (some (.ref f8))) (mp1:keepIn K (.ref f8)=true) (mm1:Maker K st_sizes_rule in_sizes_rule "sizes_rule" "sizes_rule" "fits" "bound" "sizes_rule.<locals>.fits" (in_sizes_rule).pos f8 cc1 117 e8) (ma2:nsIn K mainGlobals "opposite" =some (some (.ref f9))) (mp2:keepIn K (.ref f9)=true) (mm2:Maker K st_opposite in_opposite "opposite" "opposite" "fits" "rule" "opposite.<locals>.fits" (in_opposite).pos f9 cc2 124 e9) (ma3:nsIn K mainGlobals "all_of" =some (some (.ref f10))) (mp3:keepIn K (.ref f10)=true) (mm3:Maker K st_all_of in_all_of "all_of" "all_of" "fits" "rules" "all_of.<locals>.fits" (in_all_of).pos f10 cc3 131 e10) (ma4:nsIn K mainGlobals "any_of" =some (some (.ref f11))) (mp4:keepIn K (.ref f11)=true) (mm4:Maker K st_any_of in_any_of "any_of" "any_of" "fits" "rules" "any_of.<locals>.fits" (in_any_of).pos f11 cc4 138 e11) (d12:DefK K "plain_rule" st_plain_rule f12) (d13:DefK K "term_rule" st_term_rule f13) (d14:DefK K "alternative_rule" st_alternative_rule f14) (d15:DefK K "rule_of" st_rule_of f15) (d16:DefK K "_law_cell" st__law_cell f16) (d17:DefK K "_law_mix" st__law_mix f17) (d18:DefK K "_law_marks" st__law_marks f18) (d19:DefK K "_law_side" st__law_side f19) (d20:DefK K "_law_term" st__law_term f20) (d21:DefK K "_law_alternatives" st__law_alternatives f21) (d22:DefK K "_law_term_text" st__law_term_text f22) (d23:DefK K "_law_rule_text" st__law_rule_text f23) (d24:DefK K "_law_plain" st__law_plain f24) (d25:DefK K "_law_lets" st__law_lets f25) (d26:DefK K "_law_sign" st__law_sign f26) (d27:DefK K "_law_odd_word" st__law_odd_word f27) (d28:DefK K "_law_spoilt" st__law_spoilt f28) (d29:DefK K "_law_bound" st__law_bound f29) (d30:DefK K "_law_read_term" st__law_read_term f30) (d31:DefK K "_law_read" st__law_read f31) (d32:DefK K "law" st_law f32):
  ∃fd,Fun K "law" "law" st_law f32 fd/\FnOk P w K mg base (CXW P w) 105 f32 fd ["_law_script"] (spLaw K):=by
 have g0:GOk P w K mg base ((G0 K c f6 f7 p1 p2 p3 p4).wit (L0 K c f6 f7)) 1:=(g0_ok X G T).wit0
 obtain⟨e1,F1,o1⟩:=step (sp:=Wd.spMadeOf (modK K)) d1 sc_made_of g0 m_made_of rfl (Wd.ok_made_of rfl rfl)
 have b1:Binds K e1 P_made_of []:=binds_2 F1 fun _ _=>fun _ _ _ _ _ _=>rfl
 have g1:GOk P w K mg base ((G0 K c f6 f7 p1 p2 p3 p4).wit (L1 K c f6 f7)) 3:=GOk.wit1 (g0.mono (k:=3) (by decide)) (mg_of X G d1.at_) F1.kp o1 b1 (by decide)
 obtain⟨e2,F2,o2⟩:=step (sp:=Wd.spWrites (modK K)) d2 sc_writes_number g1 m_writes_number rfl (Wd.ok_writes ⟨rfl,rfl,by exact⟨by kernel_rfl,by kernel_rfl⟩,by kernel_rfl,by kernel_rfl⟩)
 have b2:Binds K e2 P_writes_number []:=binds_1 F2 fun _=>fun _ _ _ _ _ _=>rfl
 have g2:GOk P w K mg base ((G0 K c f6 f7 p1 p2 p3 p4).wit (L2 K c f6 f7)) 5:=GOk.wit1 (g1.mono (k:=5) (by decide)) (mg_of X G d2.at_) F2.kp o2 b2 (by decide)
 obtain⟨e3,F3,o3⟩:=step (sp:=Wd.spNumber (modK K) c) d3 sc_number_of g2 m_number_of rfl (Wd.ok_number ⟨⟨rfl,rfl,by exact⟨by kernel_rfl,by kernel_rfl⟩,by kernel_rfl,by kernel_rfl⟩,by exact⟨by kernel_rfl,by kernel_rfl⟩,by kernel_rfl⟩)
 have b3:Binds K e3 P_number_of []:=binds_1 F3 fun _=>fun _ _ _ _ _ _=>rfl
 have g3:GOk P w K mg base ((G0 K c f6 f7 p1 p2 p3 p4).wit (L3 K c f6 f7)) 7:=GOk.wit1 (g2.mono (k:=7) (by decide)) (mg_of X G d3.at_) F3.kp o3 b3 (by decide)
 obtain⟨e4,F4,o4⟩:=step (sp:=Wd.spWithin (modK K) c) d4 sc_number_within g3 m_number_within rfl (Wd.ok_within ⟨⟨⟨rfl,rfl,by exact⟨by kernel_rfl,by kernel_rfl⟩,by kernel_rfl,by kernel_rfl⟩,by exact⟨by kernel_rfl,by kernel_rfl⟩,by kernel_rfl⟩,by exact⟨by kernel_rfl,by kernel_rfl⟩⟩)
 have b4:Binds K e4 P_number_within []:=binds_3 F4 fun _ _ _=>fun _ _ _ _ _ _=>rfl
 have g4:GOk P w K mg base ((G0 K c f6 f7 p1 p2 p3 p4).wit (L4 K c f6 f7)) 9:=GOk.wit1 (g3.mono (k:=9) (by decide)) (mg_of X G d4.at_) F4.kp o4 b4 (by decide)
 obtain⟨e5,F5,o5⟩:=step (sp:=Rl.spGap (modK K)) d5 sc_gap g4 m_gap rfl (Rl.ok_gap rfl rfl)
 have b5:Binds K e5 P_gap []:=binds_2 F5 fun _ _=>fun _ _ _ _ _ _=>rfl
 have g5:GOk P w K mg base ((G0 K c f6 f7 p1 p2 p3 p4).wit (L5 K c f6 f7)) 11:=GOk.wit1 (g4.mono (k:=11) (by decide)) (mg_of X G d5.at_) F5.kp o5 b5 (by decide)
 obtain⟨e6,F6,o6⟩:=step (sp:=Rl.spFG (modK K)) d6 sc_fits_by_groups g5 m_fits_by_groups rfl (Rl.ok_groups rfl ⟨⟨p1,p2,p3,p4,rfl,T.t1,T.t2,T.t3,T.t4⟩⟩)
 have o6:=FnOk.off (sp':=spFG0 (modK K)) o6 (fun vs H Q E h=>by obtain⟨a,b,s,t,rfl,_⟩:=h;rfl) fun vs H Q E off h=>by
  obtain⟨a,b,s,t,rfl,ha,hb,ok,q⟩:=h
  exact⟨a,b,s,t,rfl,fun a ha=>(by obtain⟨o,e⟩:=(modK_ok K).look ha;exact off a o e),ha,hb,ok,q⟩
 have b6:Binds K e6 P_fits_by_groups []:=binds_2 F6 fun _ _=>fun _ _ _ _ _ _=>rfl
 have g6:GOk P w K mg base ((G0 K c f6 f7 p1 p2 p3 p4).wit (L6 K c f6 f7)) 13:=GOk.wit1 (g5.mono (k:=13) (by decide)) (mg_of X G d6.at_) F6.kp o6 b6 (by decide)
 obtain⟨e7,F7,o7⟩:=step (sp:=Rl.spFM (modK K)) d7 sc_fits_by_marks g6 m_fits_by_marks rfl (Rl.ok_fmarks rfl rfl)
 have b7:Binds K e7 P_fits_by_marks []:=binds_2 F7 fun _ _=>fun _ _ _ _ _ _=>rfl
 have g7:GOk P w K mg base ((G0 K c f6 f7 p1 p2 p3 p4).wit (L7 K c f6 f7)) 15:=GOk.wit1 (g6.mono (k:=15) (by decide)) (mg_of X G d7.at_) F7.kp o7 b7 (by decide)
 have o8:FnOk P w K mg base (CXW P w) 16 f8 e8 P_sizes_rule (spMk (modK K) Ts0 in_sizes_rule "fits" "bound" "sizes_rule.<locals>.fits"):=fn_maker (Ts:=Ts0) mm1 g7 (B 117 (by decide)) (by unfold Ts0;simp) (fun t ht h=>tabs_one t ht _ (by unfold Ts0;simp) h)
 have b8:Binds K e8 P_sizes_rule []:=.all fun us hl=>by
  obtain⟨_,_,_,_,_,_,_,_,q,_⟩:=mm1.lk
  subst q
  obtain⟨v,rfl⟩:=len_one hl
  rfl
 have g8:GOk P w K mg base ((G0 K c f6 f7 p1 p2 p3 p4).wit (L8 K c f6 f7)) 17:=GOk.wit1 (g7.mono (k:=17) (by decide)) (mg_of X G ma1) mp1 o8 b8 (by decide)
 have o9:FnOk P w K mg base (CXW P w) 18 f9 e9 P_opposite (spMk (modK K) Ts0 in_opposite "fits" "rule" "opposite.<locals>.fits"):=fn_maker (Ts:=Ts0) mm2 g8 (B 124 (by decide)) (by unfold Ts0;simp) (fun t ht h=>tabs_one t ht _ (by unfold Ts0;simp) h)
 have b9:Binds K e9 P_opposite []:=.all fun us hl=>by
  obtain⟨_,_,_,_,_,_,_,_,q,_⟩:=mm2.lk
  subst q
  obtain⟨v,rfl⟩:=len_one hl
  rfl
 have g9:GOk P w K mg base ((G0 K c f6 f7 p1 p2 p3 p4).wit (L9 K c f6 f7)) 19:=GOk.wit1 (g8.mono (k:=19) (by decide)) (mg_of X G ma2) mp2 o9 b9 (by decide)
 have o10:FnOk P w K mg base (CXW P w) 20 f10 e10 P_all_of (spMk (modK K) Ts0 in_all_of "fits" "rules" "all_of.<locals>.fits"):=fn_maker (Ts:=Ts0) mm3 g9 (B 131 (by decide)) (by unfold Ts0;simp) (fun t ht h=>tabs_one t ht _ (by unfold Ts0;simp) h)
 have b10:Binds K e10 P_all_of []:=.all fun us hl=>by
  obtain⟨_,_,_,_,_,_,_,_,q,_⟩:=mm3.lk
  subst q
  obtain⟨v,rfl⟩:=len_one hl
  rfl
 have g10:GOk P w K mg base ((G0 K c f6 f7 p1 p2 p3 p4).wit (L10 K c f6 f7)) 21:=GOk.wit1 (g9.mono (k:=21) (by decide)) (mg_of X G ma3) mp3 o10 b10 (by decide)
 have o11:FnOk P w K mg base (CXW P w) 22 f11 e11 P_any_of (spMk (modK K) Ts0 in_any_of "fits" "rules" "any_of.<locals>.fits"):=fn_maker (Ts:=Ts0) mm4 g10 (B 138 (by decide)) (by unfold Ts0;simp) (fun t ht h=>tabs_one t ht _ (by unfold Ts0;simp) h)
 have b11:Binds K e11 P_any_of []:=.all fun us hl=>by
  obtain⟨_,_,_,_,_,_,_,_,q,_⟩:=mm4.lk
  subst q
  obtain⟨v,rfl⟩:=len_one hl
  rfl
 have g11:GOk P w K mg base ((G0 K c f6 f7 p1 p2 p3 p4).wit (L11 K c f6 f7)) 23:=GOk.wit1 (g10.mono (k:=23) (by decide)) (mg_of X G ma4) mp4 o11 b11 (by decide)
 obtain⟨e12,F12,o12⟩:=step (sp:=Rl.spPR2 (modK K) Ts0 (Fx0 f6 f7) c) d12 sc_plain_rule g11 m_plain_rule rfl (Rl.ok_plain2 (c:=c) ⟨rfl,rfl,by kernel_rfl,by kernel_rfl,by kernel_rfl,by kernel_rfl,by kernel_rfl,by exact⟨by kernel_rfl,by kernel_rfl⟩,by exact⟨by kernel_rfl,by kernel_rfl⟩⟩)
 have b12:Binds K e12 P_plain_rule []:=binds_1 F12 fun _=>fun _ _ _ _ _ _=>rfl
 have g12:GOk P w K mg base ((G0 K c f6 f7 p1 p2 p3 p4).wit (L12 K c f6 f7)) 25:=GOk.wit1 (g11.mono (k:=25) (by decide)) (mg_of X G d12.at_) F12.kp o12 b12 (by decide)
 obtain⟨e13,F13,o13⟩:=step (sp:=Rl.spTR2 (modK K) Ts0 (Fx0 f6 f7) c) d13 sc_term_rule g12 m_term_rule rfl (Rl.ok_term2 (c:=c) ⟨rfl,rfl,by kernel_rfl,by kernel_rfl,by exact⟨by kernel_rfl,by kernel_rfl⟩,by exact⟨by kernel_rfl,by kernel_rfl⟩⟩)
 have b13:Binds K e13 P_term_rule []:=binds_1 F13 fun _=>fun _ _ _ _ _ _=>rfl
 have g13:GOk P w K mg base ((G0 K c f6 f7 p1 p2 p3 p4).wit (L13 K c f6 f7)) 27:=GOk.wit1 (g12.mono (k:=27) (by decide)) (mg_of X G d13.at_) F13.kp o13 b13 (by decide)
 obtain⟨e14,F14,o14⟩:=step (sp:=Rl.spAR2 (modK K) Ts0 (Fx0 f6 f7) c) d14 sc_alternative_rule g13 m_alternative_rule rfl (Rl.ok_alt2 (c:=c) ⟨rfl,rfl,by exact⟨by kernel_rfl,by kernel_rfl⟩,by exact⟨by kernel_rfl,by kernel_rfl⟩⟩)
 have b14:Binds K e14 P_alternative_rule []:=binds_1 F14 fun _=>fun _ _ _ _ _ _=>rfl
 have g14:GOk P w K mg base ((G0 K c f6 f7 p1 p2 p3 p4).wit (L14 K c f6 f7)) 29:=GOk.wit1 (g13.mono (k:=29) (by decide)) (mg_of X G d14.at_) F14.kp o14 b14 (by decide)
 obtain⟨e15,F15,o15⟩:=step (sp:=Rl.spRO2 (modK K) Ts0 (Fx0 f6 f7) c) d15 sc_rule_of g14 m_rule_of rfl (Rl.ok_rule2 (c:=c) ⟨rfl,rfl,by kernel_rfl,by dsimp only[Gam.wit,Sw.Gam.vcd,G0];((first | with_reducible refine Eq.mpr (if_pos rfl) ?_ | rw[if_pos rfl]);(first | with_reducible refine Eq.mpr (if_pos rfl) ?_ | rw[if_pos rfl])),by kernel_rfl,by exact⟨by kernel_rfl,by kernel_rfl⟩,by exact⟨by kernel_rfl,by kernel_rfl⟩⟩)
 have b15:Binds K e15 P_rule_of []:=binds_1 F15 fun _=>fun _ _ _ _ _ _=>rfl
 have g15:GOk P w K mg base ((G0 K c f6 f7 p1 p2 p3 p4).wit (L15 K c f6 f7)) 31:=GOk.wit1 (g14.mono (k:=31) (by decide)) (mg_of X G d15.at_) F15.kp o15 b15 (by decide)
 obtain⟨e16,F16,o16⟩:=step (sp:=Lw.spCell (modK K)) d16 sc__law_cell g15 m__law_cell rfl (Lw.ok_cell rfl rfl)
 have b16:Binds K e16 P__law_cell []:=binds_2 F16 fun _ _=>fun _ _ _ _ _ _=>rfl
 have g16:GOk P w K mg base ((G0 K c f6 f7 p1 p2 p3 p4).wit (L16 K c f6 f7)) 33:=GOk.wit1 (g15.mono (k:=33) (by decide)) (mg_of X G d16.at_) F16.kp o16 b16 (by decide)
 obtain⟨e17,F17,o17⟩:=step (sp:=Lw.spMix) d17 sc__law_mix g16 m__law_mix rfl (Lw.ok_mix)
 have b17:Binds K e17 P__law_mix []:=binds_2 F17 fun _ _=>fun _ _ _ _ _ _=>rfl
 have g17:GOk P w K mg base ((G0 K c f6 f7 p1 p2 p3 p4).wit (L17 K c f6 f7)) 35:=GOk.wit1 (g16.mono (k:=35) (by decide)) (mg_of X G d17.at_) F17.kp o17 b17 (by decide)
 obtain⟨e18,F18,o18⟩:=step (sp:=Lw.spMarks (modK K)) d18 sc__law_marks g17 m__law_marks rfl (Lw.ok_marks rfl rfl)
 have b18:Binds K e18 P__law_marks []:=binds_1 F18 fun _=>fun _ _ _ _ _ _=>rfl
 have g18:GOk P w K mg base ((G0 K c f6 f7 p1 p2 p3 p4).wit (L18 K c f6 f7)) 37:=GOk.wit1 (g17.mono (k:=37) (by decide)) (mg_of X G d18.at_) F18.kp o18 b18 (by decide)
 obtain⟨e19,F19,o19⟩:=step (sp:=Lw.spSide (modK K)) d19 sc__law_side g18 m__law_side rfl (Lw.ok_side ⟨rfl,rfl,by exact⟨by kernel_rfl,by kernel_rfl⟩,by exact⟨by kernel_rfl,by kernel_rfl⟩⟩)
 have b19:Binds K e19 P__law_side []:=binds_2 F19 fun _ _=>fun _ _ _ _ _ _=>rfl
 have g19:GOk P w K mg base ((G0 K c f6 f7 p1 p2 p3 p4).wit (L19 K c f6 f7)) 39:=GOk.wit1 (g18.mono (k:=39) (by decide)) (mg_of X G d19.at_) F19.kp o19 b19 (by decide)
 obtain⟨e20,F20,o20⟩:=step (sp:=Lw.spTerm (modK K)) d20 sc__law_term g19 m__law_term rfl (Lw.ok_ltm rfl)
 have b20:Binds K e20 P__law_term []:=binds_1 F20 fun _=>fun _ _ _ _ _ _=>rfl
 have g20:GOk P w K mg base ((G0 K c f6 f7 p1 p2 p3 p4).wit (L20 K c f6 f7)) 41:=GOk.wit1 (g19.mono (k:=41) (by decide)) (mg_of X G d20.at_) F20.kp o20 b20 (by decide)
 obtain⟨e21,F21,o21⟩:=step (sp:=Lw.spAlts (modK K)) d21 sc__law_alternatives g20 m__law_alternatives rfl (Lw.ok_alts ⟨rfl,rfl,by exact⟨by kernel_rfl,by kernel_rfl⟩,by exact⟨by kernel_rfl,by kernel_rfl⟩⟩)
 have b21:Binds K e21 P__law_alternatives []:=binds_1 F21 fun _=>fun _ _ _ _ _ _=>rfl
 have g21:GOk P w K mg base ((G0 K c f6 f7 p1 p2 p3 p4).wit (L21 K c f6 f7)) 43:=GOk.wit1 (g20.mono (k:=43) (by decide)) (mg_of X G d21.at_) F21.kp o21 b21 (by decide)
 obtain⟨e22,F22,o22⟩:=step (sp:=Lw.spTT (modK K)) d22 sc__law_term_text g21 m__law_term_text rfl (Lw.ok_tt rfl rfl)
 have b22:Binds K e22 P__law_term_text []:=binds_1 F22 fun _=>fun _ _ _ _ _ _=>rfl
 have g22:GOk P w K mg base ((G0 K c f6 f7 p1 p2 p3 p4).wit (L22 K c f6 f7)) 45:=GOk.wit1 (g21.mono (k:=45) (by decide)) (mg_of X G d22.at_) F22.kp o22 b22 (by decide)
 obtain⟨e23,F23,o23⟩:=step (sp:=Lw.spText (modK K)) d23 sc__law_rule_text g22 m__law_rule_text rfl (Lw.ok_text ⟨rfl,rfl,by exact⟨by kernel_rfl,by kernel_rfl⟩⟩)
 have b23:Binds K e23 P__law_rule_text []:=binds_1 F23 fun _=>fun _ _ _ _ _ _=>rfl
 have g23:GOk P w K mg base ((G0 K c f6 f7 p1 p2 p3 p4).wit (L23 K c f6 f7)) 47:=GOk.wit1 (g22.mono (k:=47) (by decide)) (mg_of X G d23.at_) F23.kp o23 b23 (by decide)
 obtain⟨e24,F24,o24⟩:=step (sp:=Lw.spPlain (modK K)) d24 sc__law_plain g23 m__law_plain rfl (Lw.ok_plain rfl rfl)
 have b24:Binds K e24 P__law_plain []:=binds_4 F24 fun _ _ _ _=>fun _ _ _ _ _ _=>rfl
 have g24:GOk P w K mg base ((G0 K c f6 f7 p1 p2 p3 p4).wit (L24 K c f6 f7)) 49:=GOk.wit1 (g23.mono (k:=49) (by decide)) (mg_of X G d24.at_) F24.kp o24 b24 (by decide)
 obtain⟨e25,F25,o25⟩:=step (sp:=Lw.spLets (modK K)) d25 sc__law_lets g24 m__law_lets rfl (Lw.ok_lets ⟨rfl,rfl,by exact⟨by kernel_rfl,by kernel_rfl⟩⟩)
 have b25:Binds K e25 P__law_lets []:=binds_3 F25 fun _ _ _=>fun _ _ _ _ _ _=>rfl
 have g25:GOk P w K mg base ((G0 K c f6 f7 p1 p2 p3 p4).wit (L25 K c f6 f7)) 51:=GOk.wit1 (g24.mono (k:=51) (by decide)) (mg_of X G d25.at_) F25.kp o25 b25 (by decide)
 obtain⟨e26,F26,o26⟩:=step (sp:=Ls.spSign) d26 sc__law_sign g25 m__law_sign rfl (Ls.ok_sign rfl)
 have b26:Binds K e26 P__law_sign []:=binds_1 F26 fun _=>fun _ _ _ _ _ _=>rfl
 have g26:GOk P w K mg base ((G0 K c f6 f7 p1 p2 p3 p4).wit (L26 K c f6 f7)) 53:=GOk.wit1 (g25.mono (k:=53) (by decide)) (mg_of X G d26.at_) F26.kp o26 b26 (by decide)
 obtain⟨e27,F27,o27⟩:=step (sp:=Ls.spOdd (modK K)) d27 sc__law_odd_word g26 m__law_odd_word rfl (Ls.ok_odd rfl rfl)
 have b27:Binds K e27 P__law_odd_word []:=binds_1 F27 fun _=>fun _ _ _ _ _ _=>rfl
 have g27:GOk P w K mg base ((G0 K c f6 f7 p1 p2 p3 p4).wit (L27 K c f6 f7)) 55:=GOk.wit1 (g26.mono (k:=55) (by decide)) (mg_of X G d27.at_) F27.kp o27 b27 (by decide)
 obtain⟨e28,F28,o28⟩:=step (sp:=Ls.spSpoilt (modK K)) d28 sc__law_spoilt g27 m__law_spoilt rfl (Ls.ok_spoilt ⟨rfl,rfl,by exact⟨by kernel_rfl,by kernel_rfl⟩,by exact⟨by kernel_rfl,by kernel_rfl⟩⟩)
 have b28:Binds K e28 P__law_spoilt []:=binds_3 F28 fun _ _ _=>fun _ _ _ _ _ _=>rfl
 have g28:GOk P w K mg base ((G0 K c f6 f7 p1 p2 p3 p4).wit (L28 K c f6 f7)) 57:=GOk.wit1 (g27.mono (k:=57) (by decide)) (mg_of X G d28.at_) F28.kp o28 b28 (by decide)
 obtain⟨e29,F29,o29⟩:=step (sp:=Ls.spBound) d29 sc__law_bound g28 m__law_bound rfl (Ls.ok_bound rfl)
 have b29:Binds K e29 P__law_bound []:=binds_1 F29 fun _=>fun _ _ _ _ _ _=>rfl
 have g29:GOk P w K mg base ((G0 K c f6 f7 p1 p2 p3 p4).wit (L29 K c f6 f7)) 59:=GOk.wit1 (g28.mono (k:=59) (by decide)) (mg_of X G d29.at_) F29.kp o29 b29 (by decide)
 obtain⟨e30,F30,o30⟩:=step (sp:=Ls.spReadT (modK K)) d30 sc__law_read_term g29 m__law_read_term rfl (Ls.ok_readT ⟨rfl,rfl,by exact⟨by kernel_rfl,by kernel_rfl⟩⟩)
 have b30:Binds K e30 P__law_read_term []:=binds_1 F30 fun _=>fun _ _ _ _ _ _=>rfl
 have g30:GOk P w K mg base ((G0 K c f6 f7 p1 p2 p3 p4).wit (L30 K c f6 f7)) 61:=GOk.wit1 (g29.mono (k:=61) (by decide)) (mg_of X G d30.at_) F30.kp o30 b30 (by decide)
 obtain⟨e31,F31,o31⟩:=step (sp:=Ls.spReadL (modK K)) d31 sc__law_read g30 m__law_read rfl (Ls.ok_readL ⟨rfl,rfl,by exact⟨by kernel_rfl,by kernel_rfl⟩⟩)
 have b31:Binds K e31 P__law_read []:=binds_1 F31 fun _=>fun _ _ _ _ _ _=>rfl
 have g31:GOk P w K mg base ((G0 K c f6 f7 p1 p2 p3 p4).wit (L31 K c f6 f7)) 63:=GOk.wit1 (g30.mono (k:=63) (by decide)) (mg_of X G d31.at_) F31.kp o31 b31 (by decide)
 have v0:VcOk P w K mg base 65 (Rl.spP (modK K) (Fx0 f6 f7)):=by
  refine VcOk.imp ((vc_fn (o6.mono (k:=65) (by decide)) b6 ⟨_,_,_,_,F6.ex.choose_spec.choose_spec.choose_spec.choose_spec.choose_spec.choose_spec.choose_spec.choose_spec.choose_spec.2.1⟩).or ((vc_fn (o7.mono (k:=65) (by decide)) b7 ⟨_,_,_,_,F7.ex.choose_spec.choose_spec.choose_spec.choose_spec.choose_spec.choose_spec.choose_spec.choose_spec.choose_spec.2.1⟩).or (vc_clo sc_in_sizes_rule g31 m_in_sizes_rule rfl bi_sizes_rule))) fun f vs H Q E h=>?_
  obtain⟨p,a,b,s,t,ev,hp,off,ha,hb,os,ot,q⟩:=h
  cases p with
  | gr=>exact .inl ⟨hp,a,b,s,t,ev,ha,hb,os,q H Ext.refl⟩
  | mk=>exact .inr (.inl ⟨hp,a,b,s,t,ev,ha,hb,os,q⟩)
  | sz n=>
   obtain⟨cc,hp⟩:=hp
   exact .inr (.inr (Rl.ok_in_sizes (F:=(Fx0 f6 f7)) rfl rfl (by exact⟨by kernel_rfl,by kernel_rfl⟩) hp off ev ha hb q))
 have h0:=GOk.withVcW (g31.mono (k:=65) (by decide)) v0
 have v1:VcOk P w K mg base 67 (Rl.spT (modK K) (Fx0 f6 f7)):=by
  refine VcOk.imp ((v0.mono (k:=67) (by decide)).or (vc_clo sc_in_opposite h0 m_in_opposite rfl bi_opposite)) fun f vs H Q E h=>?_
  obtain⟨p,a,b,s,t,ev,hp,off,ha,hb,os,ot,q⟩:=h
  rcases hp with ⟨e,hp⟩ | ⟨e,cc,r,hp,hr⟩
  ·refine .inl ⟨p.p,a,b,s,t,ev,hp,off,ha,hb,os,ot,fun H' x=>?_⟩
   have:=q H' x
   unfold Rl.Tm.phi at this
   rwa[if_pos e]at this
  ·refine .inr (Rl.ok_in_opp (F:=(Fx0 f6 f7)) rfl rfl rfl hp hr off ev ha hb os ot fun H' x=>?_)
   have:=q H' x
   unfold Rl.Tm.phi at this
   rwa[if_neg e]at this
 have h1:=GOk.withVcW (h0.mono (k:=67) (by decide)) v1
 have v2:VcOk P w K mg base 69 (Rl.spA (modK K) (Fx0 f6 f7)):=by
  refine VcOk.imp (vc_clo sc_in_all_of h1 m_in_all_of rfl bi_all_of) fun f vs H Q E h=>?_
  obtain⟨p,a,b,s,t,ev,⟨cc,l,rs,hp,hl,hn,hr⟩,off,ha,hb,os,ot,q⟩:=h
  exact Rl.ok_in_all (F:=(Fx0 f6 f7)) rfl rfl rfl hp hl hn hr off ev ha hb os ot q
 have h2:=GOk.withVcW (h1.mono (k:=69) (by decide)) v2
 have v3:VcOk P w K mg base 71 (Rl.spR (modK K) (Fx0 f6 f7)):=by
  refine VcOk.imp (vc_clo sc_in_any_of h2 m_in_any_of rfl bi_any_of) fun f vs H Q E h=>?_
  obtain⟨p,a,b,s,t,ev,⟨cc,l,rs,hp,hl,hn,hr⟩,off,ha,hb,os,ot,q⟩:=h
  exact Rl.ok_in_any (F:=(Fx0 f6 f7)) rfl rfl rfl hp hl hn hr off ev ha hb os ot q
 have g31:=GOk.withVcW (h2.mono (k:=71) (by decide)) v3
 obtain⟨e32,F32,o32⟩:=step (sp:=Ls.spLaw (modK K) Ts0) d32 sc_law g31 m_law rfl (Ls.ok_law (F:=(Fx0 f6 f7)) (c:=c) ⟨rfl,rfl,rfl,by exact⟨by kernel_rfl,by kernel_rfl⟩,by exact⟨by kernel_rfl,by kernel_rfl⟩,by exact⟨by kernel_rfl,by kernel_rfl⟩,by exact⟨by kernel_rfl,by kernel_rfl⟩,by exact⟨by kernel_rfl,by kernel_rfl⟩,by exact⟨by kernel_rfl,by kernel_rfl⟩,by exact⟨by kernel_rfl,by kernel_rfl⟩,by exact⟨by kernel_rfl,by kernel_rfl⟩,by kernel_rfl,by dsimp only[Gam.wit,Sw.Gam.vcd,G0];((first | with_reducible refine Eq.mpr (if_pos rfl) ?_ | rw[if_pos rfl]);(first | with_reducible refine Eq.mpr (if_pos rfl) ?_ | rw[if_pos rfl])),by dsimp only[Gam.wit,Sw.Gam.vcd,G0];((first | with_reducible refine Eq.mpr (if_pos rfl) ?_ | rw[if_pos rfl]);(first | with_reducible refine Eq.mpr (if_neg (by decide +kernel)) ?_ | rw[if_neg (by decide +kernel)]);(first | with_reducible refine Eq.mpr (if_pos rfl) ?_ | rw[if_pos rfl])),by dsimp only[Gam.wit,Sw.Gam.vcd,G0];((first | with_reducible refine Eq.mpr (if_pos rfl) ?_ | rw[if_pos rfl]);(first | with_reducible refine Eq.mpr (if_neg (by decide +kernel)) ?_ | rw[if_neg (by decide +kernel)]);(first | with_reducible refine Eq.mpr (if_neg (by decide +kernel)) ?_ | rw[if_neg (by decide +kernel)]);(first | with_reducible refine Eq.mpr (if_pos rfl) ?_ | rw[if_pos rfl])),by dsimp only[Gam.wit,Sw.Gam.vcd,G0];((first | with_reducible refine Eq.mpr (if_pos rfl) ?_ | rw[if_pos rfl]);(first | with_reducible refine Eq.mpr (if_neg (by decide +kernel)) ?_ | rw[if_neg (by decide +kernel)]);(first | with_reducible refine Eq.mpr (if_neg (by decide +kernel)) ?_ | rw[if_neg (by decide +kernel)]);(first | with_reducible refine Eq.mpr (if_neg (by decide +kernel)) ?_ | rw[if_neg (by decide +kernel)]);(first | with_reducible refine Eq.mpr (if_pos rfl) ?_ | rw[if_pos rfl])),by dsimp only[Gam.wit,Sw.Gam.vcd,G0];simp⟩)
 refine⟨e32,F32,FnOk.mono (FnOk.off o32 (fun vs H Q E h=>?_) fun vs H Q E off h=>?_) (by decide)⟩
 ·obtain⟨a,ns,rfl,_⟩:=h;rfl
 ·obtain⟨a,ns,rfl,hl,hs,ht,q⟩:=h
  exact⟨a,ns,rfl,script_rd off hs,fun a ha=>(by obtain⟨o,e⟩:=(modK_ok K).look ha;exact off a o e),ht,q⟩
end
end K5
namespace K5
set_option genInjectivity false
open Wd (N_made_of b_made_of N_writes_number b_writes_number N_number_of b_number_of N_number_within b_number_within)
open Rl (N_gap b_gap N_fits_by_groups b_fits_by_groups N_fits_by_marks b_fits_by_marks N_in_sizes_rule b_in_sizes_rule N_in_opposite b_in_opposite N_in_all_of b_in_all_of N_in_any_of b_in_any_of N_plain_rule b_plain_rule N_term_rule b_term_rule N_alternative_rule b_alternative_rule N_rule_of b_rule_of)
open Lw (N__law_cell b__law_cell N__law_mix b__law_mix N__law_marks b__law_marks N__law_side b__law_side b__law_term N__law_alternatives b__law_alternatives b__law_term_text N__law_rule_text b__law_rule_text b__law_plain b__law_lets)
open Ls (N__law_sign b__law_sign N__law_odd_word b__law_odd_word N__law_spoilt b__law_spoilt N__law_bound b__law_bound N__law_read_term b__law_read_term N__law_read b__law_read N_law b_law)
open PySem PySem.Spec PyProof.Rows L2 Sw Wd
open PySem.W (Frag keepIn ktsIn mroIn kitOne nsIn findIn typeIn takerIn hasDictIn codeIn codeHdIn fnOf mg_of mg_none_of noTabs tabObj)
set_option maxHeartbeats 4000000 in
theorem all_mk {l:PySem.W.OpenLaw} {w:World} {K:Frag} {h:Heap} {mg:Str->Option Value} {fa:Addr} (X:K.In h) (G:h.Ns mainGlobals mg) (hfa:mg "law" =some (.ref fa))
  {c fI cS cN p1 p2 p3 p4 pd f1 f2 f3 f4 f5 f6 f7 f8 f9 f10 f11 f12 f13 f14 f15 f16 f17 f18 f19 f20 f21 f22 f23 f24 f25 f26 f27 f28 f29 f30 f31 f32 cc1 cc2 cc3 cc4:Addr}
  {od1 an1 od2 an2 od3 an3 od4 an4 od5 an5 od6 an6 od7 an7 od8 an8 od9 an9 od10 an10 od11 an11 od12 an12 od13 an13 od14 an14 od15 an15 od16 an16 od17 an17 od18 an18 od19 an19 od20 an20 od21 an21 od22 an22 od23 an23 od24 an24 od25 an25 od26 an26 od27 an27 od28 an28 od29 an29 od30 an30 od31 an31 od32 an32 od33 an33:Option Addr}
  {sl1 sl2 sl3 sl4 sl5 sl6 sl7 sl8 sl9 sl10 sl11 sl12 sl13 sl14 sl15 sl16 sl17 sl18 sl19 sl20 sl21 sl22 sl23 sl24 sl25 sl26 sl27 sl28 sl29 sl30 sl31 sl32 sl33:Array (Option Value)}
  {oc1 kV1 dc1 pm1 ct1 cd1 oc2 kV2 dc2 pm2 ct2 cd2 oc3 kV3 dc3 pm3 ct3 cd3 oc4 kV4 dc4 pm4 ct4 cd4 oc5 kV5 dc5 pm5 ct5 cd5 oc6 kV6 dc6 pm6 ct6 cd6 oc7 kV7 dc7 pm7 ct7 cd7 oc8 kV8 dc8 pm8 ct8 oc9 kV9 dc9 pm9 ct9 oc10 kV10 dc10 pm10 ct10 oc11 kV11 dc11 pm11 ct11 oc12 kV12 dc12 pm12 ct12 cd12 oc13 kV13 dc13 pm13 ct13 cd13 oc14 kV14 dc14 pm14 ct14 cd14 oc15 kV15 dc15 pm15 ct15 cd15 oc16 kV16 dc16 pm16 ct16 cd16 oc17 kV17 dc17 pm17 ct17 cd17 oc18 kV18 dc18 pm18 ct18 cd18 oc19 kV19 dc19 pm19 ct19 cd19 oc20 kV20 dc20 pm20 ct20 cd20 oc21 kV21 dc21 pm21 ct21 cd21 oc22 kV22 dc22 pm22 ct22 cd22 oc23 kV23 dc23 pm23 ct23 cd23 oc24 kV24 dc24 pm24 ct24 cd24 oc25 kV25 dc25 pm25 ct25 cd25 oc26 kV26 dc26 pm26 ct26 cd26 oc27 kV27 dc27 pm27 ct27 cd27 oc28 kV28 dc28 pm28 ct28 cd28 oc29 kV29 dc29 pm29 ct29 cd29 oc30 kV30 dc30 pm30 ct30 cd30 oc31 kV31 dc31 pm31 ct31 cd31 oc32 kV32 dc32 pm32 ct32 cd32 oc33 kV33 dc33 pm33 ct33 cd33:Value}
  {t1 t2 t3 t4 t5 t6 u1 u2 u3 u4 v1 v2 v3 v4 v5 v6 v7 v8 v9:Tok} {oq1 oq2 oq3 oq4:Option Addr} {np1 np2 np3 np4 ep:Nat} {sq1 sq2 sq3 sq4:Array (Option Value)} {h1 h2 h3 h4:Int}
  (a1:nsIn K mainGlobals "made_of" =some (some (.ref f1)))
  (l1:K.lookup f1=some ⟨oc1,od1,.func (fnOf "made_of" "made_of" (defArgs st_made_of) (defBody st_made_of) (defScope st_made_of) .none kV1 dc1 pm1 an1 cd1 ct1),sl1⟩)
  (c1:codeIn K cd1 "made_of" =true)
  (k1:keepIn K (.ref f1)=true)
  (a2:nsIn K mainGlobals "writes_number" =some (some (.ref f2)))
  (l2:K.lookup f2=some ⟨oc2,od2,.func (fnOf "writes_number" "writes_number" (defArgs st_writes_number) (defBody st_writes_number) (defScope st_writes_number) .none kV2 dc2 pm2 an2 cd2 ct2),sl2⟩)
  (c2:codeIn K cd2 "writes_number" =true)
  (k2:keepIn K (.ref f2)=true)
  (a3:nsIn K mainGlobals "number_of" =some (some (.ref f3)))
  (l3:K.lookup f3=some ⟨oc3,od3,.func (fnOf "number_of" "number_of" (defArgs st_number_of) (defBody st_number_of) (defScope st_number_of) .none kV3 dc3 pm3 an3 cd3 ct3),sl3⟩)
  (c3:codeIn K cd3 "number_of" =true)
  (k3:keepIn K (.ref f3)=true)
  (a4:nsIn K mainGlobals "number_within" =some (some (.ref f4)))
  (l4:K.lookup f4=some ⟨oc4,od4,.func (fnOf "number_within" "number_within" (defArgs st_number_within) (defBody st_number_within) (defScope st_number_within) .none kV4 dc4 pm4 an4 cd4 ct4),sl4⟩)
  (c4:codeIn K cd4 "number_within" =true)
  (k4:keepIn K (.ref f4)=true)
  (a5:nsIn K mainGlobals "gap" =some (some (.ref f5)))
  (l5:K.lookup f5=some ⟨oc5,od5,.func (fnOf "gap" "gap" (defArgs st_gap) (defBody st_gap) (defScope st_gap) .none kV5 dc5 pm5 an5 cd5 ct5),sl5⟩)
  (c5:codeIn K cd5 "gap" =true)
  (k5:keepIn K (.ref f5)=true)
  (a6:nsIn K mainGlobals "fits_by_groups" =some (some (.ref f6)))
  (l6:K.lookup f6=some ⟨oc6,od6,.func (fnOf "fits_by_groups" "fits_by_groups" (defArgs st_fits_by_groups) (defBody st_fits_by_groups) (defScope st_fits_by_groups) .none kV6 dc6 pm6 an6 cd6 ct6),sl6⟩)
  (c6:codeIn K cd6 "fits_by_groups" =true)
  (k6:keepIn K (.ref f6)=true)
  (a7:nsIn K mainGlobals "fits_by_marks" =some (some (.ref f7)))
  (l7:K.lookup f7=some ⟨oc7,od7,.func (fnOf "fits_by_marks" "fits_by_marks" (defArgs st_fits_by_marks) (defBody st_fits_by_marks) (defScope st_fits_by_marks) .none kV7 dc7 pm7 an7 cd7 ct7),sl7⟩)
  (c7:codeIn K cd7 "fits_by_marks" =true)
  (k7:keepIn K (.ref f7)=true)
  (a8:nsIn K mainGlobals "sizes_rule" =some (some (.ref f8)))
  (l8:K.lookup f8=some ⟨oc8,od8,.func (fnOf "sizes_rule" "sizes_rule" (defArgs st_sizes_rule) (defBody st_sizes_rule) (defScope st_sizes_rule) .none kV8 dc8 pm8 an8 (.ref cc1) ct8),sl8⟩)
  (c8:codeIn K (.ref cc1) "sizes_rule" =true)
  (k8:keepIn K (.ref f8)=true)
  (hd1:codeHdIn K cc1 117=true)
  (a9:nsIn K mainGlobals "opposite" =some (some (.ref f9)))
  (l9:K.lookup f9=some ⟨oc9,od9,.func (fnOf "opposite" "opposite" (defArgs st_opposite) (defBody st_opposite) (defScope st_opposite) .none kV9 dc9 pm9 an9 (.ref cc2) ct9),sl9⟩)
  (c9:codeIn K (.ref cc2) "opposite" =true)
  (k9:keepIn K (.ref f9)=true)
  (hd2:codeHdIn K cc2 124=true)
  (a10:nsIn K mainGlobals "all_of" =some (some (.ref f10)))
  (l10:K.lookup f10=some ⟨oc10,od10,.func (fnOf "all_of" "all_of" (defArgs st_all_of) (defBody st_all_of) (defScope st_all_of) .none kV10 dc10 pm10 an10 (.ref cc3) ct10),sl10⟩)
  (c10:codeIn K (.ref cc3) "all_of" =true)
  (k10:keepIn K (.ref f10)=true)
  (hd3:codeHdIn K cc3 131=true)
  (a11:nsIn K mainGlobals "any_of" =some (some (.ref f11)))
  (l11:K.lookup f11=some ⟨oc11,od11,.func (fnOf "any_of" "any_of" (defArgs st_any_of) (defBody st_any_of) (defScope st_any_of) .none kV11 dc11 pm11 an11 (.ref cc4) ct11),sl11⟩)
  (c11:codeIn K (.ref cc4) "any_of" =true)
  (k11:keepIn K (.ref f11)=true)
  (hd4:codeHdIn K cc4 138=true)
  (a12:nsIn K mainGlobals "plain_rule" =some (some (.ref f12)))
  (l12:K.lookup f12=some ⟨oc12,od12,.func (fnOf "plain_rule" "plain_rule" (defArgs st_plain_rule) (defBody st_plain_rule) (defScope st_plain_rule) .none kV12 dc12 pm12 an12 cd12 ct12),sl12⟩)
  (c12:codeIn K cd12 "plain_rule" =true)
  (k12:keepIn K (.ref f12)=true)
  (a13:nsIn K mainGlobals "term_rule" =some (some (.ref f13)))
  (l13:K.lookup f13=some ⟨oc13,od13,.func (fnOf "term_rule" "term_rule" (defArgs st_term_rule) (defBody st_term_rule) (defScope st_term_rule) .none kV13 dc13 pm13 an13 cd13 ct13),sl13⟩)
  (c13:codeIn K cd13 "term_rule" =true)
  (k13:keepIn K (.ref f13)=true)
  (a14:nsIn K mainGlobals "alternative_rule" =some (some (.ref f14)))
  (l14:K.lookup f14=some ⟨oc14,od14,.func (fnOf "alternative_rule" "alternative_rule" (defArgs st_alternative_rule) (defBody st_alternative_rule) (defScope st_alternative_rule) .none kV14 dc14 pm14 an14 cd14 ct14),sl14⟩)
  (c14:codeIn K cd14 "alternative_rule" =true)
  (k14:keepIn K (.ref f14)=true)
  (a15:nsIn K mainGlobals "rule_of" =some (some (.ref f15)))
  (l15:K.lookup f15=some ⟨oc15,od15,.func (fnOf "rule_of" "rule_of" (defArgs st_rule_of) (defBody st_rule_of) (defScope st_rule_of) .none kV15 dc15 pm15 an15 cd15 ct15),sl15⟩)
  (c15:codeIn K cd15 "rule_of" =true)
  (k15:keepIn K (.ref f15)=true)
  (a16:nsIn K mainGlobals "_law_cell" =some (some (.ref f16)))
  (l16:K.lookup f16=some ⟨oc16,od16,.func (fnOf "_law_cell" "_law_cell" (defArgs st__law_cell) (defBody st__law_cell) (defScope st__law_cell) .none kV16 dc16 pm16 an16 cd16 ct16),sl16⟩)
  (c16:codeIn K cd16 "_law_cell" =true)
  (k16:keepIn K (.ref f16)=true)
  (a17:nsIn K mainGlobals "_law_mix" =some (some (.ref f17)))
  (l17:K.lookup f17=some ⟨oc17,od17,.func (fnOf "_law_mix" "_law_mix" (defArgs st__law_mix) (defBody st__law_mix) (defScope st__law_mix) .none kV17 dc17 pm17 an17 cd17 ct17),sl17⟩)
  (c17:codeIn K cd17 "_law_mix" =true)
  (k17:keepIn K (.ref f17)=true)
  (a18:nsIn K mainGlobals "_law_marks" =some (some (.ref f18)))
  (l18:K.lookup f18=some ⟨oc18,od18,.func (fnOf "_law_marks" "_law_marks" (defArgs st__law_marks) (defBody st__law_marks) (defScope st__law_marks) .none kV18 dc18 pm18 an18 cd18 ct18),sl18⟩)
  (c18:codeIn K cd18 "_law_marks" =true)
  (k18:keepIn K (.ref f18)=true)
  (a19:nsIn K mainGlobals "_law_side" =some (some (.ref f19)))
  (l19:K.lookup f19=some ⟨oc19,od19,.func (fnOf "_law_side" "_law_side" (defArgs st__law_side) (defBody st__law_side) (defScope st__law_side) .none kV19 dc19 pm19 an19 cd19 ct19),sl19⟩)
  (c19:codeIn K cd19 "_law_side" =true)
  (k19:keepIn K (.ref f19)=true)
  (a20:nsIn K mainGlobals "_law_term" =some (some (.ref f20)))
  (l20:K.lookup f20=some ⟨oc20,od20,.func (fnOf "_law_term" "_law_term" (defArgs st__law_term) (defBody st__law_term) (defScope st__law_term) .none kV20 dc20 pm20 an20 cd20 ct20),sl20⟩)
  (c20:codeIn K cd20 "_law_term" =true)
  (k20:keepIn K (.ref f20)=true)
  (a21:nsIn K mainGlobals "_law_alternatives" =some (some (.ref f21)))
  (l21:K.lookup f21=some ⟨oc21,od21,.func (fnOf "_law_alternatives" "_law_alternatives" (defArgs st__law_alternatives) (defBody st__law_alternatives) (defScope st__law_alternatives) .none kV21 dc21 pm21 an21 cd21 ct21),sl21⟩)
  (c21:codeIn K cd21 "_law_alternatives" =true)
  (k21:keepIn K (.ref f21)=true)
  (a22:nsIn K mainGlobals "_law_term_text" =some (some (.ref f22)))
  (l22:K.lookup f22=some ⟨oc22,od22,.func (fnOf "_law_term_text" "_law_term_text" (defArgs st__law_term_text) (defBody st__law_term_text) (defScope st__law_term_text) .none kV22 dc22 pm22 an22 cd22 ct22),sl22⟩)
  (c22:codeIn K cd22 "_law_term_text" =true)
  (k22:keepIn K (.ref f22)=true)
  (a23:nsIn K mainGlobals "_law_rule_text" =some (some (.ref f23)))
  (l23:K.lookup f23=some ⟨oc23,od23,.func (fnOf "_law_rule_text" "_law_rule_text" (defArgs st__law_rule_text) (defBody st__law_rule_text) (defScope st__law_rule_text) .none kV23 dc23 pm23 an23 cd23 ct23),sl23⟩)
  (c23:codeIn K cd23 "_law_rule_text" =true)
  (k23:keepIn K (.ref f23)=true)
  (a24:nsIn K mainGlobals "_law_plain" =some (some (.ref f24)))
  (l24:K.lookup f24=some ⟨oc24,od24,.func (fnOf "_law_plain" "_law_plain" (defArgs st__law_plain) (defBody st__law_plain) (defScope st__law_plain) .none kV24 dc24 pm24 an24 cd24 ct24),sl24⟩)
  (c24:codeIn K cd24 "_law_plain" =true)
  (k24:keepIn K (.ref f24)=true)
  (a25:nsIn K mainGlobals "_law_lets" =some (some (.ref f25)))
  (l25:K.lookup f25=some ⟨oc25,od25,.func (fnOf "_law_lets" "_law_lets" (defArgs st__law_lets) (defBody st__law_lets) (defScope st__law_lets) .none kV25 dc25 pm25 an25 cd25 ct25),sl25⟩)
  (c25:codeIn K cd25 "_law_lets" =true)
  (k25:keepIn K (.ref f25)=true)
  (a26:nsIn K mainGlobals "_law_sign" =some (some (.ref f26)))
  (l26:K.lookup f26=some ⟨oc26,od26,.func (fnOf "_law_sign" "_law_sign" (defArgs st__law_sign) (defBody st__law_sign) (defScope st__law_sign) .none kV26 dc26 pm26 an26 cd26 ct26),sl26⟩)
  (c26:codeIn K cd26 "_law_sign" =true)
  (k26:keepIn K (.ref f26)=true)
  (a27:nsIn K mainGlobals "_law_odd_word" =some (some (.ref f27)))
  (l27:K.lookup f27=some ⟨oc27,od27,.func (fnOf "_law_odd_word" "_law_odd_word" (defArgs st__law_odd_word) (defBody st__law_odd_word) (defScope st__law_odd_word) .none kV27 dc27 pm27 an27 cd27 ct27),sl27⟩)
  (c27:codeIn K cd27 "_law_odd_word" =true)
  (k27:keepIn K (.ref f27)=true)
  (a28:nsIn K mainGlobals "_law_spoilt" =some (some (.ref f28)))
  (l28:K.lookup f28=some ⟨oc28,od28,.func (fnOf "_law_spoilt" "_law_spoilt" (defArgs st__law_spoilt) (defBody st__law_spoilt) (defScope st__law_spoilt) .none kV28 dc28 pm28 an28 cd28 ct28),sl28⟩)
  (c28:codeIn K cd28 "_law_spoilt" =true)
  (k28:keepIn K (.ref f28)=true)
  (a29:nsIn K mainGlobals "_law_bound" =some (some (.ref f29)))
  (l29:K.lookup f29=some ⟨oc29,od29,.func (fnOf "_law_bound" "_law_bound" (defArgs st__law_bound) (defBody st__law_bound) (defScope st__law_bound) .none kV29 dc29 pm29 an29 cd29 ct29),sl29⟩)
  (c29:codeIn K cd29 "_law_bound" =true)
  (k29:keepIn K (.ref f29)=true)
  (a30:nsIn K mainGlobals "_law_read_term" =some (some (.ref f30)))
  (l30:K.lookup f30=some ⟨oc30,od30,.func (fnOf "_law_read_term" "_law_read_term" (defArgs st__law_read_term) (defBody st__law_read_term) (defScope st__law_read_term) .none kV30 dc30 pm30 an30 cd30 ct30),sl30⟩)
  (c30:codeIn K cd30 "_law_read_term" =true)
  (k30:keepIn K (.ref f30)=true)
  (a31:nsIn K mainGlobals "_law_read" =some (some (.ref f31)))
  (l31:K.lookup f31=some ⟨oc31,od31,.func (fnOf "_law_read" "_law_read" (defArgs st__law_read) (defBody st__law_read) (defScope st__law_read) .none kV31 dc31 pm31 an31 cd31 ct31),sl31⟩)
  (c31:codeIn K cd31 "_law_read" =true)
  (k31:keepIn K (.ref f31)=true)
  (a32:nsIn K mainGlobals "law" =some (some (.ref f32)))
  (l32:K.lookup f32=some ⟨oc32,od32,.func (fnOf "law" "law" (defArgs st_law) (defBody st_law) (defScope st_law) .none kV32 dc32 pm32 an32 cd32 ct32),sl32⟩)
  (c32:codeIn K cd32 "law" =true)
  (k32:keepIn K (.ref f32)=true)
  (xa:nsIn K mainGlobals "NoRow" =some (some (.ref c)))
  (xk:keepIn K (.ref c)=true)
  (xi:findIn K (.ref c) "__init__" =some (some (.ref fI)))
  (xl:K.lookup fI=some ⟨oc33,od33,.func (fnOf "__init__" "NoRow.__init__" (defArgs sInit) (defBody sInit) (defScope sInit) .none kV33 dc33 pm33 an33 cd33 ct33),sl33⟩)
  (xc:codeIn K cd33 "NoRow.__init__" =true)
  (xf:keepIn K (.ref fI)=true)
  (x1:excInI K c fI=true)
  (x2:typeIn K (.ref fI)=some (.type "function"))
  (x3:findIn K (.ref c) "__setattr__" =some (some (.builtin "object.__setattr__")))
  (x4:plainExc K c=true)
  (x5:takerIn K c "row" =some none)
  (x6:hasDictIn K c=true)
  (x7:findIn K (.ref c) "__getattribute__" =some (some (.builtin "BaseException.__getattribute__")))
  (x8:findIn K (.ref c) "__getattr__" =some none)
  (x9:mroIn K c (.type "BaseException")=some true)
  (x10:mroIn K c (.type "object")=some true)
  (x11:classBy K c=true)
  (x12:findIn K (.ref c) "row" =some none)
  (x13:ktsIn K c "BaseException" =true)
  (m1:mroIn K c (.ref c)=some true)
  (y0:kitOne K (.ref c) (.ref c)=some true)
  (wS:nsIn K mainGlobals "SwapError" =some (some (.ref cS)))
  (yS:kitOne K (.ref c) (.ref cS)=some true)
  (yV:kitOne K (.ref c) (.type "ValueError")=some true)
  (wN:nsIn K mainGlobals "NoCouple" =some (some (.ref cN)))
  (yN:kitOne K (.ref c) (.ref cN)=some false)
  (q1:nsIn K mainGlobals "FIGURES" =some (some (.str "0123456789" t1)))
  (q2:nsIn K mainGlobals "MOST_FIGURES" =some (some (.int 12 t2)))
  (q3:nsIn K mainGlobals "NO" =some (some (.str "no " t3)))
  (q4:nsIn K mainGlobals "MOST_NOES" =some (some (.int 5 t4)))
  (q5:nsIn K mainGlobals "SIZES" =some (some (.str "sizes " t5)))
  (q6:nsIn K mainGlobals "MOST_GAP" =some (some (.int 98 t6)))
  (da:nsIn K mainGlobals "TAKERS" =some (some (.ref pd)))
  (dl:K.lookup pd=some ⟨.type "dict",none,.dict #[⟨h1,.str "O" u1,.ref p1⟩,⟨h2,.str "A" u2,.ref p2⟩,⟨h3,.str "B" u3,.ref p3⟩,⟨h4,.str "AB" u4,.ref p4⟩] ep,#[]⟩)
  (dh1:h1=hashStr w "O")
  (dh2:h2=hashStr w "A")
  (dh3:h3=hashStr w "B")
  (dh4:h4=hashStr w "AB")
  (e1:K.lookup p1=some ⟨.type "tuple",oq1,.seq #[.str "O" v1,.str "A" v2,.str "B" v3,.str "AB" v4] np1,sq1⟩)
  (e2:K.lookup p2=some ⟨.type "tuple",oq2,.seq #[.str "A" v5,.str "AB" v6] np2,sq2⟩)
  (e3:K.lookup p3=some ⟨.type "tuple",oq3,.seq #[.str "B" v7,.str "AB" v8] np3,sq3⟩)
  (e4:K.lookup p4=some ⟨.type "tuple",oq4,.seq #[.str "AB" v9] np4,sq4⟩)
  (z0:nsIn K mainGlobals "len" =some none)
  (z1:nsIn K mainGlobals "all" =some none)
  (z2:nsIn K mainGlobals "any" =some none)
  (z3:nsIn K mainGlobals "str" =some none)
  (z4:nsIn K mainGlobals "int" =some none)
  (z5:nsIn K mainGlobals "abs" =some none)
  (z6:nsIn K mainGlobals "sorted" =some none)
  (z7:nsIn K mainGlobals "list" =some none)
  (z8:nsIn K mainGlobals "tuple" =some none)
  (z9:nsIn K mainGlobals "max" =some none)
  (z10:nsIn K mainGlobals "min" =some none)
  (z11:nsIn K mainGlobals "sum" =some none)
  (z12:nsIn K mainGlobals "isinstance" =some none)
  (z13:nsIn K mainGlobals "range" =some none)
  (z14:nsIn K mainGlobals "bool" =some none)
  (z15:nsIn K mainGlobals "dict" =some none)
  (z16:nsIn K mainGlobals "set" =some none)
  (z17:nsIn K mainGlobals "ValueError" =some none):
  ∃fd:FuncData,(∀ (s:Shared) (v:Value),BindsTo s fd ⟨[v],[]⟩ [("_law_script",v)])/\∀base:Heap,K.In base->base.Ns mainGlobals mg->(∀ T ∈ [117,124,131,138],base.BuiltinsAt mg T)->FnOk l.prog w K mg base (CXW l.prog w) 105 fa fd ["_law_script"] (spLaw K):=by
 have e:=hfa.symm.trans (mg_of X G a32)
 cases e
 have T:Txt K w c fI cS cN f6 f7 p1 p2 p3 p4:=⟨⟨xa,xk,⟨x1,x2,x3,x4,x5,x6⟩,⟨_,fun_mk xl xc xf⟩,⟨⟨x7,x8,x9,x10⟩,x6,x11⟩,x12,x13⟩,m1,y0,wS,yS,yV,wN,yN,⟨_,q1⟩,⟨_,q2⟩,⟨_,q3⟩,⟨_,q4⟩,⟨_,q5⟩,⟨_,q6⟩,a6,a7,modK_tup ⟨_,_,_,e1,rfl,rfl,(show 4<=sizeLine from by decide),.cons ⟨_,rfl⟩ (.cons ⟨_,rfl⟩ (.cons ⟨_,rfl⟩ (.cons ⟨_,rfl⟩ .nil)))⟩,modK_tup ⟨_,_,_,e2,rfl,rfl,(show 2<=sizeLine from by decide),.cons ⟨_,rfl⟩ (.cons ⟨_,rfl⟩ .nil)⟩,modK_tup ⟨_,_,_,e3,rfl,rfl,(show 2<=sizeLine from by decide),.cons ⟨_,rfl⟩ (.cons ⟨_,rfl⟩ .nil)⟩,modK_tup ⟨_,_,_,e4,rfl,rfl,(show 1<=sizeLine from by decide),.cons ⟨_,rfl⟩ .nil⟩,⟨pd,none,_,_,_,_,_,da,by rw[<-dh1,<-dh2,<-dh3,<-dh4];exact dl⟩,fun x hx=>by
  unfold bltNames at hx
  simp only[List.mem_cons,List.not_mem_nil,or_false]at hx
  rcases hx with rfl | rfl | rfl | rfl | rfl | rfl | rfl | rfl | rfl | rfl | rfl | rfl | rfl | rfl | rfl | rfl | rfl | rfl
  ·exact z0
  ·exact z1
  ·exact z2
  ·exact z3
  ·exact z4
  ·exact z5
  ·exact z6
  ·exact z7
  ·exact z8
  ·exact z9
  ·exact z10
  ·exact z11
  ·exact z12
  ·exact z13
  ·exact z14
  ·exact z15
  ·exact z16
  ·exact z17⟩
 have F32:=fun_mk (st:=st_law) l32 c32 k32
 refine⟨fnOf "law" "law" (defArgs st_law) (defBody st_law) (defScope st_law) .none kV32 dc32 pm32 an32 cd32 ct32,fun s v=>.of_eq rfl,fun base kb nb B=>?_⟩
 obtain⟨fd,F,o⟩:=law_ok (P:=l.prog) (w:=w) (base:=base) kb nb B T (defK a1 l1 c1 k1) (defK a2 l2 c2 k2) (defK a3 l3 c3 k3) (defK a4 l4 c4 k4) (defK a5 l5 c5 k5) (defK a6 l6 c6 k6) (defK a7 l7 c7 k7) a8 k8 (mk_sizes_rule ⟨_,_,_,_,_,_,_,_,rfl,l8⟩ c8 hd1) a9 k9 (mk_opposite ⟨_,_,_,_,_,_,_,_,rfl,l9⟩ c9 hd2) a10 k10 (mk_all_of ⟨_,_,_,_,_,_,_,_,rfl,l10⟩ c10 hd3) a11 k11 (mk_any_of ⟨_,_,_,_,_,_,_,_,rfl,l11⟩ c11 hd4) (defK a12 l12 c12 k12) (defK a13 l13 c13 k13) (defK a14 l14 c14 k14) (defK a15 l15 c15 k15) (defK a16 l16 c16 k16) (defK a17 l17 c17 k17) (defK a18 l18 c18 k18) (defK a19 l19 c19 k19) (defK a20 l20 c20 k20) (defK a21 l21 c21 k21) (defK a22 l22 c22 k22) (defK a23 l23 c23 k23) (defK a24 l24 c24 k24) (defK a25 l25 c25 k25) (defK a26 l26 c26 k26) (defK a27 l27 c27 k27) (defK a28 l28 c28 k28) (defK a29 l29 c29 k29) (defK a30 l30 c30 k30) (defK a31 l31 c31 k31) (defK a32 l32 c32 k32)
 obtain⟨_,_,_,_,_,_,_,_,_,e1,e2,_⟩:=F.ex
 obtain⟨_,_,_,_,_,_,_,_,_,e3,e4,_⟩:=F32.ex
 rw[e2]at e4
 injection e4 with e4
 injection e4 with _ _ e4 _
 injection e4 with e4
 rw[<-e4]
 exact o
theorem walk {l:PySem.W.OpenLaw} {q:Program} {loose:List Str} {XP:(Str->Option Value)->Heap->Prop} {YP:World->Heap->Prop} {d:DefRec} {K:Params->PySem.W.Frag} {ts:List Addr} (hn:l.most=some 63) (hdf:d.params.defaults=[])
  (hY:∀ (w:World) (h:Heap),YP w h->(K w.params).In h/\∀T ∈ ts,h.get? T=some (tabObj #[])) (hts:∀T ∈ [117,124,131,138],T ∈ ts) (hno:∀w:World,noTabs (K w.params)=true) (hcd:∀w:World,∀T ∈ ts,∃c,codeHdIn (K w.params) c T=true)
  (F:∀ (w:World) (mg:Str->Option Value) (fa:Addr) (h:Heap),(K w.params).In h->h.Ns mainGlobals mg->mg d.name=some (.ref fa)->
   ∃fd:FuncData,(∀ (s:Shared) (u:Value),BindsTo s fd ⟨[u],[]⟩ [("_law_script",u)])/\∀base:Heap,(K w.params).In base->base.Ns mainGlobals mg->(∀ T ∈ [117,124,131,138],base.BuiltinsAt mg T)->FnOk l.prog w (K w.params) mg base (CXW l.prog w) 105 fa fd ["_law_script"] (spLaw (K w.params))):
  PySem.W.WalkO q loose XP YP l.row.toRowW d [] (fun f vs=>PySem.call f vs):=
 walk_ofT (n:=63) (k:=105) (x:= "_law_script") (CX:=fun w=>CXW l.prog w) (sp:=fun w=>spLaw (K w.params)) ts hn (by decide) hdf ⟨rfl,by decide,by decide⟩ hY hno hcd (fun w mg fa h KX G hm=>by obtain⟨fd,b,f⟩:=F w mg fa h KX G hm;exact⟨fd,b,fun base kb nb B=>f base kb nb fun T hT=>B T (hts T hT)⟩)
  (fun _ H a ns hl hT hS=>⟨a,ns,rfl,hl,hS,fun t ht=>.inl (by
   unfold Ts0 at ht
   simp only[List.mem_cons,List.not_mem_nil,or_false]at ht
   rcases ht with rfl | rfl | rfl | rfl
   ·exact hT _ (hts _ (by decide))
   ·exact hT _ (hts _ (by decide))
   ·exact hT _ (hts _ (by decide))
   ·exact hT _ (hts _ (by decide))),fun _=>rfl⟩)
  fun w H s e s' z=>by obtain⟨_,_,_,_,_,_,_,_,_,_,_,_,z⟩:=z;exact z
end K5
open PySem PySem.W PyProof.Rows
set_option maxRecDepth 100000 in
set_option maxHeartbeats 0 in
theorem PySem.Challenge.cw_swapward_k05_rules_refused_holds : PySem.Challenge.rw_swapward_k05_rules_refused.Holds := by
 w_on;o_law;k_head;(case hw=>w_witness2)
 k_fill
 refine K5.walk (l:=PySem.Challenge.rw_swapward_k05_rules_refused) rfl rfl (fun w h Y=>⟨PySem.W.km_in_of Y,PySem.W.km_tabs_of Y⟩) ?hts ?hno ?hcd ?F
 case hts=>decide
 case hno=>intro w;kernel_rfl
 case hcd=>
  intro w T hT
  simp only[List.mem_cons,List.not_mem_nil,or_false]at hT
  rcases hT with rfl | rfl | rfl | rfl
  ·exact⟨121,by kernel_rfl⟩
  ·exact⟨128,by kernel_rfl⟩
  ·exact⟨135,by kernel_rfl⟩
  ·exact⟨142,by kernel_rfl⟩
 case F=>
  intro w mg fa h KX G hmg
  refine' K5.all_mk KX G hmg ?a1 ?l1 ?c1 ?k1 ?a2 ?l2 ?c2 ?k2 ?a3 ?l3 ?c3 ?k3 ?a4 ?l4 ?c4 ?k4 ?a5 ?l5 ?c5 ?k5 ?a6 ?l6 ?c6 ?k6 ?a7 ?l7 ?c7 ?k7 ?a8 ?l8 ?c8 ?k8 ?hd1 ?a9 ?l9 ?c9 ?k9 ?hd2 ?a10 ?l10 ?c10 ?k10 ?hd3 ?a11 ?l11 ?c11 ?k11 ?hd4 ?a12 ?l12 ?c12 ?k12 ?a13 ?l13 ?c13 ?k13 ?a14 ?l14 ?c14 ?k14 ?a15 ?l15 ?c15 ?k15 ?a16 ?l16 ?c16 ?k16 ?a17 ?l17 ?c17 ?k17 ?a18 ?l18 ?c18 ?k18 ?a19 ?l19 ?c19 ?k19 ?a20 ?l20 ?c20 ?k20 ?a21 ?l21 ?c21 ?k21 ?a22 ?l22 ?c22 ?k22 ?a23 ?l23 ?c23 ?k23 ?a24 ?l24 ?c24 ?k24 ?a25 ?l25 ?c25 ?k25 ?a26 ?l26 ?c26 ?k26 ?a27 ?l27 ?c27 ?k27 ?a28 ?l28 ?c28 ?k28 ?a29 ?l29 ?c29 ?k29 ?a30 ?l30 ?c30 ?k30 ?a31 ?l31 ?c31 ?k31 ?a32 ?l32 ?c32 ?k32 ?xa ?xk ?xi ?xl ?xc ?xf ?x1 ?x2 ?x3 ?x4 ?x5 ?x6 ?x7 ?x8 ?x9 ?x10 ?x11 ?x12 ?x13 ?m1 ?y0 ?wS ?yS ?yV ?wN ?yN ?q1 ?q2 ?q3 ?q4 ?q5 ?q6 ?da ?dl ?dh1 ?dh2 ?dh3 ?dh4 ?e1 ?e2 ?e3 ?e4 ?z0 ?z1 ?z2 ?z3 ?z4 ?z5 ?z6 ?z7 ?z8 ?z9 ?z10 ?z11 ?z12 ?z13 ?z14 ?z15 ?z16 ?z17
  (case a1=>k_is)
  (case l1=>k_is)
  (case c1=>k_is)
  (case k1=>k_is)
  (case a2=>k_is)
  (case l2=>k_is)
  (case c2=>k_is)
  (case k2=>k_is)
  (case a3=>k_is)
  (case l3=>k_is)
  (case c3=>k_is)
  (case k3=>k_is)
  (case a4=>k_is)
  (case l4=>k_is)
  (case c4=>k_is)
  (case k4=>k_is)
  (case a5=>k_is)
  (case l5=>k_is)
  (case c5=>k_is)
  (case k5=>k_is)
  (case a6=>k_is)
  (case l6=>k_is)
  (case c6=>k_is)
  (case k6=>k_is)
  (case a7=>k_is)
  (case l7=>k_is)
  (case c7=>k_is)
  (case k7=>k_is)
  (case a8=>k_is)
  (case l8=>k_is)
  (case c8=>k_is)
  (case k8=>k_is)
  (case hd1=>kernel_rfl)
  (case a9=>k_is)
  (case l9=>k_is)
  (case c9=>k_is)
  (case k9=>k_is)
  (case hd2=>kernel_rfl)
  (case a10=>k_is)
  (case l10=>k_is)
  (case c10=>k_is)
  (case k10=>k_is)
  (case hd3=>kernel_rfl)
  (case a11=>k_is)
  (case l11=>k_is)
  (case c11=>k_is)
  (case k11=>k_is)
  (case hd4=>kernel_rfl)
  (case a12=>k_is)
  (case l12=>k_is)
  (case c12=>k_is)
  (case k12=>k_is)
  (case a13=>k_is)
  (case l13=>k_is)
  (case c13=>k_is)
  (case k13=>k_is)
  (case a14=>k_is)
  (case l14=>k_is)
  (case c14=>k_is)
  (case k14=>k_is)
  (case a15=>k_is)
  (case l15=>k_is)
  (case c15=>k_is)
  (case k15=>k_is)
  (case a16=>k_is)
  (case l16=>k_is)
  (case c16=>k_is)
  (case k16=>k_is)
  (case a17=>k_is)
  (case l17=>k_is)
  (case c17=>k_is)
  (case k17=>k_is)
  (case a18=>k_is)
  (case l18=>k_is)
  (case c18=>k_is)
  (case k18=>k_is)
  (case a19=>k_is)
  (case l19=>k_is)
  (case c19=>k_is)
  (case k19=>k_is)
  (case a20=>k_is)
  (case l20=>k_is)
  (case c20=>k_is)
  (case k20=>k_is)
  (case a21=>k_is)
  (case l21=>k_is)
  (case c21=>k_is)
  (case k21=>k_is)
  (case a22=>k_is)
  (case l22=>k_is)
  (case c22=>k_is)
  (case k22=>k_is)
  (case a23=>k_is)
  (case l23=>k_is)
  (case c23=>k_is)
  (case k23=>k_is)
  (case a24=>k_is)
  (case l24=>k_is)
  (case c24=>k_is)
  (case k24=>k_is)
  (case a25=>k_is)
  (case l25=>k_is)
  (case c25=>k_is)
  (case k25=>k_is)
  (case a26=>k_is)
  (case l26=>k_is)
  (case c26=>k_is)
  (case k26=>k_is)
  (case a27=>k_is)
  (case l27=>k_is)
  (case c27=>k_is)
  (case k27=>k_is)
  (case a28=>k_is)
  (case l28=>k_is)
  (case c28=>k_is)
  (case k28=>k_is)
  (case a29=>k_is)
  (case l29=>k_is)
  (case c29=>k_is)
  (case k29=>k_is)
  (case a30=>k_is)
  (case l30=>k_is)
  (case c30=>k_is)
  (case k30=>k_is)
  (case a31=>k_is)
  (case l31=>k_is)
  (case c31=>k_is)
  (case k31=>k_is)
  (case a32=>k_is)
  (case l32=>k_is)
  (case c32=>k_is)
  (case k32=>k_is)
  (case xa=>k_is)
  (case xk=>k_is)
  (case xi=>k_is)
  (case xl=>k_is)
  (case xc=>k_is)
  (case xf=>k_is)
  (case x1=>kernel_rfl)
  (case x2=>k_is)
  (case x3=>k_is)
  (case x4=>kernel_rfl)
  (case x5=>k_is)
  (case x6=>k_is)
  (case x7=>k_is)
  (case x8=>k_is)
  (case x9=>k_is)
  (case x10=>k_is)
  (case x11=>kernel_rfl)
  (case x12=>k_is)
  (case x13=>kernel_rfl)
  (case m1=>k_is)
  (case y0=>kernel_rfl)
  (case wS=>k_is)
  (case yS=>kernel_rfl)
  (case yV=>kernel_rfl)
  (case wN=>k_is)
  (case yN=>kernel_rfl)
  (case q1=>k_is)
  (case q2=>k_is)
  (case q3=>k_is)
  (case q4=>k_is)
  (case q5=>k_is)
  (case q6=>k_is)
  (case da=>k_is)
  (case dl=>k_is)
  (case dh1=>kernel_rfl)
  (case dh2=>kernel_rfl)
  (case dh3=>kernel_rfl)
  (case dh4=>kernel_rfl)
  (case e1=>k_is)
  (case e2=>k_is)
  (case e3=>k_is)
  (case e4=>k_is)
  (case z0=>k_is)
  (case z1=>k_is)
  (case z2=>k_is)
  (case z3=>k_is)
  (case z4=>k_is)
  (case z5=>k_is)
  (case z6=>k_is)
  (case z7=>k_is)
  (case z8=>k_is)
  (case z9=>k_is)
  (case z10=>k_is)
  (case z11=>k_is)
  (case z12=>k_is)
  (case z13=>k_is)
  (case z14=>k_is)
  (case z15=>k_is)
  (case z16=>k_is)
  (case z17=>k_is)
