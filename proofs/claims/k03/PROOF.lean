import PyProof.Rows.All
import Wide.All
import OpenK.AllK
import Wide.FinOn
import Lean
import PyProof.EqAt
import PyProof.EqKinds
import PyProof.TupleCall
import PyProof.Rows.SetFrom
import PyProof.Rows.SortStr
import PyProof.Rows.SortWalk
import PyProof.CollectIter
import PyProof.Rows.DictTallyStr
import PyProof.P3Eq
import PyProof.NeKinds
import PyProof.Rows.StrItems
import PyProof.StrLawsOcc
import PyProof.StrCalls2
import PyProof.ExcClass3
import PyProof.ExcBaseAll.ValueError
import PyProof.FString
import PyProof.StrLawsIn
import KE.IntTextLaws
import PyProof.Rows.StrSplitCount
import PyProof.StrLawsChain
import PyProof.Rows.StrSliceCases
import PyProof.Rows.StrClose
import KE.KIntText
import PySem.Challenge.RW_swapward_k03_couples_refused
set_option Elab.async false
set_option linter.all false
set_option maxRecDepth 100000
namespace L2
open PySem PySem.Spec PyProof.Rows
@[reducible] noncomputable def Key := Sum Int Str
noncomputable def keyIs : Key → Value → Bool
  | .inl k, v => Value.isInt k v
  | .inr x, v => Value.isStrOf x v
noncomputable def keyH (w : World) : Key → Int
  | .inl k => hashInt k
  | .inr x => hashStr w x
theorem keyIs_shape : ∀ {k : Key} {v : Value}, keyIs k v = true → (∃ i t, k = Sum.inl i ∧ v = Value.int i t) ∨ (∃ x t, k = Sum.inr x ∧ v = Value.str x t)
  | .inl i, v, h => by
    obtain ⟨t, e⟩ := Value.isInt_shape (k := i) (v := v) h
    exact .inl ⟨i, t, rfl, e⟩
  | .inr x, v, h => by
    obtain ⟨t, e⟩ := Value.isStrOf_shape (x := x) (v := v) h
    exact .inr ⟨x, t, rfl, e⟩
theorem key_ll (a b : Int) : decide ((Sum.inl a : Key) = Sum.inl b) = (a == b) := by
  by_cases e : a = b
  · subst e; simp
  · have h : ¬ (Sum.inl a : Key) = Sum.inl b := fun q => e (Sum.inl.inj q)
    rw [decide_eq_false h]
    exact (beq_eq_false_iff_ne.mpr e).symm
theorem key_rr (a b : Str) : decide ((Sum.inr a : Key) = Sum.inr b) = decide (a = b) := by
  by_cases e : a = b
  · subst e; simp
  · have h : ¬ (Sum.inr a : Key) = Sum.inr b := fun q => e (Sum.inr.inj q)
    rw [decide_eq_false h, decide_eq_false e]
theorem key_lr (a : Int) (b : Str) : decide ((Sum.inl a : Key) = Sum.inr b) = false := decide_eq_false (fun q => nomatch q)
theorem key_rl (a : Str) (b : Int) : decide ((Sum.inr a : Key) = Sum.inl b) = false := decide_eq_false (fun q => nomatch q)
noncomputable def mixKind (prog : Program) (w : World) : PySem.KeyKind prog w Key where
  is := keyIs
  hash := keyH w
  inj := fun v a b ha hb => by
    rcases keyIs_shape ha with ⟨i, t, rfl, rfl⟩ | ⟨x, t, rfl, rfl⟩
    · rcases keyIs_shape hb with ⟨j, u, rfl, e⟩ | ⟨y, u, rfl, e⟩
      · injection e with e1 _; rw [e1]
      · exact nomatch e
    · rcases keyIs_shape hb with ⟨j, u, rfl, e⟩ | ⟨y, u, rfl, e⟩
      · exact nomatch e
      · injection e with e1 _; rw [e1]
  byValue := fun k v h => by
    rcases keyIs_shape h with ⟨i, t, rfl, rfl⟩ | ⟨x, t, rfl, rfl⟩ <;> rfl
  pyHash := fun hv h => by
    rcases keyIs_shape hv with ⟨i, t, rfl, rfl⟩ | ⟨x, t, rfl, rfl⟩
    · exact wpAny_pyHash_int h
    · exact wpAny_pyHash_str h
  eqBool := fun hu hv h => by
    rcases keyIs_shape hu with ⟨i, t, rfl, rfl⟩ | ⟨x, t, rfl, rfl⟩
    · rcases keyIs_shape hv with ⟨j, u, rfl, rfl⟩ | ⟨y, u, rfl, rfl⟩
      · rw [key_ll] at h; exact wpAny_eqBool_int h
      · rw [key_lr] at h; exact SeqAt.EqAt.int_str i t y u _ _ _ _ h
    · rcases keyIs_shape hv with ⟨j, u, rfl, rfl⟩ | ⟨y, u, rfl, rfl⟩
      · rw [key_rl] at h; exact SeqAt.EqAt.str_int x t j u _ _ _ _ h
      · rw [key_rr] at h; exact wpAny_eqBool_str h
  «strs» := fun k x t v h => by
    rcases keyIs_shape h with ⟨i, u, rfl, e⟩ | ⟨y, u, rfl, e⟩
    · exact nomatch e
    · injection e with e1 _
      subst e1
      cases v <;> rfl
end L2
namespace L2
open PySem PySem.Spec PyProof.Rows
inductive V where
  | non | bl (b : Bool) | int (i : Int) | str (x : Str) | byt (b : Array UInt8) | flt (b : UInt64) | ref (a : Addr) | ty (n : String)
  deriving DecidableEq
noncomputable def RelV : V → Value → Prop
  | .non, u => u = Value.none
  | .bl b, u => u = Value.bool b
  | .int i, u => ∃ t, u = Value.int i t
  | .str x, u => ∃ t, u = Value.str x t
  | .byt b, u => ∃ t, u = Value.bytes b t
  | .flt b, u => ∃ t, u = Value.float b t
  | .ref a, u => u = Value.ref a
  | .ty n, u => u = Value.type n
@[reducible] noncomputable def Vals : List V → List Value → Prop := Paired RelV
theorem Vals.length {xs : List V} {us : List Value} (r : Vals xs us) : xs.length = us.length := Paired.length r
theorem Vals.get : ∀ {xs : List V} {us : List Value} {i : Nat} {x : V}, Vals xs us → xs[i]? = some x → ∃ u, us[i]? = some u ∧ RelV x u
  | _, _, _, _, .nil, e => by simp at e
  | _, _, 0, _, .cons r _, e => by simp at e; subst e; exact ⟨_, rfl, r⟩
  | _, _, i + 1, x, .cons _ t, e => by
    obtain ⟨u, h1, h2⟩ := Vals.get (i := i) (x := x) t (by simpa using e)
    exact ⟨u, by simpa using h1, h2⟩
theorem Vals.set {x : V} {u : Value} (r : RelV x u) : ∀ {xs : List V} {us : List Value} (i : Nat), Vals xs us → Vals (xs.set i x) (us.set i u)
  | _, _, _, .nil => .nil
  | _, _, 0, .cons _ t => .cons r t
  | _, _, i + 1, .cons q t => .cons q (Vals.set r i t)
theorem Vals.append : ∀ {xs ys : List V} {us ws : List Value}, Vals xs us → Vals ys ws → Vals (xs ++ ys) (us ++ ws)
  | _, _, _, _, .nil, s => s
  | _, _, _, _, .cons r t, s => .cons r (Vals.append t s)
theorem Vals.take : ∀ {xs : List V} {us : List Value} (n : Nat), Vals xs us → Vals (xs.take n) (us.take n)
  | _, _, 0, _ => .nil
  | _, _, _ + 1, .nil => .nil
  | _, _, n + 1, .cons r t => .cons r (Vals.take n t)
theorem Vals.drop : ∀ {xs : List V} {us : List Value} (n : Nat), Vals xs us → Vals (xs.drop n) (us.drop n)
  | _, _, 0, r => r
  | _, _, _ + 1, .nil => .nil
  | _, _, n + 1, .cons _ t => Vals.drop n t
theorem Vals.none_of : ∀ {xs : List V} {us : List Value} {i : Nat}, Vals xs us → xs[i]? = none → us[i]? = none := fun {xs us i} r e => by
  have h1 := r.length
  have h2 : xs.length ≤ i := List.getElem?_eq_none_iff.mp e
  exact List.getElem?_eq_none_iff.mpr (by omega)
noncomputable def RelO : Option V → Option Value → Prop
  | some v, some u => RelV v u
  | none, none => True
  | _, _ => False
noncomputable def KV {κ : Type} : List (κ × V) → List (κ × Value) → Prop := Paired fun (p : κ × V) (q : κ × Value) => p.1 = q.1 ∧ RelV p.2 q.2
noncomputable def kV : Key → V
  | .inl i => .int i
  | .inr x => .str x
inductive HO where
  /-- a list -/
  | lst (xs : List V)
  /-- a tuple (never changes) -/
  | tup (xs : List V)
  /-- a dict whose keys are ints and texts; one whose keys are tuples of ints and texts (the empty one is both) -/
  | dK (kvs : List (Key × V)) | dT (kvs : List (List Key × V))
  /-- a set of ints: its members, its size -/
  | set (S : Int → Bool) (n : Nat)
  /-- an instance of the class at C, its dict at dx, its attributes -/
  | ins (C dx : Addr) (fs : List (Str × V))
  /-- the dict of the instance at x -/
  | own (x : Addr)
  /-- the dict of an exception -/
  | xd (fs : List (Str × V))
  /-- a bound method, f of x -/
  | met (f x : Addr)
  /-- a range object lo, lo + 1, .. below hi -/
  | rng (lo hi : Int)
  /-- a thing that is known to the object (the script; a dict while a loop walks it): read, never written while it is so -/
  | frz (o : Obj) (u : HO)
  /-- a code object's table -/
  | tbl (ps : Array Value)
  /-- any other thing, by what is true of its one object (a def of one's own: SetO a S n := HO.ext fun h => ..) -/
  | ext (φ : Heap → Prop)
  | exo (C : Addr) (d : Option Addr)
@[reducible] noncomputable def Hp := Addr → Option HO
noncomputable def upd (H : Hp) (a : Addr) (o : HO) : Hp := fun b => if b = a then some o else H b
theorem upd_same {H : Hp} {a : Addr} {o : HO} : upd H a o a = some o := by unfold upd; rw [if_pos rfl]
theorem upd_ne {H : Hp} {a b : Addr} {o : HO} (h : b ≠ a) : upd H a o b = H b := by unfold upd; rw [if_neg h]
theorem upd_upd {H : Hp} {a : Addr} {o u : HO} : upd (upd H a o) a u = upd H a u := by
  funext b; unfold upd; split <;> rfl
theorem ne_of {H : Hp} {a b : Addr} {o u : HO} (h : H a = some o) (h' : H b = some u) (d : o ≠ u) : a ≠ b := by
  intro e; subst e; rw [h] at h'; exact d (Option.some.inj h')
theorem ne_of_none {H : Hp} {a b : Addr} {o : HO} (h : H a = some o) (h' : H b = none) : a ≠ b := by
  intro e; subst e; rw [h] at h'; cases h'
section
variable (P : Program) (w : World)
noncomputable def ObjOk (H : Hp) (h : Heap) (a : Addr) : HO → Prop
  | .lst xs => xs.length ≤ sizeLine ∧ ∃ (its : List Value) (n : Nat), Vals xs its ∧ h.get? a = some { cls := .type "list", data := .seq its.toArray n }
  | .tup xs => xs.length ≤ sizeLine ∧ ∃ its : List Value, Vals xs its ∧ IsTup h a its.toArray
  | .dK kvs => kvs.length ≤ sizeLine ∧ (a == sysModules) = false ∧ ∃ vs, KV kvs vs ∧ h.DictOf (mixKind P w) a vs
  | .dT kvs => kvs.length ≤ sizeLine ∧ (a == sysModules) = false ∧ ∃ xs : List (List Key × Addr × Value),
      Paired (fun (p : List Key × V) (q : List Key × Addr × Value) => p.1 = q.1 ∧ H q.2.1 = some (.tup (p.1.map kV)) ∧ RelV p.2 q.2.2) kvs xs ∧
      ∃ o es ep, h.get? a = some o ∧ o.ExactDict ∧ o.data = .dict es ep ∧ es.toList = xs.map (entryOfKey (tupleKind (mixKind P w))) ∧ (xs.map (·.1)).Nodup
  | .set S n => h.SetOf (intKind P w) a S n
  | .ins C dx fs => H dx = some (.own a) ∧ fs.length ≤ 1000 ∧ dx ≠ a ∧ h.get? a = some (PySem.W.instObj C dx) ∧
      ∃ mA, h.Ns1 dx mA ∧ (∀ f, RelO (fs.lookup f) (mA f)) ∧ PySem.Within mA (fs.map (·.1))
  | .own _ => ∃ o, h.get? a = some o
  | .xd fs => ∃ mA, h.Ns1 a mA ∧ ∀ f, RelO (fs.lookup f) (mA f)
  | .rng lo hi => ∃ t u v, h.get? a = some { cls := .type "range", data := .fields #[.int lo t, .int hi u, .int 1 v] }
  | .frz o u => h.get? a = some o ∧ ObjOk H h a u
  | .tbl ps => h.get? a = some { cls := .none, data := .fields ps }
  | .met f x => h.get? a = some (PySem.W.methodObj (.ref f) (.ref x))
  | .ext φ => φ h ∧ (∃ o, h.get? a = some o) ∧ ∀ h1 h2 : Heap, φ h1 → (∀ o, h1.get? a = some o → h2.get? a = some o) → φ h2
  | .exo C d => ∃ oe vs, h.get? a = some oe ∧ oe.cls = .ref C ∧ oe.dict = d ∧ oe.data = .fields vs
noncomputable def HOk (H : Hp) (h : Heap) : Prop := ∀ a o, H a = some o → ObjOk P w H h a o
end
section
variable {P : Program} {w : World} {H H' : Hp} {h h' : Heap} {a : Addr} {o : HO}
theorem ObjOk.lt (x : ObjOk P w H h a o) : a < h.objs.size := by
  cases o with
  | lst xs => obtain ⟨_, _, _, _, e⟩ := x; exact Heap.lt_size e
  | tup xs => obtain ⟨_, _, _, p⟩ := x; exact p.lt
  | dK kvs => obtain ⟨_, _, _, _, o, _, _, e, _⟩ := x; exact Heap.lt_size e
  | dT kvs => obtain ⟨_, _, _, _, o, _, _, e, _⟩ := x; exact Heap.lt_size e
  | set S n => obtain ⟨o, _, _, _, e, _⟩ := x; exact Heap.lt_size e
  | ins C dx fs => obtain ⟨_, _, _, e, _⟩ := x; exact Heap.lt_size e
  | own y => obtain ⟨_, e⟩ := x; exact Heap.lt_size e
  | xd fs => obtain ⟨_, ⟨_, _, _, e, _⟩, _⟩ := x; exact Heap.lt_size e
  | rng lo hi => obtain ⟨_, _, _, e⟩ := x; exact Heap.lt_size e
  | frz ob u => obtain ⟨e, _⟩ := x; exact Heap.lt_size e
  | tbl ps => exact Heap.lt_size (show h.get? a = some _ from x)
  | met f y => exact Heap.lt_size (show h.get? a = some _ from x)
  | ext φ => obtain ⟨_, ⟨_, e⟩, _⟩ := x; exact Heap.lt_size e
  | exo C d => obtain ⟨oe, vs, e, _⟩ := x; exact Heap.lt_size e
theorem Paired.mapP {α β : Type} {F G : α → β → Prop} : ∀ {l₁ : List α} {l₂ : List β}, Paired F l₁ l₂ → (∀ a b, F a b → G a b) → Paired G l₁ l₂
  | _, _, .nil, _ => .nil
  | _, _, .cons r t, f => .cons (f _ _ r) (Paired.mapP t f)
theorem ObjOk.stay (x : ObjOk P w H h a o) (k : ∀ b u, (b = a ∨ H b = some (.own a)) → h.get? b = some u → h'.get? b = some u)
    (ho : ∀ b, H b = some (.own a) → H' b = some (.own a)) (ht : ∀ b xs, H b = some (.tup xs) → H' b = some (.tup xs)) : ObjOk P w H' h' a o := by
  induction o with
  | lst xs => obtain ⟨z, its, n, r, e⟩ := x; exact ⟨z, its, n, r, k _ _ (.inl rfl) e⟩
  | tup xs => obtain ⟨z, its, r, ob, e, c⟩ := x; exact ⟨z, its, r, ob, k _ _ (.inl rfl) e, c⟩
  | dK kvs => obtain ⟨z, y, vs, r, ob, es, ep, e, c⟩ := x; exact ⟨z, y, vs, r, ob, es, ep, k _ _ (.inl rfl) e, c⟩
  | dT kvs =>
    obtain ⟨z, y, xs, r, ob, es, ep, e, c⟩ := x
    exact ⟨z, y, xs, Paired.mapP r fun p q z => ⟨z.1, ht _ _ z.2.1, z.2.2⟩, ob, es, ep, k _ _ (.inl rfl) e, c⟩
  | set S n => obtain ⟨ob, es, ep, t, e, c⟩ := x; exact ⟨ob, es, ep, t, k _ _ (.inl rfl) e, c⟩
  | ins C dx fs =>
    obtain ⟨d, z, ne, e, mA, ⟨od, es, ep, e2, c⟩, r⟩ := x
    exact ⟨ho _ d, z, ne, k _ _ (.inl rfl) e, mA, ⟨od, es, ep, k _ _ (.inr d) e2, c⟩, r⟩
  | own y => obtain ⟨ob, e⟩ := x; exact ⟨ob, k _ _ (.inl rfl) e⟩
  | xd fs => obtain ⟨mA, ⟨od, es, ep, e, c⟩, r⟩ := x; exact ⟨mA, ⟨od, es, ep, k _ _ (.inl rfl) e, c⟩, r⟩
  | rng lo hi => obtain ⟨t, u, v, e⟩ := x; exact ⟨t, u, v, k _ _ (.inl rfl) e⟩
  | frz ob u ih => obtain ⟨e, q⟩ := x; exact ⟨k _ _ (.inl rfl) e, ih q⟩
  | tbl ps =>
    have e : h.get? a = some { cls := .none, data := .fields ps } := x
    show h'.get? a = some { cls := .none, data := .fields ps }
    exact k a _ (.inl rfl) e
  | met f y =>
    have e : h.get? a = some (PySem.W.methodObj (.ref f) (.ref y)) := x
    show h'.get? a = some (PySem.W.methodObj (.ref f) (.ref y))
    exact k a _ (.inl rfl) e
  | ext φ => obtain ⟨p, ⟨o, e⟩, st⟩ := x; exact ⟨st _ _ p fun o q => k _ _ (.inl rfl) q, ⟨o, k _ _ (.inl rfl) e⟩, st⟩
  | exo C d => obtain ⟨oe, vs, e, r⟩ := x; exact ⟨oe, vs, k _ _ (.inl rfl) e, r⟩
theorem HOk.lt (x : HOk P w H h) (e : H a = some o) : a < h.objs.size := (x a o e).lt
theorem HOk.fresh (x : HOk P w H h) (e : h.objs.size ≤ a) : H a = none := by
  cases q : H a with
  | none => rfl
  | some u => exact absurd (Nat.lt_of_lt_of_le (x.lt q) e) (Nat.lt_irrefl _)
theorem HOk.kept (x : HOk P w H h) (k : ∀ b u, h.get? b = some u → h'.get? b = some u) : HOk P w H h' := fun a o e =>
  (x a o e).stay (fun b u _ q => k b u q) (fun _ q => q) fun _ _ q => q
theorem HOk.laid (x : HOk P w H h) (k : ∀ b u, h.get? b = some u → h'.get? b = some u) (hp : h.objs.size ≤ a) (new : ObjOk P w (upd H a o) h' a o) : HOk P w (upd H a o) h' := fun b u e => by
  have hn := x.fresh hp
  by_cases hb : b = a
  · subst hb; rw [upd_same] at e; cases e; exact new
  · rw [upd_ne hb] at e
    exact (x b u e).stay (fun c v _ q => k c v q) (fun c q => by rw [upd_ne (ne_of_none q hn)]; exact q) fun c xs q => by rw [upd_ne (ne_of_none q hn)]; exact q
end
noncomputable def Rd (H : Hp) (a : Addr) (u : HO) : Prop := H a = some u ∨ ∃ o, H a = some (.frz o u)
theorem Rd.of {H : Hp} {a : Addr} {u : HO} (h : H a = some u) : Rd H a u := .inl h
theorem Rd.ok {P : Program} {w : World} {H : Hp} {h : Heap} {a : Addr} {u : HO} (r : Rd H a u) (x : HOk P w H h) : ObjOk P w H h a u := by
  rcases r with r | ⟨o, r⟩
  · exact x a u r
  · obtain ⟨_, q⟩ := x a _ r
    exact q
noncomputable def Mut : Option HO → Prop
  | some (.lst _) => True
  | some (.dK _) => True
  | some (.dT _) => True
  | some (.set _ _) => True
  | some (.ins _ _ _) => True
  | some (.ext _) => True
  | _ => False
section
variable {P : Program} {w : World} {H : Hp} {h h' : Heap} {x e : Addr} {o' : HO}
theorem HOk.write (ok : HOk P w H h) (mu : Mut (H x)) (he : e = x ∨ H e = some (.own x)) (k : ∀ b u, b ≠ e → h.get? b = some u → h'.get? b = some u) (heo : ∃ u, h'.get? e = some u)
    (new : ObjOk P w (upd H x o') h' x o') : HOk P w (upd H x o') h' := fun b u q => by
  have nown : ∀ c y, H c = some (.own y) → c ≠ x := fun c y r z => by subst z; rw [r] at mu; exact mu
  have ntup : ∀ c xs, H c = some (.tup xs) → c ≠ x := fun c xs r z => by subst z; rw [r] at mu; exact mu
  by_cases hb : b = x
  · subst hb; rw [upd_same] at q; cases q; exact new
  · rw [upd_ne hb] at q
    by_cases hbe : b = e
    · have q' : H b = some (.own x) := by
        rcases he with z | z
        · exact absurd (hbe.trans z) hb
        · rw [hbe]; exact z
      rw [q] at q'; cases q'
      obtain ⟨v, hv⟩ := heo
      exact ⟨v, by rw [hbe]; exact hv⟩
    · refine (ok b u q).stay (fun c v hc r => k c v ?_ r) (fun c r => by rw [upd_ne (nown c b r)]; exact r) fun c xs r => by rw [upd_ne (ntup c xs r)]; exact r
      rcases hc with rfl | hc
      · exact hbe
      · rintro rfl
        rcases he with z | z
        · exact nown c b hc z
        · rw [hc] at z; cases z; exact hb rfl
end
structure Un (fs ex : List Addr) (H H' : Hp) (h h' : Heap) : Prop where
  keep : ∀ b o, h.get? b = some o → H b = none → b ∉ fs → b ∉ ex → h'.get? b = some o
  slot : ∀ b o, h.get? b = some o → H b = none → b ∈ fs → b ∉ ex → ∃ sl, h'.get? b = some { o with slots := sl }
  free : ∀ b o, h.get? b = some o → H b = none → b ∉ ex → H' b = none
  there : ∀ b o, h.get? b = some o → b ∉ ex → ∃ o', h'.get? b = some o'
  tups : ∀ b xs, H b = some (.tup xs) → H' b = some (.tup xs)
  frzs : ∀ b o u, H b = some (.frz o u) → H' b = some (.frz o u)
  tbls : ∀ b ps, H b = some (.tbl ps) → ∃ more, H' b = some (.tbl (ps ++ more))
section
variable {fs fs' ex ex' : List Addr} {H H1 H2 : Hp} {h h1 h2 h' : Heap} {a x e : Addr} {o : HO}
theorem Un.any (u : Un fs ex H H1 h h1) {b : Addr} {ob : Obj} (q : h.get? b = some ob) (n : H b = none) (hx : b ∉ ex) : ∃ sl, h1.get? b = some { ob with slots := sl } := by
  by_cases hb : b ∈ fs
  · exact u.slot b ob q n hb hx
  · exact ⟨ob.slots, u.keep b ob q n hb hx⟩
theorem Un.trans (a : Un fs ex H H1 h h1) (b : Un fs ex H1 H2 h1 h2) : Un fs ex H H2 h h2 where
  keep := fun c ob q n hc hx => b.keep c ob (a.keep c ob q n hc hx) (a.free c ob q n hx) hc hx
  slot := fun c ob q n hc hx => by
    obtain ⟨sl, e1⟩ := a.slot c ob q n hc hx
    obtain ⟨sl', e2⟩ := b.slot c _ e1 (a.free c ob q n hx) hc hx
    exact ⟨sl', e2⟩
  free := fun c ob q n hx => by
    obtain ⟨o', e1⟩ := a.there c ob q hx
    exact b.free c o' e1 (a.free c ob q n hx) hx
  there := fun c ob q hx => by
    obtain ⟨o', e1⟩ := a.there c ob q hx
    exact b.there c o' e1 hx
  tups := fun c xs q => b.tups c xs (a.tups c xs q)
  frzs := fun c ob xs q => b.frzs c ob xs (a.frzs c ob xs q)
  tbls := fun c ps q => by
    obtain ⟨m1, e1⟩ := a.tbls c ps q
    obtain ⟨m2, e2⟩ := b.tbls c _ e1
    exact ⟨m1 ++ m2, by rw [e2, Array.append_assoc]⟩
theorem Un.kept (k : ∀ b u, h.get? b = some u → h'.get? b = some u) : Un fs ex H H h h' :=
  ⟨fun b ob q _ _ _ => k b ob q, fun b ob q _ _ _ => ⟨ob.slots, k b ob q⟩, fun _ _ _ n _ => n, fun b ob q _ => ⟨ob, k b ob q⟩, fun _ _ q => q, fun _ _ _ q => q, fun _ ps q => ⟨#[], by rw [q]; simp⟩⟩
theorem Un.refl : Un fs ex H H h h := Un.kept fun _ _ q => q
theorem Un.laid (k : ∀ b u, h.get? b = some u → h'.get? b = some u) (hp : h.objs.size ≤ a) (hn : H a = none) : Un fs ex H (upd H a o) h h' where
  keep := fun b u q _ _ _ => k b u q
  slot := fun b u q _ _ _ => ⟨u.slots, k b u q⟩
  free := fun b u q n _ => by rw [upd_ne (Nat.ne_of_lt (Nat.lt_of_lt_of_le (Heap.lt_size q) hp))]; exact n
  there := fun b u q _ => ⟨u, k b u q⟩
  tups := fun b xs q => by rw [upd_ne (ne_of_none q hn)]; exact q
  frzs := fun b u xs q => by rw [upd_ne (ne_of_none q hn)]; exact q
  tbls := fun b ps q => ⟨#[], by rw [upd_ne (ne_of_none q hn), q]; simp⟩
theorem Un.write (mu : Mut (H x)) (he : e = x ∨ H e = some (.own x)) (k : ∀ b u, b ≠ e → h.get? b = some u → h'.get? b = some u) (heo : ∃ u, h'.get? e = some u) : Un fs ex H (upd H x o) h h' := by
  have hx : ∀ b, H b = none → b ≠ x := fun b n z => by subst z; rw [n] at mu; exact mu
  have hb : ∀ b, H b = none → b ≠ e := fun b n z => by
    subst z
    rcases he with r | r
    · exact hx b n r
    · rw [n] at r; cases r
  have hm : ∀ b u, H b = some u → ¬ Mut (some u) → b ≠ x := fun b u q nm z => by subst z; rw [q] at mu; exact nm mu
  refine ⟨fun b u q n _ _ => k b u (hb b n) q, fun b u q n _ _ => ⟨u.slots, k b u (hb b n) q⟩, fun b u q n _ => by rw [upd_ne (hx b n)]; exact n, fun b u q _ => ?_,
    fun b xs q => by rw [upd_ne (hm b _ q fun z => z)]; exact q, fun b u xs q => by rw [upd_ne (hm b _ q fun z => z)]; exact q, fun b ps q => ⟨#[], by rw [upd_ne (hm b _ q fun z => z), q]; simp⟩⟩
  by_cases hbe : b = e
  · subst hbe; exact heo
  · exact ⟨u, k b u hbe q⟩
theorem Un.mono (u : Un fs ex H H1 h h1) (hs : ∀ b ∈ fs, b ∈ fs') (hx : ∀ b ∈ ex, b ∈ ex') : Un fs' ex' H H1 h h1 :=
  ⟨fun b ob q n hb he => u.keep b ob q n (fun z => hb (hs b z)) fun z => he (hx b z), fun _ _ q n _ he => u.any q n fun z => he (hx _ z), fun b ob q n he => u.free b ob q n fun z => he (hx b z), fun b ob q he => u.there b ob q fun z => he (hx b z), u.tups, u.frzs, u.tbls⟩
end
noncomputable def trk (h : Heap) (H : Hp) : List Addr := (List.range h.objs.size).filter fun a => (H a).isSome
noncomputable def hidT (h : Heap) (H : Hp) : Heap := PySem.W.hideAll h (trk h H)
theorem hidT_size (h : Heap) (H : Hp) : (hidT h H).objs.size = h.objs.size := PySem.W.hideAll_size _ _
theorem hidT_get {h : Heap} {H : Hp} {b : Addr} {o : Obj} (e : h.get? b = some o) (n : H b = none) : (hidT h H).get? b = some o :=
  PySem.W.hideAll_get _ e fun hm => by
    have q : (H b).isSome = true := (List.mem_filter.mp hm).2
    rw [n] at q; simp at q
theorem of_hidT {h : Heap} {H : Hp} {b : Addr} {o : Obj} (e : (hidT h H).get? b = some o) : h.get? b = some o ∧ H b = none := by
  have e' : h.get? b = some o := PySem.W.of_hideAll (trk h H) e
  refine ⟨e', ?_⟩
  cases q : H b with
  | none => rfl
  | some x =>
    have hm : b ∈ trk h H := List.mem_filter.mpr ⟨List.mem_range.mpr (Heap.lt_size e'), by simp [q]⟩
    have z : (hidT h H).get? b = none := PySem.W.hideAll_none (trk h H) hm
    rw [z] at e; cases e
noncomputable def allNews (g h : Heap) (L : Addr) : List (Addr × Obj) := (List.range h.objs.size).filterMap fun a => if a = L ∨ (g.get? a).isSome = true then none else (h.get? a).map fun o => (a, o)
noncomputable def rest (g h : Heap) (L d : Addr) : List (Addr × Obj) := (allNews g h L).filter fun p => decide (p.1 ≠ d)
end L2
namespace L2
open PySem PySem.Spec PyProof.Rows
structure Mod (K : PySem.W.Frag) (mg : Str → Option Value) (base : Heap) : Prop where
  kin : K.In base
  glob : base.Ns mainGlobals mg
  blt : ∃ mb, base.Ns builtinsNs mb ∧ ∀ x : Str, x ≠ "__name__" → mb x = bootBuiltins x
  nolimit : base.NoLimit
structure Cx where
  prog : Program
  w : World
  K : PySem.W.Frag
  mg : Str → Option Value
  base : Heap
  A : Around
  N : List Str
  s₀ : Shared
  H₀ : Hp
  env : Env
  outer : List Env
  stack : List Env
  ex : List Addr
  fn : Str → Bool
  calm : Bool
  pn : List (Addr × Obj)
  xe : Value → Shared → Prop
noncomputable def frs (l : List Env) : List Addr := l.filterMap (·.frame)
@[reducible] noncomputable def Cx.fs (X : Cx) : List Addr := frs X.outer
noncomputable def Vis (sc : Scope) (x : Str) : Prop := sc.names.lookup x = some .local ∨ sc.names.lookup x = some .cell ∨ sc.names.lookup x = some .free
noncomputable def Loc (sc : Scope) (x : Str) : Prop := sc.names.lookup x = some .local ∨ sc.names.lookup x = some .cell
noncomputable def Look (env : Env) (h : Heap) (m : Str → Option Value) (x : Str) (u : Value) : Prop :=
  (env.kindOf x = some .local ∧ m x = some u) ∨ ((env.kindOf x = some .cell ∨ env.kindOf x = some .free) ∧ ∃ c, env.cells.lookup x = some c ∧ h.IsCell c (some u))
structure Cx.Ok (X : Cx) : Prop where
  mod : Mod X.K X.mg X.base
  kind : X.env.scope.kind = .function
  glob : X.env.globals = mainGlobals
  blt : X.env.builtins = builtinsNs
  above : X.s₀.heap.objs.size ≤ X.env.locals
  inj : ∀ x y c, X.env.cells.lookup x = some c → X.env.cells.lookup y = some c → x = y
  has : ∀ x, (X.env.kindOf x = some .cell ∨ X.env.kindOf x = some .free) → ∃ c, X.env.cells.lookup x = some c
  cab : ∀ x c, X.fn x = true → X.env.cells.lookup x = some c → X.s₀.heap.objs.size ≤ c
  hd : X.calm = true → X.A.handled = none
  frames : X.A.frames = some X.stack
  stk : X.stack = X.outer ∨ (X.stack = X.env :: X.outer ∧ X.env.frame = some X.env.locals)
  exf : ∀ b ∈ X.ex, b ≠ X.env.locals ∧ ∀ x c, X.env.cells.lookup x = some c → c ≠ b
  bs : ∀ b o, X.base.get? b = some o → X.s₀.heap.get? b = some o ∧ X.H₀ b = none
  bsz : X.base.objs.size ≤ X.s₀.heap.objs.size
  noex : ∀ b o, X.base.get? b = some o → b ∉ X.ex
  exfs : ∀ b ∈ X.ex, b ∉ X.fs
  funs : X.s₀.heap.FunFrames X.base X.outer
  frf : ∀ b ∈ X.fs, X.H₀ b = none
structure Inv (X : Cx) (pins : List (Addr × Obj)) (σ : List (Option V)) (H : Hp) (s : Shared) : Prop where
  ok : X.Ok
  os : s.os = X.s₀.os
  bare : AllBare s.gens
  base : Un X.fs X.ex X.H₀ H X.s₀.heap s.heap
  loc : ∃ m, s.heap.Ns X.env.locals m ∧ ∀ (i : Nat) (x : Str) (v : V), X.N[i]? = some x → σ[i]? = some (some v) → Vis X.env.scope x → ∃ u, RelV v u ∧ Look X.env s.heap m x u
  cell : ∀ x c, X.env.cells.lookup x = some c → ∃ v, s.heap.IsCell c v
  free : H X.env.locals = none
  freeC : ∀ x c, X.env.cells.lookup x = some c → H c = none
  pin : ∀ p ∈ X.pn ++ pins, s.heap.get? p.1 = some p.2 ∧ H p.1 = none ∧ p.1 ≠ X.env.locals ∧ p.1 ∉ X.fs ∧ ∀ v, p.2.data ≠ .cell v
  hok : HOk X.prog X.w H s.heap
  len : σ.length = X.N.length
section
variable {X : Cx} {pins : List (Addr × Obj)} {σ : List (Option V)} {H H' : Hp} {s : Shared} {h' : Heap}
theorem Cx.Ok.nofr (ok : X.Ok) {b : Addr} {o : Obj} (e : X.base.get? b = some o) : b ∉ X.fs := fun hb => by
  have := (ok.funs.mem hb).1
  rw [e] at this; cases this
theorem Inv.bs (I : Inv X pins σ H s) : ∀ b o, X.base.get? b = some o → s.heap.get? b = some o ∧ H b = none := fun b o e =>
  ⟨I.base.keep b o (I.ok.bs b o e).1 (I.ok.bs b o e).2 (I.ok.nofr e) (I.ok.noex b o e), I.base.free b o (I.ok.bs b o e).1 (I.ok.bs b o e).2 (I.ok.noex b o e)⟩
theorem Inv.bk (I : Inv X pins σ H s) : ∀ b o, X.base.get? b = some o → s.heap.get? b = some o := fun b o e => (I.bs b o e).1
theorem Inv.mod (I : Inv X pins σ H s) : Mod X.K X.mg X.base := I.ok.mod
theorem Inv.kIn (I : Inv X pins σ H s) : X.K.In s.heap := I.ok.mod.kin.keeps I.bk
theorem Inv.nolimit (I : Inv X pins σ H s) : s.heap.NoLimit := I.ok.mod.nolimit.keeps I.bk
theorem Inv.fr (I : Inv X pins σ H s) : ∃ m, Fr X.base X.env.locals s.heap m :=
  let ⟨m, hn, _⟩ := I.loc
  ⟨m, hn, I.bk, Nat.le_trans I.ok.bsz I.ok.above⟩
theorem Inv.lt (I : Inv X pins σ H s) : X.env.locals < s.heap.objs.size := let ⟨_, hn, _⟩ := I.loc; hn.lt
theorem Inv.sz (I : Inv X pins σ H s) : X.s₀.heap.objs.size ≤ s.heap.objs.size := Nat.le_trans I.ok.above (Nat.le_of_lt I.lt)
theorem Inv.nofs (I : Inv X pins σ H s) {a : Addr} (h : s.heap.objs.size ≤ a) : a ∉ X.fs := fun hb => by
  obtain ⟨_, o, ho, _⟩ := I.ok.funs.mem hb
  exact absurd (Nat.lt_of_lt_of_le (Heap.lt_size ho) (Nat.le_trans I.sz h)) (Nat.lt_irrefl _)
theorem Inv.cne (I : Inv X pins σ H s) : ∀ x c, X.env.cells.lookup x = some c → c ≠ X.env.locals := fun x c e z => by
  obtain ⟨v, o, ho, hd⟩ := I.cell x c e
  obtain ⟨m, ⟨o', es, ep, ho', hd', _⟩, _⟩ := I.loc
  rw [z, ho'] at ho; cases ho; rw [hd'] at hd; cases hd
theorem Inv.funs (I : Inv X pins σ H s) : s.heap.FunFrames X.base X.outer := by
  have all : ∀ (l : List Env), (∀ b ∈ frs l, b ∈ X.fs) → X.s₀.heap.FunFrames X.base l → s.heap.FunFrames X.base l := by
    intro l
    induction l with
    | nil => intro _ _; trivial
    | cons env r ih =>
      intro hs hl
      obtain ⟨hk, ⟨L, o, hf, hn, ho, hd⟩, hr⟩ := hl
      have hL : L ∈ X.fs := hs L (by unfold frs; rw [List.filterMap_cons, hf]; exact List.mem_cons_self)
      obtain ⟨sl, e⟩ := I.base.slot L o ho (I.ok.frf L hL) hL fun z => I.ok.exfs L z hL
      exact ⟨hk, ⟨L, _, hf, hn, e, hd⟩, ih (fun b hb => hs b (by unfold frs; rw [List.filterMap_cons, hf]; exact List.mem_cons_of_mem _ hb)) hr⟩
  exact all X.outer (fun _ hb => hb) I.ok.funs
theorem Inv.stack (I : Inv X pins σ H s) : s.heap.FunFrames X.base X.stack := by
  rcases I.ok.stk with e | ⟨e, hf⟩
  · rw [e]; exact I.funs
  · rw [e]
    obtain ⟨m, hn, _⟩ := I.loc
    refine .cons (by rw [I.ok.kind]; decide) hf hn ?_ I.funs
    exact Heap.get?_none_of_le (Nat.le_trans I.ok.bsz I.ok.above)
theorem Inv.stkSub (I : Inv X pins σ H s) : ∀ b ∈ frs X.stack, b ∈ X.env.locals :: X.fs := fun b hb => by
  rcases I.ok.stk with e | ⟨e, hf⟩
  · rw [e] at hb; exact List.mem_cons_of_mem _ hb
  · rw [e] at hb
    unfold frs at hb
    rw [List.filterMap_cons, hf] at hb
    exact hb
theorem Inv.stkFree (I : Inv X pins σ H s) : ∀ b ∈ frs X.stack, H b = none := fun b hb => by
  rcases List.mem_cons.mp (I.stkSub b hb) with e | hb
  · rw [e]; exact I.free
  · obtain ⟨_, o, ho, _⟩ := I.ok.funs.mem hb
    exact I.base.free b o ho (I.ok.frf b hb) fun z => I.ok.exfs b z hb
theorem Inv.step {g' : Array GenState} {t' : Nat} {d' : Drawn} {ch : List Addr} (I : Inv X pins σ H s)
    (hch : ∀ b ∈ ch, (b ∈ X.ex ∨ X.s₀.heap.objs.size ≤ b) ∧ b ≠ X.env.locals ∧ (∀ x c, X.env.cells.lookup x = some c → c ≠ b) ∧ ∀ p ∈ X.pn ++ pins, p.1 ≠ b)
    (keep : ∀ b o, b ≠ X.env.locals → b ∉ X.fs → b ∉ ch → s.heap.get? b = some o → H b = none → h'.get? b = some o)
    (slot : ∀ b o, b ≠ X.env.locals → b ∈ X.fs → b ∉ ch → s.heap.get? b = some o → H b = none → ∃ sl, h'.get? b = some { o with slots := sl }) (free : ∀ b o, b ∉ ch → s.heap.get? b = some o → H b = none → H' b = none)
    (there : ∀ b o, b ∉ ch → s.heap.get? b = some o → ∃ o', h'.get? b = some o')
    (tups : ∀ b xs, H b = some (.tup xs) → H' b = some (.tup xs)) (frzs : ∀ b o u, H b = some (.frz o u) → H' b = some (.frz o u)) (tbls : ∀ b ps, H b = some (.tbl ps) → ∃ more, H' b = some (.tbl (ps ++ more)))
    (ns : ∀ m, s.heap.Ns X.env.locals m → h'.Ns X.env.locals m) (hok : HOk X.prog X.w H' h') (hg : AllBare g') :
    Inv X pins σ H' { s with heap := h', gens := g', drawn := d', toks := t' } := by
  have neL : ∀ b o, X.s₀.heap.get? b = some o → b ≠ X.env.locals := fun b o e => Nat.ne_of_lt (Nat.lt_of_lt_of_le (Heap.lt_size e) I.ok.above)
  have neC : ∀ b o, X.s₀.heap.get? b = some o → b ∉ X.ex → b ∉ ch := fun b o e hx hb => by
    rcases (hch b hb).1 with z | z
    · exact hx z
    · exact absurd (Nat.lt_of_lt_of_le (Heap.lt_size e) z) (Nat.lt_irrefl _)
  have cellK : ∀ x c, X.env.cells.lookup x = some c → ∀ v, s.heap.IsCell c v → h'.IsCell c v := fun x c e v ⟨o, ho, hd⟩ => by
    have nch : c ∉ ch := fun z => (hch c z).2.2.1 x c e rfl
    by_cases hc : c ∈ X.fs
    · obtain ⟨sl, q⟩ := slot c o (I.cne x c e) hc nch ho (I.freeC x c e)
      exact ⟨_, q, hd⟩
    · exact ⟨o, keep c o (I.cne x c e) hc nch ho (I.freeC x c e), hd⟩
  refine ⟨I.ok, I.os, hg, ⟨fun b o e n hb hx => ?_, fun b o e n hb hx => ?_, fun b o e n hx => ?_, fun b o e hx => ?_, fun b xs e => tups b xs (I.base.tups b xs e), fun b o xs e => frzs b o xs (I.base.frzs b o xs e), fun b ps e => ?_⟩, ?_, fun x c e => ?_, ?_, fun x c e => ?_, fun p hp => ?_, hok, I.len⟩
  · exact keep b o (neL b o e) hb (neC b o e hx) (I.base.keep b o e n hb hx) (I.base.free b o e n hx)
  · obtain ⟨sl, e1⟩ := I.base.slot b o e n hb hx
    obtain ⟨sl', e2⟩ := slot b _ (neL b o e) hb (neC b o e hx) e1 (I.base.free b o e n hx)
    exact ⟨sl', e2⟩
  · obtain ⟨o', e1⟩ := I.base.there b o e hx
    exact free b o' (neC b o e hx) e1 (I.base.free b o e n hx)
  · obtain ⟨o', e1⟩ := I.base.there b o e hx
    exact there b o' (neC b o e hx) e1
  · obtain ⟨m1, e1⟩ := I.base.tbls b ps e
    obtain ⟨m2, e2⟩ := tbls b _ e1
    exact ⟨m1 ++ m2, by rw [e2, Array.append_assoc]⟩
  · obtain ⟨m, hn, hl⟩ := I.loc
    refine ⟨m, ns m hn, fun i x v e1 e2 e3 => ?_⟩
    obtain ⟨u, r, l⟩ := hl i x v e1 e2 e3
    refine ⟨u, r, ?_⟩
    rcases l with l | ⟨k, c, e, z⟩
    · exact .inl l
    · exact .inr ⟨k, c, e, cellK x c e _ z⟩
  · obtain ⟨v, z⟩ := I.cell x c e
    exact ⟨v, cellK x c e v z⟩
  · obtain ⟨m, ⟨o, _, _, ho, _⟩, _⟩ := I.loc
    exact free _ o (fun z => (hch _ z).2.1 rfl) ho I.free
  · obtain ⟨v, o, ho, hd⟩ := I.cell x c e
    exact free c o (fun z => (hch c z).2.2.1 x c e rfl) ho (I.freeC x c e)
  · obtain ⟨e, n, ne, nf, d⟩ := I.pin p hp
    have nch : p.1 ∉ ch := fun z => (hch p.1 z).2.2.2 p hp rfl
    exact ⟨keep p.1 p.2 ne nf nch e n, free p.1 p.2 nch e n, ne, nf, d⟩
theorem Inv.un {t' : Nat} (I : Inv X pins σ H s) (u : Un X.fs [] H H' s.heap h') (hok : HOk X.prog X.w H' h') : Inv X pins σ H' { s with heap := h', toks := t' } := by
  obtain ⟨m, ⟨o, es, ep, ho, r⟩, _⟩ := id I.loc
  obtain ⟨sl, hL⟩ := u.any ho I.free (by simp)
  exact I.step (g' := s.gens) (d' := s.drawn) (ch := []) (fun _ z => nomatch z) (fun b o _ hb _ e n => u.keep b o e n hb (by simp)) (fun b o _ hb _ e n => u.slot b o e n hb (by simp)) (fun b o _ e n => u.free b o e n (by simp)) (fun b o _ e => u.there b o e (by simp)) u.tups u.frzs u.tbls (fun m' hm => by
    obtain ⟨o', es', ep', ho', r'⟩ := hm
    rw [ho] at ho'; cases ho'
    exact ⟨_, es', ep', hL, r'⟩) hok I.bare
theorem Inv.call {g' : Array GenState} {t' : Nat} {d' : Drawn} {ch : List Addr} (I : Inv X pins σ H s) (u : Un (frs X.stack) ch H H' s.heap h') (hok : HOk X.prog X.w H' h') (hg : AllBare g')
    (hch : ∀ b ∈ ch, (b ∈ X.ex ∨ X.s₀.heap.objs.size ≤ b) ∧ b ≠ X.env.locals ∧ (∀ x c, X.env.cells.lookup x = some c → c ≠ b) ∧ ∀ p ∈ X.pn ++ pins, p.1 ≠ b) :
    Inv X pins σ H' { s with heap := h', gens := g', drawn := d', toks := t' } := by
  obtain ⟨m, ⟨o, es, ep, ho, r⟩, _⟩ := id I.loc
  obtain ⟨sl, hL⟩ := u.any ho I.free fun z => (hch _ z).2.1 rfl
  exact I.step (ch := ch) hch (fun b o hL hb hc e n => u.keep b o e n (fun z => (List.mem_cons.mp (I.stkSub b z)).elim hL hb) hc) (fun b o _ _ hc e n => u.any e n hc) (fun b o hc e n => u.free b o e n hc) (fun b o hc e => u.there b o e hc) u.tups u.frzs u.tbls (fun m' hm => by
    obtain ⟨o', es', ep', ho', r'⟩ := hm
    rw [ho] at ho'; cases ho'
    exact ⟨_, es', ep', hL, r'⟩) hok hg
theorem Inv.turned {t' : Nat} {it : Addr} (I : Inv X pins σ H s) (k : ∀ b o, b ≠ it → s.heap.get? b = some o → h'.get? b = some o) (hn : H it = none) (hL : it ≠ X.env.locals)
    (h1 : it ∈ X.ex ∨ X.s₀.heap.objs.size ≤ it) (h2 : ∀ x c, X.env.cells.lookup x = some c → c ≠ it) (h3 : ∀ p ∈ X.pn ++ pins, p.1 ≠ it) : Inv X pins σ H { s with heap := h', toks := t' } := by
  have nit : ∀ b u, H b = some u → b ≠ it := fun b u e z => by rw [z, hn] at e; cases e
  refine I.step (g' := s.gens) (d' := s.drawn) (ch := [it]) (fun b hb => ?_) (fun b o _ _ hc e _ => k b o (fun z => hc (by simp [z])) e) (fun b o _ _ hc e _ => ⟨o.slots, k b o (fun z => hc (by simp [z])) e⟩) (fun _ _ _ _ n => n)
    (fun b o hc e => ⟨o, k b o (fun z => hc (by simp [z])) e⟩) (fun _ _ e => e) (fun _ _ _ e => e) (fun b ps e => ⟨#[], by rw [e]; simp⟩) (fun m hm => ?_) (fun b u e => ?_) I.bare
  · have e : b = it := by simpa using hb
    subst e
    exact ⟨h1, hL, h2, h3⟩
  · obtain ⟨o, es, ep, ho, r⟩ := hm
    exact ⟨o, es, ep, k _ o (Ne.symm hL) ho, r⟩
  · refine (I.hok b u e).stay (fun c v hc q => k c v ?_ q) (fun _ q => q) fun _ _ q => q
    rcases hc with z | z
    · rw [z]; exact nit b u e
    · exact nit c _ z
theorem Inv.tok (I : Inv X pins σ H s) (t : Nat) : Inv X pins σ H { s with toks := t } := I.un (h' := s.heap) (t' := t) Un.refl I.hok
theorem Inv.kept {t' : Nat} (I : Inv X pins σ H s) (k : ∀ b u, s.heap.get? b = some u → h'.get? b = some u) : Inv X pins σ H { s with heap := h', toks := t' } := I.un (Un.kept k) (I.hok.kept k)
theorem Inv.laid {a : Addr} {o : HO} {t' : Nat} (I : Inv X pins σ H s) (k : ∀ b u, s.heap.get? b = some u → h'.get? b = some u) (hp : s.heap.objs.size ≤ a) (new : ObjOk X.prog X.w (upd H a o) h' a o) :
    Inv X pins σ (upd H a o) { s with heap := h', toks := t' } := I.un (Un.laid k hp (I.hok.fresh hp)) (I.hok.laid k hp new)
theorem Inv.write {x e : Addr} {o : HO} {t' : Nat} (I : Inv X pins σ H s) (mu : Mut (H x)) (he : e = x ∨ H e = some (.own x)) (k : ∀ b u, b ≠ e → s.heap.get? b = some u → h'.get? b = some u) (heo : ∃ u, h'.get? e = some u)
    (new : ObjOk X.prog X.w (upd H x o) h' x o) : Inv X pins σ (upd H x o) { s with heap := h', toks := t' } := I.un (Un.write mu he k heo) (I.hok.write mu he k heo new)
theorem Inv.pins_of {pins' : List (Addr × Obj)} (I : Inv X pins σ H s) (h : ∀ p ∈ pins', s.heap.get? p.1 = some p.2 ∧ H p.1 = none ∧ p.1 ≠ X.env.locals ∧ p.1 ∉ X.fs ∧ ∀ v, p.2.data ≠ .cell v) : Inv X pins' σ H s :=
  ⟨I.ok, I.os, I.bare, I.base, I.loc, I.cell, I.free, I.freeC, fun p hp => (List.mem_append.mp hp).elim (fun z => I.pin p (List.mem_append_left _ z)) (h p), I.hok, I.len⟩
theorem nodup_ix {N : List Str} (hN : N.Nodup) {i j : Nat} {x : Str} (a : N[i]? = some x) (b : N[j]? = some x) : i = j := by
  obtain ⟨h1, e1⟩ := List.getElem?_eq_some_iff.mp a
  obtain ⟨h2, e2⟩ := List.getElem?_eq_some_iff.mp b
  exact (List.getElem_inj hN).mp (e1.trans e2.symm)
theorem store_ok2 {M : Model} {A : Around} {E : Value → Shared → Prop} {i : Nat} {x : Str} {v : V} {u : Value} {Q : Unit → Shared → Prop} (I : Inv X pins σ H s) (hN : X.N.Nodup) (hi : X.N[i]? = some x) (hx : Loc X.env.scope x) (r : RelV v u)
    (h : ∀ s', Inv X pins (σ.set i (some v)) H s' → (∃ a, Heap.SameBut a s.heap s'.heap ∧ (a = X.env.locals ∨ X.env.cells.lookup x = some a)) → Q () s') (hf : X.fn x = true ∨ X.env.scope.names.lookup x = some .local := by first | exact .inl rfl | exact .inr rfl | assumption) : wpAny M A (storeName X.env x u) Q E s := by
  obtain ⟨m, hn, hl⟩ := id I.loc
  have hcls : (X.env.scope.kind == .class || (X.env.scope.kind == .module && X.env.locals != X.env.globals)) = false := by rw [I.ok.kind]; rfl
  have hiσ : i < σ.length := by rw [I.len]; exact (List.getElem?_eq_some_iff.mp hi).1
  have cne := I.cne
  have tracked : ∀ {a : Addr} {h' : Heap}, (∃ o, s.heap.get? a = some o ∧ H a = none) → Heap.SameBut a s.heap h' → HOk X.prog X.w H h' := fun {a h'} ha hs b ob e => by
    obtain ⟨_, _, hfree⟩ := ha
    refine (I.hok b ob e).stay (fun c w' hc q => (hs.2 c ?_).trans q) (fun _ q => q) fun _ _ q => q
    rintro rfl
    rcases hc with rfl | hc
    · rw [hfree] at e; cases e
    · rw [hfree] at hc; cases hc
  rcases hx with hk | hk
  · refine wpAny_storeName_local hk hn (fun h' hn' hs => ?_) hcls
    obtain ⟨oL, _, _, hoL, _⟩ := id hn
    refine h _ ⟨I.ok, I.os, I.bare, ⟨fun b o e n hb hx => ?_, fun b o e n hb hx => ?_, I.base.free, fun b o e hx => ?_, I.base.tups, I.base.frzs, I.base.tbls⟩, ⟨_, hn', fun j y v' e1 e2 e3 => ?_⟩, fun y c e => ?_, I.free, I.freeC, fun p hp => ?_, tracked ⟨oL, hoL, I.free⟩ hs, by simpa using I.len⟩ ⟨_, hs, .inl rfl⟩
    · exact (hs.2 b (Nat.ne_of_lt (Nat.lt_of_lt_of_le (Heap.lt_size e) I.ok.above))).trans (I.base.keep b o e n hb hx)
    · obtain ⟨sl, e1⟩ := I.base.slot b o e n hb hx
      exact ⟨sl, (hs.2 b (Nat.ne_of_lt (Nat.lt_of_lt_of_le (Heap.lt_size e) I.ok.above))).trans e1⟩
    · obtain ⟨o', e1⟩ := I.base.there b o e hx
      exact ⟨o', (hs.2 b (Nat.ne_of_lt (Nat.lt_of_lt_of_le (Heap.lt_size e) I.ok.above))).trans e1⟩
    · by_cases hj : j = i
      · subst hj
        rw [hi] at e1; cases e1
        rw [List.getElem?_set_self hiσ] at e2
        cases e2
        exact ⟨u, r, .inl ⟨hk, by simp⟩⟩
      · rw [List.getElem?_set_ne (Ne.symm hj)] at e2
        obtain ⟨u', r', q⟩ := hl j y v' e1 e2 e3
        refine ⟨u', r', ?_⟩
        rcases q with ⟨k, e⟩ | ⟨k, c, e, z⟩
        · refine .inl ⟨k, ?_⟩
          have : y ≠ x := fun e => hj (nodup_ix hN e1 (e ▸ hi))
          simp [this, e]
        · exact .inr ⟨k, c, e, z.sameBut hs (cne y c e)⟩
    · obtain ⟨w', z⟩ := I.cell y c e
      exact ⟨w', z.sameBut hs (cne y c e)⟩
    · obtain ⟨e, n, ne, nf, d⟩ := I.pin p hp
      exact ⟨(hs.2 p.1 ne).trans e, n, ne, nf, d⟩
  · have hfn : X.fn x = true := by
      rcases hf with z | z
      · exact z
      · rw [z] at hk; cases hk
    obtain ⟨c, hc⟩ := I.ok.has x (.inl hk)
    obtain ⟨w', z⟩ := I.cell x c hc
    refine wpAny_storeName_cell I.ok.kind hk hc z (fun h' hc' hs => ?_)
    obtain ⟨oc, hoc, hocd⟩ := id z
    refine h { s with heap := h' } ⟨I.ok, I.os, I.bare, ⟨fun b o e n hb hx => ?_, fun b o e n hb hx => ?_, I.base.free, fun b o e hx => ?_, I.base.tups, I.base.frzs, I.base.tbls⟩, ⟨m, hn.sameBut hs (Ne.symm (cne x c hc)), fun j y v' e1 e2 e3 => ?_⟩, fun y c' e => ?_, I.free, I.freeC, fun p hp => ?_, tracked ⟨oc, hoc, I.freeC x c hc⟩ hs, by simpa using I.len⟩ ⟨c, hs, .inr hc⟩
    · exact (hs.2 b (Nat.ne_of_lt (Nat.lt_of_lt_of_le (Heap.lt_size e) (I.ok.cab x c hfn hc)))).trans (I.base.keep b o e n hb hx)
    · obtain ⟨sl, e1⟩ := I.base.slot b o e n hb hx
      exact ⟨sl, (hs.2 b (Nat.ne_of_lt (Nat.lt_of_lt_of_le (Heap.lt_size e) (I.ok.cab x c hfn hc)))).trans e1⟩
    · obtain ⟨o', e1⟩ := I.base.there b o e hx
      exact ⟨o', (hs.2 b (Nat.ne_of_lt (Nat.lt_of_lt_of_le (Heap.lt_size e) (I.ok.cab x c hfn hc)))).trans e1⟩
    · by_cases hj : j = i
      · subst hj
        rw [hi] at e1; cases e1
        rw [List.getElem?_set_self hiσ] at e2
        cases e2
        exact ⟨u, r, .inr ⟨.inl hk, c, hc, hc'⟩⟩
      · rw [List.getElem?_set_ne (Ne.symm hj)] at e2
        obtain ⟨u', r', q⟩ := hl j y v' e1 e2 e3
        refine ⟨u', r', ?_⟩
        rcases q with q | ⟨k, c', e, z'⟩
        · exact .inl q
        · refine .inr ⟨k, c', e, z'.sameBut hs ?_⟩
          rintro rfl
          exact hj (nodup_ix hN e1 (I.ok.inj _ _ _ e hc ▸ hi))
    · by_cases hcc : c' = c
      · subst hcc; exact ⟨_, hc'⟩
      · obtain ⟨w2, z2⟩ := I.cell y c' e
        exact ⟨w2, z2.sameBut hs hcc⟩
    · obtain ⟨e, n, ne, nf, d⟩ := I.pin p hp
      refine ⟨(hs.2 p.1 ?_).trans e, n, ne, nf, d⟩
      intro q
      rw [q, hoc] at e
      have q' : oc = p.2 := Option.some.inj e
      exact d w' (by rw [← q']; exact hocd)
theorem store_ok {M : Model} {A : Around} {E : Value → Shared → Prop} {i : Nat} {x : Str} {v : V} {u : Value} {Q : Unit → Shared → Prop} (I : Inv X pins σ H s) (hN : X.N.Nodup) (hi : X.N[i]? = some x) (hx : Loc X.env.scope x) (r : RelV v u)
    (h : ∀ s', Inv X pins (σ.set i (some v)) H s' → Q () s') (hf : X.fn x = true ∨ X.env.scope.names.lookup x = some .local := by first | exact .inl rfl | exact .inr rfl | assumption) : wpAny M A (storeName X.env x u) Q E s :=
  store_ok2 I hN hi hx r (fun s' I' _ => h s' I') hf
theorem Inv.call' {s' : Shared} {ch : List Addr} (I : Inv X pins σ H s) (ho : s'.os = s.os) (u : Un (frs X.stack) ch H H' s.heap s'.heap) (hok : HOk X.prog X.w H' s'.heap) (hg : AllBare s'.gens)
    (hch : ∀ b ∈ ch, (b ∈ X.ex ∨ X.s₀.heap.objs.size ≤ b) ∧ b ≠ X.env.locals ∧ (∀ x c, X.env.cells.lookup x = some c → c ≠ b) ∧ ∀ p ∈ X.pn ++ pins, p.1 ≠ b) : Inv X pins σ H' s' := by
  obtain ⟨h', g', d', t', o'⟩ := s'
  have e : o' = s.os := ho
  subst e
  exact I.call (g' := g') (t' := t') (d' := d') u hok hg hch
end
@[reducible] noncomputable def XK := Value → Option Addr → Hp → Prop
@[reducible] noncomputable def St := List (Option V)
@[reducible] noncomputable def VK := V → Hp → Prop
@[reducible] noncomputable def TE := St → Hp → VK → Prop
@[reducible] noncomputable def TT := St → Hp → (Bool → Hp → Prop) → Prop
@[reducible] noncomputable def TA := St → Hp → (List V → Hp → Prop) → Prop
structure Ends where
  nx : St → Hp → Prop
  rt : VK
  bk : St → Hp → Prop := fun _ _ => False
  ct : St → Hp → Prop := fun _ _ => False
@[reducible] noncomputable def TS := Ends → St → Hp → Prop
noncomputable def EP (X : Cx) (pins : List (Addr × Obj)) (σ : St) (Q : VK) (u : Value) (s' : Shared) : Prop := ∃ v H', Inv X pins σ H' s' ∧ RelV v u ∧ Q v H'
noncomputable def TP (X : Cx) (pins : List (Addr × Obj)) (σ : St) (Q : Bool → Hp → Prop) (b : Bool) (s' : Shared) : Prop := ∃ H', Inv X pins σ H' s' ∧ Q b H'
noncomputable def AP (X : Cx) (pins : List (Addr × Obj)) (σ : St) (Q : List V → Hp → Prop) (us : List Value) (s' : Shared) : Prop := ∃ vs H', Inv X pins σ H' s' ∧ Vals vs us ∧ Q vs H'
noncomputable def SP (X : Cx) (pins : List (Addr × Obj)) (D : Ends) (f : Flow) (s' : Shared) : Prop :=
  match f with
  | .next => ∃ σ' H', Inv X pins σ' H' s' ∧ D.nx σ' H'
  | .brk => ∃ σ' H', Inv X pins σ' H' s' ∧ D.bk σ' H'
  | .cont => ∃ σ' H', Inv X pins σ' H' s' ∧ D.ct σ' H'
  | .ret u => ∃ v σ' H', Inv X pins σ' H' s' ∧ RelV v u ∧ D.rt v H'
noncomputable def PE (X : Cx) (e : Expr) (t : TE) : Prop :=
  ∀ (pins : List (Addr × Obj)) (s : Shared) (σ : St) (H : Hp) (Q : VK), Inv X pins σ H s → t σ H Q → wpAny (model X.prog X.w) X.A (eval e X.env) (EP X pins σ Q) X.xe s
noncomputable def PT (X : Cx) (e : Expr) (t : TT) : Prop :=
  ∀ (pins : List (Addr × Obj)) (s : Shared) (σ : St) (H : Hp) (Q : Bool → Hp → Prop), Inv X pins σ H s → t σ H Q → wpAny (model X.prog X.w) X.A (isTrue e X.env (eval e X.env)) (TP X pins σ Q) X.xe s
noncomputable def PW (X : Cx) (e : Expr) (t : TT) : Prop :=
  ∀ (whole : Sem Value) (pins : List (Addr × Obj)) (s : Shared) (σ : St) (H : Hp) (Q : Bool → Hp → Prop), Inv X pins σ H s → t σ H Q → wpAny (model X.prog X.w) X.A (isTrue e X.env whole) (TP X pins σ Q) X.xe s
theorem PW.pt {X : Cx} {e : Expr} {t : TT} (h : PW X e t) : PT X e t := h _
noncomputable def PA (X : Cx) (es : List Expr) (t : TA) : Prop :=
  ∀ (pos : Pos) (pins : List (Addr × Obj)) (s : Shared) (σ : St) (H : Hp) (Q : List V → Hp → Prop), Inv X pins σ H s → t σ H Q → wpAny (model X.prog X.w) X.A (spliced (backTo pos (starEach es X.env))) (AP X pins σ Q) X.xe s
noncomputable def PS (X : Cx) (st : Stmt) (t : TS) : Prop :=
  ∀ (pins : List (Addr × Obj)) (s : Shared) (σ : St) (H : Hp) (D : Ends), Inv X pins σ H s → t D σ H → wpAny (model X.prog X.w) X.A (exec st X.env) (SP X pins D) X.xe s
noncomputable def PSs (X : Cx) (st : List Stmt) (t : TS) : Prop :=
  ∀ (pins : List (Addr × Obj)) (s : Shared) (σ : St) (H : Hp) (D : Ends), Inv X pins σ H s → t D σ H → wpAny (model X.prog X.w) X.A (execs st X.env) (SP X pins D) X.xe s
theorem thn {α : Type} {t : Sem α} {Q Q' : α → Shared → Prop} {M : Model} {A : Around} {E : Value → Shared → Prop} {s : Shared} (h : wpAny M A t Q E s) (hQ : ∀ a s, Q a s → Q' a s) : wpAny M A t Q' E s := wpAny_mono h hQ fun _ _ x => x
end L2
namespace L2
open PySem PySem.Spec PyProof.Rows
section
variable {X : Cx}
theorem bin {a b : Expr} {ta tb : TE} (ha : PE X a ta) (hb : PE X b tb) {pins : List (Addr × Obj)} {s : Shared} {σ : St} {H : Hp} {R : V → V → Hp → Prop} (I : Inv X pins σ H s) (h : ta σ H fun x H1 => tb σ H1 fun y H2 => R x y H2)
    {α : Type} {Q : α → Shared → Prop} {f : Value → Value → Sem α}
    (hf : ∀ v u s2 x y H2, Inv X pins σ H2 s2 → RelV x v → RelV y u → R x y H2 → wpAny (model X.prog X.w) X.A (f v u) Q X.xe s2) :
    wpAny (model X.prog X.w) X.A (eval a X.env) (fun v s₁ => wpAny (model X.prog X.w) X.A (eval b X.env) (fun u s₂ => wpAny (model X.prog X.w) X.A (f v u) Q X.xe s₂) X.xe s₁) X.xe s := by
  refine thn (ha pins s σ H _ I h) fun v s1 ⟨x, H1, I1, r1, q1⟩ => ?_
  refine thn (hb pins s1 σ H1 _ I1 q1) fun u s2 ⟨y, H2, I2, r2, q2⟩ => ?_
  exact hf v u s2 x y H2 I2 r1 r2 q2
noncomputable def tVar (i : Nat) : TE := fun σ H Q => ∃ v, σ[i]? = some (some v) ∧ Q v H
noncomputable def tC (v : V) : TE := fun _ H Q => Q v H
theorem pe_var {i : Nat} {x : Str} {pos : Pos} (hN : X.N[i]? = some x) (hv : Vis X.env.scope x) (hd : (x == ("__debug__" : Str)) = false := by decide) (hcd : (x == ("__classdict__" : Str)) = false := by decide) : PE X (.Name x pos) (tVar i) := by
  intro pins s σ H Q I h
  obtain ⟨v, e, h⟩ := h
  obtain ⟨m, hn, hl⟩ := I.loc
  obtain ⟨u, r, l⟩ := hl i x v hN e hv
  have fin : EP X pins σ Q u s := ⟨v, H, I, r, h⟩
  rcases l with ⟨hk, hm⟩ | ⟨hk, c, hc, hcell⟩
  · exact wpAny_Name (wpAny_loadName_local I.ok.kind hk hn hm fin) hd
  · rcases hk with hk | hk
    · exact wpAny_Name (wpAny_loadName_cell I.ok.kind hk hc hcell fin) hd
    · exact wpAny_Name (wpAny_loadName_free I.ok.kind hk hc hcell fin hcd) hd
theorem pe_int {i j pos} : PE X (.Constant (.int i) j pos) (tC (.int i)) := fun _ _ _ H _ I h => wpAny_Constant_int ⟨.int i, H, I.tok _, ⟨_, rfl⟩, h⟩
theorem pe_bl {b j pos} : PE X (.Constant (.bool b) j pos) (tC (.bl b)) := fun _ _ _ H _ I h => Constant_bool ⟨.bl b, H, I, rfl, h⟩
theorem pe_non {j pos} : PE X (.Constant .none j pos) (tC .non) := fun _ _ _ H _ I h => Constant_none ⟨.non, H, I, rfl, h⟩
theorem pe_str {x j pos} : PE X (.Constant (.str x) j pos) (tC (.str x)) := fun _ _ _ H _ I h => Calls.Constant_str ⟨.str x, H, I.tok _, ⟨_, rfl⟩, h⟩
noncomputable def Gl (X : Cx) (x : Str) : Prop := X.env.kindOf x = some .globalImplicit
theorem ld_glob {E : Value → Shared → Prop} {pins : List (Addr × Obj)} {s : Shared} {σ : St} {H : Hp} {x : Str} {u : Value} {pos : Pos} {Q : Value → Shared → Prop} (I : Inv X pins σ H s) (hg : Gl X x) (hm : X.mg x = some u) (h : Q u s)
    (hd : (x == ("__debug__" : Str)) = false := by decide) : wpAny (model X.prog X.w) X.A (eval (.Name x pos) X.env) Q E s :=
  Calls.Name_function_global I.ok.kind hg (Calls.loadGlobal_global (by rw [I.ok.glob]; exact I.mod.glob.keeps I.bk) hm h) hd
theorem ld_blt {E : Value → Shared → Prop} {pins : List (Addr × Obj)} {s : Shared} {σ : St} {H : Hp} {x : Str} {u : Value} {pos : Pos} {Q : Value → Shared → Prop} (I : Inv X pins σ H s) (hg : Gl X x) (hm : X.mg x = none) (hv : bootBuiltins x = some u) (h : Q u s)
    (hn : x ≠ "__name__" := by decide) (hd : (x == ("__debug__" : Str)) = false := by decide) : wpAny (model X.prog X.w) X.A (eval (.Name x pos) X.env) Q E s := by
  obtain ⟨mb, h1, h2⟩ := I.mod.blt
  exact Calls.Name_function_global I.ok.kind hg (Calls.loadGlobal_builtin (by rw [I.ok.glob]; exact I.mod.glob.keeps I.bk) hm (by rw [I.ok.blt]; exact h1.keeps I.bk) ((h2 x hn).trans hv) h) hd
variable {a b : Expr} {ta tb : TE} {pos : Pos}
noncomputable def tB (t : TE) : TT := fun σ H Q => t σ H fun x H1 => ∃ c, x = .bl c ∧ Q c H1
theorem pt_val {e : Expr} {t : TE} (h : PE X e t) (he : ∀ whole, isTrue e X.env whole = (do let v ← whole; standAt e.pos; holding [v] (truthy v)) := by intro _; rfl) : PT X e (tB t) := by
  intro pins s σ H Q I hw
  refine isTrue_plain (thn (h pins s σ H _ I hw) fun v s1 ⟨x, H1, I1, r1, q1⟩ => ?_) (he _)
  obtain ⟨d, rfl, q⟩ := q1
  cases r1
  exact wpAny_truthy_bool ⟨H1, I1, q⟩
variable {tA tB' : TT} {rest : List Expr}
noncomputable def tAnd (t u : TT) : TT := fun σ H Q => t σ H fun c H1 => if c = true then u σ H1 Q else Q false H1
noncomputable def tOr (t u : TT) : TT := fun σ H Q => t σ H fun c H1 => if c = true then Q true H1 else u σ H1 Q
noncomputable def tNot (t : TT) : TT := fun σ H Q => t σ H fun c H1 => Q (!c) H1
theorem pw_and1 (ha : PT X a tA) : PW X (.BoolOp .And [a] pos) tA := by
  intro wh pins s σ H Q I h
  refine isTrue_and (thn (ha pins s σ H Q I h) fun c s1 e => ?_)
  cases c with
  | true => exact isTrue_and_nil e
  | false => exact e
theorem pw_or1 (ha : PT X a tA) : PW X (.BoolOp .Or [a] pos) tA := by
  intro wh pins s σ H Q I h
  refine isTrue_or (thn (ha pins s σ H Q I h) fun c s1 e => ?_)
  cases c with
  | false => exact isTrue_or_nil e
  | true => exact e
theorem pw_and (ha : PT X a tA) (hb : PW X (.BoolOp .And (b :: rest) pos) tB') : PW X (.BoolOp .And (a :: b :: rest) pos) (tAnd tA tB') := by
  intro wh pins s σ H Q I h
  refine isTrue_and (thn (ha pins s σ H _ I h) fun c s1 ⟨H1, I1, q1⟩ => ?_)
  cases c with
  | true => exact hb wh pins s1 σ H1 Q I1 q1
  | false => exact ⟨H1, I1, q1⟩
theorem pw_or (ha : PT X a tA) (hb : PW X (.BoolOp .Or (b :: rest) pos) tB') : PW X (.BoolOp .Or (a :: b :: rest) pos) (tOr tA tB') := by
  intro wh pins s σ H Q I h
  refine isTrue_or (thn (ha pins s σ H _ I h) fun c s1 ⟨H1, I1, q1⟩ => ?_)
  cases c with
  | true => exact ⟨H1, I1, q1⟩
  | false => exact hb wh pins s1 σ H1 Q I1 q1
theorem pt_not (ha : PT X a tA) : PT X (.UnaryOp .Not a pos) (tNot tA) := by
  intro pins s σ H Q I h
  exact isTrue_not (ha pins s σ H (fun c H1 => Q (!c) H1) I h)
theorem pe_one {op} {t : TE} (h : PE X a t) : PE X (.BoolOp op [a] pos) t := fun pins s σ H Q I hw => BoolOp_one (h pins s σ H Q I hw)
end
end L2
namespace L2
open PySem PySem.Spec PyProof.Rows
noncomputable def SqL (K : PySem.W.Frag) (H : Hp) (a : Addr) (xs : List V) : Prop :=
  Rd H a (.lst xs) ∨
    ∃ (o : Obj) (its : Array Value) (n : Nat), K.lookup a = some o ∧ o.cls = .type "list" ∧ o.dict = none ∧ o.data = .seq its n ∧ its.size ≤ sizeLine ∧ Vals xs its.toList
noncomputable def SqT (K : PySem.W.Frag) (H : Hp) (a : Addr) (xs : List V) : Prop :=
  Rd H a (.tup xs) ∨
    ∃ (o : Obj) (its : Array Value) (n : Nat), K.lookup a = some o ∧ o.cls = .type "tuple" ∧ o.data = .seq its n ∧ its.size ≤ sizeLine ∧ Vals xs its.toList
noncomputable def absV : Value → Option V
  | .none => some .non
  | .bool b => some (.bl b)
  | .int i _ => some (.int i)
  | .str x _ => some (.str x)
  | .bytes b _ => some (.byt b)
  | .float b _ => some (.flt b)
  | .ref a => some (.ref a)
  | .type n => some (.ty n)
  | _ => none
theorem RelV.abs {x : V} {u : Value} (r : RelV x u) : absV u = some x := by
  cases x with
  | non => cases r; rfl
  | bl _ => cases r; rfl
  | int _ => obtain ⟨t, rfl⟩ := r; rfl
  | str _ => obtain ⟨t, rfl⟩ := r; rfl
  | byt _ => obtain ⟨t, rfl⟩ := r; rfl
  | flt _ => obtain ⟨t, rfl⟩ := r; rfl
  | ref _ => cases r; rfl
  | ty _ => cases r; rfl
theorem RelV.inj {x y : V} {u : Value} (r : RelV x u) (q : RelV y u) : x = y := Option.some.inj (r.abs.symm.trans q.abs)
theorem Vals.inj : ∀ {xs ys : List V} {us : List Value}, Vals xs us → Vals ys us → xs = ys
  | _, _, _, .nil, .nil => rfl
  | _, _, _, .cons r t, .cons r' t' => by rw [r.inj r', Vals.inj t t']
section
variable {X : Cx} {pins : List (Addr × Obj)} {σ : St} {H : Hp} {s : Shared} {a : Addr} {xs ys : List V}
theorem SqL.of {K : PySem.W.Frag} (h : H a = some (.lst xs)) : SqL K H a xs := .inl (.inl h)
theorem SqT.of {K : PySem.W.Frag} (h : H a = some (.tup xs)) : SqT K H a xs := .inl (.inl h)
theorem Inv.list (I : Inv X pins σ H s) (h : SqL X.K H a xs) : ∃ its : List Value, Vals xs its ∧ PlainL s.heap a its.toArray ∧ xs.length ≤ sizeLine := by
  rcases h with h | ⟨o, its, n, hk, hc, hd, hs, hz, r⟩
  · obtain ⟨z, its, n, r, e⟩ := h.ok I.hok
    exact ⟨its, r, ⟨_, n, e, rfl, rfl, rfl⟩, z⟩
  · refine ⟨its.toList, r, ⟨o, n, I.kIn a o hk, hc, hd, by simpa using hs⟩, ?_⟩
    have e := r.length
    simp only [Array.length_toList] at e
    omega
theorem Inv.tuple (I : Inv X pins σ H s) (h : SqT X.K H a xs) : ∃ its : List Value, Vals xs its ∧ IsTup s.heap a its.toArray ∧ xs.length ≤ sizeLine := by
  rcases h with h | ⟨o, its, n, hk, hc, hs, hz, r⟩
  · obtain ⟨z, its, r, p⟩ := h.ok I.hok
    exact ⟨its, r, p, z⟩
  · refine ⟨its.toList, r, ⟨o, I.kIn a o hk, hc, n, by simpa using hs⟩, ?_⟩
    have e := r.length
    simp only [Array.length_toList] at e
    omega
theorem Inv.list_inj (I : Inv X pins σ H s) (h : SqL X.K H a xs) (h' : SqL X.K H a ys) : xs = ys := by
  obtain ⟨its, r, ⟨o, n, e, _, _, d⟩, _⟩ := I.list h
  obtain ⟨its', r', ⟨o', n', e', _, _, d'⟩, _⟩ := I.list h'
  rw [e] at e'; cases e'
  rw [d] at d'
  injection d' with d1 _
  have : its = its' := by simpa using congrArg Array.toList d1
  subst this
  exact r.inj r'
theorem Inv.tuple_inj (I : Inv X pins σ H s) (h : SqT X.K H a xs) (h' : SqT X.K H a ys) : xs = ys := by
  obtain ⟨its, r, ⟨o, e, _, n, d⟩, _⟩ := I.tuple h
  obtain ⟨its', r', ⟨o', e', _, n', d'⟩, _⟩ := I.tuple h'
  rw [e] at e'; cases e'
  rw [d] at d'
  injection d' with d1 _
  have : its = its' := by simpa using congrArg Array.toList d1
  subst this
  exact r.inj r'
end
@[reducible] noncomputable def Cx.wish (X : Cx) (E : Value → Shared → Prop) : Cx := { X with xe := E }
@[reducible] noncomputable def Cx.nox (X : Cx) : Cx := X.wish fun _ _ => False
theorem Cx.Ok.wish {X : Cx} (ok : X.Ok) (E : Value → Shared → Prop) : (X.wish E).Ok :=
  ⟨ok.mod, ok.kind, ok.glob, ok.blt, ok.above, ok.inj, ok.has, ok.cab, ok.hd, ok.frames, ok.stk, ok.exf, ok.bs, ok.bsz, ok.noex, ok.exfs, ok.funs, ok.frf⟩
theorem Cx.Ok.unwish {X : Cx} {E : Value → Shared → Prop} (ok : (X.wish E).Ok) : X.Ok :=
  ⟨ok.mod, ok.kind, ok.glob, ok.blt, ok.above, ok.inj, ok.has, ok.cab, ok.hd, ok.frames, ok.stk, ok.exf, ok.bs, ok.bsz, ok.noex, ok.exfs, ok.funs, ok.frf⟩
section
variable {X : Cx} {pins : List (Addr × Obj)} {σ : St} {H : Hp} {s : Shared} {E : Value → Shared → Prop}
theorem Inv.wish (I : Inv X pins σ H s) (E : Value → Shared → Prop) : Inv (X.wish E) pins σ H s := ⟨I.ok.wish E, I.os, I.bare, I.base, I.loc, I.cell, I.free, I.freeC, I.pin, I.hok, I.len⟩
theorem Inv.unwish (I : Inv (X.wish E) pins σ H s) : Inv X pins σ H s := ⟨I.ok.unwish, I.os, I.bare, I.base, I.loc, I.cell, I.free, I.freeC, I.pin, I.hok, I.len⟩
theorem SP.unwish {D : Ends} {f : Flow} {s' : Shared} (h : SP (X.wish E) pins D f s') : SP X pins D f s' := by
  cases f with
  | next => obtain ⟨σ', H', I, q⟩ := h; exact ⟨σ', H', I.unwish, q⟩
  | brk => obtain ⟨σ', H', I, q⟩ := h; exact ⟨σ', H', I.unwish, q⟩
  | cont => obtain ⟨σ', H', I, q⟩ := h; exact ⟨σ', H', I.unwish, q⟩
  | ret u => obtain ⟨v, σ', H', I, r, q⟩ := h; exact ⟨v, σ', H', I.unwish, r, q⟩
theorem PE.nox {e : Expr} {t : TE} (h : PE X.nox e t) : PE X e t := fun pins s σ H Q I hw =>
  wpAny_mono (h pins s σ H Q (I.wish _) hw) (fun _ _ ⟨v, H', I', r, q⟩ => ⟨v, H', I'.unwish, r, q⟩) fun _ _ z => False.elim z
theorem PT.nox {e : Expr} {t : TT} (h : PT X.nox e t) : PT X e t := fun pins s σ H Q I hw =>
  wpAny_mono (h pins s σ H Q (I.wish _) hw) (fun _ _ ⟨H', I', q⟩ => ⟨H', I'.unwish, q⟩) fun _ _ z => False.elim z
theorem PSs.nox {st : List Stmt} {t : TS} (h : PSs X.nox st t) : PSs X st t := fun pins s σ H D I hw =>
  wpAny_mono (h pins s σ H D (I.wish _) hw) (fun _ _ q => q.unwish) fun _ _ z => False.elim z
end
section
variable {X : Cx} {st : Stmt} {rest : List Stmt} {t u : TS} {e : Expr} {te : TE} {pos : Pos}
noncomputable def tNext : TS := fun D σ H => D.nx σ H
noncomputable def tSeq (t u : TS) : TS := fun D σ H => t { D with nx := u D } σ H
theorem pss_nil : PSs X [] tNext := fun _ _ σ H _ I h => wpAny_execs_nil ⟨σ, H, I, h⟩
theorem pss_cons (h1 : PS X st t) (h2 : PSs X rest u) : PSs X (st :: rest) (tSeq t u) := by
  intro pins s σ H D I h
  refine wpAny_execs_cons (thn (h1 pins s σ H { D with nx := u D } I h) fun f s1 q => ?_)
  cases f with
  | next =>
    obtain ⟨σ', H', I', q⟩ := q
    exact h2 pins s1 σ' H' D I' q
  | ret v => exact q
  | brk => exact q
  | cont => exact q
theorem pss_one (h1 : PS X st t) : PSs X [st] t := by
  intro pins s σ H D I h
  refine wpAny_execs_cons (thn (h1 pins s σ H D I h) fun f s1 q => ?_)
  cases f with
  | next => exact wpAny_execs_nil q
  | ret v => exact q
  | brk => exact q
  | cont => exact q
theorem Inv.quiet {pins : List (Addr × Obj)} {σ : St} {H : Hp} {s : Shared} (I : Inv X pins σ H s) : interactive X.env = false := by simp [interactive, I.ok.kind]
noncomputable def tDrop (te : TE) : TS := fun D σ H => te σ H fun _ H1 => D.nx σ H1
theorem ps_expr (he : PE X e te) (hs : swapsWith e none pos.line X.env = pure false := by rfl) : PS X (.Expr e pos) (tDrop te) := by
  intro pins s σ H D I h
  exact wpAny_Expr_any (thn (he pins s σ H _ I h) fun v s1 ⟨x, H1, I1, r1, q1⟩ => ⟨σ, H1, I1, q1⟩) I.quiet hs
noncomputable def tRet (te : TE) : TS := fun D σ H => te σ H D.rt
theorem ps_ret (he : PE X e te) : PS X (.Return (some e) pos) (tRet te) := by
  intro pins s σ H D I h
  exact wpAny_Return_some (thn (he pins s σ H _ I h) fun v s1 ⟨x, H1, I1, r1, q1⟩ => ⟨x, σ, H1, I1, r1, q1⟩)
noncomputable def tIfS (c : TT) (t u : TS) : TS := fun D σ H => c σ H fun b H1 => if b = true then t D σ H1 else u D σ H1
theorem ps_if {c : Expr} {a b : List Stmt} {tc : TT} (hc : PT X c tc) (ha : PSs X a t) (hb : PSs X b u) : PS X (.If c a b pos) (tIfS tc t u) := by
  intro pins s σ H D I h
  refine wpAny_If (thn (hc pins s σ H _ I h) fun d s1 ⟨H1, I1, q1⟩ => ?_)
  cases d with
  | true => exact ha pins s1 σ H1 D I1 q1
  | false => exact hb pins s1 σ H1 D I1 q1
end
@[reducible] noncomputable def TG := V → St → Hp → (St → Hp → Prop) → Prop
@[reducible] noncomputable def TGs := List V → St → Hp → (St → Hp → Prop) → Prop
noncomputable def PG (X : Cx) (target : Expr) (t : TG) : Prop :=
  ∀ (pins : List (Addr × Obj)) (s : Shared) (σ : St) (H : Hp) (v : V) (u : Value) (Q : St → Hp → Prop), Inv X pins σ H s → RelV v u → t v σ H Q →
    wpAny (model X.prog X.w) X.A (assign target X.env u) (fun _ s' => ∃ σ' H', Inv X pins σ' H' s' ∧ Q σ' H') X.xe s
noncomputable def PGs (X : Cx) (ts : List Expr) (t : TGs) : Prop :=
  ∀ (pins : List (Addr × Obj)) (s : Shared) (σ : St) (H : Hp) (vs : List V) (us : List Value) (Q : St → Hp → Prop), Inv X pins σ H s → Vals vs us → t vs σ H Q →
    wpAny (model X.prog X.w) X.A (assignInOrder ((assignEach ts X.env).map (·.2)) us) (fun _ s' => ∃ σ' H', Inv X pins σ' H' s' ∧ Q σ' H') X.xe s
@[reducible] noncomputable def TSet := V → V → V → Hp → (Hp → Prop) → Prop
noncomputable def PSet (X : Cx) (t : TSet) : Prop :=
  ∀ (pins : List (Addr × Obj)) (s : Shared) (σ : St) (H : Hp) (o i v : V) (ov iv u : Value) (Q : Hp → Prop), Inv X pins σ H s → RelV o ov → RelV i iv → RelV v u → t o i v H Q →
    wpAny (model X.prog X.w) X.A (setItem ov iv u) (fun _ s' => ∃ H', Inv X pins σ H' s' ∧ Q H') X.xe s
section
variable {X : Cx} {pos : Pos}
noncomputable def gName (i : Nat) : TG := fun v σ H Q => Q (σ.set i (some v)) H
theorem pg_name {i : Nat} {x : Str} (hN : X.N.Nodup) (hi : X.N[i]? = some x) (hx : Loc X.env.scope x) (hf : X.fn x = true ∨ X.env.scope.names.lookup x = some .local := by first | exact .inl rfl | exact .inr rfl | assumption) : PG X (.Name x pos) (gName i) := by
  intro pins s σ H v u Q I r h
  exact wpAny_assign_Name (store_ok I hN hi hx r (fun s' I' => ⟨_, H, I', h⟩) hf)
noncomputable def gNil : TGs := fun vs σ H Q => vs = [] ∧ Q σ H
noncomputable def gCons (t : TG) (u : TGs) : TGs := fun vs σ H Q => ∃ v r, vs = v :: r ∧ t v σ H fun σ' H' => u r σ' H' Q
theorem pgs_nil : PGs X [] gNil := by
  intro pins s σ H vs us Q I r h
  obtain ⟨e, h⟩ := h
  subst e
  cases r
  exact assignInOrder_nil ⟨σ, H, I, h⟩
theorem pgs_cons {e : Expr} {es : List Expr} {t : TG} {u : TGs} (h1 : PG X e t) (h2 : PGs X es u)
    (hs : (assignEach (e :: es) X.env).map (·.2) = assign e X.env :: (assignEach es X.env).map (·.2) := by rfl) : PGs X (e :: es) (gCons t u) := by
  intro pins s σ H vs us Q I r h
  obtain ⟨v, vr, e1, h⟩ := h
  subst e1
  cases r with
  | cons r rr =>
    rw [hs]
    refine assignInOrder_cons (thn (h1 pins s σ H _ _ _ I r h) fun _ s1 ⟨σ1, H1, I1, q1⟩ => ?_)
    exact h2 pins s1 σ1 H1 _ _ Q I1 rr q1
noncomputable def gTup (K : PySem.W.Frag) (n : Nat) (t : TGs) : TG := fun v σ H Q => ∃ a xs, v = .ref a ∧ SqT K H a xs ∧ xs.length = n ∧ t xs σ H Q
theorem pg_tup {es : List Expr} {k : Nat} {t : TGs} {n : Nat} (hc : X.calm = true) (h : PGs X es t)
    (hn : (assignEach es X.env).length = n := by rfl) (hst : (assignEach es X.env).findIdx? (·.1) = none := by rfl) : PG X (.Tuple es k pos) (gTup X.K n t) := by
  intro pins s σ H v u Q I r hw
  obtain ⟨a, xs, e1, hq, hl, hw⟩ := hw
  subst e1
  cases r
  obtain ⟨its, rv, ht, hz⟩ := I.tuple hq
  refine assign_Tuple_tuple (I.ok.hd hc) ht (by simp [hn, ← hl, rv.length]) hst fun h' hx => ?_
  have I1 : Inv X pins σ H { s with heap := h' } := I.kept (t' := s.toks) fun b o e => hx b o (Nat.ne_of_lt (Heap.lt_size e)) e
  exact h pins _ σ H xs _ Q I1 (by simpa using rv) hw
noncomputable def tAsg (te : TE) (g : TG) : TS := fun D σ H => te σ H fun x H1 => g x σ H1 D.nx
theorem ps_set {i : Nat} {x : Str} {e : Expr} {te : TE} {pos' : Pos} (hN : X.N.Nodup) (hi : X.N[i]? = some x) (hx : Loc X.env.scope x) (he : PE X e te) (hs : swapsWith e (some (.Name x pos')) pos.line X.env = pure false := by rfl) (hf : X.fn x = true ∨ X.env.scope.names.lookup x = some .local := by first | exact .inl rfl | exact .inr rfl | assumption) :
    PS X (.Assign [.Name x pos'] e pos) (tAsg te (gName i)) := by
  intro pins s σ H D I h
  refine wpAny_Assign_Name (thn (he pins s σ H _ I h) fun v s1 ⟨y, H1, I1, r1, q1⟩ => ?_) hs
  exact store_ok I1 hN hi hx r1 (fun s2 I2 => ⟨_, H1, I2, q1⟩) hf
end
section
variable {X : Cx} {pos : Pos}
end
structure It where
  go : Nat → Hp → Prop
  yld : Nat → Hp → V → Hp → Prop
  stop : Nat → Hp → Prop
noncomputable def FpOk (X : Cx) (pins : List (Addr × Obj)) (H : Hp) (b : Addr) : Prop :=
  H b = none ∧ b ≠ X.env.locals ∧ b ∉ X.fs ∧ (b ∈ X.ex ∨ X.s₀.heap.objs.size ≤ b) ∧ (∀ x c, X.env.cells.lookup x = some c → c ≠ b) ∧ ∀ p ∈ X.pn ++ pins, p.1 ≠ b
theorem Inv.fpOk {X : Cx} {pins : List (Addr × Obj)} {σ : St} {H H' : Hp} {s : Shared} {b : Addr} (I : Inv X pins σ H s) (hb : s.heap.objs.size ≤ b) (hn : H' b = none) : FpOk X pins H' b := by
  refine ⟨hn, Nat.ne_of_gt (Nat.lt_of_lt_of_le I.lt hb), I.nofs hb, .inr (Nat.le_trans I.sz hb), fun x c e z => ?_, fun p hp z => ?_⟩
  · obtain ⟨v, q⟩ := I.cell x c e
    exact absurd (Nat.lt_of_lt_of_le q.lt (by rw [z]; exact hb)) (Nat.lt_irrefl _)
  · exact absurd (Nat.lt_of_lt_of_le (Heap.lt_size (I.pin p hp).1) (by rw [z]; exact hb)) (Nat.lt_irrefl _)
structure Turn (P : Program) (w : World) (K : PySem.W.Frag) (tg : Expr) (J : It) (fp : List Addr) (it : Addr) (tn : Nat → Heap → Prop) : Prop where
  mem : it ∈ fp
  obj : ∀ i h, tn i h → ∀ b ∈ fp, ∃ o, h.get? b = some o ∧ ∀ v, o.data ≠ .cell v
  keep : ∀ i h h', tn i h → (∀ b ∈ fp, ∀ o, h.get? b = some o → h'.get? b = some o) → tn i h'
  item : ∀ (X : Cx), X.prog = P → X.w = w → X.K = K → X.calm = true → ∀ (i : Nat) (pins : List (Addr × Obj)) (s : Shared) (σ : St) (H : Hp) (E : Value → Shared → Prop), Inv X pins σ H s → (∀ b ∈ fp, FpOk X pins H b) → tn i s.heap → J.go i H →
    wpAny (model P w) X.A (pyNext (.ref it)) (fun r s1 => ∃ u, r = some u ∧
      wpAny (model P w) X.A (letOwnedTupleGo tg (.ref it) u) (fun _ s2 => ∃ x H', Inv X pins σ H' s2 ∧ RelV x u ∧ J.yld i H x H' ∧ tn (i + 1) s2.heap ∧ ∀ b ∈ fp, H' b = none) E s1) E s
  done : ∀ (X : Cx), X.prog = P → X.w = w → X.K = K → X.calm = true → ∀ (i : Nat) (pins : List (Addr × Obj)) (s : Shared) (σ : St) (H : Hp) (E : Value → Shared → Prop), Inv X pins σ H s → (∀ b ∈ fp, FpOk X pins H b) → tn i s.heap → J.stop i H →
    wpAny (model P w) X.A (pyNext (.ref it)) (fun r s1 => r = none ∧ Inv X pins σ H s1) E s
  self : ∀ (A : Around) (i : Nat) (s : Shared) (Q : Value → Shared → Prop) (E : Value → Shared → Prop), tn i s.heap → Q (.ref it) s → wpAny (model P w) A (pyIter (.ref it)) Q E s
@[reducible] noncomputable def TI := St → Hp → (It → Hp → Prop) → Prop
noncomputable def PIE (X : Cx) (pins : List (Addr × Obj)) (σ : St) (tg : Expr) (R : It → Hp → Prop) (itv : Value) (s2 : Shared) : Prop :=
  ∃ (it : Addr) (fp : List Addr) (tn : Nat → Heap → Prop) (J : It) (H' : Hp), itv = .ref it ∧ Inv X pins σ H' s2 ∧ Turn X.prog X.w X.K tg J fp it tn ∧ tn 0 s2.heap ∧ (∀ b ∈ fp, FpOk X pins H' b) ∧ R J H'
noncomputable def PI (X : Cx) (tg iter : Expr) (wi : TI) : Prop :=
  ∀ (pins : List (Addr × Obj)) (s : Shared) (σ : St) (H : Hp) (R : It → Hp → Prop), Inv X pins σ H s → wi σ H R →
    wpAny (model X.prog X.w) X.A (eval iter X.env) (fun v s1 => wpAny (model X.prog X.w) X.A (pyIter v) (PIE X pins σ tg R) X.xe s1) X.xe s
theorem go_of {M : Model} {A : Around} {E : Value → Shared → Prop} {s : Shared} {tg : Expr} {it : Addr} {u : Value} {o : Obj} {n : String} {vs : Array Value} {Q : Unit → Shared → Prop} (ho : s.heap.get? it = some o) (hc : o.cls = .type n) (hd : o.data = .fields vs)
    (hn : ["enumerate", "zip", "dict_itemiterator", "dict_reverseitemiterator", "odict_iterator", "itertools.zip_longest", "itertools.pairwise"].contains n = false) (hQ : Q () s) : wpAny M A (letOwnedTupleGo tg (.ref it) u) Q E s := by
  unfold letOwnedTupleGo
  cases tg <;> first
    | exact wpAny_pure hQ
    | (cases u <;> first
        | exact wpAny_pure hQ
        | (refine wpAny_bind (wpAny_load ho ?_)
           rw [hc, hd]
           show wpAny M A (if (["enumerate", "zip", "dict_itemiterator", "dict_reverseitemiterator", "odict_iterator", "itertools.zip_longest", "itertools.pairwise"].contains n && vs[0]? == some (rawInt _)) = true then _ else _) Q E s
           rw [if_neg (by intro h; rw [hn, Bool.false_and] at h; cases h)]
           exact wpAny_pure hQ))
noncomputable def Itl (K : PySem.W.Frag) (a : Addr) : It :=
  ⟨fun i H => ∃ xs x, SqL K H a xs ∧ xs[i]? = some x, fun i H x H' => H' = H ∧ ∀ xs, SqL K H a xs → xs[i]? = some x, fun i H => ∃ xs, SqL K H a xs ∧ xs.length ≤ i⟩
noncomputable def Itt (K : PySem.W.Frag) (a : Addr) : It :=
  ⟨fun i H => ∃ xs x, SqT K H a xs ∧ xs[i]? = some x, fun i H x H' => H' = H ∧ ∀ xs, SqT K H a xs → xs[i]? = some x, fun i H => ∃ xs, SqT K H a xs ∧ xs.length ≤ i⟩
noncomputable def Itr (lo : Int) (n : Nat) : It := ⟨fun i _ => i < n, fun i H x H' => H' = H ∧ x = .int (lo + i), fun i _ => n ≤ i⟩
theorem turn_list {P : Program} {w : World} {K : PySem.W.Frag} {tg : Expr} (a it : Addr) : Turn P w K tg (Itl K a) [it] it (fun i h => h.IsListIter it a i) where
  mem := by simp
  obj := fun i h st b hb => by
    have e : b = it := by simpa using hb
    subst e
    obtain ⟨o, e, c, d⟩ := st
    exact ⟨o, e, fun v z => by rw [d] at z; cases z⟩
  keep := fun i h h' st k => st.at fun o e => k it (by simp) o e
  item := by
    intro X hP hw hK hc i pins s σ H E I hf st hg
    subst hP hw hK
    obtain ⟨xs, x, hq, hx⟩ := hg
    obtain ⟨its, rv, p, hz⟩ := I.list hq
    obtain ⟨u, hu, ru⟩ := rv.get hx
    obtain ⟨f0, f1, f2, f3, f4, f5⟩ := hf it (by simp)
    refine wpAny_pyNext_list_item st p.isList (x := u) (by simpa using hu) fun h' st' sb => ?_
    have I1 : Inv X pins σ H { s with heap := h' } := I.turned (t' := s.toks) (fun b o hb e => (sb.2 b hb).trans e) f0 f1 f3 f4 f5
    obtain ⟨o, e, c, d⟩ := id st'
    exact ⟨u, rfl, go_of (s := { s with heap := h' }) e c d (by decide) ⟨x, H, I1, ru, ⟨rfl, fun ys hy => by rw [I.list_inj hy hq]; exact hx⟩, st', fun b hb => (hf b hb).1⟩⟩
  done := by
    intro X hP hw hK hc i pins s σ H E I hf st hg
    subst hP hw hK
    obtain ⟨xs, hq, hx⟩ := hg
    obtain ⟨its, rv, p, hz⟩ := I.list hq
    obtain ⟨f0, f1, f2, f3, f4, f5⟩ := hf it (by simp)
    have hl := rv.length
    exact wpAny_pyNext_list_end (I.ok.hd hc) st p.isList (by simp; omega) fun h' eb => ⟨rfl, I.turned (t' := s.toks) (fun b o hb e => eb b o hb e) f0 f1 f3 f4 f5⟩
  self := fun _ _ _ _ _ st h => wpAny_pyIter_listiter st h
theorem turn_tuple {P : Program} {w : World} {K : PySem.W.Frag} {tg : Expr} (a it : Addr) : Turn P w K tg (Itt K a) [it] it (fun i h => h.IsTupleIter it a i) where
  mem := by simp
  obj := fun i h st b hb => by
    have e : b = it := by simpa using hb
    subst e
    obtain ⟨o, e, c, d⟩ := st
    exact ⟨o, e, fun v z => by rw [d] at z; cases z⟩
  keep := fun i h h' st k => st.at fun o e => k it (by simp) o e
  item := by
    intro X hP hw hK hc i pins s σ H E I hf st hg
    subst hP hw hK
    obtain ⟨xs, x, hq, hx⟩ := hg
    obtain ⟨its, rv, p, hz⟩ := I.tuple hq
    obtain ⟨u, hu, ru⟩ := rv.get hx
    obtain ⟨f0, f1, f2, f3, f4, f5⟩ := hf it (by simp)
    refine wpAny_pyNext_tuple_item st (show s.heap.IsTuple a its.toArray from p) (x := u) (by simpa using hu) fun h' st' sb => ?_
    have I1 : Inv X pins σ H { s with heap := h' } := I.turned (t' := s.toks) (fun b o hb e => (sb.2 b hb).trans e) f0 f1 f3 f4 f5
    obtain ⟨o, e, c, d⟩ := id st'
    exact ⟨u, rfl, go_of (s := { s with heap := h' }) e c d (by decide) ⟨x, H, I1, ru, ⟨rfl, fun ys hy => by rw [I.tuple_inj hy hq]; exact hx⟩, st', fun b hb => (hf b hb).1⟩⟩
  done := by
    intro X hP hw hK hc i pins s σ H E I hf st hg
    subst hP hw hK
    obtain ⟨xs, hq, hx⟩ := hg
    obtain ⟨its, rv, p, hz⟩ := I.tuple hq
    obtain ⟨f0, f1, f2, f3, f4, f5⟩ := hf it (by simp)
    have hl := rv.length
    exact wpAny_pyNext_tuple_end (I.ok.hd hc) st (show s.heap.IsTuple a its.toArray from p) (by simp; omega) fun h' eb => ⟨rfl, I.turned (t' := s.toks) (fun b o hb e => eb b o hb e) f0 f1 f3 f4 f5⟩
  self := fun _ _ _ _ _ st h => wpAny_pyIter_tupleiter st h
theorem turn_range {P : Program} {w : World} {K : PySem.W.Frag} {tg : Expr} (it : Addr) (lo : Int) (n : Nat) : Turn P w K tg (Itr lo n) [it] it (fun i h => IsRangeIter h it (lo + (i : Nat) * 1) ((n : Int) - (i : Nat)) 1) where
  mem := by simp
  obj := fun i h st b hb => by
    have e : b = it := by simpa using hb
    subst e
    exact ⟨_, st, fun v z => by
      have z' : Data.fields _ = Data.cell v := z
      cases z'⟩
  keep := fun i h h' st k => k it (by simp) _ st
  item := by
    intro X hP hw hK hc i pins s σ H E I hf st hg
    subst hP hw hK
    obtain ⟨f0, f1, f2, f3, f4, f5⟩ := hf it (by simp)
    have W := Walks.range (prog := X.prog) (w := X.w) (I.ok.hd hc) it lo 1 n
    refine W.item i s _ _ hg st fun v h' tk hv st' kk => ?_
    obtain ⟨t, rfl⟩ := hv
    have I1 : Inv X pins σ H { s with heap := h', toks := tk } := I.turned (fun b o hb e => kk b o (by simpa using hb) e) f0 f1 f3 f4 f5
    refine ⟨_, rfl, go_of (s := { s with heap := h', toks := tk }) (n := "range_iterator") st' rfl rfl (by decide) ⟨.int (lo + i), H, I1, ⟨t, ?_⟩, ⟨rfl, rfl⟩, st', fun b hb => (hf b hb).1⟩⟩
    rw [Int.mul_one]
  done := by
    intro X hP hw hK hc i pins s σ H E I hf st hg
    subst hP hw hK
    obtain ⟨f0, f1, f2, f3, f4, f5⟩ := hf it (by simp)
    exact wpAny_pyNext_range_end (I.ok.hd hc) st (by have : n ≤ i := hg; omega) fun h' eb => ⟨rfl, I.turned (t' := s.toks) (fun b o hb e => eb b o hb e) f0 f1 f3 f4 f5⟩
  self := fun _ _ _ _ _ st h => wpAny_pyIter_rangeiter st h
end L2
namespace L2
open PySem PySem.Spec PyProof.Rows
section
variable {X : Cx} {tg : Expr}
theorem range_it {pins : List (Addr × Obj)} {σ : St} {H : Hp} {s : Shared} {R : It → Hp → Prop} {E : Value → Shared → Prop} {lo hi : Int} {t u v : Tok} {tk : Nat} (I : Inv X pins σ H s) (h1 : -(2 ^ 62) ≤ lo) (h2 : lo < 2 ^ 62) (h3 : -(2 ^ 62) ≤ hi) (h4 : hi < 2 ^ 62)
    (q : R (Itr lo (hi - lo).toNat) H) : wpAny (model X.prog X.w) X.A (pyIter (.ref s.heap.objs.size)) (PIE X pins σ tg R) E { s with heap := s.heap.push { cls := .type "range", data := .fields #[.int lo t, .int hi u, .int 1 v] }, toks := tk } := by
  refine wpAny_pyIter_range (IsRange.new ..) (small_one h1 h2 h3 h4) ?_
  have I1 : Inv X pins σ H { s with heap := s.heap.push { cls := .type "range", data := .fields #[.int lo t, .int hi u, .int 1 v] }, toks := tk } := I.kept fun b o e => Heap.get?_push_of_some _ e
  refine ⟨(s.heap.push { cls := .type "range", data := .fields #[.int lo t, .int hi u, .int 1 v] }).objs.size, [(s.heap.push { cls := .type "range", data := .fields #[.int lo t, .int hi u, .int 1 v] }).objs.size], _, _, H, rfl,
    I1.kept (t' := tk) fun b o e => Heap.get?_push_of_some _ e, turn_range _ lo (hi - lo).toNat, ?_, fun b hb => ?_, q⟩
  · have e1 : lo + ((0 : Nat) : Int) * 1 = lo := by simp
    have e2 : (((hi - lo).toNat : Nat) : Int) - ((0 : Nat) : Int) = Builtin.Range.rangeSize lo hi 1 := by rw [rangeSize_one]; split <;> omega
    show IsRangeIter _ _ (lo + ((0 : Nat) : Int) * 1) ((((hi - lo).toNat : Nat) : Int) - ((0 : Nat) : Int)) 1
    rw [e1, e2]
    exact Heap.get?_push_size _ rfl
  · have e : b = (s.heap.push { cls := .type "range", data := .fields #[.int lo t, .int hi u, .int 1 v] }).objs.size := by simpa using hb
    subst e
    exact I1.fpOk (Nat.le_refl _) (I1.hok.fresh (Nat.le_refl _))
noncomputable def tFor (wi : TI) (g : TG) (tb : TS) : TS := fun D σ H => wi σ H fun J H1 => ∃ W : Nat → Nat → St → Hp → Prop, (∃ m, W 0 m σ H1) ∧ ∀ i m σ H, W i m σ H →
  (J.stop i H ∧ D.nx σ H) ∨ (J.go i H ∧ ∃ N : St → Hp → Prop, (∀ σ' H', N σ' H' → ∃ m', m' < m ∧ W (i + 1) m' σ' H') ∧ ∀ x H', J.yld i H x H' → g x σ H' fun σ2 H2 => tb { D with nx := N, ct := N, bk := D.nx } σ2 H2)
noncomputable def pinsAt (fp : List Addr) (h : Heap) : List (Addr × Obj) := fp.filterMap fun b => (h.get? b).map fun o => (b, o)
theorem mem_pinsAt {fp : List Addr} {h : Heap} {b : Addr} {o : Obj} (hb : b ∈ fp) (e : h.get? b = some o) : (b, o) ∈ pinsAt fp h := List.mem_filterMap.mpr ⟨b, hb, by rw [e]; rfl⟩
theorem of_pinsAt {fp : List Addr} {h : Heap} {p : Addr × Obj} (hp : p ∈ pinsAt fp h) : p.1 ∈ fp ∧ h.get? p.1 = some p.2 := by
  obtain ⟨b, hb, e⟩ := List.mem_filterMap.mp hp
  cases q : h.get? b with
  | none => rw [q] at e; cases e
  | some o =>
    rw [q] at e
    have e' : (b, o) = p := Option.some.inj e
    subst e'
    exact ⟨hb, q⟩
theorem Inv.pinned {pins : List (Addr × Obj)} {σ : St} {H : Hp} {s : Shared} {fp : List Addr} (I : Inv X pins σ H s) (hf : ∀ b ∈ fp, FpOk X pins H b) (ho : ∀ b ∈ fp, ∃ o, s.heap.get? b = some o ∧ ∀ v, o.data ≠ .cell v) : Inv X (pins ++ pinsAt fp s.heap) σ H s :=
  I.pins_of fun p hp => (List.mem_append.mp hp).elim (fun z => I.pin p (List.mem_append_right _ z)) fun z => by
    obtain ⟨hb, e⟩ := of_pinsAt z
    obtain ⟨f0, f1, f2, _⟩ := hf p.1 hb
    obtain ⟨o, e', d⟩ := ho p.1 hb
    rw [e] at e'; cases e'
    exact ⟨e, f0, f1, f2, d⟩
theorem Inv.unpinned {pins pl : List (Addr × Obj)} {σ : St} {H : Hp} {s : Shared} (I : Inv X (pins ++ pl) σ H s) : Inv X pins σ H s := I.pins_of fun p hp => I.pin p (List.mem_append_right _ (List.mem_append_left _ hp))
theorem ps_for {iter : Expr} {body : List Stmt} {wi : TI} {g : TG} {tb : TS} {pos : Pos} (hp : PassesOwn (model X.prog X.w) X.A X.env X.xe) (hc : X.calm = true) (hi : PI X tg iter wi) (hg : PG X tg g) (hb : PSs X body tb)
    (hs : ∀ x, foldedSetIterable iter X.env x = pure x := by intro _; rfl) : PS X (.For tg iter body [] pos) (tFor wi g tb) := by
  intro pins s σ H D I h
  refine wpAny_For (thn (hi pins s σ H _ I h) fun v s1 h1 => thn h1 fun itv s2 h2 => ?_) hs
  obtain ⟨it, fp, tn, J, H2, e, I2, T, st2, f2, W, ⟨m0, w0⟩, turn⟩ := h2
  subst e
  -- what stays true of the iterator's objects through the loop
  have stat : ∀ {H' : Hp}, (∀ b ∈ fp, H' b = none) → ∀ b ∈ fp, FpOk X pins H' b := fun hn b hb => ⟨hn b hb, (f2 b hb).2⟩
  refine codeAny_forLoop_any (fun n s' => ∃ i σ' H', Inv X pins σ' H' s' ∧ tn i s'.heap ∧ (∀ b ∈ fp, H' b = none) ∧ W i n σ' H') ?_ m0 ⟨0, σ, H2, I2, st2, fun b hb => (f2 b hb).1, w0⟩
  rintro n s3 ⟨i, σ3, H3, I3, st3, fr3, w3⟩
  rcases turn i n σ3 H3 w3 with ⟨stop, qn⟩ | ⟨go, N, hN, step⟩
  · refine wpAny_passesOwn hp (thn (T.done X rfl rfl rfl hc i pins s3 σ3 H3 X.xe I3 (stat fr3) st3 stop) fun r s4 ⟨hr, I4⟩ => ?_)
    subst hr
    exact wpAny_execs_nil ⟨σ3, H3, I4, qn⟩
  · refine wpAny_passesOwn hp (thn (T.item X rfl rfl rfl hc i pins s3 σ3 H3 X.xe I3 (stat fr3) st3 go) fun r s4 ⟨u, hr, h4⟩ => ?_)
    subst hr
    refine wpAny_passesOwn hp (thn h4 fun _ s5 ⟨x, H5, I5, r5, y5, st5, fr5⟩ => ?_)
    have I5' := I5.pinned (stat fr5) (T.obj _ _ st5)
    refine wpAny_passesOwn hp (thn (hg _ s5 σ3 H5 x u _ I5' r5 (step x H5 y5)) fun _ s6 ⟨σ6, H6, I6, q6⟩ => ?_)
    refine wpAny_passesOwn hp (thn (hb _ s6 σ6 H6 _ I6 q6) fun f s7 q7 => ?_)
    have again : ∀ {σ7 : St} {H7 : Hp}, Inv X (pins ++ pinsAt fp s5.heap) σ7 H7 s7 → N σ7 H7 → ∃ m, m < n ∧ ∃ i σ' H', Inv X pins σ' H' s7 ∧ tn i s7.heap ∧ (∀ b ∈ fp, H' b = none) ∧ W i m σ' H' := fun {σ7 H7} I7 n7 => by
      obtain ⟨m', hm, w7⟩ := hN σ7 H7 n7
      refine ⟨m', hm, i + 1, σ7, H7, I7.unpinned, T.keep _ _ _ st5 fun b hb o e => (I7.pin (b, o) (List.mem_append_right _ (List.mem_append_right _ (mem_pinsAt hb e)))).1, fun b hb => ?_, w7⟩
      obtain ⟨o, e, d⟩ := T.obj _ _ st5 b hb
      exact (I7.pin (b, o) (List.mem_append_right _ (List.mem_append_right _ (mem_pinsAt hb e)))).2.1
    cases f with
    | next => obtain ⟨σ7, H7, I7, n7⟩ := q7; exact again I7 n7
    | cont => obtain ⟨σ7, H7, I7, n7⟩ := q7; exact again I7 n7
    | brk => obtain ⟨σ7, H7, I7, q7⟩ := q7; exact ⟨σ7, H7, I7.unpinned, q7⟩
    | ret v => obtain ⟨x7, σ7, H7, I7, r7, q7⟩ := q7; exact ⟨x7, σ7, H7, I7.unpinned, r7, q7⟩
end
end L2
namespace L2
open PySem PySem.Spec PyProof.Rows
@[reducible] noncomputable def R2 := V → V → Hp → VK → Prop
noncomputable def OpR (X : Cx) (f : Value → Value → Sem Value) (r : R2) : Prop :=
  ∀ (pins : List (Addr × Obj)) (s : Shared) (σ : St) (H : Hp) (x y : V) (v u : Value) (Q : VK), Inv X pins σ H s → RelV x v → RelV y u → r x y H Q →
    wpAny (model X.prog X.w) X.A (f v u) (EP X pins σ Q) X.xe s
noncomputable def UnR (X : Cx) (f : Value → Sem Value) (r : V → Hp → VK → Prop) : Prop :=
  ∀ (pins : List (Addr × Obj)) (s : Shared) (σ : St) (H : Hp) (x : V) (v : Value) (Q : VK), Inv X pins σ H s → RelV x v → r x H Q →
    wpAny (model X.prog X.w) X.A (f v) (EP X pins σ Q) X.xe s
noncomputable def CallR (X : Cx) (f : Value) (r : List V → Hp → VK → Prop) : Prop :=
  ∀ (pins : List (Addr × Obj)) (s : Shared) (σ : St) (H : Hp) (xs : List V) (us : List Value) (Q : VK), Inv X pins σ H s → Vals xs us → r xs H Q →
    wpAny (model X.prog X.w) X.A (call f us) (EP X pins σ Q) X.xe s
noncomputable def TruR (X : Cx) (r : V → Hp → (Bool → Hp → Prop) → Prop) : Prop :=
  ∀ (pins : List (Addr × Obj)) (s : Shared) (σ : St) (H : Hp) (x : V) (v : Value) (Q : Bool → Hp → Prop), Inv X pins σ H s → RelV x v → r x H Q →
    wpAny (model X.prog X.w) X.A (truthy v) (TP X pins σ Q) X.xe s
noncomputable def tOp (r : R2) (ta tb : TE) : TE := fun σ H Q => ta σ H fun x H1 => tb σ H1 fun y H2 => r x y H2 Q
noncomputable def tUn (r : V → Hp → VK → Prop) (ta : TE) : TE := fun σ H Q => ta σ H fun x H1 => r x H1 Q
noncomputable def rI (C : Int → Int → Prop) (g : Int → Int → V) : R2 := fun x y H Q => ∃ i j, x = .int i ∧ y = .int j ∧ C i j ∧ Q (g i j) H
noncomputable def rI0 (g : Int → Int → V) : R2 := fun x y H Q => ∃ i j, x = .int i ∧ y = .int j ∧ Q (g i j) H
noncomputable def rU (g : Int → V) : V → Hp → VK → Prop := fun x H Q => ∃ i, x = .int i ∧ Q (g i) H
section
variable {X : Cx} {a b c : Expr} {ta tb tc : TE} {pos : Pos}
theorem binT (ha : PE X a ta) (hb : PE X b tb) {pins : List (Addr × Obj)} {s : Shared} {σ : St} {H : Hp} {R : V → V → Hp → Prop} (I : Inv X pins σ H s)
    (h : ta σ H fun x H1 => tb σ H1 fun y H2 => R x y H2) {Q : Value → Shared → Prop} {f : Value → Value → Sem Value}
    (hf : ∀ v u s2 x y H2, Inv X pins σ H2 s2 → RelV x v → RelV y u → R x y H2 → wpAny (model X.prog X.w) X.A (f v u) Q X.xe s2) :
    wpAny (model X.prog X.w) X.A (eval a X.env) (fun v s₁ => wpAny (model X.prog X.w) X.A (eval b X.env) (fun u s₂ => wpAny (model X.prog X.w) X.A (f v u) Q X.xe s₂) X.xe s₁) X.xe s := by
  refine thn (ha pins s σ H _ I h) fun v s1 ⟨x, H1, I1, r1, q1⟩ => ?_
  refine thn (hb pins s1 σ H1 _ I1 q1) fun u s2 ⟨y, H2, I2, r2, q2⟩ => ?_
  exact hf v u s2 x y H2 I2 r1 r2 q2
theorem pe_op {op : Operator} {r : R2} (ho : OpR X (binaryOp op) r) (ha : PE X a ta) (hb : PE X b tb) : PE X (.BinOp a op b pos) (tOp r ta tb) := by
  intro pins s σ H Q I h
  exact wpAny_BinOp (binT ha hb I h fun v u s2 x y H2 I2 rx ry q => ho pins s2 σ H2 x y v u Q I2 rx ry q)
theorem pe_un {op : UnaryOp} {r : V → Hp → VK → Prop} (ho : UnR X (unaryOp op) r) (ha : PE X a ta) : PE X (.UnaryOp op a pos) (tUn r ta) := by
  intro pins s σ H Q I h
  exact UnaryOp_ (thn (ha pins s σ H _ I h) fun v s1 ⟨x, H1, I1, r1, q1⟩ => ho pins s1 σ H1 x v Q I1 r1 q1)
theorem opI {f : Value → Value → Sem Value} {C : Int → Int → Prop} {g : Int → Int → Int}
    (rule : ∀ (i j : Int) (t u : Tok) (s : Shared) (Q : Value → Shared → Prop) (E : Value → Shared → Prop), C i j → Q (.int (g i j) s.toks) { s with toks := s.toks + 1 } → wpAny (model X.prog X.w) X.A (f (.int i t) (.int j u)) Q E s) :
    OpR X f (rI C fun i j => .int (g i j)) := by
  intro pins s σ H x y v u Q I rx ry h
  obtain ⟨i, j, rfl, rfl, hc, q⟩ := h
  obtain ⟨t, rfl⟩ := rx
  obtain ⟨t', rfl⟩ := ry
  exact rule i j t t' s _ _ hc ⟨.int (g i j), H, I.tok _, ⟨_, rfl⟩, q⟩
theorem opI0 {f : Value → Value → Sem Value} {g : Int → Int → Int}
    (rule : ∀ (i j : Int) (t u : Tok) (s : Shared) (Q : Value → Shared → Prop) (E : Value → Shared → Prop), Q (.int (g i j) s.toks) { s with toks := s.toks + 1 } → wpAny (model X.prog X.w) X.A (f (.int i t) (.int j u)) Q E s) :
    OpR X f (rI0 fun i j => .int (g i j)) := by
  intro pins s σ H x y v u Q I rx ry h
  obtain ⟨i, j, rfl, rfl, q⟩ := h
  obtain ⟨t, rfl⟩ := rx
  obtain ⟨t', rfl⟩ := ry
  exact rule i j t t' s _ _ ⟨.int (g i j), H, I.tok _, ⟨_, rfl⟩, q⟩
theorem opB0 {f : Value → Value → Sem Value} {g : Int → Int → Bool}
    (rule : ∀ (i j : Int) (t u : Tok) (s : Shared) (Q : Value → Shared → Prop) (E : Value → Shared → Prop), Q (.bool (g i j)) s → wpAny (model X.prog X.w) X.A (f (.int i t) (.int j u)) Q E s) :
    OpR X f (rI0 fun i j => .bl (g i j)) := by
  intro pins s σ H x y v u Q I rx ry h
  obtain ⟨i, j, rfl, rfl, q⟩ := h
  obtain ⟨t, rfl⟩ := rx
  obtain ⟨t', rfl⟩ := ry
  exact rule i j t t' s _ _ ⟨.bl (g i j), H, I, rfl, q⟩
noncomputable def CDiv (i j : Int) : Prop := 0 < j ∧ j < 1073741824
noncomputable def CPow (i j : Int) : Prop := 0 ≤ j ∧ j ≤ 1000000 ∧ i.natAbs < 2 ^ 64
noncomputable def CMul (i j : Int) : Prop := (-(2 ^ 64) < i ∧ i < 2 ^ 64) ∨ (-(2 ^ 64) < j ∧ j < 2 ^ 64)
theorem CMul.ok {i j : Int} (h : CMul i j) : IntMulOk i j := by
  rcases h with ⟨h1, h2⟩ | ⟨h1, h2⟩
  · exact .of_left (intBits_le_64 h1 h2)
  · exact .of_right (intBits_le_64 h1 h2)
theorem op_add : OpR X (binaryOp .Add) (rI0 fun i j => .int (i + j)) := opI0 fun _ _ _ _ _ _ _ q => add_int q
theorem op_mul : OpR X (binaryOp .Mult) (rI CMul fun i j => .int (i * j)) := opI fun _ _ _ _ _ _ _ hc q => mul_int q hc.ok
theorem op_fdiv : OpR X (binaryOp .FloorDiv) (rI CDiv fun i j => .int (i / j)) := opI fun i j _ _ _ _ _ hc q => by
  have h1 : (0 : Int) < j := hc.1
  have h2 : j < 1073741824 := hc.2
  exact floordiv_int (by omega) (by rw [Int.fdiv_eq_ediv_of_nonneg i (by omega)]; exact q) (.inl (PyProof.noPylong_small (by omega)))
theorem op_mod : OpR X (binaryOp .Mod) (rI (fun _ j => 0 < j) fun i j => .int (i % j)) := opI fun i j _ _ _ _ _ hc q => by
  have h1 : (0 : Int) < j := hc
  exact mod_int' (by omega) (by rw [Int.fmod_eq_emod_of_nonneg i (by omega)]; exact q)
theorem op_pow : OpR X (binaryOp .Pow) (rI CPow fun i j => .int (i ^ j.toNat)) := opI fun _ _ _ _ _ _ _ hc q => pow_int_small hc.1 hc.2.1 hc.2.2 q
theorem unI {f : Value → Sem Value} {g : Int → Int}
    (rule : ∀ (i : Int) (t : Tok) (s : Shared) (Q : Value → Shared → Prop) (E : Value → Shared → Prop), Q (.int (g i) s.toks) { s with toks := s.toks + 1 } → wpAny (model X.prog X.w) X.A (f (.int i t)) Q E s) :
    UnR X f (rU fun i => .int (g i)) := by
  intro pins s σ H x v Q I rx h
  obtain ⟨i, rfl, q⟩ := h
  obtain ⟨t, rfl⟩ := rx
  exact rule i t s _ _ ⟨.int (g i), H, I.tok _, ⟨_, rfl⟩, q⟩
theorem un_neg : UnR X (unaryOp .USub) (rU fun i => .int (-i)) := unI fun _ _ _ _ _ q => neg_int q
end
noncomputable def scal : V → V → Bool
  | .non, .non => true | .non, .int _ => true | .int _, .non => true | .non, .bl _ => true | .bl _, .non => true | .non, .str _ => true | .str _, .non => true
  | .int _, .int _ => true | .bl _, .bl _ => true | .str _, .str _ => true | .byt _, .byt _ => true
  | .int _, .str _ => true | .str _, .int _ => true | .bl _, .str _ => true | .str _, .bl _ => true
  | _, _ => false
noncomputable def rEq : R2 := fun x y H Q => scal x y = true ∧ Q (.bl (decide (x = y))) H
noncomputable def rNe : R2 := fun x y H Q => scal x y = true ∧ Q (.bl (!decide (x = y))) H
theorem dec_int {i j : Int} : decide (V.int i = V.int j) = (i == j) := by
  rw [Bool.eq_iff_iff]
  simp
theorem dec_bl {i j : Bool} : decide (V.bl i = V.bl j) = (i == j) := by
  rw [Bool.eq_iff_iff]
  simp
theorem dec_str {i j : Str} : decide (V.str i = V.str j) = (i == j) := by
  rw [Bool.eq_iff_iff]
  simp
theorem dec_byt {i j : Array UInt8} : decide (V.byt i = V.byt j) = (i.toList == j.toList) := by
  rw [Bool.eq_iff_iff]
  cases i
  cases j
  simp
section
variable {X : Cx} {a b c : Expr} {ta tb tc : TE} {pos : Pos}
theorem fin_bl {pins : List (Addr × Obj)} {σ : St} {H : Hp} {s : Shared} {Q : VK} {k k' : Bool} (I : Inv X pins σ H s) (q : Q (.bl k) H) (e : k = k') : EP X pins σ Q (.bool k') s := by
  subst e
  exact ⟨.bl k, H, I, rfl, q⟩
theorem op_eq : OpR X (compareOp .Eq) rEq := by
  intro pins s σ H x y v u Q I rx ry h
  obtain ⟨hs, q⟩ := h
  cases x with
  | non =>
    cases rx
    cases y with
    | non => cases ry; exact PySem.EqNone.eq_none_none (fin_bl I q (by simp))
    | bl j => cases ry; exact PySem.EqNone.eq_none_bool (fin_bl I q (by simp))
    | int j => obtain ⟨t', rfl⟩ := ry; exact PySem.EqNone.eq_none_int (fin_bl I q (by simp))
    | str j => obtain ⟨t', rfl⟩ := ry; exact PySem.EqNone.eq_none_str (fin_bl I q (by simp))
    | _ => exact absurd (show false = true from hs) Bool.false_ne_true
  | bl i =>
    cases rx
    cases y with
    | non => cases ry; exact PySem.EqNone.eq_bool_none (fin_bl I q (by simp))
    | bl j => cases ry; exact eq_bool (fin_bl I q dec_bl)
    | str j => obtain ⟨t', rfl⟩ := ry; exact PySem.EqMixed.eq_bool_str (fin_bl I q (by simp))
    | _ => exact absurd (show false = true from hs) Bool.false_ne_true
  | int i =>
    obtain ⟨t, rfl⟩ := rx
    cases y with
    | non => cases ry; exact PySem.EqNone.eq_int_none (fin_bl I q (by simp))
    | int j => obtain ⟨t', rfl⟩ := ry; exact eq_int (fin_bl I q dec_int)
    | str j => obtain ⟨t', rfl⟩ := ry; exact PySem.EqMixed.eq_int_str (fin_bl I q (by simp))
    | _ => exact absurd (show false = true from hs) Bool.false_ne_true
  | str i =>
    obtain ⟨t, rfl⟩ := rx
    cases y with
    | non => cases ry; exact PySem.EqNone.eq_str_none (fin_bl I q (by simp))
    | bl j => cases ry; exact PySem.EqMixed.eq_str_bool (fin_bl I q (by simp))
    | int j => obtain ⟨t', rfl⟩ := ry; exact PySem.EqMixed.eq_str_int (fin_bl I q (by simp))
    | str j => obtain ⟨t', rfl⟩ := ry; exact eq_str (fin_bl I q dec_str)
    | _ => exact absurd (show false = true from hs) Bool.false_ne_true
  | byt i =>
    obtain ⟨t, rfl⟩ := rx
    cases y with
    | byt j => obtain ⟨t', rfl⟩ := ry; exact PySem.W.eq_bytes (fin_bl I q dec_byt)
    | _ => exact absurd (show false = true from hs) Bool.false_ne_true
  | _ => cases y <;> exact absurd (show false = true from hs) Bool.false_ne_true
theorem op_ne : OpR X (compareOp .NotEq) rNe := by
  intro pins s σ H x y v u Q I rx ry h
  obtain ⟨hs, q⟩ := h
  cases x with
  | non =>
    cases rx
    cases y with
    | non => cases ry; exact PySem.EqNone.ne_none_none (fin_bl I q (by simp))
    | bl j => cases ry; exact PySem.EqNone.ne_none_bool (fin_bl I q (by simp))
    | int j => obtain ⟨t', rfl⟩ := ry; exact PySem.EqNone.ne_none_int (fin_bl I q (by simp))
    | str j => obtain ⟨t', rfl⟩ := ry; exact PySem.EqNone.ne_none_str (fin_bl I q (by simp))
    | _ => exact absurd (show false = true from hs) Bool.false_ne_true
  | bl i =>
    cases rx
    cases y with
    | non => cases ry; exact PySem.EqNone.ne_bool_none (fin_bl I q (by simp))
    | bl j => cases ry; exact ne_bool (fin_bl I q (congrArg not dec_bl))
    | str j => obtain ⟨t', rfl⟩ := ry; exact PySem.EqMixed.ne_bool_str (fin_bl I q (by simp))
    | _ => exact absurd (show false = true from hs) Bool.false_ne_true
  | int i =>
    obtain ⟨t, rfl⟩ := rx
    cases y with
    | non => cases ry; exact PySem.EqNone.ne_int_none (fin_bl I q (by simp))
    | int j => obtain ⟨t', rfl⟩ := ry; exact ne_int (fin_bl I q (congrArg not dec_int))
    | str j => obtain ⟨t', rfl⟩ := ry; exact PySem.EqMixed.ne_int_str (fin_bl I q (by simp))
    | _ => exact absurd (show false = true from hs) Bool.false_ne_true
  | str i =>
    obtain ⟨t, rfl⟩ := rx
    cases y with
    | non => cases ry; exact PySem.EqNone.ne_str_none (fin_bl I q (by simp))
    | bl j => cases ry; exact PySem.EqMixed.ne_str_bool (fin_bl I q (by simp))
    | int j => obtain ⟨t', rfl⟩ := ry; exact PySem.EqMixed.ne_str_int (fin_bl I q (by simp))
    | str j => obtain ⟨t', rfl⟩ := ry; exact ne_str (fin_bl I q (congrArg not dec_str))
    | _ => exact absurd (show false = true from hs) Bool.false_ne_true
  | byt i =>
    obtain ⟨t, rfl⟩ := rx
    cases y with
    | byt j => obtain ⟨t', rfl⟩ := ry; exact PySem.W.ne_bytes (fin_bl I q (congrArg not dec_byt))
    | _ => exact absurd (show false = true from hs) Bool.false_ne_true
  | _ => cases y <;> exact absurd (show false = true from hs) Bool.false_ne_true
theorem op_lt : OpR X (compareOp .Lt) (rI0 fun i j => .bl (decide (i < j))) := opB0 fun _ _ _ _ _ _ _ q => lt_int q
theorem op_le : OpR X (compareOp .LtE) (rI0 fun i j => .bl (decide (i ≤ j))) := opB0 fun _ _ _ _ _ _ _ q => le_int q
theorem op_lt_str : OpR X (compareOp .Lt) (fun x y H Q => ∃ i j, x = .str i ∧ y = .str j ∧ Q (.bl (decide (i.cps.toList < j.cps.toList))) H) := by
  intro pins s σ H x y v u Q I rx ry h
  obtain ⟨i, j, rfl, rfl, q⟩ := h
  obtain ⟨t, rfl⟩ := rx
  obtain ⟨t', rfl⟩ := ry
  exact lt_str (fin_bl I q rfl)
theorem op_in_str : OpR X (compareOp .In) (fun x y H Q => ∃ i j, x = .str i ∧ y = .str j ∧ Q (.bl (!(Builtin.Str.occurrences j i 0 j.length 1).isEmpty)) H) := by
  intro pins s σ H x y v u Q I rx ry h
  obtain ⟨i, j, rfl, rfl, q⟩ := h
  obtain ⟨t, rfl⟩ := rx
  obtain ⟨t', rfl⟩ := ry
  exact in_str (fin_bl I q rfl)
theorem op_isN : OpR X (compareOp .Is) (fun x y H Q => y = .non ∧ Q (.bl (decide (x = .non))) H) := by
  intro pins s σ H x y v u Q I rx ry h
  obtain ⟨rfl, q⟩ := h
  cases ry
  refine is_none_gen (fin_bl I q ?_)
  cases x <;> first
    | (cases rx; rfl)
    | (obtain ⟨t, rfl⟩ := rx; rfl)
theorem op_notin_str : OpR X (compareOp .NotIn) (fun x y H Q => ∃ i j, x = .str i ∧ y = .str j ∧ Q (.bl (!(!(Builtin.Str.occurrences j i 0 j.length 1).isEmpty))) H) := by
  intro pins s σ H x y v u Q I rx ry h
  obtain ⟨i, j, rfl, rfl, q⟩ := h
  obtain ⟨t, rfl⟩ := rx
  obtain ⟨t', rfl⟩ := ry
  exact notIn_str (fin_bl I q rfl)
theorem OpR.or {f : Value → Value → Sem Value} {r r' : R2} (h : OpR X f r) (h' : OpR X f r') : OpR X f (fun x y H Q => r x y H Q ∨ r' x y H Q) := by
  intro pins s σ H x y v u Q I rx ry q
  rcases q with q | q
  · exact h pins s σ H x y v u Q I rx ry q
  · exact h' pins s σ H x y v u Q I rx ry q
theorem pe_cmpR {op : CmpOp} {r : R2} (ho : OpR X (compareOp op) r) (ha : PE X a ta) (hb : PE X b tb) (hm : behindInMarks op b = false) : PE X (.Compare a [op] [b] pos) (tOp r ta tb) := by
  intro pins s σ H Q I h
  exact wpAny_Compare1 (binT ha hb I h fun v u s2 x y H2 I2 rx ry q => ho pins s2 σ H2 x y v u Q I2 rx ry q) hm
noncomputable def tTest (t : TE) : TT := fun σ H Q => t σ H fun x H' => ∃ k, x = .bl k ∧ Q k H'
theorem pt_cmpR {op : CmpOp} {r : R2} (ho : OpR X (compareOp op) r) (ha : PE X a ta) (hb : PE X b tb) (hm : behindInMarks op b = false) : PT X (.Compare a [op] [b] pos) (tTest (tOp r ta tb)) := by
  intro pins s σ H Q I h
  refine wpAny_isTrue_Compare1 (thn (ha pins s σ H _ I h) fun v s1 ⟨x, H1, I1, r1, q1⟩ => thn (hb pins s1 σ H1 _ I1 q1) fun u s2 ⟨y, H2, I2, r2, q2⟩ =>
    thn (ho pins s2 σ H2 x y v u _ I2 r1 r2 q2) fun c s3 ⟨z, H3, I3, r3, k, e, q3⟩ => ?_) hm
  subst e
  cases r3
  exact wpAny_truthy_bool ⟨H3, I3, q3⟩
noncomputable def tChain (r r' : R2) (ta tb tc : TE) : TE := fun σ H Q => ta σ H fun x H1 => tb σ H1 fun y H2 => r x y H2 fun z H3 => ∃ k, z = .bl k ∧
  (if k = true then tc σ H3 fun w' H4 => r' y w' H4 Q else Q (.bl false) H3)
theorem pe_chain {op op' : CmpOp} {r r' : R2} (ho : OpR X (compareOp op) r) (ho' : OpR X (compareOp op') r') (ha : PE X a ta) (hb : PE X b tb) (hc : PE X c tc)
    (hm : lastMarks [op, op'] [b, c] = false := by with_unfolding_all rfl) : PE X (.Compare a [op, op'] [b, c] pos) (tChain r r' ta tb tc) := by
  intro pins s σ H Q I h
  refine Compare_chain (thn (ha pins s σ H _ I h) fun v s1 ⟨x, H1, I1, r1, q1⟩ => chain_link (thn (hb pins s1 σ H1 _ I1 q1) fun u s2 ⟨y, H2, I2, r2, q2⟩ =>
    thn (ho pins s2 σ H2 x y v u _ I2 r1 r2 q2) fun d s3 ⟨z, H3, I3, r3, k, e, q3⟩ => ?_)) hm
  subst e
  cases r3
  refine wpAny_truthy_bool ?_
  cases k with
  | false => exact ite_ff ⟨.bl false, H3, I3, rfl, q3⟩
  | true => exact ite_tt (chain_last (thn (hc pins s3 σ H3 _ I3 q3) fun w' s4 ⟨z', H4, I4, r4, q4⟩ => ho' pins s4 σ H4 y z' u w' Q I4 r2 r4 q4))
theorem pt_chain {op op' : CmpOp} {r r' : R2} (ho : OpR X (compareOp op) r) (ho' : OpR X (compareOp op') r') (ha : PE X a ta) (hb : PE X b tb) (hc : PE X c tc)
    (hm : lastMarks [op, op'] [b, c] = false := by with_unfolding_all rfl) : PT X (.Compare a [op, op'] [b, c] pos) (tTest (tChain r r' ta tb tc)) := by
  intro pins s σ H Q I h
  refine isTrue_chain (thn (ha pins s σ H _ I h) fun v s1 ⟨x, H1, I1, r1, q1⟩ => test_link (thn (hb pins s1 σ H1 _ I1 q1) fun u s2 ⟨y, H2, I2, r2, q2⟩ =>
    thn (ho pins s2 σ H2 x y v u _ I2 r1 r2 q2) fun d s3 ⟨z, H3, I3, r3, k, e, q3⟩ => ?_)) hm
  subst e
  cases r3
  refine wpAny_truthy_bool ?_
  cases k with
  | false =>
    obtain ⟨k', e', q'⟩ := q3
    cases e'
    exact ite_ff ⟨H3, I3, q'⟩
  | true =>
    refine ite_tt (test_last (thn (hc pins s3 σ H3 _ I3 q3) fun w' s4 ⟨z', H4, I4, r4, q4⟩ => thn (ho' pins s4 σ H4 y z' u w' _ I4 r2 r4 q4) fun d' s5 ⟨z2, H5, I5, r5, k2, e2, q5⟩ => ?_))
    subst e2
    cases r5
    exact wpAny_truthy_bool ⟨H5, I5, q5⟩
noncomputable def TruV (K : PySem.W.Frag) (x : V) (H : Hp) (k : Bool) : Prop :=
  match x with
  | .non => k = false
  | .bl b => k = b
  | .int i => k = (i != 0)
  | .str y => y.length ≤ sizeLine ∧ k = ((y.length : Int) != 0)
  | .byt y => y.size ≤ sizeLine ∧ k = ((y.size : Int) != 0)
  | .ref p => (∃ xs, SqL K H p xs ∧ k = !xs.isEmpty) ∨ (∃ xs, SqT K H p xs ∧ k = !xs.isEmpty) ∨ ∃ kvs, H p = some (.dK kvs) ∧ k = !kvs.isEmpty
  | _ => False
theorem isEmpty_kv {κ : Type} {kvs : List (κ × V)} {vs : List (κ × Value)} (r : KV kvs vs) : (!vs.isEmpty) = !kvs.isEmpty := by
  cases r <;> rfl
theorem isEmpty_of {xs : List V} {its : List Value} (r : Vals xs its) : (!its.toArray.isEmpty) = !xs.isEmpty := by
  cases r <;> simp
theorem line63 : (sizeLine : Nat) < 2 ^ 63 := by rw [sizeLine_eq]; decide
theorem tru_ok : TruR X (fun x H Q => ∃ k, TruV X.K x H k ∧ Q k H) := by
  intro pins s σ H x v Q I rx h
  obtain ⟨k, e, q⟩ := h
  have hl := line63
  have hs : sizeLine = 16777216 := sizeLine_eq
  cases x with
  | non =>
    cases rx
    have e' : k = false := e
    subst e'
    exact truthy_none ⟨H, I, q⟩
  | bl b =>
    cases rx
    have e' : k = b := e
    subst e'
    exact wpAny_truthy_bool ⟨H, I, q⟩
  | int i =>
    obtain ⟨t, rfl⟩ := rx
    have e' : k = (i != 0) := e
    subst e'
    exact PySem.P.truthy_int ⟨H, I, q⟩
  | str y =>
    obtain ⟨t, rfl⟩ := rx
    obtain ⟨hy, e'⟩ : y.length ≤ sizeLine ∧ k = ((y.length : Int) != 0) := e
    subst e'
    exact PySem.P.truthy_str (by omega) ⟨H, I.tok _, q⟩
  | byt y =>
    obtain ⟨t, rfl⟩ := rx
    obtain ⟨hy, e'⟩ : y.size ≤ sizeLine ∧ k = ((y.size : Int) != 0) := e
    subst e'
    exact PySem.W.truthy_bytes (by omega) ⟨H, I.tok _, q⟩
  | ref p =>
    cases rx
    have e' : (∃ xs, SqL X.K H p xs ∧ k = !xs.isEmpty) ∨ (∃ xs, SqT X.K H p xs ∧ k = !xs.isEmpty) ∨ ∃ kvs, H p = some (.dK kvs) ∧ k = !kvs.isEmpty := e
    rcases e' with ⟨xs, hx, e'⟩ | ⟨xs, hx, e'⟩ | ⟨kvs, hx, e'⟩
    · subst e'
      obtain ⟨its, r, pl, hz⟩ := I.list hx
      have hlen := r.length
      exact wpAny_truthy_list pl.isList (by simp only [List.size_toArray]; omega) ⟨H, I.tok _, by rw [isEmpty_of r]; exact q⟩
    · subst e'
      obtain ⟨its, r, pl, hz⟩ := I.tuple hx
      have hlen := r.length
      exact truthy_tuple pl (by simp only [List.size_toArray]; omega) ⟨H, I.tok _, by rw [isEmpty_of r]; exact q⟩
    · subst e'
      obtain ⟨hz, hS, vs, r, m⟩ : kvs.length ≤ sizeLine ∧ (p == sysModules) = false ∧ ∃ vs, KV kvs vs ∧ s.heap.DictOf (mixKind X.prog X.w) p vs := I.hok p _ hx
      have hlen : kvs.length = vs.length := Paired.length r
      exact wpAny_truthy_dict hS m (by omega) ⟨H, I.tok _, by rw [isEmpty_kv r]; exact q⟩
  | _ => exact (show False from e).elim
theorem op_add_str : OpR X (binaryOp .Add) (fun x y H Q => ∃ i j, x = .str i ∧ y = .str j ∧ i.length + j.length ≤ sizeLine ∧ Q (.str (i ++ j)) H) := by
  intro pins s σ H x y v u Q I rx ry h
  obtain ⟨i, j, rfl, rfl, hz, q⟩ := h
  obtain ⟨t, rfl⟩ := rx
  obtain ⟨t', rfl⟩ := ry
  exact add_str (fun t' tk => ⟨.str (i ++ j), H, I.tok _, ⟨_, rfl⟩, q⟩) hz
theorem vals1 {x : V} {us : List Value} (r : Vals [x] us) : ∃ u, us = [u] ∧ RelV x u := by
  cases r with
  | cons r1 r2 => cases r2; exact ⟨_, rfl, r1⟩
theorem call_int1 : CallR X (.type "int") (fun xs H Q => (∃ i, xs = [.int i] ∧ Q (.int i) H) ∨ ∃ k, xs = [.bl k] ∧ Q (.int (if k then 1 else 0)) H) := by
  intro pins s σ H xs us Q I r h
  rcases h with ⟨i, rfl, q⟩ | ⟨k, rfl, q⟩
  · obtain ⟨u, rfl, t, rfl⟩ := vals1 r
    exact call_int_int ⟨.int i, H, I, ⟨_, rfl⟩, q⟩
  · obtain ⟨u, rfl, r1⟩ := vals1 r
    cases r1
    exact call_int_bool ⟨.int (if k then 1 else 0), H, I.tok _, ⟨_, rfl⟩, q⟩
theorem call_str_int : CallR X (.type "str") (fun xs H Q => ∃ i, xs = [.int i] ∧ i.natAbs.log2 < 1920 ∧ Q (.str (toString i)) H) := by
  intro pins s σ H xs us Q I r h
  obtain ⟨i, rfl, hz, q⟩ := h
  obtain ⟨u, rfl, t, rfl⟩ := vals1 r
  exact PySem.P.str_of_int hz ⟨.str _, H, I.tok _, ⟨_, rfl⟩, q⟩
end
end L2
namespace L2
open PySem PySem.Spec PyProof.Rows
structure ObjM (h : Heap) (x dx C : Addr) (mA : Str → Option Value) : Prop where
  obj : h.get? x = some (PySem.W.instObj C dx)
  ns : h.Ns1 dx mA
  ne : dx ≠ x
theorem lookIn_ns {h : Heap} {dx : Addr} {mA : Str → Option Value} (n : h.Ns1 dx mA) : ∃ od, h.get? dx = some od ∧ ∀ name, PySem.W.lookIn name od = some (mA name) := by
  obtain ⟨o, es, ep, ho, hd, hk, _, hm⟩ := n
  refine ⟨o, ho, fun name => ?_⟩
  have e := hm name
  unfold nsFind findBy at e
  rw [← Array.find?_toList] at e
  unfold PySem.W.lookIn
  rw [hd]
  dsimp only
  split
  · rename_i y q
    rw [q] at e
    exact congrArg some e
  · rename_i q
    rw [q] at e
    have a : es.toList.any (·.refKey) = false := by
      rw [List.any_eq_false]
      intro y hy
      obtain ⟨z, t, hkey⟩ := hk y (Array.mem_toList_iff.mp hy)
      simp [DictEntry.refKey, hkey]
    have a' : ¬ es.toList.any (·.refKey) = true := by rw [a]; exact Bool.false_ne_true
    rw [if_neg a']
    exact congrArg some e
theorem ObjM.look {h : Heap} {x dx C : Addr} {mA : Str → Option Value} (I : ObjM h x dx C mA) : ∃ od, PySem.W.InstAt h x (PySem.W.instObj C dx) C (some od) ∧ ∀ name, PySem.W.lookIn name od = some (mA name) :=
  let ⟨od, ho, hl⟩ := lookIn_ns I.ns
  ⟨od, ⟨I.obj, rfl, rfl, ho⟩, hl⟩
section
variable {prog : Program} {w : World} {A : Around} {E : Value → Shared → Prop} {s : Shared} {K : PySem.W.Frag} {x dx C f : Addr} {mA : Str → Option Value} {name : Str} {v : Value}
end
theorem RelO.some_of {v : V} {o : Option Value} (r : RelO (some v) o) : ∃ u, o = some u ∧ RelV v u := by
  cases o with
  | none => exact (show False from r).elim
  | some u => exact ⟨u, rfl, r⟩
theorem RelO.none_of {o : Option Value} (r : RelO none o) : o = none := by
  cases o with
  | none => rfl
  | some u => exact (show False from r).elim
theorem handed_of {v : V} {u : Value} (r : RelV v u) : PySem.W.handedIn u = true := by
  cases v with
  | non => cases (show u = Value.none from r); rfl
  | bl b => cases (show u = Value.bool b from r); rfl
  | int i => obtain ⟨t, e⟩ := (show ∃ t, u = Value.int i t from r); cases e; rfl
  | str x => obtain ⟨t, e⟩ := (show ∃ t, u = Value.str x t from r); cases e; rfl
  | byt b => obtain ⟨t, e⟩ := (show ∃ t, u = Value.bytes b t from r); cases e; rfl
  | flt b => obtain ⟨t, e⟩ := (show ∃ t, u = Value.float b t from r); cases e; rfl
  | ref a => cases (show u = Value.ref a from r); rfl
  | ty n => cases (show u = Value.type n from r); rfl
section
variable {P : Program} {w : World} {H H' : Hp} {h h' : Heap} {a C dx : Addr} {fs fs' : List (Str × V)}
theorem ins_get (hok : HOk P w H h) (e : H a = some (.ins C dx fs)) : ∃ mA, ObjM h a dx C mA ∧ (∀ f, RelO (fs.lookup f) (mA f)) ∧ PySem.Within mA (fs.map (·.1)) ∧ fs.length ≤ 1000 ∧ H dx = some (.own a) := by
  obtain ⟨d, z, ne, ob, mA, n, r, q⟩ := (show ObjOk P w H h a (.ins C dx fs) from hok a _ e)
  exact ⟨mA, ⟨ob, n, ne⟩, r, q, z, d⟩
end
structure Cls (K : PySem.W.Frag) (C : Addr) : Prop where
  pg : PySem.W.plainGet K C Str.empty = true
  hd : PySem.W.hasDictIn K C = true
  po : PySem.W.plainOver K C = true
  sa : PySem.W.findIn K (.ref C) "__setattr__" = some (some (.builtin "object.__setattr__"))
theorem Cls.get {K : PySem.W.Frag} {C : Addr} (c : Cls K C) (f : Str) : PySem.W.plainGet K C f = true := c.pg
noncomputable def NoAttr (K : PySem.W.Frag) (C : Addr) (f : Str) : Prop := PySem.W.findIn K (.ref C) f = some none
structure Con (K : PySem.W.Frag) (C : Addr) (f : Str) (v : V) (u : Value) : Prop where
  at_ : PySem.W.findIn K (.ref C) f = some (some u)
  rel : RelV v u
  get : PySem.W.specialIn K u "__get__" = some none
  cp : PySem.W.copiedNames.contains f = false
structure Meth (K : PySem.W.Frag) (C : Addr) (m : Str) (f : Addr) : Prop where
  at_ : PySem.W.findIn K (.ref C) m = some (some (.ref f))
  fn : PySem.W.isFn K (.ref f) = true
  kp : PySem.W.keepIn K (.ref f) = true
section
variable {X : Cx} {pins : List (Addr × Obj)} {σ : St} {H : Hp} {s : Shared} {a C dx : Addr} {fs : List (Str × V)} {f : Str} {v : V} {A : Around} {E : Value → Shared → Prop}
theorem Inv.made (I : Inv X pins σ H s) : Inv X pins σ (upd (upd H s.heap.objs.size (.own (s.heap.objs.size + 1))) (s.heap.objs.size + 1) (.ins C s.heap.objs.size []))
    { s with heap := (s.heap.push PySem.W.emptyDict).push (PySem.W.instObj C s.heap.objs.size) } := by
  have e1 : (s.heap.push PySem.W.emptyDict).get? s.heap.objs.size = some PySem.W.emptyDict := Heap.get?_push_size s.heap rfl
  have e2 : ((s.heap.push PySem.W.emptyDict).push (PySem.W.instObj C s.heap.objs.size)).get? (s.heap.objs.size + 1) = some (PySem.W.instObj C s.heap.objs.size) := by
    have := Heap.get?_push_size (s.heap.push PySem.W.emptyDict) (o := PySem.W.instObj C s.heap.objs.size) rfl
    rwa [Heap.size_push] at this
  have e3 : (s.heap.push PySem.W.emptyDict).Ns s.heap.objs.size (fun _ => none) := ⟨PySem.W.emptyDict, #[], _, e1, rfl, (fun e he => absurd he (by simp)), fun _ => rfl⟩
  have I1 := I.laid (a := s.heap.objs.size) (o := .own (s.heap.objs.size + 1)) (h' := s.heap.push PySem.W.emptyDict) (t' := s.toks) (fun b u q => Heap.get?_push_of_some _ q) (Nat.le_refl _) ⟨_, e1⟩
  refine I1.laid (a := s.heap.objs.size + 1) (o := .ins C s.heap.objs.size []) (t' := s.toks) (fun b u q => Heap.get?_push_of_some _ q) (Nat.le_of_eq (Heap.size_push _ _)) ?_
  have ne : s.heap.objs.size ≠ s.heap.objs.size + 1 := Nat.ne_of_lt (Nat.lt_succ_self _)
  refine ⟨by rw [upd_ne ne, upd_same], Nat.zero_le _, ne, e2, fun _ => none, (Heap.Ns1.of_empty e3).at fun o q => Heap.get?_push_of_some _ q, fun _ => True.intro, fun y hy => absurd rfl hy⟩
theorem attr_of {prog : Program} {w : World} {env : Env} {e : Expr} {f : Str} {pos : Pos} {s : Shared} {Q : Value → Shared → Prop} (hb : attributeBase e f env (eval e env) = eval e env)
    (h : wpAny (model prog w) A (eval e env) (fun o s₁ => wpAny (model prog w) A (getAttr o f true) Q E s₁) E s) : wpAny (model prog w) A (eval (.Attribute e f pos) env) Q E s :=
  Attribute_any_ h (by rw [arm_eval_Attribute, hb])
end
section
variable {X : Cx} {o e value : Expr} {f : Str} {pos pos' tpos : Pos} {ta tv : TE}
end
section
variable {X : Cx} {pins : List (Addr × Obj)} {σ : St} {H : Hp} {s : Shared} {A : Around} {E : Value → Shared → Prop} {Q : Value → Shared → Prop} {c : Value} {b : Bool}
inductive TyOf (K : PySem.W.Frag) (H : Hp) : V → Value → Prop where
  | non : TyOf K H .non (.type "NoneType")
  | bl (x : Bool) : TyOf K H (.bl x) (.type "bool")
  | int (i : Int) : TyOf K H (.int i) (.type "int")
  | str (x : Str) : TyOf K H (.str x) (.type "str")
  | flt (x : UInt64) : TyOf K H (.flt x) (.type "float")
  | lst {a : Addr} {xs : List V} (e : H a = some (.lst xs)) : TyOf K H (.ref a) (.type "list")
  | frz {a : Addr} {o : Obj} {xs : List V} (e : H a = some (.frz o (.lst xs))) : TyOf K H (.ref a) (.type "list")
  | tup {a : Addr} {xs : List V} (e : H a = some (.tup xs)) : TyOf K H (.ref a) (.type "tuple")
  | dK {a : Addr} {kvs : List (Key × V)} (e : H a = some (.dK kvs)) : TyOf K H (.ref a) (.type "dict")
  | dT {a : Addr} {kvs : List (List Key × V)} (e : H a = some (.dT kvs)) : TyOf K H (.ref a) (.type "dict")
  | ins {a C dx : Addr} {fs : List (Str × V)} (e : H a = some (.ins C dx fs)) (cl : Cls K C) (ha : PySem.W.findIn K (.ref C) "__class__" = some (some (.builtin "object.__class__")))
      (hn : PySem.W.specialIn K (.builtin "object.__class__") "__get__" = some (some (.builtin "getset_descriptor.__get__"))) (htk : PySem.W.takesIn K (.builtin "object.__class__") = some true)
      (hm : PySem.W.mroIn K C (.type "object") = some true) : TyOf K H (.ref a) (.ref C)
theorem isinst_ok {x : V} {u t : Value} (I : Inv X pins σ H s) (rx : RelV x u) (ty : TyOf X.K H x t) (e : PySem.W.kitOne X.K t c = some b) (h : ∀ tk, Q (.bool b) { s with toks := tk }) :
    wpAny (model X.prog X.w) A (call (.builtin "isinstance") [u, c]) Q E s := by
  cases ty with
  | non => cases (show u = Value.none from rx); exact PySem.W.kia_one PySem.W.kitx_none I.kIn True.intro e (fun z => nomatch z) h
  | bl y => cases (show u = Value.bool y from rx); exact PySem.W.kia_one PySem.W.kitx_bool I.kIn True.intro e (fun z => nomatch z) h
  | int i => obtain ⟨t, q⟩ := (show ∃ t, u = Value.int i t from rx); cases q; exact PySem.W.kia_one PySem.W.kitx_int I.kIn True.intro e (fun z => nomatch z) h
  | str y => obtain ⟨t, q⟩ := (show ∃ t, u = Value.str y t from rx); cases q; exact PySem.W.kia_one PySem.W.kitx_str I.kIn True.intro e (fun z => nomatch z) h
  | flt y => obtain ⟨t, q⟩ := (show ∃ t, u = Value.float y t from rx); cases q; exact PySem.W.kia_one PySem.W.kitx_float I.kIn True.intro e (fun z => nomatch z) h
  | @lst a xs ea =>
    cases (show u = Value.ref a from rx)
    obtain ⟨_, _, n, _, h1⟩ := (show ObjOk X.prog X.w H s.heap a (.lst xs) from I.hok a _ ea)
    exact PySem.W.kia_one PySem.W.kitx_list I.kIn ⟨_, h1, rfl⟩ e (fun z => nomatch z) h
  | @frz a ob xs ea =>
    cases (show u = Value.ref a from rx)
    obtain ⟨_, _, _, n, _, h1⟩ := (show ObjOk X.prog X.w H s.heap a (.frz ob (.lst xs)) from I.hok a _ ea)
    exact PySem.W.kia_one PySem.W.kitx_list I.kIn ⟨_, h1, rfl⟩ e (fun z => nomatch z) h
  | @tup a xs ea =>
    cases (show u = Value.ref a from rx)
    obtain ⟨_, _, _, p⟩ := (show ObjOk X.prog X.w H s.heap a (.tup xs) from I.hok a _ ea)
    obtain ⟨o, h1, h2, _⟩ := p
    exact PySem.W.kia_one PySem.W.kitx_tuple I.kIn ⟨o, h1, h2⟩ e (fun z => nomatch z) h
  | @dK a kvs ea =>
    cases (show u = Value.ref a from rx)
    obtain ⟨_, _, vs, _, p⟩ := (show ObjOk X.prog X.w H s.heap a (.dK kvs) from I.hok a _ ea)
    obtain ⟨o, es, ep, h1, h2, _⟩ := p
    exact PySem.W.kia_one PySem.W.kitx_dict I.kIn ⟨o, h1, h2.1⟩ e (fun z => nomatch z) h
  | @dT a kvs ea =>
    cases (show u = Value.ref a from rx)
    obtain ⟨_, _, xs, _, o, es, ep, h1, h2, _⟩ := (show ObjOk X.prog X.w H s.heap a (.dT kvs) from I.hok a _ ea)
    exact PySem.W.kia_one PySem.W.kitx_dict I.kIn ⟨o, h1, h2.1⟩ e (fun z => nomatch z) h
  | @ins a C dx fs ea cl ha hn htk hm =>
    cases (show u = Value.ref a from rx)
    obtain ⟨mA, O, _⟩ := ins_get I.hok ea
    obtain ⟨od, J, _⟩ := O.look
    exact PySem.W.kia_one (PySem.W.kitx_own (cl.get _) cl.hd ha hn htk hm) I.kIn J e (fun z => nomatch z) h
end
end L2
namespace L2
open PySem PySem.Spec PyProof.Rows
structure Room (k : Nat) (A : Around) : Prop where
  hd : A.handled = none
  dp : A.depth + 3 * k + 5 < recursionLimit
  un : A.units + 16 * k + 200 < cLine
theorem Room.mono {j k : Nat} {A : Around} (r : Room k A) (h : j ≤ k) : Room j A := ⟨r.hd, by have := r.dp; omega, by have := r.un; omega⟩
theorem Room.deeper {k : Nat} {A : Around} (r : Room (k + 1) A) (env : Env) : Room k (A.deeper env) :=
  ⟨r.hd, by have := r.dp; show A.depth + 1 + 3 * k + 5 < _; omega, by have := r.un; show A.units + 3 + 16 * k + 200 < _; omega⟩
theorem Room.in1 {k : Nat} {A : Around} (r : Room (k + 1) A) : Room k A.in1 :=
  ⟨r.hd, by have := r.dp; show A.depth + 3 * k + 5 < _; omega, by have := r.un; show A.units + 1 + 16 * k + 200 < _; omega⟩
theorem make_depth {A : Around} {C : Addr} {us : List Value} {kw : List (Str × Value)} : (A.under (.builtin "type.__call__" ⟨.ref C :: us, kw⟩)).depth = A.depth + 1 := by
  first | rfl | simp [Around.under, Code.weight, Code.isCreation, Code.isGuard, Code.isCaller, Code.frames, Code.isFrame, guardIds]
theorem make_units {A : Around} {C : Addr} {us : List Value} {kw : List (Str × Value)} : (A.under (.builtin "type.__call__" ⟨.ref C :: us, kw⟩)).units = A.units + 1 := by
  first | rfl | simp [Around.under, Code.cUnits, Code.frames, Code.isFrame]
theorem Room.make {k : Nat} {A : Around} (r : Room (k + 1) A) (C : Addr) (us : List Value) (kw : List (Str × Value)) : Room k (A.under (.builtin "type.__call__" ⟨.ref C :: us, kw⟩)) :=
  ⟨r.hd, by have := r.dp; rw [make_depth]; omega, by have := r.un; rw [make_units]; omega⟩
theorem Room.depth {k : Nat} {A : Around} (r : Room k A) : A.depth < recursionLimit := by have := r.dp; omega
theorem Room.units {k : Nat} {A : Around} (r : Room k A) : A.units + 64 < cLine := by have := r.un; omega
noncomputable def tNil : TA := fun _ H Q => Q [] H
noncomputable def tCons (ta : TE) (tr : TA) : TA := fun σ H Q => ta σ H fun x H1 => tr σ H1 fun xs H2 => Q (x :: xs) H2
section
variable {X : Cx} {e : Expr} {es : List Expr} {te : TE} {t : TA} {pos : Pos}
theorem pa_nil : PA X [] tNil := fun _ _ _ _ H Q I h => Calls.spliced_nil ⟨[], H, I, .nil, h⟩
theorem pa_cons (ha : PE X e te) (hr : PA X es t) (hs : starEach (e :: es) X.env = (false, eval e X.env) :: starEach es X.env := by rfl) : PA X (e :: es) (tCons te t) := by
  intro pos pins s σ H Q I h
  rw [hs]
  show wpAny _ _ (spliced ((false, eval e X.env) :: backTo pos (starEach es X.env))) _ _ s
  refine Calls.spliced_cons (thn (ha pins s σ H _ I h) fun u s1 ⟨x, H1, I1, r1, q1⟩ => ?_)
  exact thn (hr pos pins s1 σ H1 _ I1 q1) fun us s2 ⟨xs, H2, I2, r2, q2⟩ => ⟨x :: xs, H2, I2, .cons r1 r2, q2⟩
end
@[reducible] noncomputable def Sp := List V → Hp → VK → XK → Prop
@[reducible] noncomputable def CXT := List Env → Hp → Shared → XK → Value → Shared → Prop
structure Env0 (P : Program) (w : World) (K : PySem.W.Frag) (mg : Str → Option Value) (base : Heap) (A : Around) (outer : List Env) (s : Shared) (H : Hp) : Prop where
  frames : A.frames = some outer
  mod : Mod K mg base
  bs : ∀ b o, base.get? b = some o → s.heap.get? b = some o ∧ H b = none
  bsz : base.objs.size ≤ s.heap.objs.size
  funs : s.heap.FunFrames base outer
  frf : ∀ b ∈ frs outer, H b = none
  hok : HOk P w H s.heap
  bare : AllBare s.gens
noncomputable def CE (outer : List Env) (P : Program) (w : World) (H : Hp) (s : Shared) (Q : VK) (u : Value) (s' : Shared) : Prop :=
  ∃ v H', s'.os = s.os ∧ AllBare s'.gens ∧ Un (frs outer) [] H H' s.heap s'.heap ∧ HOk P w H' s'.heap ∧ RelV v u ∧ Q v H'
noncomputable def CR (CX : CXT) (outer : List Env) (P : Program) (w : World) (H : Hp) (s : Shared) (Q : VK) (E : XK) (r : Result) (s' : Shared) : Prop :=
  match r with
  | .ok (.ret u) => CE outer P w H s Q u s'
  | .ok _ => False
  | .error e => CX outer H s E e s'
structure FnOk (P : Program) (w : World) (K : PySem.W.Frag) (mg : Str → Option Value) (base : Heap) (CX : CXT) (k : Nat) (f : Addr) (fd : FuncData) (ps : List Str) (sp : Sp) : Prop where
  len : ∀ vs H Q E, sp vs H Q E → vs.length = ps.length
  run : ∀ (A : Around) (outer : List Env) (s : Shared) (H : Hp) (args : Args) (us : List Value) (vs : List V) (Q : VK) (E : XK), Room k A → Env0 P w K mg base A outer s H → BindsTo s fd args (ps.zip us) → Vals vs us → sp vs H Q E →
    codeAny (model P w) A (.call (.ref f) args) (CR CX outer P w H s Q E) s
theorem FnOk.mono {P : Program} {w : World} {K : PySem.W.Frag} {mg : Str → Option Value} {base : Heap} {CX : CXT} {j k : Nat} {f : Addr} {fd : FuncData} {ps : List Str} {sp : Sp} (F : FnOk P w K mg base CX j f fd ps sp) (h : j ≤ k) :
    FnOk P w K mg base CX k f fd ps sp := ⟨F.len, fun A outer s H args us vs Q E hr => F.run A outer s H args us vs Q E (hr.mono h)⟩
theorem FnOk.imp {P : Program} {w : World} {K : PySem.W.Frag} {mg : Str → Option Value} {base : Heap} {CX : CXT} {k : Nat} {f : Addr} {fd : FuncData} {ps : List Str} {sp sp' : Sp} (F : FnOk P w K mg base CX k f fd ps sp)
    (h : ∀ vs H Q E, sp' vs H Q E → sp vs H Q E) : FnOk P w K mg base CX k f fd ps sp' :=
  ⟨fun vs H Q E q => F.len vs H Q E (h _ _ _ _ q), fun A outer s H args us vs Q E hr he hb hv hs => F.run A outer s H args us vs Q E hr he hb hv (h _ _ _ _ hs)⟩
theorem Env0.make {P : Program} {w : World} {K : PySem.W.Frag} {mg : Str → Option Value} {base : Heap} {A : Around} {outer : List Env} {s : Shared} {H : Hp} (e : Env0 P w K mg base A outer s H) (C : Addr) (us : List Value) (kw : List (Str × Value)) :
    Env0 P w K mg base (A.under (.builtin "type.__call__" ⟨.ref C :: us, kw⟩)) outer s H := ⟨by first | exact e.frames | (simpa [Around.under, Code.envs, Code.isFrame, pushEnvs] using e.frames), e.mod, e.bs, e.bsz, e.funs, e.frf, e.hok, e.bare⟩
theorem Env0.in1 {P : Program} {w : World} {K : PySem.W.Frag} {mg : Str → Option Value} {base : Heap} {A : Around} {outer : List Env} {s : Shared} {H : Hp} (e : Env0 P w K mg base A outer s H) :
    Env0 P w K mg base A.in1 outer s H := ⟨e.frames, e.mod, e.bs, e.bsz, e.funs, e.frf, e.hok, e.bare⟩
section
variable {X : Cx} {pins : List (Addr × Obj)} {σ : St} {H : Hp} {s s' : Shared}
theorem Inv.env0 (I : Inv X pins σ H s) : Env0 X.prog X.w X.K X.mg X.base X.A X.stack s H :=
  ⟨I.ok.frames, I.ok.mod, I.bs, Nat.le_trans I.ok.bsz I.sz, I.stack, I.stkFree, I.hok, I.bare⟩
theorem Inv.after {Q : VK} {u : Value} (I : Inv X pins σ H s) (h : CE X.stack X.prog X.w H s Q u s') : EP X pins σ Q u s' := by
  obtain ⟨v, H', os, bare, un, hok, r, q⟩ := h
  obtain ⟨hh, g, d, t, os'⟩ := s'
  obtain rfl : os' = s.os := os
  exact ⟨v, H', I.call (h' := hh) (g' := g) (d' := d) (t' := t) (ch := []) un hok bare (fun b z => absurd z (by simp)), r, q⟩
end
noncomputable def Binds (K : PySem.W.Frag) (fd : FuncData) (ps : List Str) (ds : List Value) : Prop :=
  ∀ (s : Shared) (us : List Value), K.In s.heap → (us ++ ds).length = ps.length → BindsTo s fd ⟨us, []⟩ (ps.zip (us ++ ds))
theorem Binds.all {K : PySem.W.Frag} {fd : FuncData} {ps : List Str} (h : ∀ us : List Value, us.length = ps.length → bindArgs fd ⟨us, []⟩ = pure (ps.zip us)) : Binds K fd ps [] := fun s us _ hl => by
  rw [List.append_nil] at hl ⊢
  exact .of_eq (h us hl)
section
variable {X : Cx} {CX : CXT} {k : Nat} {f C : Addr} {fd : FuncData} {ps : List Str} {sp : Sp} {dvs : List V} {ds : List Value} {E : XK} {x m : Str} {p pos apos : Pos} {e o : Expr} {es : List Expr} {ta : TE} {t : TA}
structure Mk (K : PySem.W.Frag) (C f : Addr) : Prop where
  makes : PySem.W.makesIn K C = true
  init : PySem.W.findIn K (.ref C) "__init__" = some (some (.ref f))
  fn : PySem.W.isFn K (.ref f) = true
  kp : PySem.W.keepIn K (.ref C) = true
end
section
variable {X : Cx} {CX : CXT} {k : Nat} {f C : Addr} {fd : FuncData} {ps ks : List Str} {sp : Sp} {E : XK} {x m : Str} {p pos apos kpos : Pos} {e o : Expr} {es : List Expr} {kws : List Keyword} {te ta : TE} {t tk : TA} {nm : Option Str}
structure KBinds (K : PySem.W.Frag) (fd : FuncData) (ps ks : List Str) (g : List Value → List Value → List Value) (gV : List V → List V → List V) : Prop where
  to : ∀ (s : Shared) (us ws : List Value), K.In s.heap → (g us ws).length = ps.length → BindsTo s fd ⟨us, ks.zip ws⟩ (ps.zip (g us ws))
  rel : ∀ {vs : List V} {us : List Value} {zs : List V} {ws : List Value}, Vals vs us → Vals zs ws → Vals (gV vs zs) (g us ws)
variable {g : List Value → List Value → List Value} {gV : List V → List V → List V}
end
structure FnScope (N P : List Str) (sc : Scope) : Prop where
  kind : sc.kind = .function
  co : sc.isCoroutine = false
  gen : sc.isGenerator = false
  nd : N.Nodup
  pre : N.take P.length = P
  par : ∀ x ∈ P, sc.names.lookup x = some .local ∨ sc.names.lookup x = some .cell
  nofree : ∀ y ∈ sc.names, y.2 ≠ .free
theorem bindL_out {kindOf : Str → Option NameKind} {x : Str} : ∀ {binds : List (Str × Value)} {m : Str → Option Value}, (∀ v, (x, v) ∉ binds) → bindL kindOf binds m x = m x
  | [], _, _ => rfl
  | (n, v) :: r, m, h => by
    unfold bindL
    rw [bindL_out fun w hw => h w (List.mem_cons_of_mem _ hw)]
    split
    · have : x ≠ n := by rintro rfl; exact h v List.mem_cons_self
      simp [this]
    · rfl
theorem bindC_out {kindOf : Str → Option NameKind} {x : Str} : ∀ {binds : List (Str × Value)} {m : Str → Option Value}, (∀ v, (x, v) ∉ binds) → bindC kindOf binds m x = m x
  | [], _, _ => rfl
  | (n, v) :: r, m, h => by
    unfold bindC
    rw [bindC_out fun w hw => h w (List.mem_cons_of_mem _ hw)]
    split
    · rfl
    · have : x ≠ n := by rintro rfl; exact h v List.mem_cons_self
      simp [this]
theorem bindL_get {kindOf : Str → Option NameKind} {x : Str} {v : Value} : ∀ {P : List Str} {vs : List Value} {i : Nat} {m : Str → Option Value}, P.Nodup → P[i]? = some x → vs[i]? = some v → kindOf x = some .local →
    bindL kindOf (P.zip vs) m x = some v
  | [], _, _, _, _, h, _, _ => by simp at h
  | _ :: _, [], _, _, _, _, h, _ => by simp at h
  | p :: P, w :: vs, 0, m, nd, h1, h2, hk => by
    simp at h1 h2; subst h1; subst h2
    show bindL kindOf ((p, w) :: P.zip vs) m p = _
    unfold bindL
    rw [bindL_out fun v hv => (List.nodup_cons.mp nd).1 (List.of_mem_zip hv).1, if_pos hk]
    simp
  | p :: P, w :: vs, i + 1, m, nd, h1, h2, hk => by
    show bindL kindOf ((p, w) :: P.zip vs) m x = _
    unfold bindL
    exact bindL_get (i := i) (List.nodup_cons.mp nd).2 (by simpa using h1) (by simpa using h2) hk
theorem bindC_get {kindOf : Str → Option NameKind} {x : Str} {v : Value} : ∀ {P : List Str} {vs : List Value} {i : Nat} {m : Str → Option Value}, P.Nodup → P[i]? = some x → vs[i]? = some v → kindOf x ≠ some .local →
    bindC kindOf (P.zip vs) m x = some v
  | [], _, _, _, _, h, _, _ => by simp at h
  | _ :: _, [], _, _, _, _, h, _ => by simp at h
  | p :: P, w :: vs, 0, m, nd, h1, h2, hk => by
    simp at h1 h2; subst h1; subst h2
    show bindC kindOf ((p, w) :: P.zip vs) m p = _
    unfold bindC
    rw [bindC_out fun v hv => (List.nodup_cons.mp nd).1 (List.of_mem_zip hv).1, if_neg hk]
    simp
  | p :: P, w :: vs, i + 1, m, nd, h1, h2, hk => by
    show bindC kindOf ((p, w) :: P.zip vs) m x = _
    unfold bindC
    exact bindC_get (i := i) (List.nodup_cons.mp nd).2 (by simpa using h1) (by simpa using h2) hk
noncomputable def start (N : List Str) (vs : List V) : St := vs.map some ++ List.replicate (N.length - vs.length) none
noncomputable def cxOf (CX : CXT) (P : Program) (w : World) (K : PySem.W.Frag) (mg : Str → Option Value) (base : Heap) (N : List Str) (qual : Str) (scope : Scope) (f : Addr) (cd : Value) (A : Around) (outer : List Env) (s : Shared) (H : Hp) (E : XK) : Cx where
  prog := P
  w := w
  K := K
  mg := mg
  base := base
  A := A.deeper (envOfC qual scope s.heap.objs.size f cd)
  N := N
  s₀ := s
  H₀ := H
  env := envOfC qual scope s.heap.objs.size f cd
  outer := outer
  stack := envOfC qual scope s.heap.objs.size f cd :: outer
  ex := []
  calm := true
  fn := fun _ => true
  pn := []
  xe := fun e s' => wpAny (model P w) (A.deeper (envOfC qual scope s.heap.objs.size f cd)) (leaving (envOfC qual scope s.heap.objs.size f cd) e) (fun _ s'' => CX outer H s E e s'') (fun e' s'' => CX outer H s E e' s'') s'
theorem cell_has {sc : Scope} {n : Nat} {x : Str} (h : sc.names.lookup x = some .cell) : ∃ c, (cellsFrom n sc.names []).lookup x = some c := by
  have q := PySem.W.cellsFrom_some sc.names n [] (.inl h)
  exact Option.isSome_iff_exists.mp q
theorem inv_start {CX : CXT} {P : Program} {w : World} {K : PySem.W.Frag} {mg : Str → Option Value} {base : Heap} {N ps : List Str} {qual : Str} {scope : Scope} {f : Addr} {cd : Value} {A : Around} {outer : List Env} {s s1 : Shared} {H : Hp} {E : XK} {us : List Value} {vs : List V}
    (S : FnScope N ps scope) (hd : A.handled = none) (e0 : Env0 P w K mg base A outer s H) (hl : vs.length = ps.length) (r : Vals vs us)
    (x : InCallC s s.heap.objs.size (bindL (envOfC qual scope s.heap.objs.size f cd).kindOf (ps.zip us) fun _ => none) (cellsFrom (s.heap.objs.size + 1) scope.names []) (bindC (envOfC qual scope s.heap.objs.size f cd).kindOf (ps.zip us) fun _ => none) s1) :
    Inv (cxOf CX P w K mg base N qual scope f cd A outer s H E) [] (start N vs) H s1 := by
  have hpl : ps.length ≤ N.length := by have := congrArg List.length S.pre; rw [List.length_take] at this; omega
  obtain ⟨h1, tk, rfl, hk⟩ := x.done
  have noA : ∀ b : Addr, b ∉ (cxOf CX P w K mg base N qual scope f cd A outer s H E).ex := fun b z => absurd (show b ∈ ([] : List Addr) from z) (by simp)
  refine ⟨⟨e0.mod, S.kind, rfl, rfl, Nat.le_refl _, fun y z c h1 h2 => ?_, fun y hy => ?_, fun y c _ h => ?_, fun _ => hd, Around.frames_deeper e0.frames, .inr ⟨rfl, rfl⟩, fun b z => absurd z (noA b), e0.bs, e0.bsz, fun b _ _ => noA b, fun b z => absurd z (noA b), e0.funs, e0.frf⟩,
    rfl, e0.bare, Un.kept hk, ⟨_, x.toInCall.ns, fun i y v h1 h2 h3 => ?_⟩, fun y c h => ⟨_, x.cell y c h⟩, e0.hok.fresh (Nat.le_refl _), fun y c h => ?_, fun p hp => absurd (show p ∈ ([] : List (Addr × Obj)) from hp) (by simp), e0.hok.kept hk, ?_⟩
  · exact name_of_addr x.apart (PySem.mem_of_lookup h1) (PySem.mem_of_lookup h2)
  · have hy : scope.names.lookup y = some .cell ∨ scope.names.lookup y = some .free := hy
    rcases hy with hy | hy
    · exact cell_has hy
    · exact absurd rfl (S.nofree _ (PySem.mem_of_lookup hy))
  · exact Nat.le_of_lt (x.above y c (PySem.mem_of_lookup h))
  · have hi : i < vs.length := by
      unfold start at h2
      by_cases hi : i < vs.length
      · exact hi
      · rw [List.getElem?_append_right (by simpa using hi)] at h2
        rw [List.getElem?_replicate] at h2
        split at h2 <;> cases h2
    have ha : vs[i]? = some v := by
      unfold start at h2
      rw [List.getElem?_append_left (by simpa using hi), List.getElem?_map] at h2
      cases e : vs[i]? with
      | none => rw [e] at h2; cases h2
      | some a => rw [e] at h2; cases h2; rfl
    obtain ⟨u, hu, rv⟩ := r.get ha
    have hp : ps[i]? = some y := by
      rw [← S.pre, List.getElem?_take_of_lt (by omega)]; exact h1
    have ndP : ps.Nodup := by rw [← S.pre]; exact S.nd.sublist (List.take_sublist _ _)
    refine ⟨u, rv, ?_⟩
    rcases S.par y (List.mem_of_getElem? hp) with k | k
    · exact .inl ⟨k, bindL_get ndP hp hu k⟩
    · obtain ⟨c, e⟩ := cell_has (n := s.heap.objs.size + 1) k
      refine .inr ⟨.inl k, c, e, ?_⟩
      have q := x.cell y c e
      rw [bindC_get ndP hp hu (by show scope.names.lookup y ≠ _; rw [k]; decide)] at q
      exact q
  · exact e0.hok.fresh (Nat.le_of_lt (x.above y c (PySem.mem_of_lookup h)))
  · unfold start
    show _ = N.length
    rw [List.length_append, List.length_map, List.length_replicate]
    omega
theorem fn_of {CX : CXT} {P : Program} {w : World} {K : PySem.W.Frag} {mg : Str → Option Value} {base : Heap} {k : Nat} {f : Addr} {name qual : Str} {params : Arguments} {body : List Stmt} {scope : Scope} {dV kV doc pm cdv ct oc : Value} {an od : Option Addr}
    {osl : Array (Option Value)} {N ps : List Str} {sp : Sp} (lk : K.lookup f = some ⟨oc, od, .func (PySem.W.fnOf name qual params body scope dV kV doc pm an cdv ct), osl⟩) (hcd : PySem.W.codeIn K cdv qual = true) (S : FnScope N ps scope)
    (len : ∀ vs H Q E, sp vs H Q E → vs.length = ps.length)
    (hbody : ∀ (A : Around) (outer : List Env) (s : Shared) (H : Hp) (vs : List V) (Q : VK) (E : XK), Room k (A.deeper (envOfC qual scope s.heap.objs.size f cdv)) → sp vs H Q E →
      ∃ t, PSs (cxOf CX P w K mg base N qual scope f cdv A outer s H E) body t ∧ t { nx := fun _ H' => Q .non H', rt := Q } (start N vs) H) :
    FnOk P w K mg base CX (k + 1) f (PySem.W.fnOf name qual params body scope dV kV doc pm an cdv ct) ps sp := by
  refine ⟨len, fun A outer s H args us vs Q E hr e0 hb r hsp => ?_⟩
  have hl := len _ _ _ _ hsp
  have KX : K.In s.heap := e0.mod.kin.keeps fun b o e => (e0.bs b o e).1
  have lim : s.heap.NoLimit := e0.mod.nolimit.keeps fun b o e => (e0.bs b o e).1
  have hkind : ∀ y ∈ ps.zip us, scope.names.lookup y.1 = some .local ∨ (scope.names.lookup y.1 = some .cell ∧ ((cellsFrom (s.heap.objs.size + 1) scope.names []).lookup y.1).isSome = true) := fun ⟨n, v⟩ hy => by
    rcases S.par n (List.of_mem_zip hy).1 with q | q
    · exact .inl q
    · exact .inr ⟨q, PySem.W.cellsFrom_some _ _ _ (.inl q)⟩
  refine codeAny_call_function hr.depth (KX _ _ lk) rfl S.co S.gen rfl (PySem.W.codeRec_of KX hcd) (hb _ _ _ _ ?_)
  refine wpAny_newFunctionEnv_cells S.kind hkind fun env he s1 x => ?_
  subst he
  refine ⟨lim.keeps x.toInCall.keep, codeAny_func ?_⟩
  obtain ⟨t, ht, hq⟩ := hbody A outer s H vs Q E (hr.deeper _) hsp
  have I : Inv (cxOf CX P w K mg base N qual scope f cdv A outer s H E) [] (start N vs) H s1 := inv_start S hr.hd e0 hl r x
  refine wpAny_mono (ht [] s1 (start N vs) H _ I hq) (fun fl s' hs => ?_) fun e s' hs => hs
  have fin : ∀ {σ' : St} {H' : Hp} {v : V} {u : Value}, Inv (cxOf CX P w K mg base N qual scope f cdv A outer s H E) [] σ' H' s' → RelV v u → Q v H' → CE outer P w H s Q u s' :=
    fun {σ' H' v u} J rv q => ⟨v, H', J.os, J.bare, J.base, J.hok, rv, q⟩
  cases fl with
  | ret u =>
    obtain ⟨v, σ', H', J, rv, q⟩ := hs
    exact fin J rv q
  | next =>
    obtain ⟨σ', H', J, q⟩ := hs
    exact fin (v := V.non) (u := Value.none) J rfl q
  | brk =>
    obtain ⟨_, _, _, q⟩ := hs
    exact False.elim q
  | cont =>
    obtain ⟨_, _, _, q⟩ := hs
    exact False.elim q
end L2
namespace L2
open PySem PySem.Spec PyProof.Rows
section
variable {X : Cx} {x : Str} {p pos : Pos} {e : Expr} {es : List Expr} {t : TA} {id T : String} {r : List V → Hp → VK → Prop}
noncomputable def tCB (r : List V → Hp → VK → Prop) (t : TA) : TE := fun σ H Q => t σ H fun vs H1 => r vs H1 Q
theorem pe_callB (hc : CallR X (.builtin id) r) (hg : Gl X x) (hm : X.mg x = none) (hv : bootBuiltins x = some (.builtin id)) (ha : PA X (e :: es) t) (hn : x ≠ "__name__" := by decide) (hdb : (x == ("__debug__" : Str)) = false := by decide)
    (he : starEach (e :: es) X.env = (false, eval e X.env) :: starEach es X.env := by rfl) (hpl : (backTo pos (starEach es X.env)).any (·.1) = false := by rfl) : PE X (.Call (.Name x p) (e :: es) [] pos) (tCB r t) := by
  intro pins s σ H Q I h
  refine wpAny_Call_Name_kw (ld_blt I hg hm hv ?_ hn hdb)
  exact PyProof.Rows.callWith_builtin1 (thn (ha pos pins s σ H _ I h) fun us s1 ⟨vs, H1, I1, r1, q1⟩ => hc pins s1 σ H1 vs us Q I1 r1 q1) he hpl
theorem pe_callTy (hc : CallR X (.type T) r) (hg : Gl X x) (hm : X.mg x = none) (hv : bootBuiltins x = some (.type T)) (ha : PA X (e :: es) t) (hn : x ≠ "__name__" := by decide) (hdb : (x == ("__debug__" : Str)) = false := by decide)
    (he : starEach (e :: es) X.env = (false, eval e X.env) :: starEach es X.env := by rfl) (hpl : (backTo pos (starEach es X.env)).any (·.1) = false := by rfl) : PE X (.Call (.Name x p) (e :: es) [] pos) (tCB r t) := by
  intro pins s σ H Q I h
  refine wpAny_Call_Name_kw (ld_blt I hg hm hv ?_ hn hdb)
  exact PyProof.Rows.callWith_type1 (thn (ha pos pins s σ H _ I h) fun us s1 ⟨vs, H1, I1, r1, q1⟩ => hc pins s1 σ H1 vs us Q I1 r1 q1) he hpl
end
end L2
namespace L2
open PySem PySem.Spec PyProof.Rows
section
variable {κ : Type} [DecidableEq κ]
noncomputable def valV (kvs : List (κ × V)) (k : κ) : Option V := (kvs.find? fun kv => decide (kv.1 = k)).map (·.2)
noncomputable def putK (kvs : List (κ × V)) (k : κ) (v : V) : List (κ × V) :=
  if (kvs.any fun kv => decide (kv.1 = k)) = true then kvs.map (fun kv => if kv.1 = k then (kv.1, v) else kv) else kvs ++ [(k, v)]
noncomputable def dropK (kvs : List (κ × V)) (k : κ) : List (κ × V) := kvs.filter fun kv => decide (kv.1 ≠ k)
theorem valV_pos {p : κ × V} {r : List (κ × V)} {k : κ} (e : p.1 = k) : valV (p :: r) k = some p.2 := by simp [valV, List.find?_cons, e]
theorem valV_neg {p : κ × V} {r : List (κ × V)} {k : κ} (e : ¬ p.1 = k) : valV (p :: r) k = valV r k := by simp [valV, List.find?_cons, e]
theorem RelO.getD {o : Option V} {u : Option Value} {d : V} {d' : Value} (r : RelO o u) (rd : RelV d d') : RelV (o.getD d) (u.getD d') := by
  cases o with
  | none => cases u with
    | none => exact rd
    | some _ => exact (show False from r).elim
  | some _ => cases u with
    | none => exact (show False from r).elim
    | some _ => exact r
theorem KV.val {kvs : List (κ × V)} {vs : List (κ × Value)} (r : KV kvs vs) (k : κ) : RelO (valV kvs k) (valueAt vs k) := by
  unfold KV at r
  induction r with
  | nil => exact True.intro
  | @cons p q ps qs h t ih =>
    obtain ⟨h1, h2⟩ := h
    by_cases e : p.1 = k
    · have e' : q.1 = k := h1.symm.trans e
      have b : valueAt (q :: qs) k = some q.2 := by simp [valueAt, List.find?_cons, e']
      rw [valV_pos e, b]; exact h2
    · have e' : ¬ q.1 = k := fun z => e (h1.trans z)
      have b : valueAt (q :: qs) k = valueAt qs k := by simp [valueAt, List.find?_cons, e']
      rw [valV_neg e, b]; exact ih
theorem KV.any {kvs : List (κ × V)} {vs : List (κ × Value)} (r : KV kvs vs) (k : κ) : (kvs.any fun kv => decide (kv.1 = k)) = vs.any fun kv => decide (kv.1 = k) := by
  unfold KV at r
  induction r with
  | nil => rfl
  | cons h t ih => rw [List.any_cons, List.any_cons, ih, h.1]
theorem KV.drop {kvs : List (κ × V)} {vs : List (κ × Value)} (r : KV kvs vs) (k : κ) : KV (dropK kvs k) (without vs k) := by
  unfold KV at r ⊢
  unfold dropK without
  induction r with
  | nil => exact .nil
  | @cons p q ps qs h t ih =>
    obtain ⟨h1, h2⟩ := h
    rw [List.filter_cons, List.filter_cons]
    by_cases e : p.1 = k
    · have a : ¬ decide (p.1 ≠ k) = true := by simp [e]
      have b : ¬ decide (q.1 ≠ k) = true := by simp [h1.symm.trans e]
      rw [if_neg a, if_neg b]; exact ih
    · have e' : ¬ q.1 = k := fun z => e (h1.trans z)
      have a : decide (p.1 ≠ k) = true := by simp [e]
      have b : decide (q.1 ≠ k) = true := by simp [e']
      rw [if_pos a, if_pos b]; exact .cons ⟨h1, h2⟩ ih
theorem KV.length {kvs : List (κ × V)} {vs : List (κ × Value)} (r : KV kvs vs) : kvs.length = vs.length := Paired.length r
end
@[reducible] noncomputable def KT (H : Hp) : List (List Key × V) → List (List Key × Addr × Value) → Prop := Paired fun p q => p.1 = q.1 ∧ H q.2.1 = some (.tup (p.1.map kV)) ∧ RelV p.2 q.2.2
theorem KT.val {H : Hp} {kvs : List (List Key × V)} {xs : List (List Key × Addr × Value)} (r : KT H kvs xs) (k : List Key) : RelO (valV kvs k) ((atKey xs k).map (·.2)) := by
  induction r with
  | nil => exact True.intro
  | @cons p q ps qs h t ih =>
    obtain ⟨h1, _, h2⟩ := h
    by_cases e : p.1 = k
    · have e' : q.1 = k := h1.symm.trans e
      have b : atKey (q :: qs) k = some q.2 := by simp [atKey, List.find?_cons, e']
      rw [valV_pos e, b]; exact h2
    · have e' : ¬ q.1 = k := fun z => e (h1.trans z)
      have b : atKey (q :: qs) k = atKey qs k := by simp [atKey, List.find?_cons, e']
      rw [valV_neg e, b]; exact ih
theorem KT.keeps {H H' : Hp} {kvs : List (List Key × V)} {xs : List (List Key × Addr × Value)} (r : KT H kvs xs) (ht : ∀ b ys, H b = some (.tup ys) → H' b = some (.tup ys)) : KT H' kvs xs :=
  Paired.mapP r fun _ _ z => ⟨z.1, ht _ _ z.2.1, z.2.2⟩
section
variable {P : Program} {w : World} {H : Hp} {h : Heap} {a : Addr}
theorem rd_of {u : HO} (ok : HOk P w H h) (e : Rd H a u) : ObjOk P w H h a u := e.ok ok
end
noncomputable def DGet (H : Hp) (a : Addr) (y : V) (r : Option V) : Prop :=
  (∃ kvs k, Rd H a (.dK kvs) ∧ y = kV k ∧ r = valV kvs k) ∨ ∃ kvs k b, Rd H a (.dT kvs) ∧ y = .ref b ∧ H b = some (.tup (k.map kV)) ∧ r = valV kvs k
noncomputable def DPut (H : Hp) (a : Addr) (y v : V) (H' : Hp) : Prop :=
  (∃ kvs k, H a = some (.dK kvs) ∧ y = kV k ∧ kvs.length < sizeLine ∧ H' = upd H a (.dK (putK kvs k v))) ∨
  ∃ kvs k b, H a = some (.dT kvs) ∧ y = .ref b ∧ H b = some (.tup (k.map kV)) ∧ kvs.length < sizeLine ∧ H' = upd H a (.dT (putK kvs k v))
theorem DGet.k {H : Hp} {a : Addr} {kvs : List (Key × V)} {k : Key} (e : H a = some (.dK kvs)) : DGet H a (kV k) (valV kvs k) := .inl ⟨kvs, k, .inl e, rfl, rfl⟩
theorem DGet.t {H : Hp} {a b : Addr} {kvs : List (List Key × V)} {k : List Key} (e : H a = some (.dT kvs)) (eb : H b = some (.tup (k.map kV))) : DGet H a (.ref b) (valV kvs k) := .inr ⟨kvs, k, b, .inl e, rfl, eb, rfl⟩
theorem DPut.k {H : Hp} {a : Addr} {kvs : List (Key × V)} {k : Key} {v : V} (e : H a = some (.dK kvs)) (hl : kvs.length < sizeLine) : DPut H a (kV k) v (upd H a (.dK (putK kvs k v))) := .inl ⟨kvs, k, e, rfl, hl, rfl⟩
theorem DPut.t {H : Hp} {a b : Addr} {kvs : List (List Key × V)} {k : List Key} {v : V} (e : H a = some (.dT kvs)) (eb : H b = some (.tup (k.map kV))) (hl : kvs.length < sizeLine) :
    DPut H a (.ref b) v (upd H a (.dT (putK kvs k v))) := .inr ⟨kvs, k, b, e, rfl, eb, hl, rfl⟩
section
variable {X : Cx} {pins : List (Addr × Obj)} {σ : St} {H : Hp} {s : Shared} {a : Addr} {y v : V} {u r : Value} {o : Option V} {A : Around} {E : Value → Shared → Prop}
theorem Inv.big (I : Inv X pins σ H s) : sysModules < s.heap.objs.size := by
  have h : mainGlobals < s.heap.objs.size := (I.mod.glob.keeps I.bk).lt
  exact Nat.lt_trans (by decide) h
end
section
variable {X : Cx} {pins : List (Addr × Obj)} {σ : St} {H : Hp} {s : Shared} {a : Addr} {kvs : List (Key × V)} {k : Key} {u : Value} {A : Around} {E : Value → Shared → Prop}
end
section
variable {X : Cx} {o i e value : Expr} {pos pos' tpos : Pos} {td ty tv : TE}
end
section
variable {X : Cx} {pos : Pos}
end
structure M1 (X : Cx) (o : Expr) (m : Str) (apos : Pos) (e : Expr) (cpos : Pos) : Prop where
  base : attributeBase o m X.env (eval o X.env) = eval o X.env
  few : ((backTo cpos (starEach [e] X.env)).all (fun x => !x.1) && (backToKw cpos (keywordEach [] X.env)).all (fun x => x.1.isSome)
    && decide (([e] : List Expr).length + ([] : List Keyword).length + (if ([] : List Keyword).isEmpty then 0 else 1) < 30)) = true
  line : (apos.endLine == cpos.line) = true
  trees : backTo cpos (starEach [e] X.env) = [(false, eval e X.env)]
structure M2 (X : Cx) (o : Expr) (m : Str) (apos : Pos) (e f : Expr) (cpos : Pos) : Prop where
  base : attributeBase o m X.env (eval o X.env) = eval o X.env
  few : ((backTo cpos (starEach [e, f] X.env)).all (fun x => !x.1) && (backToKw cpos (keywordEach [] X.env)).all (fun x => x.1.isSome)
    && decide (([e, f] : List Expr).length + ([] : List Keyword).length + (if ([] : List Keyword).isEmpty then 0 else 1) < 30)) = true
  line : (apos.endLine == cpos.line) = true
  trees : backTo cpos (starEach [e, f] X.env) = [(false, eval e X.env), (false, eval f X.env)]
section
variable {X : Cx} {pins : List (Addr × Obj)} {σ : St} {H : Hp} {s : Shared} {a : Addr} {y d : V} {u r : Value} {o : Option V} {A : Around} {E : Value → Shared → Prop}
end
section
variable {X : Cx} {o e f : Expr} {apos cpos : Pos} {td ty tx : TE}
end
section
variable {X : Cx} {pins : List (Addr × Obj)} {σ : St} {H : Hp} {s : Shared} {a : Addr} {kvs : List (Key × V)} {A : Around} {E : Value → Shared → Prop}
end
section
variable {X : Cx} {pins : List (Addr × Obj)} {σ : St} {H : Hp} {s : Shared} {a : Addr} {y : V} {u : Value} {A : Around} {E : Value → Shared → Prop}
end
end L2
namespace HT
open PySem PyProof.Rows
section
open PySem.SeqAt
open PySem.AutoSeq1 (wpAny_loadPart')
open PySem.MeetsSeq PySem.MeetsSeq2 PySem.MeetsSeq3
end
section
variable {prog : Program} {w : World} {A : Around} {E : Value → Shared → Prop} {s : Shared}
noncomputable def sIx (n d : Nat) : Option Int → Nat
  | none => d
  | some v => if v < 0 then (v + (n : Int)).toNat else min v.toNat n
end
end HT
namespace L2
open PySem PySem.Spec PyProof.Rows
@[reducible] noncomputable def TO := St → Hp → (Option Int → Hp → Prop) → Prop
noncomputable def PO (X : Cx) (e : Option Expr) (t : TO) : Prop :=
  ∀ (pins : List (Addr × Obj)) (s : Shared) (σ : St) (H : Hp) (Q : Option Int → Hp → Prop), Inv X pins σ H s → t σ H Q →
    wpAny (model X.prog X.w) X.A (evalPart e X.env) (fun u s' => ∃ o H', Inv X pins σ H' s' ∧ IsPart u o ∧ Q o H') X.xe s
noncomputable def tNoPart : TO := fun _ H Q => Q none H
section
variable {X : Cx} {e : Expr} {te : TE} {lo hi : Option Expr} {tl th : TO} {pos p2 : Pos}
theorem po_none : PO X none tNoPart := by
  intro pins s σ H Q I h
  rw [evalPart_none]
  exact wpAny_pure ⟨none, H, I, .none, h⟩
noncomputable def SlR (X : Cx) (r : V → Option Int → Option Int → Hp → VK → Prop) : Prop :=
  ∀ (pins : List (Addr × Obj)) (s : Shared) (σ : St) (H : Hp) (x : V) (v vl vu : Value) (lo hi : Option Int) (sl : Addr) (Q : VK), Inv X pins σ H s → RelV x v → s.heap.IsSliceOf sl vl vu .none → IsPart vl lo → IsPart vu hi → r x lo hi H Q →
    ∃ T id, typeLookup (.type T) "__getitem__" = pure (some (.builtin id)) ∧ s.TypeIs v T ∧ wpAny (model X.prog X.w) X.A (getItem v (.ref sl)) (EP X pins σ Q) X.xe s
theorem SlR.or {r r' : V → Option Int → Option Int → Hp → VK → Prop} (h : SlR X r) (h' : SlR X r') : SlR X (fun x lo hi H Q => r x lo hi H Q ∨ r' x lo hi H Q) := by
  intro pins s σ H x v vl vu lo hi sl Q I rx hs pl pu q
  rcases q with q | q
  · exact h pins s σ H x v vl vu lo hi sl Q I rx hs pl pu q
  · exact h' pins s σ H x v vl vu lo hi sl Q I rx hs pl pu q
noncomputable def tSl (r : V → Option Int → Option Int → Hp → VK → Prop) (te : TE) (tl th : TO) : TE := fun σ H Q => te σ H fun x H1 => tl σ H1 fun l H2 => th σ H2 fun u H3 => r x l u H3 Q
theorem pe_slice {r : V → Option Int → Option Int → Hp → VK → Prop} (hr : SlR X r) (he : PE X e te) (hl : PO X lo tl) (hu : PO X hi th) : PE X (.Subscript e (.Slice lo hi none p2) pos) (tSl r te tl th) := by
  intro pins s σ H Q I h
  refine Subscript_ (thn (he pins s σ H _ I h) fun v s1 ⟨x, H1, I1, r1, q1⟩ => ?_)
  refine wpAny_Slice (thn (hl pins s1 σ H1 _ I1 q1) fun vl s2 ⟨l, H2, I2, pl, q2⟩ => thn (hu pins s2 σ H2 _ I2 q2) fun vu s3 ⟨u, H3, I3, pu, q3⟩ => ?_)
  rw [evalPart_none]
  refine wpAny_pure ?_
  have I4 : Inv X pins σ H3 { s3 with heap := s3.heap.push { cls := .type "slice", data := .fields #[vl, vu, .none] } } := I3.kept (t' := s3.toks) fun b ob q => Heap.get?_push_of_some _ q
  obtain ⟨T, id, hT, ht, hg⟩ := hr pins { s3 with heap := s3.heap.push { cls := .type "slice", data := .fields #[vl, vu, .none] } } σ H3 x v vl vu l u s3.heap.objs.size Q I4 r1 (Heap.IsSliceOf.new ..) pl pu q3
  show wpAny (model X.prog X.w) X.A (subscriptTail e (.Slice lo hi none p2) v (.ref s3.heap.objs.size)) (EP X pins σ Q) X.xe { s3 with heap := s3.heap.push { cls := .type "slice", data := .fields #[vl, vu, .none] } }
  exact tail_any (ops := [.ref s3.heap.objs.size, v]) ht hT hg (by with_unfolding_all rfl)
noncomputable def cutV (xs : List V) (lo hi : Option Int) : List V := (xs.drop (HT.sIx xs.length 0 lo)).take (HT.sIx xs.length xs.length hi - HT.sIx xs.length 0 lo)
theorem cutV_length (xs : List V) (lo hi : Option Int) : (cutV xs lo hi).length ≤ xs.length := by
  unfold cutV
  rw [List.length_take, List.length_drop]
  omega
end
end L2
namespace L2
open PySem PySem.Spec PyProof.Rows
noncomputable def ixN (n : Nat) (i : Int) : Option Nat := if 0 ≤ i then (if i < n then some i.toNat else none) else if -(n : Int) ≤ i then some (i + n).toNat else none
noncomputable def atI {α : Type} (xs : List α) (i : Int) : Option α := (ixN xs.length i).bind fun j => xs[j]?
theorem ixN_seq {n : Nat} {i : Int} {j : Nat} (h : ixN n i = some j) : seqIndex? i n = some j ∧ j < n ∧ -(n : Int) ≤ i ∧ i < n := by
  unfold ixN at h
  by_cases h0 : 0 ≤ i
  · rw [if_pos h0] at h
    by_cases h1 : i < n
    · rw [if_pos h1] at h
      have e : i.toNat = j := Option.some.inj h
      exact ⟨by rw [seqIndex_of h0 h1, e], by omega, by omega, h1⟩
    · rw [if_neg h1] at h; cases h
  · rw [if_neg h0] at h
    by_cases h1 : -(n : Int) ≤ i
    · rw [if_pos h1] at h
      have e : (i + n).toNat = j := Option.some.inj h
      exact ⟨by rw [seqIndex_neg (by omega) h1, e], by omega, h1, by omega⟩
    · rw [if_neg h1] at h; cases h
theorem atI_get {α : Type} {xs : List α} {i : Int} {v : α} (h : atI xs i = some v) : ∃ j, seqIndex? i xs.length = some j ∧ xs[j]? = some v ∧ j < xs.length ∧ -(xs.length : Int) ≤ i ∧ i < xs.length := by
  unfold atI at h
  cases e : ixN xs.length i with
  | none => rw [e] at h; cases h
  | some j =>
    rw [e] at h
    obtain ⟨h1, h2, h3, h4⟩ := ixN_seq e
    exact ⟨j, h1, h, h2, h3, h4⟩
noncomputable def PlainIx (b : Expr) : Prop := ∀ o i, subscripted b false o i = operate [o, i] (getItem o i)
noncomputable def IxR (X : Cx) (r : R2) : Prop :=
  ∀ (value slice : Expr) (pins : List (Addr × Obj)) (s : Shared) (σ : St) (H : Hp) (x y : V) (v u : Value) (Q : VK), Inv X pins σ H s → RelV x v → RelV y u → r x y H Q →
    subscripted slice false v u = operate [v, u] (getItem v u) → wpAny (model X.prog X.w) X.A (subscriptTail value slice v u) (EP X pins σ Q) X.xe s
noncomputable def MtR (X : Cx) (id : String) (r : V → List V → Hp → VK → Prop) : Prop :=
  ∀ (pins : List (Addr × Obj)) (s : Shared) (σ : St) (H : Hp) (x : V) (xs : List V) (v : Value) (us : List Value) (Q : VK), Inv X pins σ H s → RelV x v → Vals xs us → r x xs H Q →
    wpAny (model X.prog X.w) X.A (call (.builtin id) (v :: us)) (EP X pins σ Q) X.xe s
section
variable {X : Cx} {a b : Expr} {ta tb : TE} {pos : Pos}
theorem IxR.or {r r' : R2} (h : IxR X r) (h' : IxR X r') : IxR X (fun x y H Q => r x y H Q ∨ r' x y H Q) := by
  intro value slice pins s σ H x y v u Q I rx ry q hs
  rcases q with q | q
  · exact h value slice pins s σ H x y v u Q I rx ry q hs
  · exact h' value slice pins s σ H x y v u Q I rx ry q hs
theorem MtR.or {id : String} {r r' : V → List V → Hp → VK → Prop} (h : MtR X id r) (h' : MtR X id r') : MtR X id (fun x xs H Q => r x xs H Q ∨ r' x xs H Q) := by
  intro pins s σ H x xs v us Q I rx rs q
  rcases q with q | q
  · exact h pins s σ H x xs v us Q I rx rs q
  · exact h' pins s σ H x xs v us Q I rx rs q
theorem pe_ix {r : R2} (hr : IxR X r) (ha : PE X a ta) (hb : PE X b tb) (hs : PlainIx b) : PE X (.Subscript a b pos) (tOp r ta tb) := by
  intro pins s σ H Q I h
  exact Subscript_ (binT ha hb I h fun v u s2 x y H2 I2 rx ry q => hr a b pins s2 σ H2 x y v u Q I2 rx ry q (hs _ _))
noncomputable def rIxL (K : PySem.W.Frag) : R2 := fun x y H Q => ∃ p xs i v, x = .ref p ∧ y = .int i ∧ SqL K H p xs ∧ atI xs i = some v ∧ Q v H
noncomputable def rIxT (K : PySem.W.Frag) : R2 := fun x y H Q => ∃ p xs i v, x = .ref p ∧ y = .int i ∧ SqT K H p xs ∧ atI xs i = some v ∧ Q v H
noncomputable def rIxS : R2 := fun x y H Q => ∃ z i c, x = .str z ∧ y = .int i ∧ z.length ≤ sizeLine ∧ atI z.cps.toList i = some c ∧ Q (.str ⟨#[c]⟩) H
theorem ix_list : IxR X (rIxL X.K) := by
  intro value slice pins s σ H x y v u Q I rx ry h hs
  obtain ⟨p, xs, i, z, rfl, rfl, hq, he, q⟩ := h
  cases rx
  obtain ⟨t, rfl⟩ := ry
  obtain ⟨its, r, pl, hz⟩ := I.list hq
  obtain ⟨j, h1, h2, h3, h4, h5⟩ := atI_get he
  obtain ⟨w, ew, rw'⟩ := r.get h2
  have hl := r.length
  have hn := line63
  have fin : EP X pins σ Q w s := ⟨z, H, I, rw', q⟩
  by_cases h0 : 0 ≤ i
  · have hj : i.toNat = j := by
      rw [seqIndex_of h0 h5] at h1
      exact Option.some.inj h1
    exact item_listR pl.isList h0 (by omega) (by rw [hj]; simpa using ew) fin hs
  · have hj : (i + (its.toArray.size : Int)).toNat = j := by
      rw [seqIndex_neg (by omega) h4] at h1
      rw [List.size_toArray, ← hl]
      exact Option.some.inj h1
    exact subscriptTail_builtinR (x := w) pl.isList.typeIs slot_list_getitem.lookup
      (wpAny_getItem_list_neg (Q := fun r s' => r = w ∧ EP X pins σ Q r s') pl.isList (by omega) (by rw [List.size_toArray] <;> omega) (by omega) (by rw [hj]; simpa using ew) ⟨rfl, fin⟩) hs
theorem ix_tup : IxR X (rIxT X.K) := by
  intro value slice pins s σ H x y v u Q I rx ry h hs
  obtain ⟨p, xs, i, z, rfl, rfl, hq, he, q⟩ := h
  cases rx
  obtain ⟨t, rfl⟩ := ry
  obtain ⟨its, r, pl, hz⟩ := I.tuple hq
  obtain ⟨j, h1, h2, h3, h4, h5⟩ := atI_get he
  obtain ⟨w, ew, rw'⟩ := r.get h2
  have hl := r.length
  have hn := line63
  have fin : EP X pins σ Q w s := ⟨z, H, I, rw', q⟩
  exact subscriptTail_builtinR (x := w) pl.typeIs slot_tuple_getitem.lookup
    (getItem_tuple (j := j) (Q := fun r s' => r = w ∧ EP X pins σ Q r s') pl (by omega) (by omega) (by rw [List.size_toArray, ← hl]; exact h1) (by simpa using ew) ⟨rfl, fin⟩) hs
theorem ix_str : IxR X rIxS := by
  intro value slice pins s σ H x y v u Q I rx ry h hs
  obtain ⟨z, i, c, rfl, rfl, hz, he, q⟩ := h
  obtain ⟨t, rfl⟩ := rx
  obtain ⟨t', rfl⟩ := ry
  obtain ⟨j, h1, h2, h3, h4, h5⟩ := atI_get he
  have hl : z.cps.toList.length = z.length := by simp [Str.length]
  rw [hl] at h1 h4 h5
  have hn := line63
  exact tail_any (typeIs_str s z t) slot_str_getitem.lookup (getItem_str (c := c) (by
    have e1 : decide (i < -(2 ^ 63 : Int)) = false := decide_eq_false (by omega)
    have e2 : decide (i ≥ 2 ^ 63) = false := decide_eq_false (by omega)
    rw [e1, e2, Bool.or_false]) (by rw [h1]; simpa using h2) ⟨.str ⟨#[c]⟩, H, I.tok _, ⟨_, rfl⟩, q⟩) hs
noncomputable def rIx (K : PySem.W.Frag) : R2 := fun x y H Q => rIxL K x y H Q ∨ rIxT K x y H Q ∨ rIxS x y H Q
theorem ix_seq : IxR X (rIx X.K) := ix_list.or (ix_tup.or ix_str)
theorem mapSeq_set (its : List Value) (n j : Nat) (u : Value) : Obj.mapSeq (·.setIfInBounds j u) { cls := .type "list", data := .seq its.toArray n } = { cls := .type "list", data := .seq (its.set j u).toArray n } := by
  simp [Obj.mapSeq]
theorem Inv.lst {pins : List (Addr × Obj)} {σ : St} {H : Hp} {s : Shared} {p : Addr} {xs : List V} (I : Inv X pins σ H s) (h : H p = some (.lst xs)) :
    ∃ (its : List Value) (n : Nat), Vals xs its ∧ s.heap.get? p = some { cls := .type "list", data := .seq its.toArray n } ∧ xs.length ≤ sizeLine := by
  obtain ⟨z, its, n, r, e⟩ := I.hok p _ h
  exact ⟨its, n, r, e, z⟩
theorem Inv.lstUpd {pins : List (Addr × Obj)} {σ : St} {H : Hp} {s : Shared} {p : Addr} {xs ys : List V} {its its' : List Value} {n n' : Nat} {f : Obj → Obj} (I : Inv X pins σ H s) (h : H p = some (.lst xs))
    (ho : s.heap.get? p = some { cls := .type "list", data := .seq its.toArray n }) (hf : f { cls := .type "list", data := .seq its.toArray n } = { cls := .type "list", data := .seq its'.toArray n' }) (r : Vals ys its') (hz : ys.length ≤ sizeLine) (t : Nat) :
    Inv X pins σ (upd H p (.lst ys)) { s with heap := s.heap.update p f, toks := t } := by
  have e : (s.heap.update p f).get? p = some { cls := .type "list", data := .seq its'.toArray n' } := by
    rw [Heap.get?_update_self f ho (by rw [hf] <;> rfl), hf]
  refine I.write (x := p) (e := p) (by rw [h]; trivial) (.inl rfl) (fun b u hb q => (Heap.get?_update_other _ _ (Ne.symm hb)).trans q) ⟨_, e⟩ ?_
  exact ⟨hz, its', n', r, e⟩
noncomputable def rSetL : V → V → V → Hp → (Hp → Prop) → Prop := fun o i v H Q => ∃ p xs k j, o = .ref p ∧ i = .int k ∧ H p = some (.lst xs) ∧ ixN xs.length k = some j ∧ Q (upd H p (.lst (xs.set j v)))
theorem set_list : PSet X rSetL := by
  intro pins s σ H o i v ov iv u Q I ro ri rv h
  obtain ⟨p, xs, k, j, rfl, rfl, hp, hj, q⟩ := h
  cases ro
  obtain ⟨t, rfl⟩ := ri
  obtain ⟨its, n, r, ho, hz⟩ := I.lst hp
  obtain ⟨h1, h2, h3, h4⟩ := ixN_seq hj
  have hl := r.length
  have hn := line63
  have I' : Inv X pins σ (upd H p (.lst (xs.set j v))) { s with heap := s.heap.update p (Obj.mapSeq (·.setIfInBounds j u)) } :=
    I.lstUpd hp ho (mapSeq_set its n j u) (r.set rv j) (by rw [List.length_set]; exact hz) s.toks
  by_cases h0 : 0 ≤ k
  · have hk : k.toNat = j := by
      rw [seqIndex_of h0 h4] at h1
      exact Option.some.inj h1
    exact PySem.W.ki_setAt ho h0 (by omega) (by rw [List.size_toArray, ← hl]; exact h4) (by rw [hk]; exact ⟨_, I', q⟩)
  · have hk : (k + (its.toArray.size : Int)).toNat = j := by
      rw [seqIndex_neg (by omega) h3] at h1
      rw [List.size_toArray, ← hl]
      exact Option.some.inj h1
    exact PySem.W.ki_setBack ho (by omega) (by rw [List.size_toArray, ← hl]; exact h3) (by omega) (by rw [hk]; exact ⟨_, I', q⟩)
theorem slice_bounds (lo hi : Option Int) (n : Nat) : (sliceBounds lo hi none n).1 = ((HT.sIx n 0 lo : Nat) : Int) ∧ (sliceBounds lo hi none n).2.1 = ((HT.sIx n n hi : Nat) : Int) ∧ (sliceBounds lo hi none n).2.2 = 1 := by
  refine ⟨?_, ?_, rfl⟩
  · cases lo with
    | none => simp [sliceBounds, HT.sIx]
    | some i =>
      simp only [sliceBounds, HT.sIx, Option.getD_none, show (1 : Int) > 0 by decide, if_true]
      by_cases h : i < 0
      · simp only [h, if_true] <;> omega
      · simp only [h, if_false] <;> omega
  · cases hi with
    | none => simp [sliceBounds, HT.sIx]
    | some i =>
      simp only [sliceBounds, HT.sIx, Option.getD_none, show (1 : Int) > 0 by decide, if_true]
      by_cases h : i < 0
      · simp only [h, if_true] <;> omega
      · simp only [h, if_false] <;> omega
theorem slicePick_cut (its : List Value) (lo hi : Option Int) : slicePick its.toArray lo hi none = ((its.drop (HT.sIx its.length 0 lo)).take (HT.sIx its.length its.length hi - HT.sIx its.length 0 lo)).toArray := by
  obtain ⟨h1, h2, h3⟩ := slice_bounds lo hi its.toArray.size
  unfold slicePick
  rw [h1, h2, h3]
  simp only [sliceRange_one, pick_run, List.size_toArray] <;> rfl
noncomputable def rSlL (K : PySem.W.Frag) : V → Option Int → Option Int → Hp → VK → Prop := fun x lo hi H Q => ∃ a xs, x = .ref a ∧ SqL K H a xs ∧ ∀ p, H p = none → Q (.ref p) (upd H p (.lst (cutV xs lo hi)))
theorem sl_list : SlR X (rSlL X.K) := by
  intro pins s σ H x v vl vu lo hi sl Q I rx hs pl pu h
  obtain ⟨a, xs, rfl, hx, q⟩ := h
  cases rx
  obtain ⟨its, r, ht, hz⟩ := I.list hx
  have hlen := r.length
  refine ⟨"list", _, slot_list_getitem.lookup, ht.isList.typeIs, ?_⟩
  refine wpAny_getItem_list_slice ht.isList hs pl pu .none (by simp) ?_ (by rw [List.size_toArray] <;> omega)
  rw [slicePick_cut, ← hlen]
  refine ⟨.ref s.heap.objs.size, _, I.laid (t' := s.toks) (o := .lst (cutV xs lo hi)) (fun b ob q => Heap.get?_push_of_some _ q) (Nat.le_refl _) ?_, rfl, q _ (I.hok.fresh (Nat.le_refl _))⟩
  exact ⟨Nat.le_trans (cutV_length xs lo hi) hz, _, 0, (r.drop (HT.sIx xs.length 0 lo)).take (HT.sIx xs.length xs.length hi - HT.sIx xs.length 0 lo), Heap.get?_push_size _ rfl⟩
noncomputable def flatV : V → Bool
  | .non => true
  | .bl _ => true
  | .int _ => true
  | .str _ => true
  | _ => false
noncomputable def eqV : V → V → Bool
  | .non, .non => true
  | .bl a, .bl b => a == b
  | .bl a, .int b => (if a then 1 else 0) == b
  | .int a, .bl b => a == (if b then 1 else 0)
  | .int a, .int b => a == b
  | .str a, .str b => a == b
  | _, _ => false
theorem eqAt_V {A : Around} {s : Shared} {y x : V} {u v : Value} (ry : RelV y u) (rx : RelV x v) (fy : flatV y = true) (fx : flatV x = true) : SeqAt.EqAt A s u v (eqV y x) := by
  cases y with
  | non =>
    cases ry
    cases x with
    | non => cases rx; exact SeqAt.EqAt.same _
    | bl b => cases rx; exact SeqAt.EqAt.none_bool b
    | int b => obtain ⟨t, rfl⟩ := rx; exact SeqAt.EqAt.none_int b t
    | str b => obtain ⟨t, rfl⟩ := rx; exact SeqAt.EqAt.none_str b t
    | _ => exact absurd (show false = true from fx) Bool.false_ne_true
  | bl a =>
    cases ry
    cases x with
    | non => cases rx; exact SeqAt.EqAt.bool_none a
    | bl b => cases rx; exact SeqAt.EqAt.bool_bool a b
    | int b => obtain ⟨t, rfl⟩ := rx; exact SeqAt.EqAt.bool_int a b t
    | str b => obtain ⟨t, rfl⟩ := rx; exact SeqAt.EqAt.bool_str a b t
    | _ => exact absurd (show false = true from fx) Bool.false_ne_true
  | int a =>
    obtain ⟨t', rfl⟩ := ry
    cases x with
    | non => cases rx; exact SeqAt.EqAt.int_none a t'
    | bl b => cases rx; exact SeqAt.EqAt.int_bool a t' b
    | int b => obtain ⟨t, rfl⟩ := rx; exact SeqAt.EqAt.int_int a t' b t
    | str b => obtain ⟨t, rfl⟩ := rx; exact SeqAt.EqAt.int_str a t' b t
    | _ => exact absurd (show false = true from fx) Bool.false_ne_true
  | str a =>
    obtain ⟨t', rfl⟩ := ry
    cases x with
    | non => cases rx; exact SeqAt.EqAt.str_none a t'
    | bl b => cases rx; exact SeqAt.EqAt.str_bool a t' b
    | int b => obtain ⟨t, rfl⟩ := rx; exact SeqAt.EqAt.str_int a t' b t
    | str b => obtain ⟨t, rfl⟩ := rx; exact SeqAt.EqAt.str_str a t' b t
    | _ => exact absurd (show false = true from fx) Bool.false_ne_true
  | _ => exact absurd (show false = true from fy) Bool.false_ne_true
noncomputable def eqU (x : V) (u : Value) : Bool := match u with
  | .none => eqV .non x
  | .bool b => eqV (.bl b) x
  | .int i _ => eqV (.int i) x
  | .str z _ => eqV (.str z) x
  | _ => false
theorem eqU_of {x y : V} {u : Value} (r : RelV y u) (f : flatV y = true) : eqU x u = eqV y x := by
  cases y with
  | non => cases r; rfl
  | bl b => cases r; rfl
  | int i => obtain ⟨t, rfl⟩ := r; rfl
  | str z => obtain ⟨t, rfl⟩ := r; rfl
  | _ => exact absurd (show false = true from f) Bool.false_ne_true
theorem any_eqU {x : V} : ∀ {xs : List V} {us : List Value}, Vals xs us → xs.all flatV = true → us.any (eqU x) = xs.any fun y => eqV y x
  | _, _, .nil, _ => rfl
  | y :: xs, u :: us, .cons r t, f => by
    rw [List.all_cons, Bool.and_eq_true] at f
    rw [List.any_cons, List.any_cons, eqU_of r f.1, any_eqU t f.2]
theorem mem_eqAt {A : Around} {s : Shared} {x : V} {v : Value} (rx : RelV x v) (fx : flatV x = true) : ∀ {xs : List V} {us : List Value}, Vals xs us → xs.all flatV = true → ∀ u ∈ us, SeqAt.EqAt A s u v (eqU x u)
  | _, _, .nil, _ => fun u hu => by cases hu
  | y :: xs, u :: us, .cons r t, f => fun u' hu => by
    rw [List.all_cons, Bool.and_eq_true] at f
    rcases List.mem_cons.mp hu with rfl | hu
    · rw [eqU_of r f.1]; exact eqAt_V r rx f.1 fx
    · exact mem_eqAt rx fx t f.2 u' hu
noncomputable def inV (x : V) (xs : List V) : Bool := xs.any fun y => eqV y x
noncomputable def rIn (K : PySem.W.Frag) (neg : Bool) : R2 := fun x y H Q => ∃ p xs, y = .ref p ∧ (SqL K H p xs ∨ SqT K H p xs) ∧ flatV x = true ∧ xs.all flatV = true ∧ Q (.bl (if neg then !inV x xs else inV x xs)) H
theorem op_in_seq : OpR X (compareOp .In) (rIn X.K false) := by
  intro pins s σ H x y v u Q I rx ry h
  obtain ⟨p, xs, rfl, hq, fx, fs, q⟩ := h
  cases ry
  rcases hq with hq | hq
  · obtain ⟨its, r, pl, hz⟩ := I.list hq
    refine SeqAt.in_listAt (eqU x) pl.isList (fun w hw => mem_eqAt rx fx r fs w (by simpa using hw)) ⟨.bl _, H, I, rfl, ?_⟩
    rw [show its.toArray.any (eqU x) = its.any (eqU x) by simp, any_eqU r fs]
    exact q
  · obtain ⟨its, r, pl, hz⟩ := I.tuple hq
    refine SeqAt.in_tupleAt (eqU x) pl (fun w hw => mem_eqAt rx fx r fs w (by simpa using hw)) ⟨.bl _, H, I, rfl, ?_⟩
    rw [show its.toArray.any (eqU x) = its.any (eqU x) by simp, any_eqU r fs]
    exact q
theorem op_notIn_seq : OpR X (compareOp .NotIn) (rIn X.K true) := by
  intro pins s σ H x y v u Q I rx ry h
  obtain ⟨p, xs, rfl, hq, fx, fs, q⟩ := h
  cases ry
  rcases hq with hq | hq
  · obtain ⟨its, r, pl, hz⟩ := I.list hq
    refine SeqAt.notIn_listAt (eqU x) pl.isList (fun w hw => mem_eqAt rx fx r fs w (by simpa using hw)) ⟨.bl _, H, I, rfl, ?_⟩
    rw [show its.toArray.any (eqU x) = its.any (eqU x) by simp, any_eqU r fs]
    exact q
  · obtain ⟨its, r, pl, hz⟩ := I.tuple hq
    refine SeqAt.notIn_tupleAt (eqU x) pl (fun w hw => mem_eqAt rx fx r fs w (by simpa using hw)) ⟨.bl _, H, I, rfl, ?_⟩
    rw [show its.toArray.any (eqU x) = its.any (eqU x) by simp, any_eqU r fs]
    exact q
theorem call_len_seq : CallR X (.builtin "len") (fun xs H Q => ∃ p ys, xs = [.ref p] ∧ (SqL X.K H p ys ∨ SqT X.K H p ys) ∧ Q (.int ys.length) H) := by
  intro pins s σ H xs us Q I r h
  obtain ⟨p, ys, rfl, hq, q⟩ := h
  obtain ⟨u, rfl, rx⟩ := vals1 r
  cases rx
  have hn := line63
  rcases hq with hq | hq
  · obtain ⟨its, r', pl, hz⟩ := I.list hq
    have hlen := r'.length
    exact Calls.call_len_list pl.isList (by simp only [List.size_toArray] <;> omega) ⟨.int ys.length, H, I.tok _, ⟨s.toks + 1, by rw [List.size_toArray, hlen]⟩, q⟩
  · obtain ⟨its, r', pl, hz⟩ := I.tuple hq
    have hlen := r'.length
    exact len_tuple pl (by simp only [List.size_toArray] <;> omega) ⟨.int ys.length, H, I.tok _, ⟨s.toks + 1, by rw [List.size_toArray, hlen]⟩, q⟩
theorem call_len_str : CallR X (.builtin "len") (fun xs H Q => ∃ z, xs = [.str z] ∧ z.length ≤ sizeLine ∧ Q (.int z.length) H) := by
  intro pins s σ H xs us Q I r h
  obtain ⟨z, rfl, hz, q⟩ := h
  obtain ⟨u, rfl, t, rfl⟩ := vals1 r
  have hn := line63
  exact len_str (by omega) ⟨.int z.length, H, I.tok _, ⟨_, rfl⟩, q⟩
theorem CallR.or {f : Value} {r r' : List V → Hp → VK → Prop} (h : CallR X f r) (h' : CallR X f r') : CallR X f (fun xs H Q => r xs H Q ∨ r' xs H Q) := by
  intro pins s σ H xs us Q I rs q
  rcases q with q | q
  · exact h pins s σ H xs us Q I rs q
  · exact h' pins s σ H xs us Q I rs q
noncomputable def tyV (K : PySem.W.Frag) (T : String) (x : V) (H : Hp) : Prop := match x with
  | .str _ => T = "str"
  | .int _ => T = "int"
  | .ref p => (T = "list" ∧ ∃ xs, SqL K H p xs) ∨ (T = "tuple" ∧ ∃ o, K.lookup p = some o ∧ o.cls = .type "tuple" ∧ o.dict = none) ∨
      (T = "dict" ∧ ((∃ kvs, H p = some (.dK kvs)) ∨ ∃ kvs, H p = some (.dT kvs))) ∨ (T = "set" ∧ ∃ S n, H p = some (.set S n))
  | _ => False
theorem tyV_is {pins : List (Addr × Obj)} {σ : St} {H : Hp} {s : Shared} {T : String} {x : V} {v : Value} (I : Inv X pins σ H s) (r : RelV x v) (ty : tyV X.K T x H) :
    s.TypeIs v T ∧ ∀ a, v = .ref a → ∃ ob, s.heap.get? a = some ob ∧ ob.dict = none := by
  cases x with
  | str z =>
    obtain ⟨t, rfl⟩ := r
    cases (show T = "str" from ty)
    exact ⟨typeIs_str s z t, fun _ e => nomatch e⟩
  | int i =>
    obtain ⟨t, rfl⟩ := r
    cases (show T = "int" from ty)
    exact ⟨typeIs_int s i t, fun _ e => nomatch e⟩
  | ref p =>
    cases r
    rcases ty with ⟨rfl, xs, hq⟩ | ⟨rfl, o, hk, hc, hd⟩ | ⟨rfl, hk⟩ | ⟨rfl, S, n, hk⟩
    · obtain ⟨its, _, pl, _⟩ := I.list hq
      refine ⟨pl.isList.typeIs, fun a e => ?_⟩
      cases e
      obtain ⟨o, n, e, c, hd, _⟩ := pl
      exact ⟨o, e, hd⟩
    · refine ⟨⟨o, I.kIn p o hk, hc⟩, fun a e => ?_⟩
      cases e
      exact ⟨o, I.kIn _ o hk, hd⟩
    · have z : ∃ o, s.heap.get? p = some o ∧ o.ExactDict := by
        rcases hk with ⟨kvs, hk⟩ | ⟨kvs, hk⟩
        · obtain ⟨_, _, _, _, o, _, _, e, ex, _⟩ := I.hok p _ hk
          exact ⟨o, e, ex⟩
        · obtain ⟨_, _, _, _, o, _, _, e, ex, _⟩ := I.hok p _ hk
          exact ⟨o, e, ex⟩
      obtain ⟨o, e, ex⟩ := z
      refine ⟨⟨o, e, ex.1⟩, fun a e2 => ?_⟩
      cases e2
      exact ⟨o, e, ex.2.1⟩
    · obtain ⟨o, _, _, _, e, ex, _⟩ := I.hok p _ hk
      refine ⟨⟨o, e, ex.1⟩, fun a e2 => ?_⟩
      cases e2
      exact ⟨o, e, ex.2.1⟩
  | _ => exact False.elim ty
variable {o e : Expr} {es : List Expr} {to : TE} {t : TA} {name : Str} {apos cpos : Pos} {T id : String} {r : V → List V → Hp → VK → Prop}
end
end L2
namespace L2
open PySem PySem.Spec PyProof.Rows
noncomputable def MtM (X : Cx) (id : String) (r : V → List V → Hp → VK → Prop) : Prop :=
  ∀ (pins : List (Addr × Obj)) (s : Shared) (σ : St) (H : Hp) (x : V) (xs : List V) (v : Value) (us : List Value) (Q : VK), Inv X pins σ H s → RelV x v → Vals xs us → r x xs H Q →
    wpAny (model X.prog X.w) X.A (call (.builtin id) (v :: us)) (EP X pins σ Q) X.xe s
theorem Vals.one : ∀ {x : V} {us : List Value}, Vals [x] us → ∃ u, us = [u] ∧ RelV x u
  | _, _, .cons r .nil => ⟨_, rfl, r⟩
theorem Vals.zero : ∀ {us : List Value}, Vals [] us → us = []
  | _, .nil => rfl
theorem Vals.eraseIdx : ∀ {xs : List V} {us : List Value} (i : Nat), Vals xs us → Vals (xs.eraseIdx i) (us.eraseIdx i)
  | _, _, _, .nil => .nil
  | _, _, 0, .cons _ t => t
  | _, _, i + 1, .cons r t => .cons r (Vals.eraseIdx i t)
theorem Vals.reverse {xs : List V} {us : List Value} (h : Vals xs us) : Vals xs.reverse us.reverse := by
  induction h with
  | nil => exact .nil
  | cons r t ih => rw [List.reverse_cons, List.reverse_cons]; exact Vals.append ih (.cons r .nil)
section
variable {X : Cx} {pins : List (Addr × Obj)} {σ : St} {H : Hp} {s : Shared} {l b : Addr} {xs ys zs : List V}
theorem Inv.lset {its its' : List Value} {n : Nat} {f : Array Value → Array Value} {t' : Nat} (I : Inv X pins σ H s) (hH : H l = some (.lst xs))
    (e : s.heap.get? l = some { cls := .type "list", data := .seq its.toArray n }) (hf : f its.toArray = its'.toArray) (hv : Vals ys its') (hz : ys.length ≤ sizeLine) :
    Inv X pins σ (upd H l (.lst ys)) { s with heap := s.heap.update l (Obj.mapSeq f), toks := t' } := by
  have q := PySem.IsL.update e f
  rw [hf] at q
  refine I.write (x := l) (e := l) (by rw [hH]; exact trivial) (.inl rfl) (fun b' u hb hu => (Heap.get?_update_other s.heap (Obj.mapSeq f) (Ne.symm hb)).trans hu) ⟨_, q⟩ ?_
  exact ⟨hz, its', _, hv, q⟩
theorem Inv.lnew {its : List Value} {t' : Nat} (I : Inv X pins σ H s) (hv : Vals ys its) (hz : ys.length ≤ sizeLine) :
    Inv X pins σ (upd H s.heap.objs.size (.lst ys)) { s with heap := s.heap.push { cls := .type "list", data := .seq its.toArray }, toks := t' } :=
  I.laid (fun _ _ q => Heap.get?_push_of_some _ q) (Nat.le_refl _) ⟨hz, its, 0, hv, Heap.get?_push_size _ rfl⟩
theorem Inv.fresh (I : Inv X pins σ H s) : H s.heap.objs.size = none := I.hok.fresh (Nat.le_refl _)
theorem Inv.lstM (I : Inv X pins σ H s) (hH : H l = some (.lst xs)) : xs.length ≤ sizeLine ∧ ∃ (its : List Value) (n : Nat), Vals xs its ∧ xs.length = its.length ∧ s.heap.get? l = some { cls := .type "list", data := .seq its.toArray n } := by
  obtain ⟨z, its, n, r, e⟩ := I.hok l _ hH
  exact ⟨z, its, n, r, r.length, e⟩
end
section
variable {X : Cx}
noncomputable def rAppend : V → List V → Hp → VK → Prop := fun x vs H Q => ∃ l xs y, x = .ref l ∧ vs = [y] ∧ H l = some (.lst xs) ∧ xs.length < sizeLine ∧ Q .non (upd H l (.lst (xs ++ [y])))
theorem mt_append : MtM X "list.append" rAppend := by
  intro pins s σ H x vs v us Q I rx rv h
  obtain ⟨l, xs, y, rfl, rfl, hH, hz, q⟩ := h
  cases rx
  obtain ⟨u, rfl, ru⟩ := rv.one
  obtain ⟨z, its, n, r, hl, e⟩ := I.lstM hH
  refine call_meets F.slot_list_append ⟨_, e, rfl⟩ F.entry_list_append (F.args_list_append_2 _ _) (PySem.list_append l its.toArray n u (by rw [List.size_toArray]; omega)) ⟨e, ?_⟩
  refine ⟨.non, _, I.lset (its' := its ++ [u]) hH e (by simp) (r.append (.cons ru .nil)) ?_, rfl, q⟩
  rw [List.length_append, List.length_singleton]
  omega
end
section
variable {prog : Program} {w : World} {A : Around} {E : Value → Shared → Prop} {s : Shared}
end
section
variable {X : Cx}
end
end L2
namespace Att
open PySem PySem.W PySem.Calls PyProof.Rows
theorem ints_of_wellAll {P : Params} {h : Heap} : ∀ (ns : List Int) (vs : List Value), WellAll P h vs (ns.map WData.int) → IntsAre vs ns := by
  intro ns
  induction ns with
  | nil =>
    intro vs w
    rw [List.map_nil] at w
    cases w
    exact .nil
  | cons n ns ih =>
    intro vs w
    rw [List.map_cons] at w
    cases w with
    | cons a b =>
      cases a
      exact .cons _ _ (ih _ b)
theorem script_of {l : OpenLaw} {n : Nat} (hn : l.most = some n) {P : Params} {h : Heap} {args : List WData} {vals : List Value}
    (hpre : l.row.toRowW.claim.pre args = true) (hwl : WellAll P h vals args) :
    ∃ a vs ns, vals = [Value.ref a] ∧ args = [WData.list (ns.map WData.int)] ∧ h.get? a = some { cls := .type "list", data := .seq vs.toArray } ∧ IntsAre vs ns ∧ ns.length ≤ n := by
  have hsh : WShape.hasAll [] args [.list .int] = true := (pre_splitW hpre).1
  have hc : l.pre.holds [] { args := args } = true := (pre_splitW hpre).2
  obtain ⟨d, r, rfl, h1, h2⟩ := hasAllW_cons hsh
  obtain rfl := hasAllW_nil h2
  obtain ⟨xs, rfl, h3⟩ := hasW_list h1
  obtain ⟨ns, rfl⟩ := items_int h3
  have hlen : ns.length ≤ n := by
    unfold OpenLaw.pre at hc
    have h4 : (WTm.not (.lt (.lit (.int (n : Int))) (.len (.arg 0)))).holds [] { args := [.list (ns.map .int)] } = true := by
      have h4 := (holds_andW hc).1
      rw [hn] at h4
      exact h4
    have h5 := condW_of h4 (w_not (w_lt w_lit (w_len_list (w_arg rfl))))
    rw [List.length_map] at h5
    refine Nat.le_of_not_lt fun q => ?_
    have q' : (n : Int) < ((ns.length : Nat) : Int) := by omega
    first
      | (rw [decide_eq_true q'] at h5; exact absurd h5 (by decide))
      | (simp at h5; omega)
  cases hwl with
  | cons w1 w2 =>
    cases w2
    cases w1 with
    | list ho hall => exact ⟨_, _, ns, rfl, rfl, ho, ints_of_wellAll ns _ hall, hlen⟩
theorem post_true (l : OpenLaw) (args : List WData) : l.row.toRowW.claim.post args (.bool true) args = true :=
  postW_of (r := l.row.toRowW) (X := (true == true))
    (show WShape.has [] (.bool true) .bool = true by first | rfl | decide | simp [WShape.has, WShape.arms, WShape.armsAll])
    (show (WTm.eq .res (.lit (.bool true))).value [] { args := args, res := some (.bool true), after := args } = some (.bool (true == true)) from w_eq_bool (w_res rfl) w_lit) rfl
theorem attach_call {l : OpenLaw} {n : Nat} {q : Program} {loose : List Str} {XP : (Str → Option Value) → Heap → Prop} {YP : World → Heap → Prop} {d : DefRec}
    (hn : l.most = some n) (hdf : d.params.defaults = [])
    (call : ∀ (w : World) (s₀ s₁ : Shared) (mg mb : Str → Option Value) (fa : Addr) (o : Obj) (pm cd doc : Value) (a : Addr) (vs : List Value) (ns : List Int),
      Ground q loose [] XP w s₀ mg mb s₁.heap → YP w s₁.heap →
      s₁.heap.get? fa = some o → o.data = .func (docDef d.name d.params d.body d.scope pm cd doc) → s₁.heap.CodeRec cd d.name → mg d.name = some (.ref fa) →
      s₁.heap.get? a = some { cls := .type "list", data := .seq vs.toArray } → IntsAre vs ns → ns.length ≤ n → s₁.gens = #[] →
      codeAny (model l.prog w) callerA (.call (.ref fa) ⟨[.ref a], []⟩) (fun r s' => r = .ok (.ret (.bool true)) ∧ OldK s₁.heap s'.heap ∧ s'.os = s₁.os ∧ AllBare s'.gens) s₁) :
    WalkO q loose XP YP l.row.toRowW d [] (fun f vs => PySem.call f vs) := by
  intro w s₀ s₁ mg mb G Y fa o pm cd doc dV kV ho hd hcd hD hmg hg args vals as hpre hlay hrd hwl hlo
  obtain rfl : dV = .none := Dflts.none hD hdf
  obtain rfl : kV = .none := Dflts.noKw hD
  obtain ⟨a, vs, ns, rfl, rfl, hobj, hints, hlen⟩ := script_of hn hpre hwl
  refine enter_call (codeAny_mono (call w s₀ s₁ mg mb fa o pm cd doc a vs ns G Y ho (fd_plain hd) hcd hmg hobj hints hlen hg) fun r s' hq => ?_)
  obtain ⟨rfl, h2, h3, h4⟩ := hq
  exact ⟨.inl ⟨.bool true, .bool true, [], rfl, fun _ => rfl, .bool true, post_true l _, fun _ => ⟨List.Pairwise.nil, fun _ hm => (nomatch hm)⟩⟩, h2, h3, h4⟩
section
variable {prog : Program} {w : World} {A : Around} {E : Value → Shared → Prop} {s : Shared} {K : Frag}
end
end Att
namespace L2
open PySem PySem.Spec PyProof.Rows
theorem vals_ints : ∀ {vs : List Value} {ns : List Int}, IntsAre vs ns → Vals (ns.map V.int) vs
  | _, _, .nil => .nil
  | _, _, .cons n t h => .cons ⟨t, rfl⟩ (vals_ints h)
noncomputable def Only (H : Hp) : Prop := ∀ b, H b = none ∨ ∃ o xs, H b = some (.frz o (.lst xs))
theorem law_call {P : Program} {w : World} {K : PySem.W.Frag} {mg mb : Str → Option Value} {CX : CXT} {k : Nat} {fa a : Addr} {fd : FuncData} {x : Str} {sp : Sp} {s₁ : Shared} {vs : List Value} {ns : List Int}
    (KX : K.In s₁.heap) (hns : s₁.heap.Ns mainGlobals mg) (hb : s₁.heap.Ns builtinsNs mb) (hbb : ∀ x : Str, x ≠ "__name__" → mb x = bootBuiltins x) (hlim : s₁.heap.NoLimit) (hg : s₁.gens = #[])
    (ha : s₁.heap.get? a = some { cls := .type "list", data := .seq vs.toArray }) (hi : IntsAre vs ns) (hl : ns.length ≤ sizeLine) (hr : Room k callerA)
    (F : ∀ base : Heap, K.In base → base.Ns mainGlobals mg → FnOk P w K mg base CX k fa fd [x] sp) (hbind : ∀ (s : Shared) (u : Value), BindsTo s fd ⟨[u], []⟩ [(x, u)])
    (hsp : ∀ H : Hp, Only H → SqL K H a (ns.map V.int) → sp [.ref a] H (fun v _ => v = .bl true) fun _ _ _ => False)
    (hCX : ∀ H e s', CX [] H s₁ (fun _ _ _ => False) e s' → False) :
    codeAny (model P w) callerA (.call (.ref fa) ⟨[.ref a], []⟩) (fun r s' => r = .ok (.ret (.bool true)) ∧ OldK s₁.heap s'.heap ∧ s'.os = s₁.os ∧ AllBare s'.gens) s₁ := by
  have rv := vals_ints hi
  have lenV := hi.length
  -- from an abstract heap in which nothing but the script may be tracked
  have core : ∀ H : Hp, Only H → SqL K H a (ns.map V.int) → HOk P w H s₁.heap → (∀ b, H b ≠ none → b = a) → (H a ≠ none → K.lookup a = none) →
      codeAny (model P w) callerA (.call (.ref fa) ⟨[.ref a], []⟩) (fun r s' => r = .ok (.ret (.bool true)) ∧ OldK s₁.heap s'.heap ∧ s'.os = s₁.os ∧ AllBare s'.gens) s₁ := by
    intro H hO hS hok hA hK
    have base_of : ∀ {b : Addr} {o : Obj}, s₁.heap.get? b = some o → H b = none → (hidT s₁.heap H).get? b = some o := fun e n => hidT_get e n
    have noA : ∀ {b : Addr} {o : Obj} {es : Array DictEntry} {ep : Nat}, s₁.heap.get? b = some o → o.data = .dict es ep → H b = none := fun {b o es ep} e d => by
      cases q : H b with
      | none => rfl
      | some u =>
        have e' : b = a := hA b (by rw [q]; simp)
        subst e'
        rw [ha] at e; cases e
        have d' : Data.seq vs.toArray _ = Data.dict es ep := d
        cases d'
    have nsK : ∀ {b : Addr} {m : Str → Option Value}, s₁.heap.Ns b m → (hidT s₁.heap H).Ns b m := fun {b m} ⟨o, es, ep, e, d, r⟩ => ⟨o, es, ep, base_of e (noA e d), d, r⟩
    have hKb : K.In (hidT s₁.heap H) := fun b o e => base_of (KX b o e) (by
      cases q : H b with
      | none => rfl
      | some u =>
        have e' : b = a := hA b (by rw [q]; simp)
        subst e'
        rw [hK (by rw [q]; simp)] at e; cases e)
    have hM : Mod K mg (hidT s₁.heap H) := ⟨hKb, nsK hns, ⟨mb, nsK hb, hbb⟩, let ⟨mc, h1, h2⟩ := hlim; ⟨mc, nsK h1, h2⟩⟩
    have e0 : Env0 P w K mg (hidT s₁.heap H) callerA [] s₁ H := ⟨rfl, hM, fun b o e => of_hidT e, Nat.le_of_eq (hidT_size _ _), trivial, fun b hb => absurd (show b ∈ ([] : List Addr) from hb) (by simp), hok, .of_eq hg⟩
    refine codeAny_mono ((F _ hKb (nsK hns)).run callerA [] s₁ H ⟨[.ref a], []⟩ [.ref a] [.ref a] _ _ hr e0 (hbind s₁ (.ref a)) (.cons rfl .nil) (hsp H hO hS)) fun r s' h => ?_
    cases r with
    | error e => exact (hCX H e s' h).elim
    | ok fl =>
      cases fl with
      | next => exact False.elim h
      | brk => exact False.elim h
      | cont => exact False.elim h
      | ret u =>
        obtain ⟨v, H', os, bare, un, hok', r', q⟩ := h
        have q' : v = .bl true := q
        subst q'
        obtain rfl : u = Value.bool true := r'
        refine ⟨rfl, OldK.of_keep fun b o e => ?_, os, bare⟩
        cases q : H b with
        | none => exact un.keep b o e q (by intro z; exact absurd (show b ∈ ([] : List Addr) from z) (by simp)) (by simp)
        | some u =>
          rcases hO b with z | ⟨ob, xs, z⟩
          · rw [q] at z; cases z
          · have z2 := un.frzs b ob _ z
            obtain ⟨e1, _⟩ := hok b _ z
            obtain ⟨e2, _⟩ := hok' b _ z2
            rw [e] at e1; cases e1
            exact e2
  cases hk : K.lookup a with
  | some o =>
    -- the script is one of the module's own objects
    have e := KX a o hk
    rw [ha] at e
    cases e
    refine core (fun _ => none) (fun _ => .inl rfl) (.inr ⟨_, vs.toArray, _, hk, rfl, rfl, rfl, by rw [List.size_toArray, lenV]; exact hl, by simpa using rv⟩) (fun b u z => by have z' : (none : Option HO) = some u := z; cases z') (fun b z => absurd rfl z) fun z => absurd rfl z
  | none =>
    refine core (fun b => if b = a then some (.frz { cls := .type "list", data := .seq vs.toArray } (.lst (ns.map V.int))) else none) (fun b => ?_) (.inl (.inr ⟨{ cls := .type "list", data := .seq vs.toArray }, if_pos rfl⟩)) (fun b u z => ?_) (fun b z => ?_) fun _ => hk
    · by_cases hb : b = a
      · exact .inr ⟨_, _, if_pos hb⟩
      · exact .inl (if_neg hb)
    · by_cases hb : b = a
      · have z' := (if_pos hb).symm.trans z
        cases z'
        subst hb
        exact ⟨ha, by rw [List.length_map]; exact hl, vs, _, rv, ha⟩
      · have z' := (if_neg hb).symm.trans z
        cases z'
    · by_cases hb : b = a
      · exact hb
      · exact absurd (if_neg hb) z
end L2
namespace L2
open PySem PySem.Spec PyProof.Rows
theorem walk_of {l : PySem.W.OpenLaw} {n k : Nat} {q : Program} {loose : List Str} {XP : (Str → Option Value) → Heap → Prop} {YP : World → Heap → Prop} {d : DefRec} {K : Params → PySem.W.Frag} {CX : World → CXT} {sp : World → Sp} {x : Str}
    (hn : l.most = some n) (hn2 : n ≤ sizeLine) (hdf : d.params.defaults = []) (hr : Room k callerA)
    (hY : ∀ (w : World) (h : Heap), YP w h → (K w.params).In h)
    (F : ∀ (w : World) (mg : Str → Option Value) (fa : Addr) (h : Heap), (K w.params).In h → h.Ns mainGlobals mg → mg d.name = some (.ref fa) →
      ∃ fd : FuncData, (∀ (s : Shared) (u : Value), BindsTo s fd ⟨[u], []⟩ [(x, u)]) ∧
        ∀ base : Heap, (K w.params).In base → base.Ns mainGlobals mg → FnOk l.prog w (K w.params) mg base (CX w) k fa fd [x] (sp w))
    (hsp : ∀ (w : World) (H : Hp) (a : Addr) (ns : List Int), ns.length ≤ n → Only H → SqL (K w.params) H a (ns.map V.int) → sp w [.ref a] H (fun v _ => v = .bl true) fun _ _ _ => False)
    (hCX : ∀ (w : World) (H : Hp) (s : Shared) (e : Value) (s' : Shared), CX w [] H s (fun _ _ _ => False) e s' → False) :
    PySem.W.WalkO q loose XP YP l.row.toRowW d [] (fun f vs => PySem.call f vs) := by
  refine Att.attach_call hn hdf fun w s₀ s₁ mg mb fa o pm cd doc a vs ns G Y ho hd hcd hmg hobj hints hlen hg => ?_
  have KX := hY w _ Y
  obtain ⟨fd, hb, hF⟩ := F w mg fa _ KX G.T.g hmg
  exact law_call KX G.T.g G.T.b G.T.builtins G.T.nolimit hg hobj hints (Nat.le_trans hlen hn2) hr hF hb (fun H hO hS => hsp w H a ns hlen hO hS) fun H e s' => hCX w H s₁ e s'
end L2
namespace L2
open PySem PySem.Spec PyProof.Rows
noncomputable def inClass (s : Stmt) (j : Nat) : Stmt := match s with
  | .ClassDef _ _ _ body _ _ _ _ _ _ _ => body.getD j (.Pass ⟨0, 0, 0, 0⟩)
  | _ => .Pass ⟨0, 0, 0, 0⟩
noncomputable def defArgs (s : Stmt) : Arguments := match s with
  | .FunctionDef _ a _ _ _ _ _ _ _ _ => a
  | _ => { posonlyargs := [], args := [], vararg := none, kwonlyargs := [], kw_defaults := [], kwarg := none, defaults := [] }
noncomputable def defBody (s : Stmt) : List Stmt := match s with
  | .FunctionDef _ _ b _ _ _ _ _ _ _ => b
  | _ => []
noncomputable def defScope (s : Stmt) : Scope := match s with
  | .FunctionDef _ _ _ _ _ _ sc _ _ _ => sc
  | _ => { kind := .function, names := [], isGenerator := false, isCoroutine := false }
@[reducible] noncomputable def CX0 : CXT := fun _ _ _ _ _ _ => False
@[reducible] noncomputable def E0 : XK := fun _ _ _ => False
structure Fun (K : PySem.W.Frag) (x qual : Str) (st : Stmt) (f : Addr) (fd : FuncData) : Prop where
  ex : ∃ (oc : Value) (od : Option Addr) (kV doc pm : Value) (an : Option Addr) (cdv ct : Value) (osl : Array (Option Value)),
    fd = PySem.W.fnOf x qual (defArgs st) (defBody st) (defScope st) .none kV doc pm an cdv ct ∧ K.lookup f = some ⟨oc, od, .func fd, osl⟩ ∧ PySem.W.codeIn K cdv qual = true
  kp : PySem.W.keepIn K (.ref f) = true
section
variable {P : Program} {w : World} {K : PySem.W.Frag} {mg : Str → Option Value} {base : Heap}
theorem Fun.ok {x qual : Str} {st : Stmt} {f : Addr} {fd : FuncData} {N ps : List Str} {k : Nat} {sp : Sp} (F : Fun K x qual st f fd) (S : FnScope N ps (defScope st)) (len : ∀ vs H Q E, sp vs H Q E → vs.length = ps.length)
    (hbody : ∀ (cdv : Value) (A : Around) (outer : List Env) (s : Shared) (H : Hp) (vs : List V) (Q : VK) (E : XK), Room k (A.deeper (envOfC qual (defScope st) s.heap.objs.size f cdv)) → sp vs H Q E →
      ∃ t, PSs (cxOf CX0 P w K mg base N qual (defScope st) f cdv A outer s H E).nox (defBody st) t ∧ t { nx := fun _ H' => Q .non H', rt := Q } (start N vs) H) : FnOk P w K mg base CX0 (k + 1) f fd ps sp := by
  obtain ⟨oc, od, kV, doc, pm, an, cdv, ct, osl, rfl, lk, hcd⟩ := F.ex
  refine fn_of lk hcd S len fun A outer s H vs Q E hr hsp => ?_
  obtain ⟨t, h, q⟩ := hbody cdv A outer s H vs Q E hr hsp
  exact ⟨t, h.nox, q⟩
theorem Fun.binds {x qual : Str} {st : Stmt} {f : Addr} {fd : FuncData} {ps : List Str} (F : Fun K x qual st f fd)
    (h : ∀ (kV doc pm : Value) (an : Option Addr) (cdv ct : Value) (us : List Value), us.length = ps.length → bindArgs (PySem.W.fnOf x qual (defArgs st) (defBody st) (defScope st) .none kV doc pm an cdv ct) ⟨us, []⟩ = pure (ps.zip us)) : Binds K fd ps [] := by
  obtain ⟨oc, od, kV, doc, pm, an, cdv, ct, osl, rfl, lk, hcd⟩ := F.ex
  exact .all (h kV doc pm an cdv ct)
theorem fun_mk {x qual : Str} {st : Stmt} {f : Addr} {oc : Value} {od an : Option Addr} {osl : Array (Option Value)} {kV doc pm cdv ct : Value} (l : K.lookup f = some ⟨oc, od, .func (PySem.W.fnOf x qual (defArgs st) (defBody st) (defScope st) .none kV doc pm an cdv ct), osl⟩)
    (c : PySem.W.codeIn K cdv qual = true) (k : PySem.W.keepIn K (.ref f) = true) : Fun K x qual st f (PySem.W.fnOf x qual (defArgs st) (defBody st) (defScope st) .none kV doc pm an cdv ct) := ⟨⟨oc, od, kV, doc, pm, an, cdv, ct, osl, rfl, l, c⟩, k⟩
end
section
variable {X : Cx}
end
noncomputable def Same (H H' : Hp) : Prop := ∀ b o, H b = some o → H' b = some o
theorem Same.refl (H : Hp) : Same H H := fun _ _ h => h
theorem Same.trans {H H1 H2 : Hp} (a : Same H H1) (b : Same H1 H2) : Same H H2 := fun c o h => b c o (a c o h)
theorem Same.free {H H' : Hp} (e : Same H H') {l : Addr} (h : H' l = Option.none) : H l = Option.none := by
  cases q : H l with
  | none => rfl
  | some o =>
    rw [e l o q] at h
    cases h
theorem Same.seq {K : PySem.W.Frag} {H H' : Hp} {a : Addr} {xs : List V} (e : Same H H') (h : SqL K H a xs) : SqL K H' a xs := by
  rcases h with (h | ⟨o, h⟩) | h
  · exact .inl (.inl (e _ _ h))
  · exact .inl (.inr ⟨o, e _ _ h⟩)
  · exact .inr h
end L2
namespace L2
open PySem PySem.Spec PyProof.Rows
section
variable {X : Cx}
end
section
variable {κ : Type} [DecidableEq κ]
end
end L2
set_option maxHeartbeats 4000000
namespace PySem.Sg
open PySem PySem.Spec PyProof.Rows
section tables
theorem orStandIn_led (t : SetTable) (n : Nat) : (t.orStandIn n).led = t.led := by
  unfold SetTable.orStandIn
  split <;> rfl
theorem layNew_led (t : SetTable) (es : Array (Int × Value)) (h : Int) (x : Value) : (layNew t es h x).2.1.led = t.led := by
  unfold layNew
  cases t.freeSlot h with
  | none => rfl
  | some p =>
    obtain ⟨j, d⟩ := p
    exact orStandIn_led _ _
theorem relayAll_led (t : SetTable) (es : Array (Int × Value)) (n : Nat) : (relayAll t es n).2.1.led = t.led := by
  unfold relayAll
  cases e : t.relaid (es.map (·.1)) n with
  | none => rfl
  | some p =>
    obtain ⟨t', o⟩ := p
    have z : t'.led = t.led := by
      simp only [SetTable.relaid, SetTable.laid, Option.bind_eq_bind, Option.bind_eq_some_iff, Option.pure_def, Option.some.injEq, Prod.mk.injEq] at e
      obtain ⟨_, _, e, _⟩ := e
      rw [← e]
    dsimp only
    split <;> first | exact z | rfl
theorem relayAll_plain (t : SetTable) (es : Array (Int × Value)) (n : Nat) (h : t.plain = false) : (relayAll t es n).2.1.plain = false := by
  unfold relayAll
  cases e : t.relaid (es.map (·.1)) n with
  | none => rfl
  | some p =>
    obtain ⟨t', o⟩ := p
    have z : t'.plain = false := by
      simp only [SetTable.relaid, SetTable.laid, Option.bind_eq_bind, Option.bind_eq_some_iff, Option.pure_def, Option.some.injEq, Prod.mk.injEq] at e
      obtain ⟨_, _, e, _⟩ := e
      rw [← e]; exact h
    dsimp only
    split <;> first | exact z | rfl
end tables
noncomputable def SetIs (prog : Program) (w : World) (h : Heap) (a : Addr) (τ : List Str) : Prop :=
  ∃ o es ep t, h.get? a = some o ∧ o.ExactSet ∧ o.data = .set es ep t ∧ ElemsOf (strKind prog w) es.toList ∧ List.Perm (es.toList.map fun e => strOf e.2) τ
    ∧ es.size < scanBound ∧ t.fits es.size = true ∧ (w.params.followText "set-order" = true ∨ t.led = true) ∧ (es.size = 0 ∨ t.plain = false)
noncomputable def putIn (τ : List Str) (k : Str) : List Str := if k ∈ τ then τ else τ ++ [k]
section add
variable {prog : Program} {w : World} {A : Around} {E : Value → Shared → Prop} {s : Shared}
theorem isStr_of {k : Str} {v : Value} (h : (strKind prog w).is k v = true) : strOf v = k ∧ ∃ t, v = .str k t := by
  obtain ⟨t, rfl⟩ := Value.isStrOf_shape h
  exact ⟨rfl, t, rfl⟩
theorem get_put {h : Heap} {a : Addr} {o : Obj} {es es' : Array (Int × Value)} {ep : Nat} {t t' : SetTable} (ho : h.get? a = some o) (hd : o.data = .set es ep t) :
    (h.update a (Obj.putSet es' t')).get? a = some { o with data := .set es' (ep + 1) t' } := by
  have z := Heap.get?_update_self (Obj.putSet es' t') ho (by rw [putSet_of es' t' hd]; rfl)
  rw [putSet_of es' t' hd] at z
  exact z
theorem told {s₁ : Shared} {Q' : Unit → Shared → Prop} (b : Bool) (h : Q' () s₁) : wpAny (model prog w) A (match b with | true => rule "set.scan.the-table-gave-way" | false => pure ()) Q' E s₁ := by
  cases b
  · exact wpAny_pure h
  · exact wpAny_rule h
theorem add_str {a : Addr} {τ : List Str} {k : Str} {u : Tok} {Q : Bool → Shared → Prop} (hS : SetIs prog w s.heap a τ) (hroom : τ.length + 1 < scanBound)
    (h : ∀ b h', Heap.SameBut a s.heap h' → SetIs prog w h' a (putIn τ k) → Q b { s with heap := h' }) :
    wpAny (model prog w) A (setAddHashed a (.str k u) ((strKind prog w).hash k)) Q E s := by
  obtain ⟨o, es, ep, t, ho, hex, hd, hel, hp, hb, hf, hled, hpl⟩ := hS
  have hkey : (strKind prog w).is k (.str k u) = true := strKind_is _ _ _ _
  have hlen : es.size = τ.length := by have z := hp.length_eq; simpa using z
  unfold setAddHashed setAddHashedIn
  refine wpAny_holding (wpAny_bind (wpAny_setState_of ho hd hf ?_))
  dsimp only
  rw [byScan_of rfl hb hel, if_pos rfl]
  unfold setAddByScan
  refine wpAny_bind (wpAny_bind (wpAny_rule (wpAny_bind (wpAny_setScan_of hkey ho hd hf hel ?_))))
  have memk : k ∈ τ ↔ ∃ e ∈ es.toList, (strKind prog w).is k e.2 = true := by
    rw [← hp.mem_iff, List.mem_map]
    constructor
    · rintro ⟨e, he, q⟩
      obtain ⟨⟨k', hk', _⟩, _⟩ := hel e he
      obtain ⟨z, _⟩ := isStr_of hk'
      exact ⟨e, he, by rw [← q, z]; exact hk'⟩
    · rintro ⟨e, he, q⟩
      exact ⟨e, he, (isStr_of q).1⟩
  cases hr : List.findIdx? (fun e => (strKind prog w).is k e.2) es.toList with
  | some j =>
    dsimp only
    obtain ⟨hj, hpj, _⟩ := List.findIdx?_eq_some_iff_getElem.mp hr
    have hk : k ∈ τ := memk.mpr ⟨_, List.getElem_mem hj, hpj⟩
    have z := h false s.heap (Heap.SameBut.refl a s.heap) (by unfold putIn; rw [if_pos hk]; exact ⟨o, es, ep, t, ho, hex, hd, hel, hp, hb, hf, hled, hpl⟩)
    exact wpAny_pure (wpAny_pure z)
  | none =>
    dsimp only
    have hk : k ∉ τ := fun c => by
      obtain ⟨e, he, q⟩ := memk.mp c
      have z := List.findIdx?_eq_none_iff.mp hr e he
      rw [q] at z; exact Bool.noConfusion z
    have h' : ∀ h', Heap.SameBut a s.heap h' → SetIs prog w h' a (τ ++ [k]) → Q true { s with heap := h' } := fun h' a1 a2 => h true h' a1 (by unfold putIn; rw [if_neg hk]; exact a2)
    have p1 := layNew_perm t es ((strKind prog w).hash k) (.str k u)
    have f1 := layNew_fits t es ((strKind prog w).hash k) (.str k u)
    have l1 := layNew_led t es ((strKind prog w).hash k) (.str k u)
    generalize layNew t es ((strKind prog w).hash k) (.str k u) = L at p1 f1 l1 ⊢
    obtain ⟨es1, t1, wd, gv⟩ := L
    dsimp only at p1 f1 l1 ⊢
    rw [Array.toList_push] at p1
    have hel1 : ElemsOf (strKind prog w) es1.toList := (hel.push hkey rfl).perm p1
    have hp1 : List.Perm (es1.toList.map fun e => strOf e.2) (τ ++ [k]) := (p1.map _).trans (by rw [List.map_append]; exact hp.append_right _)
    have hs1 : es1.size = τ.length + 1 := by have z := hp1.length_eq; simpa using z
    have hb1 : es1.size < scanBound := by omega
    refine wpAny_bind (told gv ?_)
    have last : ∀ t2 : SetTable, t2.fits es1.size = true → t2.led = t.led → t2.plain = false → wpAny (model prog w) A (do
        storeSet a es1 t2
        if (!wd && t2.tooFull) = true then do
            (match (relayAll t2 es1 (SetTable.grown es1.size)).2.2 with | true => rule "set.scan.the-table-gave-way" | false => pure ())
            storeSet a (relayAll t2 es1 (SetTable.grown es1.size)).1 (relayAll t2 es1 (SetTable.grown es1.size)).2.1
            pure (some true)
          else pure (some true))
        (fun r s' => wpAny (model prog w) A (match r with | some added => pure added | none => setAddHashedIn a (Value.str k u) ((strKind prog w).hash k) 99999) Q E s') E s := by
      intro t2 f2 l2 n2
      have g1 := get_put (es' := es1) (t' := t2) ho hd
      have k1 := Heap.SameBut.update s.heap a (Obj.putSet es1 t2)
      refine wpAny_bind (wpAny_storeSet_of ho hd ?_ (fits_of_scanBound hb1))
      split
      · have p2 := relayAll_perm t2 es1 (SetTable.grown es1.size)
        have f3 := relayAll_fits t2 es1 (SetTable.grown es1.size)
        have l3 := relayAll_led t2 es1 (SetTable.grown es1.size)
        have n3 := relayAll_plain t2 es1 (SetTable.grown es1.size) n2
        generalize relayAll t2 es1 (SetTable.grown es1.size) = L at p2 f3 l3 n3 ⊢
        obtain ⟨es2, t3, gv2⟩ := L
        dsimp only at p2 f3 l3 n3 ⊢
        have hp2 : List.Perm (es2.toList.map fun e => strOf e.2) (τ ++ [k]) := (p2.map _).trans hp1
        have hs2 : es2.size = τ.length + 1 := by have z := hp2.length_eq; simpa using z
        have hb2 : es2.size < scanBound := by omega
        refine wpAny_bind (told gv2 (wpAny_bind (wpAny_storeSet_of g1 rfl ?_ (fits_of_scanBound hb2))))
        exact wpAny_pure (wpAny_pure (h' _ (k1.trans (Heap.SameBut.update _ a _)) ⟨_, es2, _, t3, get_put g1 rfl, hex, rfl, hel1.perm p2, hp2, hb2, f3, by rw [l3, l2]; exact hled, .inr n3⟩))
      · exact wpAny_pure (wpAny_pure (h' _ k1 ⟨_, es1, _, t2, g1, hex, rfl, hel1, hp1, hb1, f2, by rw [l2]; exact hled, .inr n2⟩))
    cases q : t1.plain with
    | true =>
      rw [if_pos rfl, hashByValue_scannable 8 rfl]
      refine wpAny_bind (wpAny_pure ?_)
      exact last { t1 with plain := false } (SetTable.fits_plain_off f1) l1 rfl
    | false =>
      rw [if_neg (by decide)]
      refine wpAny_bind (wpAny_pure ?_)
      exact last t1 f1 l1 q
end add
noncomputable def metS (val : Nat → Str) (i : Nat) : List Str := ((List.range i).map val).foldl putIn []
theorem metS_succ (val : Nat → Str) (i : Nat) : metS val (i + 1) = putIn (metS val i) (val i) := by
  unfold metS; rw [List.range_succ, List.map_append, List.foldl_append]; rfl
theorem putIn_len (τ : List Str) (k : Str) : (putIn τ k).length ≤ τ.length + 1 := by
  unfold putIn; split <;> simp
theorem metS_len (val : Nat → Str) : ∀ i, (metS val i).length ≤ i
  | 0 => Nat.le_refl _
  | i + 1 => by rw [metS_succ]; exact Nat.le_trans (putIn_len _ _) (Nat.succ_le_succ (metS_len val i))
section loop
variable {prog : Program} {w : World} {A : Around} {R : Result → Shared → Prop} {I : Addr} {fp wr : List Addr} {G : Array GenState → Array GenState → Prop} {n : Nat} {P : Nat → Value → Prop} {St : Nat → Shared → Prop}
theorem SetIs.at {h h' : Heap} {a : Addr} {τ : List Str} (hS : SetIs prog w h a τ) (k : ∀ o, h.get? a = some o → h'.get? a = some o) : SetIs prog w h' a τ :=
  let ⟨o, es, ep, t, ho, r⟩ := hS; ⟨o, es, ep, t, k o ho, r⟩
theorem update_loop (W : WalksS prog w A.in1 I fp wr G n P St) (S : Addr) (hSf : S ∉ fp) (val : Nat → Str) (hval : ∀ i v, P i v → ∃ t, v = .str (val i) t) (hb : n + 1 < scanBound) :
    ∀ (k i : Nat) (s : Shared), n - i = k → i ≤ n → St i s → SetIs prog w s.heap S (metS val i) →
      (∀ s', Moved (S :: wr) G s s' → SetIs prog w s'.heap S (metS val n) → R (.ok (.ret .none)) s') →
      codeAny (model prog w) A (.builtin "set.update.loop" ⟨[.ref S, .ref I], []⟩) R s := by
  have hSw : S ∉ wr := fun h => hSf (W.sub _ h)
  have hsub : ∀ b ∈ wr, b ∈ S :: wr := fun b hb => List.mem_cons_of_mem _ hb
  intro k
  induction k with
  | zero =>
    intro i s hk hi hst hS hR
    have hin : i = n := by omega
    subst hin
    refine codeAny_builtin PyProof.Rows.F.entry_set_update_loop ?_
    rw [Around.under_plainId PyProof.Rows.F.plain_set_update_loop _]
    show wpAny _ A.in1 (pyNext (.ref I) >>= _) _ _ s
    refine wpAny_bind (W.done s _ _ hst fun s' hm => ?_)
    show wpAny _ A.in1 (ret Value.none) _ _ s'
    exact wpAny_pure (hR s' (hm.mono hsub) (hS.at fun o e => hm.heap S o hSw e))
  | succ k ih =>
    intro i s hk hi hst hS hR
    have hlt : i < n := by omega
    refine codeAny_builtin PyProof.Rows.F.entry_set_update_loop ?_
    rw [Around.under_plainId PyProof.Rows.F.plain_set_update_loop _]
    show wpAny _ A.in1 (pyNext (.ref I) >>= _) _ _ s
    refine wpAny_bind (W.item i s _ _ hlt hst fun v s' hP hst' hm => ?_)
    obtain ⟨t, rfl⟩ := hval i v hP
    have hS' : SetIs prog w s'.heap S (metS val i) := hS.at fun o e => hm.heap S o hSw e
    show wpAny _ A.in1 (holding [Value.str (val i) t] (setAdd S (.str (val i) t)) >>= _) _ _ s'
    refine wpAny_bind (wpAny_holding ?_)
    unfold setAdd
    refine wpAny_holding (wpAny_bind ((strKind prog w).pyHash (k := val i) (strKind_is _ _ _ _) ?_))
    have hl := metS_len val i
    refine add_str (s := { s' with toks := s'.toks + 1 }) hS' (by omega) fun b h' hsb hS2 => ?_
    rw [← metS_succ] at hS2
    refine wpAny_pure ⟨plainId_quiet PyProof.Rows.F.plain_set_update_loop _, ih (i + 1) _ (by omega) hlt (W.frame _ s' _ _ hst' (Nat.le_succ _) fun b hb o e => ?_) hS2 fun s'' hm'' hS'' => ?_⟩
    · rw [hsb.2 b (fun h : b = S => hSf (by rw [← h]; exact hb))]; exact e
    · refine hR s'' (Moved.trans W.gtrans ((hm.mono hsub).then_heap (Nat.le_succ _) fun b o hb e => ?_) hm'') hS''
      rw [hsb.2 b (fun h : b = S => hb (by rw [h]; exact List.mem_cons_self))]; exact e
end loop
section new
variable {prog : Program} {w : World} {A : Around} {E : Value → Shared → Prop} {s : Shared}
@[reducible] noncomputable def newSetO (w : World) : Obj := { cls := .type "set", dict := none, data := .set #[] 0 (.fresh 0 0 (!w.params.followText "set-order")) }
theorem newSet_is (h : Heap) : SetIs prog w (h.push (newSetO w)) h.objs.size [] :=
  ⟨_, #[], 0, _, Heap.get?_push_size _ rfl, ⟨rfl, rfl, rfl⟩, rfl, fun e he => by simp at he, .nil, by decide, rfl, by
    cases e : w.params.followText "set-order"
    · exact .inr rfl
    · exact .inl rfl, .inl rfl⟩
theorem code_new (a : Value) {Q₁ : Value → Shared → Prop} (h : Q₁ (.ref s.heap.objs.size) { s with heap := s.heap.push (newSetO w) }) :
    codeAny (model prog w) A (.call (.builtin "set.__new__") ⟨[.type "set", a], []⟩) (wants Q₁ E) s := by
  refine codeAny_of_tree ?_
  show wpAny _ A.in1 (do checkBuiltinCall "set.__new__" ⟨[.type "set", a], []⟩; again (.builtin "set.__new__" ⟨[.type "set", a], []⟩)) _ _ s
  refine wpAny_bind (wpAny_of_eq (PySem.F.newCall_set_1 a) (wpAny_pure ⟨plainId_quiet PySem.F.plain_set_new _, codeAny_builtin PySem.F.entry_set_new ?_⟩))
  rw [Around.under_plainId PySem.F.plain_set_new _]
  unfold Builtin.«set.__new__» Builtin.Frozenset.newClass
  have hsub := sub_set_self
  obtain ⟨hp, g, d, tk, os⟩ := s
  dsimp only
  wp_walk
  refine wpAny_askSetting (wpAny_pure ?_)
  dsimp only
  simp only [newObj]
  refine wpAny_bind (wpAny_alloc (wpAny_pure ?_))
  exact wpAny_pure h
theorem sub_str_set : isSubtype (.type "str") (.type "set") = pure false := by rw [isSubtype_type]; kernel_rfl
theorem sub_str_frozenset : isSubtype (.type "str") (.type "frozenset") = pure false := by rw [isSubtype_type]; kernel_rfl
theorem call_set_str (hh : A.handled = none) (x : Str) (t : Tok) (hb : x.cps.size + 1 < scanBound) {Q : Value → Shared → Prop}
    (h : ∀ (h' : Heap) (tk : Nat), SetIs prog w h' s.heap.objs.size (metS (fun i => ⟨#[x.cps.getD i 0]⟩) x.cps.size) → (∀ b o, s.heap.get? b = some o → h'.get? b = some o) → Q (.ref s.heap.objs.size) { s with heap := h', toks := tk }) :
    wpAny (model prog w) A (call (.type "set") [.str x t]) Q E s := by
  obtain ⟨c, tl, hmro⟩ := PySem.F.called_set.mro
  have hmade := PySem.F.called_set.made
  have hsub := PySem.F.called_set.sub
  refine wpAny_call (codeAny_of_tree ?_)
  show wpAny _ _ (callAny (.type "set") _) _ _ _
  refine wpAny_pure ⟨Code.quiet_builtin _ (by decide +kernel), codeAny_builtin PySem.F.entry_type_call ?_⟩
  rw [Around.under_plain (weight_type_call_type "set" [.str x t] []) rfl]
  have h1 := PySem.F.called_set.notType
  have h2 := PySem.F.called_set.canCreate
  have hct := PySem.F.typeCall_set_1 (.str x t)
  repeat (any_goals (first | assumption | wp_step))
  refine codeAny_mono (code_new (.str x t) (E := E) (Q₁ := fun obj s₁ => obj = .ref s.heap.objs.size ∧ s₁ = { s with heap := s.heap.push (newSetO w) }) ⟨rfl, rfl⟩) fun r s₁ hr => ?_
  cases r with
  | error e => exact hr
  | ok fl =>
    cases fl with
    | ret obj =>
      obtain ⟨rfl, rfl⟩ := hr
      have hS : (s.heap.push (newSetO w)).get? s.heap.objs.size = some (newSetO w) := Heap.get?_push_size _ rfl
      have hT : Shared.TypeIs { s with heap := s.heap.push (newSetO w) } (.ref s.heap.objs.size) "set" := ⟨_, hS, rfl⟩
      have hli := PySem.F.called_set.init.lookup
      have hbi := PySem.F.called_set.init.bind (.ref s.heap.objs.size)
      repeat (any_goals (first | assumption | wp_step))
      refine codeAny_mono (codeAny_call_builtin (R := wants (fun r s₂ => r = .none ∧ ∃ h' tk, s₂ = { s with heap := h', toks := tk } ∧ SetIs prog w h' s.heap.objs.size (metS (fun i => ⟨#[x.cps.getD i 0]⟩) x.cps.size) ∧
          (∀ b o, s.heap.get? b = some o → h'.get? b = some o)) E) PySem.F.called_set.init.plain PySem.F.entry_set_init (check_set_init_1 hT ?_)) fun r₂ s₂ hr₂ => ?_
      · have a1 := sub_str_set
        have a2 := sub_str_frozenset
        have hne : (Value.type "str" == Value.type "dict") = false := by decide
        unfold Builtin.«set.__init__» noKeywords Builtin.Frozenset.updateFrom
        generalize hPI : pyIter = PI
        wp_walk
        subst hPI
        refine wpAny_pyIter_str fun o St W hst => ?_
        refine wpAny_bind (wpAny_runValue ?_)
        have hh3 : A.in1.in1.in1.handled = none := by simp [hh]
        have hsz : (s.heap.push (newSetO w)).objs.size = s.heap.objs.size + 1 := Heap.size_push _ _
        have hSf : s.heap.objs.size ∉ [(s.heap.push (newSetO w)).objs.size] := by
          rw [hsz, List.mem_singleton]; exact Nat.ne_of_lt (Nat.lt_succ_self _)
        have hval : ∀ (i : Nat) (v : Value), SignAt x i v → ∃ t, v = .str ⟨#[x.cps.getD i 0]⟩ t := fun i v hv => by
          obtain ⟨c, u, e, rfl⟩ := hv
          refine ⟨u, ?_⟩
          rw [Array.getD_eq_getD_getElem?, e]; rfl
        refine update_loop (W _ hh3).toS s.heap.objs.size hSf (fun i => ⟨#[x.cps.getD i 0]⟩) hval hb (x.cps.size - 0) 0 _ rfl (Nat.zero_le _) hst (SetIs.at (newSet_is (prog := prog) s.heap) fun o' e => Heap.get?_push_of_some _ e) fun s' hm hS' => ?_
        obtain ⟨h', g', d', tk', os'⟩ := s'
        have eg : g' = s.gens := hm.gens
        have ed : d' = s.drawn := hm.drawn
        have eo : os' = s.os := hm.os
        subst eg; subst ed; subst eo
        show wpAny _ _ _ _ _ _
        refine wpAny_pure ?_
        show wpAny _ _ (ret Value.none) _ _ _
        refine wpAny_pure ⟨rfl, h', tk', rfl, hS', fun b ob e => ?_⟩
        have hlt := Heap.lt_size e
        refine hm.heap b ob ?_ (Heap.get?_push_of_some _ (Heap.get?_push_of_some _ e))
        rw [hsz]
        simp only [List.mem_cons, List.mem_singleton, List.not_mem_nil, or_false, not_or]
        exact ⟨Nat.ne_of_lt hlt, Nat.ne_of_lt (Nat.lt_succ_of_lt hlt)⟩
      · cases r₂ with
        | error e => exact hr₂
        | ok fl₂ =>
          cases fl₂ with
          | ret r =>
            obtain ⟨rfl, h', tk, rfl, hS', hk'⟩ := hr₂
            repeat (any_goals (first | assumption | wp_step))
            exact h _ _ hS' hk'
          | _ => exact hr₂.elim
    | _ => exact hr.elim
theorem call_set_strs (hh : A.handled = none) {l : Addr} {items : Array Value} {ss : List Str} (hl : s.heap.IsList l items) (hi : StrsAre items.toList ss) (hb : items.size + 1 < scanBound) {Q : Value → Shared → Prop}
    (h : ∀ (h' : Heap) (tk : Nat), SetIs prog w h' s.heap.objs.size (metS (fun i => ss.getD i ⟨#[]⟩) items.size) → (∀ b o, s.heap.get? b = some o → h'.get? b = some o) → Q (.ref s.heap.objs.size) { s with heap := h', toks := tk }) :
    wpAny (model prog w) A (call (.type "set") [.ref l]) Q E s := by
  obtain ⟨c, tl, hmro⟩ := PySem.F.called_set.mro
  have hmade := PySem.F.called_set.made
  have hsub := PySem.F.called_set.sub
  refine wpAny_call (codeAny_of_tree ?_)
  show wpAny _ _ (callAny (.type "set") _) _ _ _
  refine wpAny_pure ⟨Code.quiet_builtin _ (by decide +kernel), codeAny_builtin PySem.F.entry_type_call ?_⟩
  rw [Around.under_plain (weight_type_call_type "set" [.ref l] []) rfl]
  have h1 := PySem.F.called_set.notType
  have h2 := PySem.F.called_set.canCreate
  have hct := PySem.F.typeCall_set_1 (.ref l)
  repeat (any_goals (first | assumption | wp_step))
  refine codeAny_mono (code_new (.ref l) (E := E) (Q₁ := fun obj s₁ => obj = .ref s.heap.objs.size ∧ s₁ = { s with heap := s.heap.push (newSetO w) }) ⟨rfl, rfl⟩) fun r s₁ hr => ?_
  cases r with
  | error e => exact hr
  | ok fl =>
    cases fl with
    | ret obj =>
      obtain ⟨rfl, rfl⟩ := hr
      have hS : (s.heap.push (newSetO w)).get? s.heap.objs.size = some (newSetO w) := Heap.get?_push_size _ rfl
      have hT : Shared.TypeIs { s with heap := s.heap.push (newSetO w) } (.ref s.heap.objs.size) "set" := ⟨_, hS, rfl⟩
      have hli := PySem.F.called_set.init.lookup
      have hbi := PySem.F.called_set.init.bind (.ref s.heap.objs.size)
      repeat (any_goals (first | assumption | wp_step))
      refine codeAny_mono (codeAny_call_builtin (R := wants (fun r s₂ => r = .none ∧ ∃ h' tk, s₂ = { s with heap := h', toks := tk } ∧ SetIs prog w h' s.heap.objs.size (metS (fun i => ss.getD i ⟨#[]⟩) items.size) ∧
          (∀ b o, s.heap.get? b = some o → h'.get? b = some o)) E) PySem.F.called_set.init.plain PySem.F.entry_set_init (check_set_init_1 hT ?_)) fun r₂ s₂ hr₂ => ?_
      · obtain ⟨ol, hol, hcl, nl, hdl⟩ := hl
        obtain ⟨ocls, odict, odata, oslots⟩ := ol
        simp only at hcl hdl
        subst hcl; subst hdl
        have hol' : (s.heap.push (newSetO w)).get? l = some { cls := .type "list", dict := odict, data := .seq items nl, slots := oslots } := Heap.get?_push_of_some _ hol
        have a1 := PySem.F.sub_list_set
        have a2 := PySem.F.sub_list_frozenset
        have hne : (Value.type "list" == Value.type "dict") = false := by decide
        have hl1 : (s.heap.push (newSetO w)).IsList l items := ⟨_, hol', rfl, nl, rfl⟩
        unfold Builtin.«set.__init__» noKeywords Builtin.Frozenset.updateFrom
        generalize hPI : pyIter = PI
        wp_walk
        subst hPI
        refine wpAny_pyIter_list hl1 ?_
        refine wpAny_bind (wpAny_runValue ?_)
        have hh3 : A.in1.in1.in1.handled = none := by simp [hh]
        have hlS : l < s.heap.objs.size := Heap.lt_size hol
        have hsz : (s.heap.push (newSetO w)).objs.size = s.heap.objs.size + 1 := Heap.size_push _ _
        have hneI : l ≠ (s.heap.push (newSetO w)).objs.size := by rw [hsz]; exact Nat.ne_of_lt (Nat.lt_succ_of_lt hlS)
        have hSf : s.heap.objs.size ∉ [(s.heap.push (newSetO w)).objs.size, l] := by
          rw [hsz]; simp only [List.mem_cons, List.mem_singleton, List.not_mem_nil, or_false, not_or]
          exact ⟨Nat.ne_of_lt (Nat.lt_succ_self _), Nat.ne_of_gt hlS⟩
        have hval : ∀ (i : Nat) (v : Value), items[i]? = some v → ∃ t, v = .str (ss.getD i ⟨#[]⟩) t := fun i v hv => by
          obtain ⟨y, t, rfl, e⟩ := StrsAre.item hi i v (by rw [Array.getElem?_toList]; exact hv)
          exact ⟨t, by rw [List.getD_eq_getElem?_getD, e]; rfl⟩
        refine update_loop ((Walks.list hh3 _ l hneI items).toS) s.heap.objs.size hSf (fun i => ss.getD i ⟨#[]⟩) hval hb (items.size - 0) 0 _ rfl (Nat.zero_le _) ⟨⟨_, Heap.get?_push_size _ rfl, rfl, rfl⟩, (hl1.push _)⟩ (SetIs.at (newSet_is (prog := prog) s.heap) fun o' e => Heap.get?_push_of_some _ e) fun s' hm hS' => ?_
        obtain ⟨h', g', d', tk', os'⟩ := s'
        have eg : g' = s.gens := hm.gens
        have ed : d' = s.drawn := hm.drawn
        have eo : os' = s.os := hm.os
        subst eg; subst ed; subst eo
        show wpAny _ _ _ _ _ _
        refine wpAny_pure ?_
        show wpAny _ _ (ret Value.none) _ _ _
        refine wpAny_pure ⟨rfl, h', tk', rfl, hS', fun b ob e => ?_⟩
        have hlt := Heap.lt_size e
        refine hm.heap b ob ?_ (Heap.get?_push_of_some _ (Heap.get?_push_of_some _ e))
        rw [hsz]
        simp only [List.mem_cons, List.mem_singleton, List.not_mem_nil, or_false, not_or]
        exact ⟨Nat.ne_of_lt hlt, Nat.ne_of_lt (Nat.lt_succ_of_lt hlt)⟩
      · cases r₂ with
        | error e => exact hr₂
        | ok fl₂ =>
          cases fl₂ with
          | ret r =>
            obtain ⟨rfl, h', tk, rfl, hS', hk'⟩ := hr₂
            repeat (any_goals (first | assumption | wp_step))
            exact h _ _ hS' hk'
          | _ => exact hr₂.elim
    | _ => exact hr.elim
end new
end PySem.Sg
namespace PySem.Sg
open PySem PySem.Spec PyProof.Rows
section orders
theorem out_perm {α : Type} : ∀ (l : List α) (i : Nat) (h : i < l.length), List.Perm (l[i] :: l.eraseIdx i) l
  | x :: l, 0, h => .refl _
  | x :: l, i + 1, h => by
    simp only [List.getElem_cons_succ, List.eraseIdx_cons_succ]
    exact (List.Perm.swap _ _ _).trans (List.Perm.cons _ (out_perm l i (by simpa using h)))
theorem pick_go {α : Type} (next : Nat → Nat) : ∀ (fuel k : Nat) (left : List α) (out : Array α), left.length = fuel → List.Perm (pickOrder.go next fuel k left out).toList (out.toList ++ left)
  | 0, k, left, out, h => by
    have : left = [] := List.eq_nil_of_length_eq_zero h
    subst this; unfold pickOrder.go; simp
  | fuel + 1, k, left, out, h => by
    have hi : next k % left.length < left.length := Nat.mod_lt _ (by omega)
    unfold pickOrder.go
    rw [List.getElem?_eq_getElem hi]
    refine (pick_go next fuel (k + 1) _ _ (by rw [List.length_eraseIdx_of_lt hi]; omega)).trans ?_
    rw [Array.toList_push, List.append_assoc]
    exact List.Perm.append_left _ (out_perm _ _ hi)
theorem pick_perm {α : Type} (next : Nat → Nat) (xs : Array α) : List.Perm (pickOrder next xs).toList xs.toList := by
  have z := pick_go next xs.size 0 xs.toList #[] (by simp)
  simpa [pickOrder] using z
variable {prog : Program} {w : World} {A : Around} {E : Value → Shared → Prop}
theorem wp_choose {src : Source} {n : Nat} {Q : Nat → Shared → Prop} {s : Shared} (hn : n ≠ 0) (h : ∀ i d, i < n → Q i { s with drawn := d }) : wpAny (model prog w) A (choose src n) Q E s :=
  fun _ _ _ => ⟨hn, h _ _ (Nat.mod_lt _ (Nat.pos_of_ne_zero hn))⟩
theorem wp_drawOrder {α : Type} : ∀ (n : Nat) (xs : List α) (s : Shared) {Q : List α → Shared → Prop}, xs.length = n → (∀ ys d, List.Perm ys xs → Q ys { s with drawn := d }) → wpAny (model prog w) A (drawOrder n xs) Q E s
  | 0, xs, s, Q, hl, h => by
    have : xs = [] := List.eq_nil_of_length_eq_zero hl
    subst this; unfold drawOrder; exact wpAny_pure (h [] s.drawn .nil)
  | n + 1, [], s, Q, hl, h => by simp at hl
  | n + 1, x :: xs, s, Q, hl, h => by
    unfold drawOrder
    refine wpAny_bind (wp_choose (by simp) fun i d hi => ?_)
    rw [List.getElem?_eq_getElem hi]
    refine wpAny_bind (wp_drawOrder n _ _ (by rw [List.length_eraseIdx_of_lt hi]; simp at hl ⊢; omega) fun ys d' p => ?_)
    exact wpAny_pure (h _ d' ((List.Perm.cons _ p).trans (out_perm _ _ hi)))
end orders
namespace F
theorem entry_set_iter : entryFor table "set.__iter__" = some Builtin.«frozenset.__iter__» :=
  entryFor_alias (id' := "frozenset.__iter__") (by kernel_rfl) rfl (by decide +kernel) (by kernel_rfl)
theorem slot_next : Slot "set_iterator" "__next__" "set_iterator.__next__" :=
  .of (owner := "set_iterator") (n := "__next__") (by rw [typeLookup_type, builtinLookup_eq_fast]; kernel_rfl) (by decide +kernel) (by decide +kernel) (by decide +kernel)
    (by first | exact .inl (by decide +kernel) | exact .inr (by decide +kernel)) (by rw [isSubtype_type]; kernel_rfl)
theorem entry_next : entryFor table "set_iterator.__next__" = some Builtin.«set_iterator.__next__» := entryFor_of_fast (by kernel_rfl)
theorem args_next (a : Value) : argsOk "set_iterator.__next__" ⟨[a], []⟩ := by unfold argsOk; kernel_rfl
theorem slot_iter : Slot "set_iterator" "__iter__" "set_iterator.__iter__" :=
  .of (owner := "set_iterator") (n := "__iter__") (by rw [typeLookup_type, builtinLookup_eq_fast]; kernel_rfl) (by decide +kernel) (by decide +kernel) (by decide +kernel)
    (by first | exact .inl (by decide +kernel) | exact .inr (by decide +kernel)) (by rw [isSubtype_type]; kernel_rfl)
theorem entry_iter : entryFor table "set_iterator.__iter__" = some Builtin.«dict_keyiterator.__iter__» :=
  entryFor_alias (id' := "dict_keyiterator.__iter__") (by kernel_rfl) rfl (by decide +kernel) (by kernel_rfl)
theorem args_iter (a : Value) : argsOk "set_iterator.__iter__" ⟨[a], []⟩ := by unfold argsOk; kernel_rfl
end F
noncomputable def ItAt (h : Heap) (I S : Addr) (first : Value) (i n ep : Nat) : Prop :=
  ∃ o, h.get? I = some o ∧ o.cls = .type "set_iterator" ∧ o.data = .fields #[first, .int i 0, .ref S, .int n 0, .int ep 0]
noncomputable def StAt (h : Heap) (S : Addr) (es : Array (Int × Value)) (ep : Nat) (t : SetTable) : Prop := ∃ o, h.get? S = some o ∧ o.data = .set es ep t ∧ t.fits es.size = true
theorem ItAt.typeIs {s : Shared} {I S : Addr} {f : Value} {i n ep : Nat} (x : ItAt s.heap I S f i n ep) : s.TypeIs (.ref I) "set_iterator" := let ⟨o, ho, hc, _⟩ := x; ⟨o, ho, hc⟩
theorem ItAt.keep {h h' : Heap} {I S : Addr} {f : Value} {i n ep : Nat} (x : ItAt h I S f i n ep) (k : ∀ o, h.get? I = some o → h'.get? I = some o) : ItAt h' I S f i n ep := let ⟨o, ho, r⟩ := x; ⟨o, k o ho, r⟩
theorem StAt.keep {h h' : Heap} {S : Addr} {es : Array (Int × Value)} {ep : Nat} {t : SetTable} (x : StAt h S es ep t) (k : ∀ o, h.get? S = some o → h'.get? S = some o) : StAt h' S es ep t := let ⟨o, ho, r⟩ := x; ⟨o, k o ho, r⟩
section walk
variable {prog : Program} {w : World} {A : Around} {E : Value → Shared → Prop} {s : Shared}
theorem wp_setDrawn {a : Addr} {o : Obj} {es : Array (Int × Value)} {ep : Nat} {t : SetTable} {Q : Bool → Shared → Prop} (ho : s.heap.get? a = some o) (hd : o.data = .set es ep t) (hf : t.fits es.size = true)
    (h : Q (!w.params.followText "set-order" && (!t.plain && decide (es.size > 1))) s) : wpAny (model prog w) A (setDrawn a) Q E s := by
  unfold setDrawn setsByText
  refine wpAny_bind (wpAny_setState_of ho hd hf ?_)
  dsimp only
  exact wpAny_bind (wpAny_bind (wpAny_askSetting (wpAny_pure (wpAny_pure h))))
theorem iter_self {I S : Addr} {f : Value} {i n ep : Nat} {Q : Value → Shared → Prop} (x : ItAt s.heap I S f i n ep) (h : Q (.ref I) s) : wpAny (model prog w) A (pyIter (.ref I)) Q E s := by
  refine wpAny_pyIter_slot x.typeIs F.slot_iter (wpAny_call_entry F.slot_iter x.typeIs F.entry_iter ?_ (F.args_iter _))
  show wpAny _ _ (ret (.ref I)) _ _ s
  exact wpAny_pure ⟨_, rfl, "set_iterator", _, x.typeIs, F.slot_next.lookup, h⟩
theorem setNextT {S : Addr} {es : Array (Int × Value)} {ep i j : Nat} {t : SetTable} {Q : Option (Value × Nat) → Shared → Prop} (hT : w.params.followText "set-order" = true) (hs : StAt s.heap S es ep t)
    (h : Q (((pickOrder (w.params.setOrder S ep) es)[i]?).map fun e => (e.2, j)) s) : wpAny (model prog w) A (setNext S j i ep) Q E s := by
  obtain ⟨o, ho, hd, hf⟩ := hs
  unfold setNext setsByText
  refine wpAny_bind (wpAny_setState_of ho hd hf ?_)
  dsimp only
  refine wpAny_bind (wpAny_bind (wpAny_askSetting (wpAny_pure ?_)))
  show wpAny _ _ (if (w.params.followText "set-order") = true then _ else _) _ _ _
  rw [if_pos hT]
  simp only [bne_self_eq_false, Bool.false_eq_true, if_false]
  unfold setWalk setsByText
  refine wpAny_bind (wpAny_bind (wpAny_setState_of ho hd hf ?_))
  dsimp only
  refine wpAny_bind (wpAny_bind (wpAny_askSetting (wpAny_pure ?_)))
  show wpAny _ _ (if (w.params.followText "set-order") = true then _ else _) _ _ _
  rw [if_pos hT]
  exact wpAny_bind (wpAny_askSetting (wpAny_pure (wpAny_pure h)))
theorem setNextO {S : Addr} {es : Array (Int × Value)} {ep i j : Nat} {t : SetTable} {Q : Option (Value × Nat) → Shared → Prop} (hT : w.params.followText "set-order" = false) (hs : StAt s.heap S es ep t) (hn : es.size ≤ 1) (hl : t.led = true)
    (h : Q (match es[SetTable.below t.place j]?, t.place[SetTable.below t.place j]? with | some (_, x), some j => some (x, j + 1) | _, _ => none) s) : wpAny (model prog w) A (setNext S j i ep) Q E s := by
  obtain ⟨o, ho, hd, hf⟩ := hs
  unfold setNext setsByText
  refine wpAny_bind (wpAny_setState_of ho hd hf ?_)
  dsimp only
  refine wpAny_bind (wpAny_bind (wpAny_askSetting (wpAny_pure ?_)))
  show wpAny _ _ (if (w.params.followText "set-order") = true then _ else _) _ _ _
  rw [if_neg (by rw [hT]; decide)]
  show wpAny _ _ (if (!t.plain && decide (es.size > 1)) = true then _ else _) _ _ _
  rw [if_neg (by rw [decide_eq_false (Nat.not_lt.mpr hn), Bool.and_false]; decide)]
  refine wpAny_bind (m := if (!t.led && !es.isEmpty) = true then unsupported "set:maker-not-led" else pure ()) ?_
  rw [if_neg (by rw [hl]; simp)]
  exact wpAny_pure (wpAny_pure h)
theorem itemS {I S : Addr} {es : Array (Int × Value)} {ep i j nx : Nat} {t : SetTable} {v : Value} {Q : Option Value → Shared → Prop} (hit : ItAt s.heap I S (.int j 0) i es.size ep) (hs : StAt s.heap S es ep t)
    (hv : ∀ {B : Around} {Q' : Option (Value × Nat) → Shared → Prop} {E' : Value → Shared → Prop}, Q' (some (v, nx)) s → wpAny (model prog w) B (setNext S j i ep) Q' E' s)
    (hQ : ∀ h', ItAt h' I S (.int nx 0) (i + 1) es.size ep → Heap.SameBut I s.heap h' → Q (some v) { s with heap := h' }) : wpAny (model prog w) A (pyNext (.ref I)) Q E s := by
  obtain ⟨o, ho, hc, hd⟩ := id hit
  obtain ⟨os, hos, hds, hf⟩ := hs
  unfold pyNext
  refine wpAny_bind (wpAny_attempt (wpAny_callSpecial?_slot (name := Str.ofString "__next__") hit.typeIs F.slot_next (wpAny_call_entry F.slot_next hit.typeIs F.entry_next ?_ (F.args_next _))))
  show wpAny _ _ (fieldsOf (.ref I) >>= _) _ _ s
  refine wpAny_bind (wpAny_fieldsOf ho hd ?_)
  dsimp only
  refine wpAny_bind (wpAny_setEntries_of hos hds hf ?_)
  rw [if_neg (by simp)]
  refine wpAny_bind (hv ?_)
  dsimp only
  have g1 := Heap.get?_update_self (Obj.mapFields (·.setIfInBounds 0 (rawInt nx))) ho (Obj.isFreed_of_fields (Obj.data_mapFields hd _))
  refine wpAny_bind (wpAny_setField ho hd (by simp) ?_)
  refine wpAny_bind (wpAny_setField g1 (Obj.data_mapFields hd _) (by simp) ?_)
  refine wpAny_pure ⟨v, rfl, wpAny_pure (hQ _ ⟨_, Heap.get?_update_self _ g1 (Obj.isFreed_of_fields (Obj.data_mapFields (Obj.data_mapFields hd _) _)), ?_, ?_⟩ ((Heap.SameBut.update ..).trans (Heap.SameBut.update ..)))⟩
  · rw [Obj.cls_mapFields, Obj.cls_mapFields]; exact hc
  · rw [Obj.data_mapFields (Obj.data_mapFields hd _)]; simp [rawInt]
theorem endS (hh : A.handled = none) {I S : Addr} {es : Array (Int × Value)} {ep i j : Nat} {t : SetTable} {Q : Option Value → Shared → Prop} (hit : ItAt s.heap I S (.int j 0) i es.size ep) (hs : StAt s.heap S es ep t)
    (hv : ∀ {B : Around} {Q' : Option (Value × Nat) → Shared → Prop} {E' : Value → Shared → Prop}, Q' none s → wpAny (model prog w) B (setNext S j i ep) Q' E' s)
    (hQ : ∀ h', Heap.ExtBut I s.heap h' → Q none { s with heap := h' }) : wpAny (model prog w) A (pyNext (.ref I)) Q E s := by
  obtain ⟨o, ho, hc, hd⟩ := id hit
  obtain ⟨os, hos, hds, hf⟩ := hs
  unfold pyNext
  refine wpAny_bind (wpAny_attempt (wpAny_callSpecial?_slot (name := Str.ofString "__next__") hit.typeIs F.slot_next (wpAny_call_entry F.slot_next hit.typeIs F.entry_next ?_ (F.args_next _))))
  show wpAny _ _ (fieldsOf (.ref I) >>= _) _ _ s
  refine wpAny_bind (wpAny_fieldsOf ho hd ?_)
  dsimp only
  refine wpAny_bind (wpAny_setEntries_of hos hds hf ?_)
  rw [if_neg (by simp)]
  refine wpAny_bind (hv ?_)
  dsimp only
  refine wpAny_bind (wpAny_setField ho hd (by simp) ?_)
  refine wpAny_bind ?_
  simp only [newExc, newTuple]
  refine wpAny_bind (wpAny_newObj_type ?_ (by size_fits))
  refine wpAny_bind (m := firstArgMember _ _) (wpAny_of_eq (a := Value.none) (by first | rfl | (simp only [firstArgMember]; rfl)) ?_)
  refine wpAny_newObj_type ?_ (by size_fits)
  simp only [raiseNew]
  refine wpAny_bind (wpAny_handled ?_)
  rw [show A.in1.handled = none from hh]
  refine wpAny_bind (wpAny_pure (wpAny_throw ?_))
  refine wpAny_bind (wpAny_isInstance (T := "StopIteration") (b := true) ⟨_, Heap.get?_push_size _ rfl, rfl⟩ isSubtype_stop ?_)
  exact wpAny_pure (hQ _ (((Heap.SameBut.update ..).extBut.push _).push _))
theorem itemD {I S tp : Addr} {es : Array (Int × Value)} {ep i p : Nat} {t : SetTable} {e : Int × Value} {ot : Obj} {pl : Array Value} {c : Nat} {Q : Option Value → Shared → Prop} (hit : ItAt s.heap I S (.ref tp) i es.size ep) (hs : StAt s.heap S es ep t)
    (ht : s.heap.get? tp = some ot) (hdt : ot.data = .seq pl c) (hp : pl[i]? = some (.int p 0)) (he : es[p]? = some e)
    (hQ : ∀ h', ItAt h' I S (.ref tp) (i + 1) es.size ep → Heap.SameBut I s.heap h' → Q (some e.2) { s with heap := h' }) : wpAny (model prog w) A (pyNext (.ref I)) Q E s := by
  obtain ⟨o, ho, hc, hd⟩ := id hit
  obtain ⟨os, hos, hds, hf⟩ := hs
  unfold pyNext
  refine wpAny_bind (wpAny_attempt (wpAny_callSpecial?_slot (name := Str.ofString "__next__") hit.typeIs F.slot_next (wpAny_call_entry F.slot_next hit.typeIs F.entry_next ?_ (F.args_next _))))
  show wpAny _ _ (fieldsOf (.ref I) >>= _) _ _ s
  refine wpAny_bind (wpAny_fieldsOf ho hd ?_)
  dsimp only
  refine wpAny_bind (wpAny_setEntries_of hos hds hf ?_)
  rw [if_neg (by simp)]
  refine wpAny_bind (wpAny_seqItems ht hdt ?_)
  simp only [Int.toNat_natCast, hp]
  unfold setNextDrawn
  refine wpAny_bind (wpAny_bind (wpAny_setState_of hos hds hf ?_))
  dsimp only
  simp only [bne_self_eq_false, Bool.false_eq_true, if_false, Int.toNat_natCast, he]
  refine wpAny_pure ?_
  refine wpAny_bind (wpAny_setField ho hd (by simp) ?_)
  refine wpAny_pure ⟨_, rfl, wpAny_pure (hQ _ ⟨_, Heap.get?_update_self _ ho (Obj.isFreed_of_fields (Obj.data_mapFields hd _)), ?_, ?_⟩ (Heap.SameBut.update ..))⟩
  · rw [Obj.cls_mapFields]; exact hc
  · rw [Obj.data_mapFields hd]; simp [rawInt]
theorem endD (hh : A.handled = none) {I S tp : Addr} {es : Array (Int × Value)} {ep i : Nat} {t : SetTable} {ot : Obj} {pl : Array Value} {c : Nat} {Q : Option Value → Shared → Prop} (hit : ItAt s.heap I S (.ref tp) i es.size ep) (hs : StAt s.heap S es ep t)
    (ht : s.heap.get? tp = some ot) (hdt : ot.data = .seq pl c) (hp : pl[i]? = none)
    (hQ : ∀ h', Heap.ExtBut I s.heap h' → Q none { s with heap := h' }) : wpAny (model prog w) A (pyNext (.ref I)) Q E s := by
  obtain ⟨o, ho, hc, hd⟩ := id hit
  obtain ⟨os, hos, hds, hf⟩ := hs
  unfold pyNext
  refine wpAny_bind (wpAny_attempt (wpAny_callSpecial?_slot (name := Str.ofString "__next__") hit.typeIs F.slot_next (wpAny_call_entry F.slot_next hit.typeIs F.entry_next ?_ (F.args_next _))))
  show wpAny _ _ (fieldsOf (.ref I) >>= _) _ _ s
  refine wpAny_bind (wpAny_fieldsOf ho hd ?_)
  dsimp only
  refine wpAny_bind (wpAny_setEntries_of hos hds hf ?_)
  rw [if_neg (by simp)]
  refine wpAny_bind (wpAny_seqItems ht hdt ?_)
  simp only [Int.toNat_natCast, hp]
  have g1 := Heap.get?_update_self (Obj.mapFields (·.setIfInBounds 0 (rawInt 0))) ho (Obj.isFreed_of_fields (Obj.data_mapFields hd _))
  refine wpAny_bind (wpAny_setField ho hd (by simp) ?_)
  refine wpAny_bind (wpAny_setField g1 (Obj.data_mapFields hd _) (by simp) ?_)
  refine wpAny_bind ?_
  simp only [newExc, newTuple]
  refine wpAny_bind (wpAny_newObj_type ?_ (by size_fits))
  refine wpAny_bind (m := firstArgMember _ _) (wpAny_of_eq (a := Value.none) (by first | rfl | (simp only [firstArgMember]; rfl)) ?_)
  refine wpAny_newObj_type ?_ (by size_fits)
  simp only [raiseNew]
  refine wpAny_bind (wpAny_handled ?_)
  rw [show A.in1.handled = none from hh]
  refine wpAny_bind (wpAny_pure (wpAny_throw ?_))
  refine wpAny_bind (wpAny_isInstance (T := "StopIteration") (b := true) ⟨_, Heap.get?_push_size _ rfl, rfl⟩ isSubtype_stop ?_)
  exact wpAny_pure (hQ _ (((((Heap.SameBut.update ..).trans (Heap.SameBut.update ..)).extBut.push _).push _)))
end walk
end PySem.Sg
namespace PySem.Sg
open PySem PySem.Spec PyProof.Rows
section walks
variable {prog : Program} {w : World} {A : Around}
theorem walkT (hh : A.handled = none) (hT : w.params.followText "set-order" = true) (I S : Addr) (hne : S ≠ I) (es : Array (Int × Value)) (ep : Nat) (t : SetTable) :
    Walks prog w A I [I, S] [I] es.size (fun i v => ((pickOrder (w.params.setOrder S ep) es).toList.map (·.2))[i]? = some v) (fun i h => (∃ j : Nat, ItAt h I S (.int j 0) i es.size ep) ∧ StAt h S es ep t) where
  sub := fun b hb => by simp at hb; simp [hb]
  frame := fun i h h' st hk => ⟨let ⟨j, x⟩ := st.1; ⟨j, x.keep fun o e => hk I (by simp) o e⟩, st.2.keep fun o e => hk S (by simp) o e⟩
  item := fun i s Q E hi st hQ => by
    obtain ⟨⟨j, x⟩, y⟩ := st
    have hl : (pickOrder (w.params.setOrder S ep) es).size = es.size := by have z := (pick_perm (w.params.setOrder S ep) es).length_eq; simpa using z
    have hi' : i < (pickOrder (w.params.setOrder S ep) es).size := by omega
    refine itemS x y (nx := j) (v := ((pickOrder (w.params.setOrder S ep) es)[i]).2) (fun q => setNextT hT y (by rw [Array.getElem?_eq_getElem hi']; exact q)) fun h' x' hs' => ?_
    refine hQ _ h' s.toks (by simp [hi']) ⟨⟨j, x'⟩, y.keep fun o e => (hs'.2 S hne).trans e⟩ fun b o hb e => hs'.extBut b o (fun h => hb (by simp [h])) e
  done := fun s Q E st hQ => by
    obtain ⟨⟨j, x⟩, y⟩ := st
    have hl : (pickOrder (w.params.setOrder S ep) es).size = es.size := by have z := (pick_perm (w.params.setOrder S ep) es).length_eq; simpa using z
    exact endS hh x y (fun q => setNextT hT y (by rw [Array.getElem?_eq_none (by omega)]; exact q)) fun h' he' => hQ h' s.toks fun b o hb e => he' b o (fun h => hb (by simp [h])) e
  self := fun i s Q E st h => let ⟨j, x⟩ := st.1; iter_self x h
theorem below_one (p j : Nat) : SetTable.below #[p] j = if p < j then 1 else 0 := by
  unfold SetTable.below
  show SetTable.below.go #[p] j 1 0 1 = _
  unfold SetTable.below.go
  simp only [Nat.zero_lt_one, if_true, Nat.zero_add, show (1 : Nat) / 2 = 0 from rfl]
  show (if (#[p].getD 0 j) < j then SetTable.below.go #[p] j 0 1 1 else SetTable.below.go #[p] j 0 0 0) = _
  rw [show (#[p].getD 0 j) = p from rfl]
  split <;> (unfold SetTable.below.go; rfl)
theorem walkO (hh : A.handled = none) (hT : w.params.followText "set-order" = false) (I S : Addr) (hne : S ≠ I) (es : Array (Int × Value)) (ep : Nat) (t : SetTable) (hn : es.size ≤ 1) (hl : t.led = true) (hf : t.fits es.size = true) :
    Walks prog w A I [I, S] [I] es.size (fun i v => (es.toList.map (·.2))[i]? = some v) (fun i h => (∃ j : Nat, ItAt h I S (.int j 0) i es.size ep ∧ (i = 0 → j = 0) ∧ (∀ p, t.place[0]? = some p → i = 1 → j = p + 1)) ∧ StAt h S es ep t) where
  sub := fun b hb => by simp at hb; simp [hb]
  frame := fun i h h' st hk => ⟨let ⟨j, x, r⟩ := st.1; ⟨j, x.keep fun o e => hk I (by simp) o e, r⟩, st.2.keep fun o e => hk S (by simp) o e⟩
  item := fun i s Q E hi st hQ => by
    obtain ⟨⟨j, x, r0, r1⟩, y⟩ := st
    have hi0 : i = 0 := by omega
    subst hi0
    have hj := r0 rfl
    subst hj
    have hps : t.place.size = es.size := by simp only [SetTable.fits, Bool.and_eq_true, beq_iff_eq] at hf; exact hf.1
    obtain ⟨p, hp⟩ : ∃ p, t.place = #[p] := Array.size_eq_one_iff.mp (by omega)
    obtain ⟨e, he⟩ : ∃ e, es = #[e] := Array.size_eq_one_iff.mp (by omega)
    refine itemS x y (nx := p + 1) (v := e.2) (fun q => setNextO hT y hn hl ?_) fun h' x' hs' => ?_
    · rw [hp, below_one, if_neg (Nat.not_lt_zero _), he]; exact q
    · refine hQ _ h' s.toks (by rw [he]; rfl) ⟨⟨p + 1, x', fun c => by omega, fun p' hp' _ => ?_⟩, y.keep fun o e => (hs'.2 S hne).trans e⟩ fun b o hb e => hs'.extBut b o (fun h => hb (by simp [h])) e
      rw [hp] at hp'; simp at hp'; rw [hp']
  done := fun s Q E st hQ => by
    obtain ⟨⟨j, x, r0, r1⟩, y⟩ := st
    have hps : t.place.size = es.size := by simp only [SetTable.fits, Bool.and_eq_true, beq_iff_eq] at hf; exact hf.1
    refine endS hh x y (fun q => setNextO hT y hn hl ?_) fun h' he' => hQ h' s.toks fun b o hb e => he' b o (fun h => hb (by simp [h])) e
    by_cases h0 : es.size = 0
    · have he : es = #[] := Array.eq_empty_of_size_eq_zero h0
      rw [he]; simpa using q
    · obtain ⟨p, hp⟩ : ∃ p, t.place = #[p] := Array.size_eq_one_iff.mp (by omega)
      obtain ⟨e, he⟩ : ∃ e, es = #[e] := Array.size_eq_one_iff.mp (by omega)
      have hj : j = p + 1 := r1 p (by rw [hp]; rfl) (by omega)
      rw [hp, below_one, hj, if_pos (Nat.lt_succ_self _), he]; exact q
  self := fun i s Q E st h => let ⟨j, x, _⟩ := st.1; iter_self x h
theorem walkD (hh : A.handled = none) (I S tp : Addr) (hne : S ≠ I) (hne' : tp ≠ I) (es : Array (Int × Value)) (ep : Nat) (t : SetTable) (ps : List Nat) (hp : List.Perm ps (List.range es.size)) (ot : Obj) (c : Nat) (hdt : ot.data = .seq (ps.map fun (i : Nat) => rawInt i).toArray c) :
    Walks prog w A I [I, S, tp] [I] es.size (fun i v => (ps.map fun p => (es.getD p (0, .none)).2)[i]? = some v) (fun i h => ItAt h I S (.ref tp) i es.size ep ∧ StAt h S es ep t ∧ h.get? tp = some ot) where
  sub := fun b hb => by simp at hb; simp [hb]
  frame := fun i h h' st hk => ⟨st.1.keep fun o e => hk I (by simp) o e, st.2.1.keep fun o e => hk S (by simp) o e, hk tp (by simp) _ st.2.2⟩
  item := fun i s Q E hi st hQ => by
    obtain ⟨x, y, z⟩ := st
    have hlen : ps.length = es.size := by have z := hp.length_eq; simpa using z
    have hi' : i < ps.length := by omega
    have hpi : ps[i] < es.size := by have z := hp.mem_iff.mp (List.getElem_mem hi'); simpa using z
    refine itemD x y z hdt (p := ps[i]) (e := es[ps[i]]) (by simp [hi', rawInt]) (Array.getElem?_eq_getElem hpi) fun h' x' hs' => ?_
    refine hQ _ h' s.toks (by simp [hi', Array.getD, hpi]) ⟨x', y.keep fun o e => (hs'.2 S hne).trans e, (hs'.2 tp hne').trans z⟩ fun b o hb e => hs'.extBut b o (fun h => hb (by simp [h])) e
  done := fun s Q E st hQ => by
    obtain ⟨x, y, z⟩ := st
    have hlen : ps.length = es.size := by have z := hp.length_eq; simpa using z
    exact endD hh x y z hdt (by simp [hlen]) fun h' he' => hQ h' s.toks fun b o hb e => he' b o (fun h => hb (by simp [h])) e
  self := fun i s Q E st h => iter_self st.1 h
end walks
end PySem.Sg
namespace PySem.Sg
open PySem PySem.Spec PyProof.Rows
section iter
variable {prog : Program} {w : World} {A : Around} {E : Value → Shared → Prop} {s : Shared}
theorem strs_of_elems {es : Array (Int × Value)} (h : ElemsOf (strKind prog w) es.toList) : StrsAre (es.toList.map (·.2)) (es.toList.map fun e => strOf e.2) := by
  have z := strsAre_map (es.toList.map (·.2)) fun v hv => by
    obtain ⟨e, he, rfl⟩ := List.mem_map.mp hv
    obtain ⟨⟨k, hk, _⟩, _⟩ := h e he
    obtain ⟨_, t, q⟩ := isStr_of hk
    exact ⟨k, t, q⟩
  rw [List.map_map] at z
  exact z
theorem map_getD {α : Type} (d : α) (es : Array α) : (List.range es.size).map (fun p => es.getD p d) = es.toList := by
  apply List.ext_getElem
  · simp
  · intro i h1 h2; simp at h1; simp [Array.getD, h1]
theorem pyIter_set {S : Addr} {τ : List Str} {Q : Value → Shared → Prop} (hS : SetIs prog w s.heap S τ)
    (hQ : ∀ (s' : Shared) (I : Addr) (fp : List Addr) (St : Nat → Heap → Prop) (ord : List Value) (n : Nat), n = τ.length → (∀ A' : Around, A'.handled = none → Walks prog w A' I fp [I] n (fun i v => ord[i]? = some v) St) → St 0 s'.heap →
      (∃ ss, StrsAre ord ss ∧ List.Perm ss τ) → (∀ b ∈ fp, b < s'.heap.objs.size ∧ (b = S ∨ s.heap.objs.size ≤ b)) → s.heap.objs.size ≤ I → (∀ b o, s.heap.get? b = some o → s'.heap.get? b = some o) → s'.gens = s.gens → s'.os = s.os → s'.toks = s.toks → Q (.ref I) s') :
    wpAny (model prog w) A (pyIter (.ref S)) Q E s := by
  obtain ⟨o, es, ep, t, ho, hex, hd, hel, hp, hb, hf, hled, hpl⟩ := hS
  have hT : s.TypeIs (.ref S) "set" := ⟨o, ho, hex.1⟩
  have hlt : S < s.heap.objs.size := Heap.lt_size ho
  have hlen : es.size = τ.length := by have z := hp.length_eq; simpa using z
  have hst : StAt s.heap S es ep t := ⟨o, ho, hd, hf⟩
  refine wpAny_pyIter_slot hT PySem.F.slot_set_iter (wpAny_call_entry PySem.F.slot_set_iter hT F.entry_set_iter ?_ (PySem.F.args_set_iter_1 _))
  show wpAny _ _ (Builtin.Frozenset.sizeOf S >>= _) _ _ s
  unfold Builtin.Frozenset.sizeOf
  refine wpAny_bind (wpAny_bind (wpAny_setEntries_of ho hd hf (wpAny_pure ?_)))
  refine wpAny_bind (wp_setDrawn ho hd hf ?_)
  cases q : (!w.params.followText "set-order" && (!t.plain && decide (es.size > 1))) with
  | true =>
    rw [if_pos rfl]
    refine wpAny_bind (wp_drawOrder es.size (List.range es.size) _ List.length_range fun ps d pp => ?_)
    have hlp : ps.length = es.size := by have z := pp.length_eq; simpa using z
    have hz : (ps.map fun (i : Nat) => rawInt i).toArray.size ≤ sizeLine := by
      have z := fits_of_scanBound hb
      simp only [List.size_toArray, List.length_map, hlp]
      exact z
    refine wpAny_bind (wpAny_newObj_type ?_ (by first | exact hz | simpa using hz))
    have h1 : (s.heap.push { cls := .type "tuple", data := .seq (ps.map fun (i : Nat) => rawInt i).toArray }).get? S = some o := Heap.get?_push_of_some _ ho
    refine wpAny_bind (wpAny_setEpoch_of h1 hd hf ?_)
    refine wpAny_bind (wpAny_newObj_type (wpAny_pure ⟨_, rfl, "set_iterator", _, ⟨_, Heap.get?_push_size _ rfl, rfl⟩, F.slot_next.lookup, ?_⟩))
    have hz1 : (s.heap.push { cls := .type "tuple", data := .seq (ps.map fun (i : Nat) => rawInt i).toArray }).objs.size = s.heap.objs.size + 1 := Heap.size_push _ _
    refine hQ _ _ [(s.heap.push { cls := .type "tuple", data := .seq (ps.map fun (i : Nat) => rawInt i).toArray }).objs.size, S, s.heap.objs.size] _ (ps.map fun p => (es.getD p (0, .none)).2) es.size hlen
      (fun A' hA => walkD hA _ S s.heap.objs.size (by rw [hz1]; exact Nat.ne_of_lt (Nat.lt_succ_of_lt hlt)) (by rw [hz1]; exact Nat.ne_of_lt (Nat.lt_succ_self _)) es ep t ps pp _ 0 rfl) ⟨⟨_, Heap.get?_push_size _ rfl, rfl, rfl⟩, ⟨o, Heap.get?_push_of_some _ h1, hd, hf⟩, Heap.get?_push_of_some _ (Heap.get?_push_size _ rfl)⟩ ?_ ?_ (by rw [hz1]; omega)
      (fun b o' e => Heap.get?_push_of_some _ (Heap.get?_push_of_some _ e)) rfl rfl rfl
    · have hpe : List.Perm (ps.map fun p => es.getD p (0, .none)) es.toList := by
        have z := pp.map (fun p => es.getD p (0, .none))
        rw [map_getD] at z
        exact z
      have hel' : ElemsOf (strKind prog w) (ps.map fun p => es.getD p (0, .none)).toArray.toList := hel.perm (by simpa using hpe)
      have z := strs_of_elems hel'
      simp only [List.map_map] at z
      refine ⟨_, z, ?_⟩
      have z2 := (hpe.map fun e => strOf e.2).trans hp
      rw [List.map_map] at z2
      exact z2
    · intro b hb'
      rw [Heap.size_push, hz1]
      rw [hz1] at hb'
      simp only [List.mem_cons, List.not_mem_nil, or_false] at hb'
      rcases hb' with rfl | rfl | rfl
      · exact ⟨Nat.lt_succ_self _, .inr (Nat.le_succ _)⟩
      · exact ⟨Nat.lt_succ_of_lt (Nat.lt_succ_of_lt hlt), .inl rfl⟩
      · exact ⟨Nat.lt_succ_of_lt (Nat.lt_succ_self _), .inr (Nat.le_refl _)⟩
  | false =>
    rw [if_neg (by decide)]
    refine wpAny_bind (wpAny_pure ?_)
    refine wpAny_bind (wpAny_setEpoch_of ho hd hf ?_)
    refine wpAny_bind (wpAny_newObj_type (wpAny_pure ⟨_, rfl, "set_iterator", _, ⟨_, Heap.get?_push_size _ rfl, rfl⟩, F.slot_next.lookup, ?_⟩))
    have kp : ∀ b o', s.heap.get? b = some o' → (s.heap.push { cls := .type "set_iterator", data := .fields #[.int 0 0, .int 0 0, .ref S, .int es.size 0, .int ep 0] }).get? b = some o' := fun b o' e => Heap.get?_push_of_some _ e
    have fps : ∀ b ∈ [s.heap.objs.size, S], b < (s.heap.push { cls := .type "set_iterator", data := .fields #[.int 0 0, .int 0 0, .ref S, .int es.size 0, .int ep 0] }).objs.size ∧ (b = S ∨ s.heap.objs.size ≤ b) := fun b hb => by
      rw [Heap.size_push]
      simp only [List.mem_cons, List.not_mem_nil, or_false] at hb
      rcases hb with rfl | rfl
      · exact ⟨Nat.lt_succ_self _, .inr (Nat.le_refl _)⟩
      · exact ⟨Nat.lt_succ_of_lt hlt, .inl rfl⟩
    have it : ItAt (s.heap.push { cls := .type "set_iterator", data := .fields #[.int 0 0, .int 0 0, .ref S, .int es.size 0, .int ep 0] }) s.heap.objs.size S (.int (0 : Nat) 0) 0 es.size ep := ⟨_, Heap.get?_push_size _ rfl, rfl, rfl⟩
    cases hT : w.params.followText "set-order" with
    | true =>
      have pk := pick_perm (w.params.setOrder S ep) es
      refine hQ _ s.heap.objs.size [s.heap.objs.size, S] _ _ es.size hlen (fun A' hA => walkT hA hT _ S (Nat.ne_of_lt hlt) es ep t) ⟨⟨0, it⟩, hst.keep fun o e => kp S o e⟩ ?_ fps (Nat.le_refl _) kp rfl rfl rfl
      have hel' : ElemsOf (strKind prog w) (pickOrder (w.params.setOrder S ep) es).toList := hel.perm pk
      exact ⟨_, strs_of_elems hel', (pk.map _).trans hp⟩
    | false =>
      rw [hT] at hled q
      have hl : t.led = true := hled.resolve_left (by decide)
      have hn : es.size ≤ 1 := by
        rcases hpl with h | h
        · omega
        · rw [h] at q; simp at q; exact q
      exact hQ _ s.heap.objs.size [s.heap.objs.size, S] _ _ es.size hlen (fun A' hA => walkO hA hT _ S (Nat.ne_of_lt hlt) es ep t hn hl hf) ⟨⟨0, it, fun _ => rfl, fun _ _ c => by omega⟩, hst.keep fun o e => kp S o e⟩ ⟨_, strs_of_elems hel, hp⟩ fps (Nat.le_refl _) kp rfl rfl rfl
theorem set_len : typeLookup (.type "set") "__len__" = pure (some (.builtin "set.__len__")) := by rw [typeLookup_type, builtinLookup_eq_fast]; kernel_rfl
theorem collect_set (hh : A.handled = none) {S : Addr} {τ : List Str} {Q : List Value → Shared → Prop} (hS : SetIs prog w s.heap S τ)
    (hQ : ∀ s' vs ss, (∀ b o, s.heap.get? b = some o → s'.heap.get? b = some o) → s'.gens = s.gens → s'.os = s.os → s.toks ≤ s'.toks → StrsAre vs ss → List.Perm ss τ → Q vs s') :
    wpAny (model prog w) A (collect (.ref S)) Q E s := by
  have hlt : S < s.heap.objs.size := by obtain ⟨o, _, _, _, ho, _⟩ := hS; exact Heap.lt_size ho
  have hT : ∀ (s₁ : Shared), (∀ o, s.heap.get? S = some o → s₁.heap.get? S = some o) → s₁.TypeIs (.ref S) "set" := fun s₁ k => by obtain ⟨o, _, _, _, ho, hex, _⟩ := hS; exact ⟨o, k o ho, hex.1⟩
  have hbd : τ.length < scanBound := by obtain ⟨o, es, _, _, ho, _, _, _, hp, hb, _⟩ := hS; have z := hp.length_eq; simp at z; omega
  unfold collect
  refine wpAny_bind (wpAny_runValue (codeAny_builtin PySem.F.entry_proto_collect ?_))
  rw [Around.under_plainId PySem.F.plain_proto_collect _]
  show wpAny _ A.in1 (newList [] >>= fun l => again (.builtin "list.__iadd__" ⟨[l, .ref S], []⟩)) _ _ s
  refine wpAny_bind (wpAny_newObj_type ?_)
  refine wpAny_pure ⟨plainId_quiet PySem.F.plain_list_iadd _, codeAny_builtin PySem.F.entry_list_iadd ?_⟩
  rw [Around.under_plainId PySem.F.plain_list_iadd _]
  show wpAny _ A.in1 (Builtin.List.listExtendWith (.ref s.heap.objs.size) (.ref S) (.ref s.heap.objs.size)) _ _ _
  unfold Builtin.List.listExtendWith
  have hz1 : (s.heap.push { cls := .type "list", data := .seq ([] : List Value).toArray }).objs.size = s.heap.objs.size + 1 := Heap.size_push _ _
  have hL1 : (s.heap.push { cls := .type "list", data := .seq ([] : List Value).toArray }).get? s.heap.objs.size = some { cls := .type "list", data := .seq ([] : List Value).toArray } := Heap.get?_push_size _ rfl
  refine wpAny_bind (wpAny_typeOf (hT _ fun o e => Heap.get?_push_of_some _ e) ?_)
  have h1 : Builtin.List.listSameRef (.ref s.heap.objs.size) (.ref S) = false := by simp only [Builtin.List.listSameRef]; exact beq_eq_false_iff_ne.mpr (Nat.ne_of_gt hlt)
  have h2 : (Value.type "set" == Value.type "list") = false := by decide
  have h3 : (Value.type "set" == Value.type "tuple") = false := by decide
  simp only [h1, h2, h3, Bool.or_false, Bool.false_eq_true, if_false]
  refine wpAny_bind (pyIter_set (s := { s with heap := s.heap.push { cls := .type "list", data := .seq ([] : List Value).toArray } }) (hS.at fun o e => Heap.get?_push_of_some _ e) fun s₂ I fp St ord n hn W st hord hfp hI kp eg eo et => ?_)
  refine wpAny_bind (wpAny_holding ?_)
  have hT2 := hT s₂ fun o e => kp _ _ (Heap.get?_push_of_some _ e)
  unfold Builtin.List.listLengthHint
  refine wpAny_bind (wpAny_specialOf hT2 set_len ?_)
  wp_delta
  refine wpAny_bind (wpAny_isInstance (b := true) hT2 (by rw [isSubtype_type]; kernel_rfl) ?_)
  show wpAny _ A.in1 (typeOf (Value.ref S) >>= _) _ _ _
  refine wpAny_bind (wpAny_typeOf hT2 ?_)
  refine wpAny_pure ?_
  rw [if_pos (by decide)]
  have hL2 := kp _ _ hL1
  have hLf : s.heap.objs.size ∉ fp := fun hm => by
    rcases (hfp _ hm).2 with e | e
    · exact Nat.ne_of_gt hlt e
    · exact Nat.not_succ_le_self _ (hz1 ▸ e)
  refine wpAny_bind (wpAny_rule (wpAny_bind ?_))
  show wpAny _ A.in1 (updateSeq s.heap.objs.size (·.push .none) >>= fun _ => updateSeq s.heap.objs.size (·.pop)) _ _ _
  refine wpAny_bind (wpAny_updateSeq hL2 rfl ?_)
  have hL3 := Heap.get?_update_self (Obj.mapSeq (·.push Value.none)) hL2 rfl
  refine wpAny_updateSeq hL3 rfl ?_
  have hL4 := Heap.get?_update_self (Obj.mapSeq (·.pop)) hL3 rfl
  have oth : ∀ b o, b ≠ s.heap.objs.size → s₂.heap.get? b = some o → ((s₂.heap.update s.heap.objs.size (Obj.mapSeq (·.push Value.none))).update s.heap.objs.size (Obj.mapSeq (·.pop))).get? b = some o :=
    fun b o hb e => (Heap.get?_update_other _ _ (Ne.symm hb)).trans ((Heap.get?_update_other _ _ (Ne.symm hb)).trans e)
  have W1 := (W A.in1.in1 (by simp [hh])).toS
  refine wpAny_pure ⟨plainId_quiet PySem.F.plain_extend_loop _, codeAny_extend_loopS ((W A.in1 (by simp [hh])).toS) (by rw [hn]; exact fits_of_scanBound hbd) _ hLf _ n 0 _ _ _ rfl (Nat.zero_le _)
    ((W A.in1 (by simp [hh])).toS.frame 0 s₂ _ s₂.toks st (Nat.le_refl _) fun b hb o e => oth b o (fun h => hLf (h ▸ hb)) e) hL4 (ItemsOf.nil _) fun s' acc' c' hm hS' hacc => ?_⟩
  show wpAny _ A (load s.heap.objs.size >>= _) _ _ s'
  refine wpAny_bind (wpAny_load hS' (wpAny_pure ?_))
  obtain ⟨ss, hs1, hs2⟩ := hord
  have eq : acc'.toList = ord := by
    have l1 : ord.length = n := by rw [hs1.len_eq, hs2.length_eq, hn]
    have l2 : acc'.toList.length = n := by rw [Array.length_toList]; exact hacc.1
    refine List.ext_getElem? fun j => ?_
    by_cases hj : j < n
    · have hj' : j < acc'.size := by rw [hacc.1]; exact hj
      have z := hacc.2 j acc'[j] (Array.getElem?_eq_getElem hj')
      rw [z, Array.getElem?_toList, Array.getElem?_eq_getElem hj']
    · rw [List.getElem?_eq_none (by omega), List.getElem?_eq_none (by omega)]
  rw [eq]
  refine hQ s' ord ss (fun b o e => ?_) (hm.gens.trans eg) (hm.os.trans eo) (Nat.le_trans (Nat.le_of_eq et.symm) hm.toks) hs1 hs2
  have hlb := Heap.lt_size e
  have hbL : b ≠ s.heap.objs.size := Nat.ne_of_lt hlb
  have hbI : b ≠ I := Nat.ne_of_lt (Nat.lt_of_lt_of_le (Nat.lt_succ_of_lt hlb) (Nat.le_trans (Nat.le_of_eq hz1.symm) hI))
  exact hm.heap b o (by simp only [List.mem_cons, List.not_mem_nil, or_false, not_or]; exact ⟨hbL, hbI⟩) (oth b o hbL (kp b o (Heap.get?_push_of_some _ e)))
theorem sorted_set (hh : A.handled = none) {S : Addr} {τ : List Str} (h64 : τ.length < 64) {Q : Value → Shared → Prop} (hS : SetIs prog w s.heap S τ)
    (hQ : ∀ (s' : Shared) (l : Addr) (out : Array Value) (ss : List Str) (e : Nat), (∀ b o, s.heap.get? b = some o → s'.heap.get? b = some o) → s'.gens = s.gens → s'.os = s.os → s.toks ≤ s'.toks → S < l →
      s'.heap.get? l = some (seqObj "list" out e) → StrsAre out.toList ss → List.Perm ss τ → sortedS ss = true → Q (.ref l) s') :
    wpAny (model prog w) A (call (.builtin "sorted") [.ref S]) Q E s := by
  have hlt : S < s.heap.objs.size := by obtain ⟨o, _, _, _, ho, _⟩ := hS; exact Heap.lt_size ho
  refine Calls.call_function_entry kind_sorted plain_sorted entry_sorted (args_sorted1 _) ?_
  unfold Builtin.«sorted»
  refine wpAny_bind (m := checkCount "sorted" 1 1 _) (wpAny_pure ?_)
  refine wpAny_bind (collect_set (by simp [hh]) hS fun s' vs ss kp eg eo et h1 h2 => ?_)
  have hl : vs.length < 64 := by rw [h1.len_eq, h2.length_eq]; exact h64
  refine wpAny_bind (wpAny_newList ?_)
  have hoL : (s'.heap.push (seqObj "list" vs.toArray 0)).get? s'.heap.objs.size = some (seqObj "list" vs.toArray 0) := Heap.get?_push_size _ rfl
  show wpAny _ _ _ _ _ { s' with heap := s'.heap.push (seqObj "list" vs.toArray 0) }
  refine wpAny_bind (wpAny_holding (wpAny_call_entry slot_list_sort ⟨_, hoL, rfl⟩ entry_list_sort (list_sort_treeK strKind_oneLt hoL h1.keysOf (fun v₁ v₂ rest e => keyKind_strs (by rw [← e]; exact h1)) hl fun st' a1 a2 => ⟨_, rfl, ?_⟩) (args_list_sort _)))
  obtain ⟨ss', b1, b2, b3⟩ := sorted_out_str h1 a1 a2
  obtain ⟨e, he⟩ := sortedHeap_at (out := (arrOf st').map (·.2)) hoL
  have hge : S < s'.heap.objs.size := by obtain ⟨o, _, _, _, ho, _⟩ := hS; exact Heap.lt_size (kp S o ho)
  refine wpAny_pure ⟨_, rfl, hQ _ s'.heap.objs.size _ ss' e (fun b o q => ?_) eg eo et hge he b1 (b2.trans h2) b3⟩
  have hb := Heap.lt_size (kp b o q)
  rw [sortedHeap_old (Nat.ne_of_lt hb) (by rw [Heap.size_push]; exact Nat.lt_succ_of_lt hb)]
  exact Heap.get?_push_of_some _ (kp b o q)
end iter
end PySem.Sg
namespace Sw
open PySem PySem.Spec PyProof.Rows L2
@[reducible] noncomputable def Mo := Addr → Option HO
noncomputable def rd (M : Mo) (H : Hp) (a : Addr) : Option HO := match H a with
  | some (.frz _ u) => some u
  | some o => some o
  | none => M a
noncomputable def ModOk (K : PySem.W.Frag) (M : Mo) : Prop := ∀ a o, M a = some o → match o with
  | .lst xs => ∃ (o : Obj) (its : Array Value) (n : Nat), K.lookup a = some o ∧ o.cls = .type "list" ∧ o.dict = none ∧ o.data = .seq its n ∧ its.size ≤ sizeLine ∧ Vals xs its.toList
  | .tup xs => ∃ (o : Obj) (its : Array Value) (n : Nat), K.lookup a = some o ∧ o.cls = .type "tuple" ∧ o.data = .seq its n ∧ its.size ≤ sizeLine ∧ Vals xs its.toList
  | _ => False
theorem rd_cases {M : Mo} {H : Hp} {a : Addr} {u : HO} (h : rd M H a = some u) : Rd H a u ∨ (H a = none ∧ M a = some u) := by
  unfold rd at h
  cases e : H a with
  | none => rw [e] at h; exact .inr ⟨rfl, h⟩
  | some o =>
    rw [e] at h
    cases o <;> first | (injection h with h; subst h; exact .inl (.inl e)) | (injection h with h; subst h; exact .inl (.inr ⟨_, e⟩))
theorem rd_lst {K : PySem.W.Frag} {M : Mo} (m : ModOk K M) {H : Hp} {a : Addr} {xs : List V} (h : rd M H a = some (.lst xs)) : SqL K H a xs := by
  rcases rd_cases h with h | ⟨_, h⟩
  · exact .inl h
  · exact .inr (m a _ h)
theorem rd_tup {K : PySem.W.Frag} {M : Mo} (m : ModOk K M) {H : Hp} {a : Addr} {xs : List V} (h : rd M H a = some (.tup xs)) : SqT K H a xs := by
  rcases rd_cases h with h | ⟨_, h⟩
  · exact .inl h
  · exact .inr (m a _ h)
noncomputable def allM {α : Type} (f : V → Option α) : List V → Option (List α)
  | [] => some []
  | x :: r => match f x, allM f r with
    | some a, some l => some (a :: l)
    | _, _ => none
noncomputable def data (M : Mo) (H : Hp) : Nat → V → Option PyData
  | _, .non => some .none
  | _, .bl b => some (.bool b)
  | _, .int i => some (.int i)
  | _, .str x => some (.str x)
  | n + 1, .ref p => match rd M H p with
    | some (.lst xs) => (allM (data M H n) xs).map .list
    | some (.tup xs) => (allM (data M H n) xs).map .tuple
    | _ => none
  | _, _ => none
theorem allM_cons {α : Type} {f : V → Option α} {x : V} {r : List V} {l : List α} (h : allM f (x :: r) = some l) : ∃ a t, f x = some a ∧ allM f r = some t ∧ l = a :: t := by
  unfold allM at h
  split at h
  · rename_i a t h1 h2
    exact ⟨a, t, h1, h2, (Option.some.inj h).symm⟩
  · cases h
theorem allM_nil {α : Type} {f : V → Option α} {l : List α} (h : allM f [] = some l) : l = [] := (Option.some.inj h).symm
theorem allM_get {α : Type} {f : V → Option α} : ∀ {xs : List V} {bs : List α} {i : Nat} {x : V}, allM f xs = some bs → xs[i]? = some x → ∃ b, bs[i]? = some b ∧ f x = some b
  | [], bs, i, x, h, e => by simp at e
  | y :: r, bs, i, x, h, e => by
    obtain ⟨a, t, h1, h2, rfl⟩ := allM_cons h
    cases i with
    | zero =>
      simp at e
      subst e
      exact ⟨a, rfl, h1⟩
    | succ i => exact allM_get (i := i) h2 (by simpa using e)
theorem allM_length {α : Type} {f : V → Option α} : ∀ {xs : List V} {bs : List α}, allM f xs = some bs → bs.length = xs.length
  | [], bs, h => by rw [allM_nil h]; rfl
  | y :: r, bs, h => by
    obtain ⟨a, t, h1, h2, rfl⟩ := allM_cons h
    simp [allM_length h2]
theorem Vals.back {xs : List V} {us : List Value} {i : Nat} {u : Value} (r : Vals xs us) (e : us[i]? = some u) : ∃ x, xs[i]? = some x ∧ RelV x u := by
  cases h : xs[i]? with
  | none =>
    have := Vals.none_of r h
    rw [this] at e; cases e
  | some x =>
    obtain ⟨u', e', rx⟩ := Vals.get r h
    rw [e'] at e
    cases e
    exact ⟨x, rfl, rx⟩
theorem eqvAll_self : ∀ {xs : List PyData}, (∀ d ∈ xs, PyData.eqv d d = true) → PyData.eqvAll xs xs = true
  | [], _ => rfl
  | x :: r, h => by
    rw [PyData.eqvAll, h x List.mem_cons_self, eqvAll_self fun d hd => h d (List.mem_cons_of_mem _ hd)]
    rfl
theorem mem_allM {α : Type} {f : V → Option α} : ∀ {xs : List V} {bs : List α} {b : α}, allM f xs = some bs → b ∈ bs → ∃ x ∈ xs, f x = some b
  | [], bs, b, h, hb => by rw [allM_nil h] at hb; cases hb
  | y :: r, bs, b, h, hb => by
    obtain ⟨a, t, h1, h2, rfl⟩ := allM_cons h
    rcases List.mem_cons.mp hb with rfl | hb
    · exact ⟨y, List.mem_cons_self, h1⟩
    · obtain ⟨x, hx, e⟩ := mem_allM h2 hb
      exact ⟨x, List.mem_cons_of_mem _ hx, e⟩
theorem data_self {M : Mo} {H : Hp} : ∀ (n : Nat) (x : V) (d : PyData), data M H n x = some d → PyData.eqv d d = true := by
  intro n
  induction n with
  | zero =>
    intro x d h
    cases x <;> first | (cases h; simp [PyData.eqv]) | cases h
  | succ n ih =>
    intro x d h
    cases x with
    | ref p =>
      unfold data at h
      split at h
      · obtain ⟨l, hl, rfl⟩ := Option.map_eq_some_iff.mp h
        rw [PyData.eqv]
        exact eqvAll_self fun d hd => by
          obtain ⟨x, _, e⟩ := mem_allM hl hd
          exact ih x d e
      · obtain ⟨l, hl, rfl⟩ := Option.map_eq_some_iff.mp h
        rw [PyData.eqv]
        exact eqvAll_self fun d hd => by
          obtain ⟨x, _, e⟩ := mem_allM hl hd
          exact ih x d e
      · cases h
    | _ => first | (cases h; simp [PyData.eqv]) | cases h
inductive Lies (M : Mo) (H : Hp) (h : Heap) (n : Nat) : V → Value → PyData → Prop where
  | non : Lies M H h n .non .none .none
  | bl (b : Bool) : Lies M H h n (.bl b) (.bool b) (.bool b)
  | int (i : Int) (t : Tok) : Lies M H h n (.int i) (.int i t) (.int i)
  | str (x : Str) (t : Tok) : Lies M H h n (.str x) (.str x t) (.str x)
  | lst {p : Addr} {xs : List V} {its : List Value} {l : List PyData} {m : Nat} : n = m + 1 → h.IsList p its.toArray → Vals xs its → allM (data M H m) xs = some l → Lies M H h n (.ref p) (.ref p) (.list l)
  | tup {p : Addr} {xs : List V} {its : List Value} {l : List PyData} {m : Nat} : n = m + 1 → h.IsTuple p its.toArray → Vals xs its → allM (data M H m) xs = some l → Lies M H h n (.ref p) (.ref p) (.tuple l)
section
open PySem.SeqAt
variable {X : Cx} {M : Mo} {pins : List (Addr × Obj)} {σ : L2.St} {H : Hp} {s : Shared}
theorem lies (m : ModOk X.K M) (I : Inv X pins σ H s) {n : Nat} {x : V} {v : Value} {d : PyData} (rx : RelV x v) (h : data M H n x = some d) : Lies M H s.heap n x v d := by
  cases x with
  | non => cases (show v = Value.none from rx); cases n <;> (cases h; exact .non)
  | bl b => cases (show v = Value.bool b from rx); cases n <;> (cases h; exact .bl b)
  | int i => obtain ⟨t, e⟩ := (show ∃ t, v = Value.int i t from rx); subst e; cases n <;> (cases h; exact .int i t)
  | str x => obtain ⟨t, e⟩ := (show ∃ t, v = Value.str x t from rx); subst e; cases n <;> (cases h; exact .str x t)
  | ref p =>
    cases (show v = Value.ref p from rx)
    cases n with
    | zero => cases h
    | succ n =>
      unfold data at h
      split at h
      · rename_i xs e
        obtain ⟨l, hl, rfl⟩ := Option.map_eq_some_iff.mp h
        obtain ⟨its, rv, pl, _⟩ := I.list (rd_lst m e)
        exact .lst rfl pl.isList rv hl
      · rename_i xs e
        obtain ⟨l, hl, rfl⟩ := Option.map_eq_some_iff.mp h
        obtain ⟨its, rv, pl, _⟩ := I.tuple (rd_tup m e)
        exact .tup rfl pl rv hl
      · cases h
  | _ => cases n <;> cases h
theorem item_eqAt {n : Nat} {A : Around} (ih : ∀ (x y : V) (v u : Value) (d e : PyData), RelV x v → RelV y u → data M H n x = some d → data M H n y = some e → EqAt A s v u (PyData.eqv d e))
    {xs ys : List V} {vs us : List Value} {l l' : List PyData} (r1 : Vals xs vs) (r2 : Vals ys us) (h1 : allM (data M H n) xs = some l) (h2 : allM (data M H n) ys = some l') :
    ∀ j (q1 : j < vs.toArray.size) (q2 : j < us.toArray.size), EqAt A s vs.toArray[j] us.toArray[j] (pairEq l l' j) := by
  intro j q1 q2
  have q1' : j < vs.length := by simpa using q1
  have q2' : j < us.length := by simpa using q2
  obtain ⟨x, ex, rx⟩ := Vals.back r1 (List.getElem?_eq_getElem q1')
  obtain ⟨y, ey, ry⟩ := Vals.back r2 (List.getElem?_eq_getElem q2')
  obtain ⟨d, ed, fd⟩ := allM_get h1 ex
  obtain ⟨e, ee, fe⟩ := allM_get h2 ey
  have := ih x y _ _ d e rx ry fd fe
  show EqAt A s vs.toArray[j] us.toArray[j] (PyData.eqv (l.getD j .none) (l'.getD j .none))
  rw [List.getD_eq_getElem?_getD, List.getD_eq_getElem?_getD, ed, ee]
  simpa using this
theorem rc_lists {n : Nat} {A : Around} (hu : A.units < cLine) (ih : ∀ (x y : V) (v u : Value) (d e : PyData), RelV x v → RelV y u → data M H n x = some d → data M H n y = some e → EqAt A.in1 s v u (PyData.eqv d e))
    {p q : Addr} {xs ys : List V} {vs us : List Value} {l l' : List PyData} (hp : s.heap.IsList p vs.toArray) (hq : s.heap.IsList q us.toArray) (r1 : Vals xs vs) (r2 : Vals ys us) (h1 : allM (data M H n) xs = some l) (h2 : allM (data M H n) ys = some l') :
    RcAt A s (.ref p) (.ref q) (PyData.eqvAll l l') ∧ RcNeAt A s (.ref p) (.ref q) (!PyData.eqvAll l l') := by
  have n1 : vs.length = l.length := by rw [allM_length h1]; exact r1.length.symm
  have n2 : us.length = l'.length := by rw [allM_length h2]; exact r2.length.symm
  by_cases hz : l.length = l'.length
  · have hs : vs.toArray.size = us.toArray.size := by simp; omega
    have e1 := RcAt.lists hp hq hs hu (item_eqAt ih r1 r2 h1 h2)
    have e2 := RcNeAt.lists hp hq hs hu (item_eqAt ih r1 r2 h1 h2)
    rw [List.size_toArray, n1, eqvAll_same_length hz] at e1 e2
    exact ⟨e1, e2⟩
  · have hs : (vs.toArray.size != us.toArray.size) = true := by simp; omega
    rw [eqvAll_other_length hz]
    exact ⟨RcAt.lists_lengths hp hq hs hu, RcNeAt.lists_lengths hp hq hs hu⟩
theorem rc_tuples {n : Nat} {A : Around} (hu : A.units < cLine) (ih : ∀ (x y : V) (v u : Value) (d e : PyData), RelV x v → RelV y u → data M H n x = some d → data M H n y = some e → EqAt A.in1 s v u (PyData.eqv d e))
    {p q : Addr} {xs ys : List V} {vs us : List Value} {l l' : List PyData} (hp : s.heap.IsTuple p vs.toArray) (hq : s.heap.IsTuple q us.toArray) (r1 : Vals xs vs) (r2 : Vals ys us) (h1 : allM (data M H n) xs = some l) (h2 : allM (data M H n) ys = some l') :
    RcAt A s (.ref p) (.ref q) (PyData.eqvAll l l') ∧ RcNeAt A s (.ref p) (.ref q) (!PyData.eqvAll l l') := by
  have n1 : vs.length = l.length := by rw [allM_length h1]; exact r1.length.symm
  have n2 : us.length = l'.length := by rw [allM_length h2]; exact r2.length.symm
  have e1 := RcAt.tuples hp hq hu (item_eqAt ih r1 r2 h1 h2)
  have e2 := RcNeAt.tuples hp hq hu (item_eqAt ih r1 r2 h1 h2)
  rw [List.size_toArray, List.size_toArray, n1, n2, eqvAll_eq] at e1 e2
  exact ⟨e1, e2⟩
theorem ref_eqAt {n : Nat} {A : Around} {p q : Addr} {d e : PyData} (h1 : data M H n (.ref p) = some d) (h2 : data M H n (.ref q) = some e) (h : RcAt A s (.ref p) (.ref q) (PyData.eqv d e)) : EqAt A s (.ref p) (.ref q) (PyData.eqv d e) := by
  by_cases hpq : p = q
  · subst hpq
    have hd := h1.symm.trans h2
    cases hd
    rw [data_self _ _ _ h1]
    exact EqAt.same _
  · exact EqAt.of_refs hpq h
theorem eqAt_data (m : ModOk X.K M) (I : Inv X pins σ H s) : ∀ (n : Nat) (A : Around) (x y : V) (v u : Value) (d e : PyData), A.units + n < cLine → RelV x v → RelV y u → data M H n x = some d → data M H n y = some e → EqAt A s v u (PyData.eqv d e) := by
  intro n
  induction n with
  | zero =>
    intro A x y v u d e hu rx ry h1 h2
    cases lies m I rx h1 with
    | non =>
      cases lies m I ry h2 with
      | non => exact EqAt.same _
      | bl b2 => exact EqAt.none_bool b2
      | int i2 t2 => exact EqAt.none_int i2 t2
      | str z2 t2 => exact EqAt.none_str z2 t2
      | lst z2 hl2 r2 a2 => exact absurd z2 (by omega)
      | tup z2 hl2 r2 a2 => exact absurd z2 (by omega)
    | bl b1 =>
      cases lies m I ry h2 with
      | non => exact EqAt.bool_none b1
      | bl b2 => exact EqAt.bool_bool b1 b2
      | int i2 t2 => exact EqAt.bool_int b1 i2 t2
      | str z2 t2 => exact EqAt.bool_str b1 z2 t2
      | lst z2 hl2 r2 a2 => exact absurd z2 (by omega)
      | tup z2 hl2 r2 a2 => exact absurd z2 (by omega)
    | int i1 t1 =>
      cases lies m I ry h2 with
      | non => exact EqAt.int_none i1 t1
      | bl b2 => exact EqAt.int_bool i1 t1 b2
      | int i2 t2 => exact EqAt.int_int i1 t1 i2 t2
      | str z2 t2 => exact EqAt.int_str i1 t1 z2 t2
      | lst z2 hl2 r2 a2 => exact absurd z2 (by omega)
      | tup z2 hl2 r2 a2 => exact absurd z2 (by omega)
    | str z1 t1 =>
      cases lies m I ry h2 with
      | non => exact EqAt.str_none z1 t1
      | bl b2 => exact EqAt.str_bool z1 t1 b2
      | int i2 t2 => exact EqAt.str_int z1 t1 i2 t2
      | str z2 t2 => exact EqAt.str_str z1 t1 z2 t2
      | lst z2 hl2 r2 a2 => exact absurd z2 (by omega)
      | tup z2 hl2 r2 a2 => exact absurd z2 (by omega)
    | lst z1 hl1 r1 a1 =>
      exact absurd z1 (by omega)
    | tup z1 hl1 r1 a1 =>
      exact absurd z1 (by omega)
  | succ n ih =>
    intro A x y v u d e hu rx ry h1 h2
    have hu0 : A.units < cLine := by omega
    have ih1 : ∀ (x y : V) (v u : Value) (d e : PyData), RelV x v → RelV y u → data M H n x = some d → data M H n y = some e → EqAt A.in1 s v u (PyData.eqv d e) :=
      fun x y v u d e => ih A.in1 x y v u d e (by show A.units + 1 + n < cLine; omega)
    cases lies m I rx h1 with
    | non =>
      cases lies m I ry h2 with
      | non => exact EqAt.same _
      | bl b2 => exact EqAt.none_bool b2
      | int i2 t2 => exact EqAt.none_int i2 t2
      | str z2 t2 => exact EqAt.none_str z2 t2
      | lst z2 hl2 r2 a2 => exact EqAt.none_list hl2 hu0
      | tup z2 hl2 r2 a2 => exact EqAt.none_tuple hl2 hu0
    | bl b1 =>
      cases lies m I ry h2 with
      | non => exact EqAt.bool_none b1
      | bl b2 => exact EqAt.bool_bool b1 b2
      | int i2 t2 => exact EqAt.bool_int b1 i2 t2
      | str z2 t2 => exact EqAt.bool_str b1 z2 t2
      | lst z2 hl2 r2 a2 => exact EqAt.bool_list b1 hl2 hu0
      | tup z2 hl2 r2 a2 => exact EqAt.bool_tuple b1 hl2 hu0
    | int i1 t1 =>
      cases lies m I ry h2 with
      | non => exact EqAt.int_none i1 t1
      | bl b2 => exact EqAt.int_bool i1 t1 b2
      | int i2 t2 => exact EqAt.int_int i1 t1 i2 t2
      | str z2 t2 => exact EqAt.int_str i1 t1 z2 t2
      | lst z2 hl2 r2 a2 => exact EqAt.int_list i1 t1 hl2 hu0
      | tup z2 hl2 r2 a2 => exact EqAt.int_tuple i1 t1 hl2 hu0
    | str z1 t1 =>
      cases lies m I ry h2 with
      | non => exact EqAt.str_none z1 t1
      | bl b2 => exact EqAt.str_bool z1 t1 b2
      | int i2 t2 => exact EqAt.str_int z1 t1 i2 t2
      | str z2 t2 => exact EqAt.str_str z1 t1 z2 t2
      | lst z2 hl2 r2 a2 => exact EqAt.str_list z1 t1 hl2 hu0
      | tup z2 hl2 r2 a2 => exact EqAt.str_tuple z1 t1 hl2 hu0
    | lst z1 hl1 r1 a1 =>
      cases lies m I ry h2 with
      | non => exact EqAt.list_none hl1 hu0
      | bl b2 => exact EqAt.list_bool b2 hl1 hu0
      | int i2 t2 => exact EqAt.list_int i2 t2 hl1 hu0
      | str z2 t2 => exact EqAt.list_str z2 t2 hl1 hu0
      | lst z2 hl2 r2 a2 =>
        cases z1; cases z2
        exact ref_eqAt h1 h2 (rc_lists hu0 ih1 hl1 hl2 r1 r2 a1 a2).1
      | tup z2 hl2 r2 a2 => exact EqAt.list_tuple hl1 hl2 hu0
    | tup z1 hl1 r1 a1 =>
      cases lies m I ry h2 with
      | non => exact EqAt.tuple_none hl1 hu0
      | bl b2 => exact EqAt.tuple_bool b2 hl1 hu0
      | int i2 t2 => exact EqAt.tuple_int i2 t2 hl1 hu0
      | str z2 t2 => exact EqAt.tuple_str z2 t2 hl1 hu0
      | lst z2 hl2 r2 a2 => exact EqAt.tuple_list hl1 hl2 hu0
      | tup z2 hl2 r2 a2 =>
        cases z1; cases z2
        exact ref_eqAt h1 h2 (rc_tuples hu0 ih1 hl1 hl2 r1 r2 a1 a2).1
theorem rcAt_data (m : ModOk X.K M) (I : Inv X pins σ H s) {n : Nat} {A : Around} {x y : V} {v u : Value} {d e : PyData} (hu : A.units + (n + 1) < cLine) (rx : RelV x v) (ry : RelV y u) (h1 : data M H (n + 1) x = some d) (h2 : data M H (n + 1) y = some e) :
    RcAt A s v u (PyData.eqv d e) ∧ RcNeAt A s v u (!PyData.eqv d e) := by
  have hu0 : A.units < cLine := by omega
  have ih1 : ∀ (x y : V) (v u : Value) (d e : PyData), RelV x v → RelV y u → data M H n x = some d → data M H n y = some e → EqAt A.in1 s v u (PyData.eqv d e) :=
    fun x y v u d e => eqAt_data m I n A.in1 x y v u d e (by show A.units + 1 + n < cLine; omega)
  cases lies m I rx h1 with
  | non =>
    cases lies m I ry h2 with
    | non => exact ⟨RcAt.none_none, RcNeAt.none_none⟩
    | bl b2 => exact ⟨RcAt.none_bool b2, RcNeAt.none_bool b2⟩
    | int i2 t2 => exact ⟨RcAt.none_int i2 t2, RcNeAt.none_int i2 t2⟩
    | str z2 t2 => exact ⟨RcAt.none_str z2 t2, RcNeAt.none_str z2 t2⟩
    | lst z2 hl2 r2 a2 => exact ⟨RcAt.none_list hl2 hu0, RcNeAt.none_list hl2 hu0⟩
    | tup z2 hl2 r2 a2 => exact ⟨RcAt.none_tuple hl2 hu0, RcNeAt.none_tuple hl2 hu0⟩
  | bl b1 =>
    cases lies m I ry h2 with
    | non => exact ⟨RcAt.bool_none b1, RcNeAt.bool_none b1⟩
    | bl b2 => exact ⟨RcAt.bool_bool b1 b2, RcNeAt.bool_bool b1 b2⟩
    | int i2 t2 => exact ⟨RcAt.bool_int b1 i2 t2, RcNeAt.bool_int b1 i2 t2⟩
    | str z2 t2 => exact ⟨RcAt.bool_str b1 z2 t2, RcNeAt.bool_str b1 z2 t2⟩
    | lst z2 hl2 r2 a2 => exact ⟨RcAt.bool_list b1 hl2 hu0, RcNeAt.bool_list b1 hl2 hu0⟩
    | tup z2 hl2 r2 a2 => exact ⟨RcAt.bool_tuple b1 hl2 hu0, RcNeAt.bool_tuple b1 hl2 hu0⟩
  | int i1 t1 =>
    cases lies m I ry h2 with
    | non => exact ⟨RcAt.int_none i1 t1, RcNeAt.int_none i1 t1⟩
    | bl b2 => exact ⟨RcAt.int_bool i1 t1 b2, RcNeAt.int_bool i1 t1 b2⟩
    | int i2 t2 => exact ⟨RcAt.int_int i1 t1 i2 t2, RcNeAt.int_int i1 t1 i2 t2⟩
    | str z2 t2 => exact ⟨RcAt.int_str i1 t1 z2 t2, RcNeAt.int_str i1 t1 z2 t2⟩
    | lst z2 hl2 r2 a2 => exact ⟨RcAt.int_list i1 t1 hl2 hu0, RcNeAt.int_list i1 t1 hl2 hu0⟩
    | tup z2 hl2 r2 a2 => exact ⟨RcAt.int_tuple i1 t1 hl2 hu0, RcNeAt.int_tuple i1 t1 hl2 hu0⟩
  | str z1 t1 =>
    cases lies m I ry h2 with
    | non => exact ⟨RcAt.str_none z1 t1, RcNeAt.str_none z1 t1⟩
    | bl b2 => exact ⟨RcAt.str_bool z1 t1 b2, RcNeAt.str_bool z1 t1 b2⟩
    | int i2 t2 => exact ⟨RcAt.str_int z1 t1 i2 t2, RcNeAt.str_int z1 t1 i2 t2⟩
    | str z2 t2 => exact ⟨RcAt.str_str z1 t1 z2 t2, RcNeAt.str_str z1 t1 z2 t2⟩
    | lst z2 hl2 r2 a2 => exact ⟨RcAt.str_list z1 t1 hl2 hu0, RcNeAt.str_list z1 t1 hl2 hu0⟩
    | tup z2 hl2 r2 a2 => exact ⟨RcAt.str_tuple z1 t1 hl2 hu0, RcNeAt.str_tuple z1 t1 hl2 hu0⟩
  | lst z1 hl1 r1 a1 =>
    cases lies m I ry h2 with
    | non => exact ⟨RcAt.list_none hl1 hu0, RcNeAt.list_none hl1 hu0⟩
    | bl b2 => exact ⟨RcAt.list_bool b2 hl1 hu0, RcNeAt.list_bool b2 hl1 hu0⟩
    | int i2 t2 => exact ⟨RcAt.list_int i2 t2 hl1 hu0, RcNeAt.list_int i2 t2 hl1 hu0⟩
    | str z2 t2 => exact ⟨RcAt.list_str z2 t2 hl1 hu0, RcNeAt.list_str z2 t2 hl1 hu0⟩
    | lst z2 hl2 r2 a2 =>
      cases z1; cases z2
      exact rc_lists hu0 ih1 hl1 hl2 r1 r2 a1 a2
    | tup z2 hl2 r2 a2 => exact ⟨RcAt.list_tuple hl1 hl2 hu0, RcNeAt.list_tuple hl1 hl2 hu0⟩
  | tup z1 hl1 r1 a1 =>
    cases lies m I ry h2 with
    | non => exact ⟨RcAt.tuple_none hl1 hu0, RcNeAt.tuple_none hl1 hu0⟩
    | bl b2 => exact ⟨RcAt.tuple_bool b2 hl1 hu0, RcNeAt.tuple_bool b2 hl1 hu0⟩
    | int i2 t2 => exact ⟨RcAt.tuple_int i2 t2 hl1 hu0, RcNeAt.tuple_int i2 t2 hl1 hu0⟩
    | str z2 t2 => exact ⟨RcAt.tuple_str z2 t2 hl1 hu0, RcNeAt.tuple_str z2 t2 hl1 hu0⟩
    | lst z2 hl2 r2 a2 => exact ⟨RcAt.tuple_list hl1 hl2 hu0, RcNeAt.tuple_list hl1 hl2 hu0⟩
    | tup z2 hl2 r2 a2 =>
      cases z1; cases z2
      exact rc_tuples hu0 ih1 hl1 hl2 r1 r2 a1 a2
end
section
variable (M : Mo)
noncomputable def bnd (i : Int) : Bool := decide (-(2 ^ 64) < i) && decide (i < 2 ^ 64)
noncomputable def binV (op : Operator) (x y : V) (H : Hp) (Q : VK) : Prop := match op, x, y with
  | .Add, .int i, .int j => Q (.int (i + j)) H
  | .Add, .str i, .str j => i.length + j.length ≤ sizeLine ∧ Q (.str (i ++ j)) H
  | .Add, .ref a, .ref b => match rd M H a, rd M H b with
    | some (.lst xs), some (.lst ys) => xs.length + ys.length ≤ sizeLine ∧ ∀ p, H p = none → M p = none → Q (.ref p) (upd H p (.lst (xs ++ ys)))
    | _, _ => False
  | .Mult, .int i, .int j => (bnd i || bnd j) = true ∧ Q (.int (i * j)) H
  | .Mult, .str x, .int k => (-(2 ^ 63) ≤ k ∧ k < 2 ^ 63 ∧ x.length * k.toNat ≤ 16777216) ∧ Q (.str (Txt.mul x k)) H
  | .FloorDiv, .int i, .int j => 0 < j ∧ j < 1073741824 ∧ Q (.int (i / j)) H
  | .Mod, .int i, .int j => 0 < j ∧ Q (.int (i % j)) H
  | .Pow, .int i, .int j => CPow i j ∧ Q (.int (i ^ j.toNat)) H
  | _, _, _ => False
noncomputable def cmpV (op : CmpOp) (x y : V) (H : Hp) (Q : VK) : Prop := match op, x, y with
  | .Eq, _, _ => if scal x y = true then Q (.bl (decide (x = y))) H else match data M H 16 x, data M H 16 y with
    | some d, some e => Q (.bl (PyData.eqv d e)) H
    | _, _ => False
  | .NotEq, _, _ => if scal x y = true then Q (.bl (!decide (x = y))) H else match data M H 16 x, data M H 16 y with
    | some d, some e => Q (.bl (!PyData.eqv d e)) H
    | _, _ => False
  | .Lt, .int i, .int j => Q (.bl (decide (i < j))) H
  | .LtE, .int i, .int j => Q (.bl (decide (i ≤ j))) H
  | .Lt, .str i, .str j => Q (.bl (decide (i.cps.toList < j.cps.toList))) H
  | .LtE, .str i, .str j => Q (.bl (!decide (j.cps.toList < i.cps.toList))) H
  | .In, .str i, .str j => Q (.bl (!(Builtin.Str.occurrences j i 0 j.length 1).isEmpty)) H
  | .NotIn, .str i, .str j => Q (.bl (!(!(Builtin.Str.occurrences j i 0 j.length 1).isEmpty))) H
  | .In, _, .ref p => match rd M H p with
    | some (.lst xs) => flatV x = true ∧ xs.all flatV = true ∧ Q (.bl (inV x xs)) H
    | some (.tup xs) => flatV x = true ∧ xs.all flatV = true ∧ Q (.bl (inV x xs)) H
    | _ => False
  | .NotIn, _, .ref p => match rd M H p with
    | some (.lst xs) => flatV x = true ∧ xs.all flatV = true ∧ Q (.bl (!inV x xs)) H
    | some (.tup xs) => flatV x = true ∧ xs.all flatV = true ∧ Q (.bl (!inV x xs)) H
    | _ => False
  | .Is, _, .non => Q (.bl (decide (x = .non))) H
  | _, _, _ => False
noncomputable def truV (x : V) (H : Hp) (Q : Bool → Prop) : Prop := match x with
  | .non => Q false
  | .bl b => Q b
  | .int i => Q (i != 0)
  | .str y => y.length ≤ sizeLine ∧ Q ((y.length : Int) != 0)
  | .ref p => match rd M H p with
    | some (.lst xs) => Q (!xs.isEmpty)
    | some (.tup xs) => Q (!xs.isEmpty)
    | _ => False
  | _ => False
noncomputable def idxV (x y : V) (H : Hp) (Q : VK) : Prop := match x, y with
  | .str z, .int i => z.length ≤ sizeLine ∧ match atI z.cps.toList i with | some c => Q (.str ⟨#[c]⟩) H | none => False
  | .ref p, .int i => match rd M H p with
    | some (.lst xs) => match atI xs i with | some v => Q v H | none => False
    | some (.tup xs) => match atI xs i with | some v => Q v H | none => False
    | _ => False
  | _, _ => False
end
section
variable {X : Cx} {M : Mo}
theorem bnd_ok {i j : Int} (h : (bnd i || bnd j) = true) : CMul i j := by
  unfold bnd at h
  simp only [Bool.or_eq_true, Bool.and_eq_true, decide_eq_true_eq] at h
  exact h
noncomputable def OffM (M : Mo) (H : Hp) : Prop := ∀ a, M a ≠ none → H a = none
theorem ModOk.look {K : PySem.W.Frag} {M : Mo} (m : ModOk K M) {a : Addr} (h : M a ≠ none) : ∃ o, K.lookup a = some o := by
  cases e : M a with
  | none => exact absurd e h
  | some u =>
    have z := m a u e
    cases u <;> first | exact z.elim | (obtain ⟨o, _, _, h1, _⟩ := z; exact ⟨o, h1⟩)
theorem Inv.offM (m : ModOk X.K M) {pins : List (Addr × Obj)} {σ : L2.St} {H : Hp} {s : Shared} (I : Inv X pins σ H s) : OffM M H := fun a h => by
  obtain ⟨o, e⟩ := m.look h
  exact (I.bs a o (I.ok.mod.kin a o e)).2
theorem OffM.new {H : Hp} {p : Addr} {o : HO} (h : OffM M (upd H p o)) : M p = none := by
  cases e : M p with
  | none => rfl
  | some u =>
    have z := h p (by rw [e]; intro z; cases z)
    rw [upd_same] at z
    cases z
theorem ep_off (m : ModOk X.K M) {pins : List (Addr × Obj)} {σ : L2.St} {Q : VK} {u : Value} {s : Shared} (h : EP X pins σ (fun v H' => OffM M H' → Q v H') u s) : EP X pins σ Q u s := by
  obtain ⟨v, H', I, r, q⟩ := h
  exact ⟨v, H', I, r, q (Inv.offM m I)⟩
theorem cat_lists (m : ModOk X.K M) {pins : List (Addr × Obj)} {s : Shared} {σ : L2.St} {H : Hp} {l b : Addr} {xs ys : List V} {Q : VK} (I : Inv X pins σ H s) (ha : SqL X.K H l xs) (hb : SqL X.K H b ys) (hz : xs.length + ys.length ≤ sizeLine)
    (h : ∀ p, H p = none → M p = none → Q (.ref p) (upd H p (.lst (xs ++ ys)))) : wpAny (model X.prog X.w) X.A (binaryOp .Add (.ref l) (.ref b)) (EP X pins σ Q) X.xe s := by
  obtain ⟨its, r1, p1, _⟩ := I.list ha
  obtain ⟨its2, r2, p2, _⟩ := I.list hb
  obtain ⟨⟨c1, d1, da1, sl1⟩, n1, o1, hc1, hd1, hda1⟩ := p1
  obtain ⟨⟨c2, d2, da2, sl2⟩, n2, o2, hc2, hd2, hda2⟩ := p2
  simp only at hc1 hda1 hc2 hda2
  subst hc1 hda1 hc2 hda2
  have hsz : its.toArray.size + its2.toArray.size ≤ sizeLine := by rw [List.size_toArray, List.size_toArray, ← r1.length, ← r2.length]; exact hz
  refine concat_meets ⟨_, o1, rfl⟩ ⟨_, o2, rfl⟩ noFill_list_add seq_list_add PySem.F.slot_list_add PySem.F.entry_list_add (PySem.F.args_list_add_2 _ _) (list_addW l b its.toArray its2.toArray n1 n2 d1 d2 sl1 sl2 hsz) ⟨o1, o2, ?_⟩
  have ea : its.toArray ++ its2.toArray = (its ++ its2).toArray := by simp
  rw [ea]
  have I2 := I.lnew (t' := s.toks) (r1.append r2) (by rw [List.length_append]; exact hz)
  exact ⟨.ref _, _, I2, rfl, h _ I.fresh (OffM.new (Inv.offM m I2))⟩
theorem mul_ok {x : Str} {k : Int} (h : -(2 ^ 63) ≤ k ∧ k < 2 ^ 63 ∧ x.length * k.toNat ≤ 16777216) : MulOk x k := by
  obtain ⟨h1, h2, h3⟩ := h
  refine ⟨by simp; omega, fun z _ => ?_, fun z _ => ?_⟩
  · have hk : 0 < k := by omega
    intro hc
    have := Int.lt_of_lt_of_le (Int.lt_mul_of_ediv_lt hk hc) (Int.le_refl _)
    have e : (x.length : Int) * k = ((x.length * k.toNat : Nat) : Int) := by
      rw [Int.natCast_mul]
      congr 1
      omega
    rw [e] at this
    omega
  · unfold Builtin.Str.tooLong
    rw [decide_eq_false_iff_not, sizeLine_eq]
    omega
theorem bin_ok (m : ModOk X.K M) (op : Operator) : OpR X (binaryOp op) (binV M op) := by
  intro pins s σ H x y v u Q I rx ry h
  cases op with
  | Add =>
    cases x with
    | int i =>
      cases y with
      | int j =>
        exact op_add pins s σ H _ _ v u Q I rx ry ⟨_, _, rfl, rfl, h⟩
      | _ => exact False.elim h
    | str i =>
      cases y with
      | str j =>
        exact op_add_str pins s σ H _ _ v u Q I rx ry ⟨_, _, rfl, rfl, h.1, h.2⟩
      | _ => exact False.elim h
    | ref a =>
      cases y with
      | ref b =>
        unfold binV at h
        dsimp only at h
        split at h
        · rename_i xs ys ea eb
          cases rx
          cases ry
          exact cat_lists m I (rd_lst m ea) (rd_lst m eb) h.1 h.2
        · exact h.elim
      | _ => exact False.elim h
    | _ => first | exact False.elim h | (cases y <;> exact False.elim h)
  | Mult =>
    cases x with
    | int i =>
      cases y with
      | int j =>
        exact op_mul pins s σ H _ _ v u Q I rx ry ⟨_, _, rfl, rfl, bnd_ok h.1, h.2⟩
      | _ => exact False.elim h
    | str z =>
      cases y with
      | int k =>
        obtain ⟨t, rfl⟩ := rx
        obtain ⟨t', rfl⟩ := ry
        exact PySem.SB.mul (mul_ok h.1) fun t' k => ⟨.str _, H, I.tok _, ⟨_, rfl⟩, h.2⟩
      | _ => exact False.elim h
    | _ => first | exact False.elim h | (cases y <;> exact False.elim h)
  | FloorDiv =>
    cases x with
    | int i =>
      cases y with
      | int j =>
        exact op_fdiv pins s σ H _ _ v u Q I rx ry ⟨_, _, rfl, rfl, ⟨h.1, h.2.1⟩, h.2.2⟩
      | _ => exact False.elim h
    | _ => first | exact False.elim h | (cases y <;> exact False.elim h)
  | Mod =>
    cases x with
    | int i =>
      cases y with
      | int j =>
        exact op_mod pins s σ H _ _ v u Q I rx ry ⟨_, _, rfl, rfl, h.1, h.2⟩
      | _ => exact False.elim h
    | _ => first | exact False.elim h | (cases y <;> exact False.elim h)
  | Pow =>
    cases x with
    | int i =>
      cases y with
      | int j =>
        exact op_pow pins s σ H _ _ v u Q I rx ry ⟨_, _, rfl, rfl, h.1, h.2⟩
      | _ => exact False.elim h
    | _ => first | exact False.elim h | (cases y <;> exact False.elim h)
  | _ => exact False.elim h
theorem in_any {op : CmpOp} {x y : V} {H : Hp} {Q : VK} (h : cmpV M op x y H Q) (e : op = .In ∨ op = .NotIn) : (∃ i j, x = .str i ∧ y = .str j) ∨ ∃ p, y = .ref p := by
  cases y with
  | ref p => exact .inr ⟨p, rfl⟩
  | str j => cases x with
    | str i => exact .inl ⟨i, j, rfl, rfl⟩
    | _ => rcases e with e | e <;> (subst e; exact False.elim h)
  | _ => rcases e with e | e <;> (subst e; cases x <;> exact False.elim h)
theorem is_any {op : CmpOp} {x y : V} {H : Hp} {Q : VK} (h : cmpV M op x y H Q) (e : op = .Is) : y = .non := by
  cases y with
  | non => rfl
  | _ => subst e; first | exact False.elim h | (cases x <;> exact False.elim h)
theorem lt_any {op : CmpOp} {x y : V} {H : Hp} {Q : VK} (h : cmpV M op x y H Q) (e : op = .Lt ∨ op = .LtE) : (∃ i j, x = .int i ∧ y = .int j) ∨ ∃ i j, x = .str i ∧ y = .str j := by
  cases x with
  | int i => cases y with
    | int j => exact .inl ⟨i, j, rfl, rfl⟩
    | _ => rcases e with e | e <;> (subst e; exact False.elim h)
  | str i => cases y with
    | str j => exact .inr ⟨i, j, rfl, rfl⟩
    | _ => rcases e with e | e <;> (subst e; exact False.elim h)
  | _ => rcases e with e | e <;> (subst e; exact False.elim h)
theorem cmp_ok (hu : X.A.units + 64 < cLine) (m : ModOk X.K M) (op : CmpOp) : OpR X (compareOp op) (cmpV M op) := by
  intro pins s σ H x y v u Q I rx ry h
  cases op with
  | Eq =>
    by_cases hs : scal x y = true
    · exact op_eq pins s σ H _ _ v u Q I rx ry ⟨hs, Eq.mp (if_pos hs) (show (if scal x y = true then _ else _) from h)⟩
    · have h := Eq.mp (if_neg hs) (show (if scal x y = true then _ else _) from h)
      split at h
      · rename_i d e h1 h2
        exact (rcAt_data (n := 15) m I (by omega) rx ry h1 h2).1 X.prog X.w X.xe _ ⟨.bl _, H, I, rfl, h⟩
      · exact h.elim
  | NotEq =>
    by_cases hs : scal x y = true
    · exact op_ne pins s σ H _ _ v u Q I rx ry ⟨hs, Eq.mp (if_pos hs) (show (if scal x y = true then _ else _) from h)⟩
    · have h := Eq.mp (if_neg hs) (show (if scal x y = true then _ else _) from h)
      split at h
      · rename_i d e h1 h2
        exact (rcAt_data (n := 15) m I (by omega) rx ry h1 h2).2 X.prog X.w X.xe _ ⟨.bl _, H, I, rfl, h⟩
      · exact h.elim
  | Lt =>
    obtain ⟨i, j, rfl, rfl⟩ | ⟨i, j, rfl, rfl⟩ := lt_any h (.inl rfl)
    · exact op_lt pins s σ H _ _ v u Q I rx ry ⟨_, _, rfl, rfl, h⟩
    · exact op_lt_str pins s σ H _ _ v u Q I rx ry ⟨_, _, rfl, rfl, h⟩
  | LtE =>
    obtain ⟨i, j, rfl, rfl⟩ | ⟨i, j, rfl, rfl⟩ := lt_any h (.inr rfl)
    · exact op_le pins s σ H _ _ v u Q I rx ry ⟨_, _, rfl, rfl, h⟩
    · obtain ⟨t, rfl⟩ := rx
      obtain ⟨t', rfl⟩ := ry
      exact PySem.P.le_str (fin_bl I h rfl)
  | In =>
    obtain ⟨i, j, rfl, rfl⟩ | ⟨p, rfl⟩ := in_any h (.inl rfl)
    · exact op_in_str pins s σ H _ _ v u Q I rx ry ⟨_, _, rfl, rfl, h⟩
    · have h : (match rd M H p with
        | some (.lst xs) => flatV x = true ∧ xs.all flatV = true ∧ Q (.bl (inV x xs)) H
        | some (.tup xs) => flatV x = true ∧ xs.all flatV = true ∧ Q (.bl (inV x xs)) H
        | _ => False) := by cases x <;> exact h
      split at h
      · rename_i e; exact op_in_seq pins s σ H _ _ v u Q I rx ry ⟨_, _, rfl, .inl (rd_lst m e), h.1, h.2.1, h.2.2⟩
      · rename_i e; exact op_in_seq pins s σ H _ _ v u Q I rx ry ⟨_, _, rfl, .inr (rd_tup m e), h.1, h.2.1, h.2.2⟩
      · exact h.elim
  | NotIn =>
    obtain ⟨i, j, rfl, rfl⟩ | ⟨p, rfl⟩ := in_any h (.inr rfl)
    · exact op_notin_str pins s σ H _ _ v u Q I rx ry ⟨_, _, rfl, rfl, h⟩
    · have h : (match rd M H p with
        | some (.lst xs) => flatV x = true ∧ xs.all flatV = true ∧ Q (.bl (!inV x xs)) H
        | some (.tup xs) => flatV x = true ∧ xs.all flatV = true ∧ Q (.bl (!inV x xs)) H
        | _ => False) := by cases x <;> exact h
      split at h
      · rename_i e; exact op_notIn_seq pins s σ H _ _ v u Q I rx ry ⟨_, _, rfl, .inl (rd_lst m e), h.1, h.2.1, h.2.2⟩
      · rename_i e; exact op_notIn_seq pins s σ H _ _ v u Q I rx ry ⟨_, _, rfl, .inr (rd_tup m e), h.1, h.2.1, h.2.2⟩
      · exact h.elim
  | Is =>
    obtain rfl := is_any h rfl
    exact op_isN pins s σ H _ _ v u Q I rx ry ⟨rfl, by cases x <;> exact h⟩
  | _ => exact False.elim h
theorem tru_of (m : ModOk X.K M) : TruR X (fun x H Q => truV M x H fun k => Q k H) := by
  intro pins s σ H x v Q I rx h
  refine tru_ok pins s σ H x v Q I rx ?_
  unfold truV at h
  split at h
  · exact ⟨_, rfl, h⟩
  · exact ⟨_, rfl, h⟩
  · exact ⟨_, rfl, h⟩
  · exact ⟨_, ⟨h.1, rfl⟩, h.2⟩
  · split at h
    · rename_i e; exact ⟨_, .inl ⟨_, rd_lst m e, rfl⟩, h⟩
    · rename_i e; exact ⟨_, .inr (.inl ⟨_, rd_tup m e, rfl⟩), h⟩
    · exact h.elim
  · exact h.elim
theorem idx_ok (m : ModOk X.K M) : IxR X (idxV M) := by
  intro value slice pins s σ H x y v u Q I rx ry h hs
  refine ix_seq value slice pins s σ H x y v u Q I rx ry ?_ hs
  unfold idxV at h
  split at h
  · obtain ⟨h1, h⟩ := h
    split at h
    · rename_i e; exact .inr (.inr ⟨_, _, _, rfl, rfl, h1, e, h⟩)
    · exact h.elim
  · split at h
    · rename_i e
      split at h
      · rename_i e2; exact .inl ⟨_, _, _, _, rfl, rfl, rd_lst m e, e2, h⟩
      · exact h.elim
    · rename_i e
      split at h
      · rename_i e2; exact .inr (.inl ⟨_, _, _, _, rfl, rfl, rd_tup m e, e2, h⟩)
      · exact h.elim
    · exact h.elim
  · exact h.elim
end
end Sw
namespace Sw
open PySem PySem.Spec PyProof.Rows L2
inductive Bf where | len | all | any | str | int | abs | sorted | sortset | list | tuple | max | min | sum
  deriving DecidableEq
noncomputable def Bf.name : Bf → Str
  | .len => "len" | .all => "all" | .any => "any" | .str => "str" | .int => "int" | .abs => "abs" | .sorted => "sorted" | .sortset => "sorted" | .list => "list" | .tuple => "tuple" | .max => "max" | .min => "min" | .sum => "sum"
inductive Mf where | startswith | endswith | split | join | append | pop | extend
  deriving DecidableEq
noncomputable def Mf.name : Mf → Str
  | .startswith => "startswith" | .endswith => "endswith" | .split => "split" | .join => "join" | .append => "append" | .pop => "pop" | .extend => "extend"
inductive Ty where | str | int | bool | list | tuple | dict | own (x : Str)
  deriving DecidableEq
noncomputable def Ty.name : Ty → Str
  | .str => "str" | .int => "int" | .bool => "bool" | .list => "list" | .tuple => "tuple" | .dict => "dict" | .own x => x
mutual
inductive Ex where
  | var (i : Nat) | con (v : V) | glob (x : Str)
  | bin (op : Operator) (a b : Ex) | neg (a : Ex)
  | cmp (op : CmpOp) (a b : Ex) | cmp2 (o1 o2 : CmpOp) (a b c : Ex)
  | and (a b : Ex) | or (a b : Ex) | not (a : Ex)
  | call (f : Str) (args : Exs)
  | blt (f : Bf) (args : Exs)
  | mth (m : Mf) (o : Ex) (args : Exs)
  | isin (a : Ex) (T : Ty)
  | fld (a : Ex) (f : Str)
  | idx (a b : Ex)
  | slc (a : Ex) (lo hi : Exs)
  | tup (es : Exs) | lst (es : Exs)
  | sset (a : Ex)
  | comp (x : Str) (fv : List (Str × Nat)) (it : Ix) (elt : Ex) (ifs : Exs)
inductive Exs where
  | nil | cons (e : Ex) (r : Exs)
inductive Ix where
  | ex (e : Ex) | rng1 (a : Ex)
end
mutual
inductive Sx where
  | asg (i : Nat) (e : Ex)
  | exp (e : Ex) | ret (e : Ex)
  | iff (c : Ex) (a b : Sxs)
  | fr (i : Nat) (it : Ix) (b : Sxs)
  | rais (C : Str) (args : Exs)
  | tryx (b : Sxs) (C : Str) (i : Option Nat) (h : Sxs)
  | sto (o i e : Ex) | asgT (is : List Nat) (e : Ex) | raisF (C : Str) (args : Exs)
inductive Sxs where
  | nil | cons (s : Sx) (r : Sxs)
end
noncomputable def isVis (sc : Scope) (x : Str) : Bool := match sc.names.lookup x with
  | some .local => true | some .cell => true | some .free => true | _ => false
noncomputable def isLoc (sc : Scope) (x : Str) : Bool := match sc.names.lookup x with
  | some .local => true | some .cell => true | _ => false
noncomputable def isGl (sc : Scope) (x : Str) : Bool := match sc.names.lookup x with
  | some .globalImplicit => true | _ => false
noncomputable def okName (x : Str) : Bool := !(x == ("__debug__" : Str)) && !(x == ("__classdict__" : Str)) && !(decide (x = "__name__"))
noncomputable def plainE : Expr → Bool
  | .Starred _ _ => false | .Set _ _ _ => false | .Slice _ _ _ _ => false | _ => true
noncomputable def noCall0 : Expr → Bool
  | .Call (.Name _ _) [] [] _ => false | _ => true
noncomputable def compOk (sc : Scope) (csc : Scope) (N : List Str) (x : Str) (fv : List (Str × Nat)) : Bool :=
  decide (csc.kind = .function) && decide (csc.names.lookup x = some .local) && decide (sc.kind = .function)
  && csc.names.all (fun y => decide (y.2 ≠ .cell) && (decide (y.2 ≠ .local) || decide (csc.names.lookup y.1 = some .local)) && (decide (y.2 ≠ .free) || (decide (sc.names.lookup y.1 = some .cell) || decide (sc.names.lookup y.1 = some .free))))
  && fv.all (fun y => decide (N[y.2]? = some y.1) && decide (csc.names.lookup y.1 = some .free) && decide (y.1 ≠ x))
  && decide (fv.map (·.1)).Nodup
noncomputable def ek : Expr → List Expr
  | .BoolOp _ vs _ => vs
  | .BinOp a _ b _ => [a, b]
  | .UnaryOp _ a _ => [a]
  | .IfExp c a b _ => [c, a, b]
  | .Dict ks vs _ => ((ks.zip vs).map fun t => [t.1.getD default, t.2]).flatten
  | .ListComp e gs _ _ => e :: (gs.map fun g => g.target :: g.iter :: g.ifs).flatten
  | .Compare a _ bs _ => a :: bs
  | .Call f es _ _ => f :: es
  | .FormattedValue a _ _ _ => [a]
  | .JoinedStr vs _ => vs
  | .Attribute a _ _ => [a]
  | .Subscript a b _ => [a, b]
  | .List es _ => es
  | .Tuple es _ _ => es
  | .Slice l u _ _ => [l.getD default, u.getD default]
  | _ => []
noncomputable def kd : Expr → Nat
  | .Constant _ k _ => k
  | .Tuple _ k _ => k
  | _ => 0
noncomputable def csc : Expr → Scope
  | .ListComp _ _ sc _ => sc
  | _ => default
noncomputable def kid (e : Expr) (i : Nat) : Expr := (ek e).getD i default
noncomputable def se : Stmt → List Expr
  | .Return v _ => [v.getD default]
  | .Assign ts v _ => ts ++ [v]
  | .For t it _ _ _ => [t, it]
  | .While c _ _ _ => [c]
  | .If c _ _ _ => [c]
  | .Raise e c _ => [e.getD default, c.getD default]
  | .Try _ hs _ _ _ => hs.map fun h => match h with | .ExceptHandler t _ _ _ => t.getD default
  | .Expr v _ => [v]
  | _ => []
noncomputable def sb : Stmt → List Stmt × List Stmt
  | .For _ _ b _ _ => (b, [])
  | .While _ b _ _ => (b, [])
  | .If _ a b _ => (a, b)
  | .Try b hs _ _ _ => (b, (hs.map fun h => match h with | .ExceptHandler _ _ b _ => b).flatten)
  | _ => ([], [])
noncomputable def hpos : Stmt → Pos
  | .Try _ (.ExceptHandler _ _ _ p :: _) _ _ _ => p
  | _ => ⟨0, 0, 0, 0⟩
noncomputable def sk (s : Stmt) (i : Nat) : Expr := (se s).getD i default
noncomputable def nx (N : List Str) (i : Nat) : Str := N.getD i Str.empty
noncomputable def cOf : V → Const
  | .int i => .int i | .str x => .str x | .bl b => .bool b | _ => .none
noncomputable def isC : V → Bool
  | .int _ => true | .str _ => true | .bl _ => true | .non => true | _ => false
noncomputable def isAnd : Ex → Bool
  | .and _ _ => true | _ => false
noncomputable def isOr : Ex → Bool
  | .or _ _ => true | _ => false
noncomputable def isComp : Ex → Bool
  | .comp _ _ _ _ _ => true | _ => false
noncomputable def isTup : Ex → Bool
  | .tup _ => true | _ => false
noncomputable def nilX : Sxs → Bool
  | .nil => false | _ => true
noncomputable def Exs.len : Exs → Nat
  | .nil => 0
  | .cons _ r => r.len + 1
noncomputable def isIn (fv : List (Str × Nat)) (x : Str) : List Str := x :: fv.map (·.1)
mutual
noncomputable def bE (N : List Str) : Ex → Expr → Expr
  | .var i, e => .Name (nx N i) e.pos
  | .con v, e => .Constant (cOf v) (kd e) e.pos
  | .glob x, e => .Name x e.pos
  | .bin op a b, e => .BinOp (bE N a (kid e 0)) op (bE N b (kid e 1)) e.pos
  | .neg a, e => .UnaryOp .USub (bE N a (kid e 0)) e.pos
  | .cmp op a b, e => .Compare (bE N a (kid e 0)) [op] [bE N b (kid e 1)] e.pos
  | .cmp2 o1 o2 a b c, e => .Compare (bE N a (kid e 0)) [o1, o2] [bE N b (kid e 1), bE N c (kid e 2)] e.pos
  | .and a b, e => .BoolOp .And (bE N a (kid e 0) :: (cond (decide ((ek e).length = 2)) [bE N b (kid e 1)] (ek (bE N b (.BoolOp .And (ek e).tail e.pos))))) e.pos
  | .or a b, e => .BoolOp .Or (bE N a (kid e 0) :: (cond (decide ((ek e).length = 2)) [bE N b (kid e 1)] (ek (bE N b (.BoolOp .Or (ek e).tail e.pos))))) e.pos
  | .not a, e => .UnaryOp .Not (bE N a (kid e 0)) e.pos
  | .call f args, e => .Call (.Name f (kid e 0).pos) (bEs N args (ek e).tail) [] e.pos
  | .blt f args, e => .Call (.Name f.name (kid e 0).pos) (bEs N args (ek e).tail) [] e.pos
  | .mth m o args, e => .Call (.Attribute (bE N o (kid (kid e 0) 0)) m.name (kid e 0).pos) (bEs N args (ek e).tail) [] e.pos
  | .isin a T, e => .Call (.Name "isinstance" (kid e 0).pos) [bE N a (kid e 1), .Name T.name (kid e 2).pos] [] e.pos
  | .fld a f, e => .Attribute (bE N a (kid e 0)) f e.pos
  | .idx a b, e => .Subscript (bE N a (kid e 0)) (bE N b (kid e 1)) e.pos
  | .slc a lo hi, e => .Subscript (bE N a (kid e 0)) (.Slice (bEs N lo [kid (kid e 1) 0]).head? (bEs N hi [kid (kid e 1) 1]).head? none (kid e 1).pos) e.pos
  | .tup es, e => .Tuple (bEs N es (ek e)) (kd e) e.pos
  | .lst es, e => .List (bEs N es (ek e)) e.pos
  | .sset a, e => .Call (.Name "sorted" (kid e 0).pos) [.Call (.Name "set" (kid (kid e 1) 0).pos) [bE N a (kid (kid e 1) 1)] [] (kid e 1).pos] [] e.pos
  | .comp x fv it elt ifs, e => .ListComp (bE (isIn fv x) elt (kid e 0)) [⟨.Name x (kid e 1).pos, bI N it (kid e 2), bEs (isIn fv x) ifs ((ek e).drop 3), 0⟩] (csc e) e.pos
noncomputable def bEs (N : List Str) : Exs → List Expr → List Expr
  | .nil, _ => []
  | .cons c r, es => bE N c (es.headD default) :: bEs N r es.tail
noncomputable def bI (N : List Str) : Ix → Expr → Expr
  | .ex c, e => bE N c e
  | .rng1 a, e => .Call (.Name "range" (kid e 0).pos) [bE N a (kid e 1)] [] e.pos
end
mutual
/-- what must hold besides -/
noncomputable def oE (sc : Scope) (N : List Str) : Ex → Expr → Bool
  | .var i, _ => decide (i < N.length) && (isVis sc (nx N i) && okName (nx N i))
  | .con v, _ => isC v
  | .glob x, _ => isGl sc x && okName x
  | .bin _ a b, e => oE sc N a (kid e 0) && oE sc N b (kid e 1)
  | .neg a, e => oE sc N a (kid e 0)
  | .cmp _ a b, e => oE sc N a (kid e 0) && oE sc N b (kid e 1)
  | .cmp2 _ _ a b c, e => oE sc N a (kid e 0) && (oE sc N b (kid e 1) && oE sc N c (kid e 2))
  | .and a b, e => oE sc N a (kid e 0) && (cond (decide ((ek e).length = 2)) (oE sc N b (kid e 1)) (isAnd b && oE sc N b (.BoolOp .And (ek e).tail e.pos)))
  | .or a b, e => oE sc N a (kid e 0) && (cond (decide ((ek e).length = 2)) (oE sc N b (kid e 1)) (isOr b && oE sc N b (.BoolOp .Or (ek e).tail e.pos)))
  | .not a, e => oE sc N a (kid e 0)
  | .call f args, e => (isGl sc f && okName f) && oEs sc N args (ek e).tail
  | .blt f args, e => (isGl sc f.name && okName f.name) && ((decide (f ≠ .sortset) && decide (args.len ≠ 0)) && oEs sc N args (ek e).tail)
  | .mth _ o args, e => (noCall0 (bE N o (kid (kid e 0) 0)) && ((kid e 0).pos.endLine == e.pos.line)) && (decide (args.len < 20) && (oE sc N o (kid (kid e 0) 0) && oEs sc N args (ek e).tail))
  | .isin a T, e => (isGl sc "isinstance" && (isGl sc T.name && okName T.name)) && oE sc N a (kid e 1)
  | .fld a _, e => noCall0 (bE N a (kid e 0)) && oE sc N a (kid e 0)
  | .idx a b, e => oE sc N a (kid e 0) && oE sc N b (kid e 1)
  | .slc a lo hi, e => oE sc N a (kid e 0) && (oEs sc N lo [kid (kid e 1) 0] && oEs sc N hi [kid (kid e 1) 1])
  | .tup es, e => oEs sc N es (ek e)
  | .lst es, e => oEs sc N es (ek e)
  | .sset a, e => (isGl sc "sorted" && isGl sc "set") && oE sc N a (kid (kid e 1) 1)
  | .comp x fv it elt ifs, e => (compOk sc (csc e) N x fv && decide (ifs.len ≤ 1)) && (oI sc N it (kid e 2) && (oE (csc e) (isIn fv x) elt (kid e 0) && oEs (csc e) (isIn fv x) ifs ((ek e).drop 3)))
noncomputable def oEs (sc : Scope) (N : List Str) : Exs → List Expr → Bool
  | .nil, _ => true
  | .cons c r, es => oE sc N c (es.headD default) && oEs sc N r es.tail
noncomputable def oI (sc : Scope) (N : List Str) : Ix → Expr → Bool
  | .ex c, e => oE sc N c e
  | .rng1 a, e => isGl sc "range" && oE sc N a (kid e 1)
end
noncomputable def notComp : Expr → Bool
  | .ListComp _ _ _ _ => false | .SetComp _ _ _ _ => false | .DictComp _ _ _ _ _ => false | _ => true
noncomputable def usedOk (sc s : Scope) (x : Str) (tp p : Pos) : Bool := decide (sc.names.lookup x = some .local) && ((tp.line == p.line) && !(s.names.any fun (n, k) => n == x && (k == .local || k == .cell)))
noncomputable def notTup : Expr → Bool
  | .Tuple _ _ _ => false | _ => true
noncomputable def bN (N : List Str) : List Nat → List Expr → List Expr
  | [], _ => []
  | i :: is, ts => .Name (nx N i) (ts.headD default).pos :: bN N is ts.tail
noncomputable def oN (sc : Scope) (N : List Str) : List Nat → Bool
  | [] => true
  | i :: is => (decide (i < N.length) && isLoc sc (nx N i)) && oN sc N is
mutual
noncomputable def bS (N : List Str) : Sx → Stmt → Stmt
  | .asg i e, st => .Assign [.Name (nx N i) (sk st 0).pos] (bE N e (sk st 1)) st.pos
  | .exp e, st => .Expr (bE N e (sk st 0)) st.pos
  | .ret e, st => .Return (some (bE N e (sk st 0))) st.pos
  | .iff c a b, st => .If (bE N c (sk st 0)) (bSs N a (sb st).1) (bSs N b (sb st).2) st.pos
  | .fr i it b, st => .For (.Name (nx N i) (sk st 0).pos) (bI N it (sk st 1)) (bSs N b (sb st).1) [] st.pos
  | .rais C args, st => .Raise (some (.Call (.Name C (kid (sk st 0) 0).pos) (bEs N args (ek (sk st 0)).tail) [] (sk st 0).pos)) none st.pos
  | .tryx b C i h, st => .Try (bSs N b (sb st).1) [.ExceptHandler (some (.Name C (sk st 0).pos)) (i.map (nx N)) (bSs N h (sb st).2) (hpos st)] [] [] st.pos
  | .sto o i e, st => .Assign [.Subscript (bE N o (kid (sk st 0) 0)) (bE N i (kid (sk st 0) 1)) (sk st 0).pos] (bE N e (sk st 1)) st.pos
  | .asgT is e, st => .Assign [.Tuple (bN N is (ek (sk st 0))) (kd (sk st 0)) (sk st 0).pos] (bE N e (sk st 1)) st.pos
  | .raisF C args, st => .Raise (some (.Call (.Name C (kid (sk st 0) 0).pos) (bEs N args (ek (sk st 0)).tail) [] (sk st 0).pos)) (some (.Constant .none (kd (sk st 1)) (sk st 1).pos)) st.pos
noncomputable def bSs (N : List Str) : Sxs → List Stmt → List Stmt
  | .nil, _ => []
  | .cons c r, ss => bS N c (ss.headD default) :: bSs N r ss.tail
end
mutual
noncomputable def oS (sc : Scope) (N : List Str) : Sx → Stmt → Bool
  | .asg i e, st => (decide (i < N.length) && isLoc sc (nx N i)) && ((!isComp e || usedOk sc (csc (sk st 1)) (nx N i) (sk st 0).pos (sk st 1).pos) && oE sc N e (sk st 1))
  | .exp e, st => !isComp e && oE sc N e (sk st 0)
  | .ret e, st => oE sc N e (sk st 0)
  | .iff c a b, st => oE sc N c (sk st 0) && (oSs sc N a (sb st).1 && oSs sc N b (sb st).2)
  | .fr i it b, st => (decide (i < N.length) && isLoc sc (nx N i)) && (oI sc N it (sk st 1) && oSs sc N b (sb st).1)
  | .rais C args, st => (isGl sc C && okName C) && oEs sc N args (ek (sk st 0)).tail
  | .tryx b C i h, st => (isGl sc C && okName C) && (i.all (fun j => decide (j < N.length) && decide (sc.names.lookup (nx N j) = some .local)) && (oSs sc N b (sb st).1 && (nilX h && oSs sc N h (sb st).2)))
  | .sto o i e, st => (!isComp e && oE sc N o (kid (sk st 0) 0)) && (oE sc N i (kid (sk st 0) 1) && oE sc N e (sk st 1))
  | .asgT is e, st => ((!isComp e && !isTup e) && oN sc N is) && oE sc N e (sk st 1)
  | .raisF C args, st => (isGl sc C && okName C) && oEs sc N args (ek (sk st 0)).tail
noncomputable def oSs (sc : Scope) (N : List Str) : Sxs → List Stmt → Bool
  | .nil, _ => true
  | .cons c r, ss => oS sc N c (ss.headD default) && oSs sc N r ss.tail
end
noncomputable def mSs (sc : Scope) (N : List Str) (b : Sxs) (ss : List Stmt) : Prop := bSs N b ss = ss ∧ oSs sc N b ss = true
end Sw
namespace Sw
open PySem PySem.Spec PyProof.Rows L2
@[reducible] noncomputable def St := L2.St
@[reducible] noncomputable def XS := Value → Option Addr → St → Hp → Prop
noncomputable def X0 : XS := fun _ _ _ _ => False
structure Gam where
  con : Str → Option V
  mod : Mo
  has : Str → Bool
  fn : Str → Sp
  exc : Str → Option (Addr × List Str)
  cm : Bool := true
  /-- is an exception of this class one of that name's class -/
  sub : Addr → Str → Option Bool
  /-- a class that may be caught -/
  cat : Str → Bool
  /-- a value of such an exception that may be read -/
  fo : Addr → Str → Bool
  /-- an exception is in hand: raise .. from None -/
  hd : Bool := false
noncomputable def asB : V → Option Bool
  | .bl b => some b
  | _ => none
noncomputable def asS : V → Option Str
  | .str x => some x
  | _ => none
noncomputable def hasXd (H : Hp) : Option Addr → Bool
  | none => true
  | some d => match H d with | some (.xd _) => true | _ => false
noncomputable def known (M : Mo) (H : Hp) : V → Bool
  | .ref p => match H p with
    | some (.lst _) => true | some (.tup _) => true | some (.dK _) => true | some (.frz _ (.lst _)) => true | _ => false
  | .non => true | .bl _ => true | .int _ => true | .str _ => true
  | _ => false
noncomputable def isTy (T : Ty) (H : Hp) : V → Bool
  | .str _ => decide (T = .str)
  | .int _ => decide (T = .int)
  | .bl _ => decide (T = .bool) || decide (T = .int)
  | .ref p => match H p with
    | some (.lst _) => decide (T = .list) | some (.frz _ (.lst _)) => decide (T = .list) | some (.tup _) => decide (T = .tuple) | some (.dK _) => decide (T = .dict) | _ => false
  | _ => false
section
variable (M : Mo)
noncomputable def newSorted (ts : List Str) (H : Hp) (Q : VK) : Prop := ts.length < 64 ∧ ∀ ss l, List.Perm ss ts → sortedS ss = true → H l = none → M l = none → Q (.ref l) (upd H l (.lst (ss.map V.str)))
noncomputable def ssetV (x : V) (H : Hp) (Q : VK) : Prop := match x with
  | .str x => x.cps.size + 1 < scanBound ∧ newSorted M (PySem.Sg.metS (fun i => ⟨#[x.cps.getD i 0]⟩) x.cps.size) H Q
  | .ref p => match rd M H p with
    | some (.lst xs) => match allM asS xs with
      | some ts => ts.length + 1 < scanBound ∧ newSorted M (PySem.Sg.metS (fun i => ts.getD i ⟨#[]⟩) ts.length) H Q
      | none => False
    | _ => False
  | _ => False
noncomputable def bltV (f : Bf) (vs : List V) (H : Hp) (Q : VK) : Prop := match f, vs with
  | .len, [.str y] => y.length ≤ sizeLine ∧ Q (.int y.length) H
  | .len, [.ref p] => match rd M H p with
    | some (.lst xs) => Q (.int xs.length) H
    | some (.tup xs) => Q (.int xs.length) H
    | _ => False
  | .all, [.ref p] => match rd M H p with
    | some (.lst xs) => match allM asB xs with | some bs => Q (.bl (bs.all id)) H | none => False
    | _ => False
  | .str, [.int i] => i.natAbs.log2 < 1920 ∧ Q (.str (toString i)) H
  | .int, [.str x] => x.length ≤ 640 ∧ match PySem.intText? x with | some n => Q (.int n) H | none => False
  | .int, [.bl b] => Q (.int (if b then 1 else 0)) H
  | _, _ => False
noncomputable def mthV (m : Mf) (x : V) (vs : List V) (H : Hp) (Q : VK) : Prop := match m, x, vs with
  | .startswith, .str x, [.str y] => Q (.bl (Txt.startswith x y)) H
  | .endswith, .str x, [.str y] => Q (.bl (Txt.endswith x y)) H
  | .join, .str x, [.ref p] => match rd M H p with
    | some (.lst xs) => match allM asS xs with
      | some ts => JoinOk x ts = true ∧ Q (.str (Txt.join x ts)) H
      | none => False
    | _ => False
  | .split, .str x, [.str y] => (y.length == 0) = false ∧ x.length ≤ 1000000 ∧ ∀ l, H l = none → M l = none → Q (.ref l) (upd H l (.lst ((Txt.split x y).map V.str)))
  | .append, .ref p, [v] => match H p with
    | some (.lst xs) => xs.length < sizeLine ∧ Q .non (upd H p (.lst (xs ++ [v])))
    | _ => False
  | _, _, _ => False
noncomputable def mty (m : Mf) (x : V) (H : Hp) : Bool := match m with
  | .append => (match x with | .ref p => (match rd M H p with | some (.lst _) => true | _ => false) | _ => false)
  | .pop => (match x with | .ref p => (match rd M H p with | some (.lst _) => true | _ => false) | _ => false)
  | .extend => (match x with | .ref p => (match rd M H p with | some (.lst _) => true | _ => false) | _ => false)
  | _ => (match x with | .str _ => true | _ => false)
noncomputable def slcV (x : V) (lo hi : Option Int) (H : Hp) (Q : VK) : Prop := match x with
  | .str z => z.length ≤ sizeLine ∧ Q (.str (Txt.slice z lo hi)) H
  | .ref p => match rd M H p with
    | some (.lst xs) => ∀ l, H l = none → M l = none → Q (.ref l) (upd H l (.lst (cutV xs lo hi)))
    | _ => False
  | _ => False
noncomputable def iterV (x : V) (H : Hp) (k : List V → (Hp → Prop) → Prop) : Prop := match x with
  | .str z => z.length ≤ sizeLine ∧ k (z.cps.toList.map fun c => .str ⟨#[c]⟩) (fun _ => True)
  | .ref p => match rd M H p with
    | some (.lst xs) => k xs (fun H' => rd M H' p = some (.lst xs))
    | some (.tup xs) => k xs (fun H' => rd M H' p = some (.tup xs))
    | _ => False
  | _ => False
end
noncomputable def compW (te : TE) (tt : TT) (fvs : St) (D : Addr) (stay : Hp → Prop) : List V → List V → Hp → (Hp → Prop) → Prop
  | [], acc, H, k => stay H ∧ H D = some (.lst acc) ∧ k H
  | v :: r, acc, H, k => stay H ∧ tt (some v :: fvs) H fun ok H1 =>
    if ok = true then te (some v :: fvs) H1 fun y H2 => H2 D = some (.lst acc) ∧ acc.length < sizeLine ∧ compW te tt fvs D stay r (acc ++ [y]) (upd H2 D (.lst (acc ++ [y]))) k
    else compW te tt fvs D stay r acc H1 k
noncomputable def forW (i : Nat) (tb : TS) (stay : Hp → Prop) : List V → TS
  | [], D, σ, H => stay H ∧ D.nx σ H
  | v :: r, D, σ, H => stay H ∧ tb { D with nx := forW i tb stay r D, ct := forW i tb stay r D, bk := D.nx } (σ.set i (some v)) H
noncomputable def setAll : St → List Nat → List V → St
  | σ, i :: is, x :: xs => setAll (σ.set i (some x)) is xs
  | σ, _, _ => σ
noncomputable def stoV (x k v : V) (H : Hp) (Q : Hp → Prop) : Prop := match x with
  | .ref p => (match H p with
    | some (.lst xs) => (match k with | .int j => (match ixN xs.length j with | some n => Q (upd H p (.lst (xs.set n v))) | none => False) | _ => False)
    | _ => False)
  | _ => False
noncomputable def vars (σ : St) (fv : List (Str × Nat)) : St := fv.map fun y => (σ[y.2]?).join
mutual
noncomputable def wE (Γ : Gam) : Ex → XS → TE
  | .var i, _ => fun σ H Q => match σ[i]? with | some (some v) => Q v H | _ => False
  | .con v, _ => fun _ H Q => Q v H
  | .glob x, _ => fun _ H Q => match Γ.con x with | some v => Q v H | none => False
  | .bin op a b, Ξ => fun σ H Q => wE Γ a Ξ σ H fun x H1 => wE Γ b Ξ σ H1 fun y H2 => binV Γ.mod op x y H2 Q
  | .neg a, Ξ => fun σ H Q => wE Γ a Ξ σ H fun x H1 => match x with | .int i => Q (.int (-i)) H1 | _ => False
  | .cmp op a b, Ξ => fun σ H Q => wE Γ a Ξ σ H fun x H1 => wE Γ b Ξ σ H1 fun y H2 => cmpV Γ.mod op x y H2 Q
  | .cmp2 o1 o2 a b c, Ξ => fun σ H Q => wE Γ a Ξ σ H fun x H1 => wE Γ b Ξ σ H1 fun y H2 => cmpV Γ.mod o1 x y H2 fun z H3 => ∃ k, z = .bl k ∧
    if k = true then wE Γ c Ξ σ H3 fun u H4 => cmpV Γ.mod o2 y u H4 Q else Q (.bl false) H3
  | .and a b, Ξ => fun σ H Q => wE Γ a Ξ σ H fun x H1 => truV Γ.mod x H1 fun k => if k = true then wE Γ b Ξ σ H1 Q else Q x H1
  | .or a b, Ξ => fun σ H Q => wE Γ a Ξ σ H fun x H1 => truV Γ.mod x H1 fun k => if k = true then Q x H1 else wE Γ b Ξ σ H1 Q
  | .not a, Ξ => fun σ H Q => wE Γ a Ξ σ H fun x H1 => truV Γ.mod x H1 fun k => Q (.bl (!k)) H1
  | .call f args, Ξ => fun σ H Q => (Γ.cm = true ∧ Γ.has f = true) ∧ wEs Γ args Ξ σ H fun vs H1 => Γ.fn f vs H1 Q fun C d H' => Ξ C d σ H'
  | .blt f args, Ξ => fun σ H Q => Γ.cm = true ∧ wEs Γ args Ξ σ H fun vs H1 => bltV Γ.mod f vs H1 Q
  | .mth m o args, Ξ => fun σ H Q => wE Γ o Ξ σ H fun x H1 => mty Γ.mod m x H1 = true ∧ wEs Γ args Ξ σ H1 fun vs H2 => mthV Γ.mod m x vs H2 Q
  | .isin a T, Ξ => fun σ H Q => wE Γ a Ξ σ H fun x H1 => match T with
    | .own c => (match x with | .ref p => (match H1 p with | some (.exo C d) => hasXd H1 d = true ∧ (match Γ.sub C c with | some b => Q (.bl b) H1 | none => False) | _ => False) | _ => False)
    | T => known Γ.mod H1 x = true ∧ Q (.bl (isTy T H1 x)) H1
  | .fld a f, Ξ => fun σ H Q => wE Γ a Ξ σ H fun x H1 => match x with
    | .ref p => match H1 p with
      | some (.exo C (some d)) => match H1 d with | some (.xd fs) => Γ.fo C f = true ∧ (match fs.lookup f with | some v => Q v H1 | none => False) | _ => False
      | _ => False
    | _ => False
  | .idx a b, Ξ => fun σ H Q => wE Γ a Ξ σ H fun x H1 => wE Γ b Ξ σ H1 fun y H2 => idxV Γ.mod x y H2 Q
  | .slc a lo hi, Ξ => fun σ H Q => wE Γ a Ξ σ H fun x H1 => wP Γ lo Ξ σ H1 fun l H2 => wP Γ hi Ξ σ H2 fun u H3 => slcV Γ.mod x l u H3 Q
  | .tup es, Ξ => fun σ H Q => wEs Γ es Ξ σ H fun xs H1 => xs.length ≤ sizeLine ∧ ∀ p, H1 p = none → Γ.mod p = none → Q (.ref p) (upd H1 p (.tup xs))
  | .lst es, Ξ => fun σ H Q => wEs Γ es Ξ σ H fun xs H1 => xs.length ≤ sizeLine ∧ ∀ p, H1 p = none → Γ.mod p = none → Q (.ref p) (upd H1 p (.lst xs))
  | .sset a, Ξ => fun σ H Q => Γ.cm = true ∧ wE Γ a Ξ σ H fun x H1 => ssetV Γ.mod x H1 Q
  | .comp _ fv it elt ifs, Ξ => fun σ H Q => Γ.cm = true ∧ wI Γ it Ξ σ H fun xs stay H1 => ∀ D, H1 D = none → Γ.mod D = none →
    compW (wE Γ elt X0) (wTs Γ ifs X0) (vars σ fv) D stay xs [] (upd H1 D (.lst [])) fun H' => Q (.ref D) H'
noncomputable def wT (Γ : Gam) : Ex → XS → TT
  | .and a b, Ξ => fun σ H Q => wT Γ a Ξ σ H fun k H1 => if k = true then wT Γ b Ξ σ H1 Q else Q false H1
  | .or a b, Ξ => fun σ H Q => wT Γ a Ξ σ H fun k H1 => if k = true then Q true H1 else wT Γ b Ξ σ H1 Q
  | .not a, Ξ => fun σ H Q => wT Γ a Ξ σ H fun k H1 => Q (!k) H1
  | .var i, _ => fun σ H Q => match σ[i]? with | some (some v) => truV Γ.mod v H fun k => Q k H | _ => False
  | .cmp op a b, Ξ => fun σ H Q => wE Γ a Ξ σ H fun x H1 => wE Γ b Ξ σ H1 fun y H2 => cmpV Γ.mod op x y H2 fun x H' => ∃ k, x = .bl k ∧ Q k H'
  | .cmp2 o1 o2 a b c, Ξ => fun σ H Q => wE Γ a Ξ σ H fun x H1 => wE Γ b Ξ σ H1 fun y H2 => cmpV Γ.mod o1 x y H2 fun z H3 => ∃ k, z = .bl k ∧
    if k = true then wE Γ c Ξ σ H3 fun u H4 => cmpV Γ.mod o2 y u H4 fun x H' => ∃ k, x = .bl k ∧ Q k H' else ∃ k, V.bl false = .bl k ∧ Q k H3
  | .call f args, Ξ => fun σ H Q => (Γ.cm = true ∧ Γ.has f = true) ∧ wEs Γ args Ξ σ H fun vs H1 => Γ.fn f vs H1 (fun x H1 => truV Γ.mod x H1 fun k => Q k H1) fun C d H' => Ξ C d σ H'
  | .blt f args, Ξ => fun σ H Q => Γ.cm = true ∧ wEs Γ args Ξ σ H fun vs H1 => bltV Γ.mod f vs H1 fun x H1 => truV Γ.mod x H1 fun k => Q k H1
  | .mth m o args, Ξ => fun σ H Q => wE Γ o Ξ σ H fun x H1 => mty Γ.mod m x H1 = true ∧ wEs Γ args Ξ σ H1 fun vs H2 => mthV Γ.mod m x vs H2 fun x H1 => truV Γ.mod x H1 fun k => Q k H1
  | .isin a T, Ξ => fun σ H Q => wE Γ a Ξ σ H fun x H1 => match T with
    | .own c => (match x with | .ref p => (match H1 p with | some (.exo C d) => hasXd H1 d = true ∧ (match Γ.sub C c with | some b => Q b H1 | none => False) | _ => False) | _ => False)
    | T => known Γ.mod H1 x = true ∧ Q (isTy T H1 x) H1
  | .idx a b, Ξ => fun σ H Q => wE Γ a Ξ σ H fun x H1 => wE Γ b Ξ σ H1 fun y H2 => idxV Γ.mod x y H2 fun x H1 => truV Γ.mod x H1 fun k => Q k H1
  | .con v, _ => fun _ H Q => truV Γ.mod v H fun k => Q k H
  | _, _ => fun _ _ _ => False
noncomputable def wEs (Γ : Gam) : Exs → XS → TA
  | .nil, _ => fun _ H Q => Q [] H
  | .cons e r, Ξ => fun σ H Q => wE Γ e Ξ σ H fun x H1 => wEs Γ r Ξ σ H1 fun xs H2 => Q (x :: xs) H2
noncomputable def wP (Γ : Gam) : Exs → XS → St → Hp → (Option Int → Hp → Prop) → Prop
  | .nil, _ => fun _ H Q => Q none H
  | .cons e .nil, Ξ => fun σ H Q => wE Γ e Ξ σ H fun x H1 => match x with | .int i => Q (some i) H1 | _ => False
  | _, _ => fun _ _ _ => False
noncomputable def wTs (Γ : Gam) : Exs → XS → TT
  | .nil, _ => fun _ H Q => Q true H
  | .cons e _, Ξ => wT Γ e Ξ
noncomputable def wI (Γ : Gam) : Ix → XS → St → Hp → (List V → (Hp → Prop) → Hp → Prop) → Prop
  | .ex e, Ξ, σ, H, k => wE Γ e Ξ σ H fun x H1 => iterV Γ.mod x H1 fun xs stay => k xs stay H1
  | .rng1 a, Ξ, σ, H, k => wE Γ a Ξ σ H fun x H1 => match x with
    | .int j => -(2 ^ 62) ≤ j ∧ j < 2 ^ 62 ∧ k ((List.range j.toNat).map fun i : Nat => .int i) (fun _ => True) H1
    | _ => False
end
noncomputable def Gam.hush (Γ : Gam) : Gam := { Γ with cm := false, hd := false }
noncomputable def Gam.grip (Γ : Gam) : Gam := { Γ with cm := false, hd := true }
noncomputable def gone (D : Ends) (j : Nat) : Ends := { nx := fun σ => D.nx (σ.set j none), rt := D.rt, bk := fun σ => D.bk (σ.set j none), ct := fun σ => D.ct (σ.set j none) }
noncomputable def handW (M : Mo) (sub : Addr → Bool) (th : TS) (i : Option Nat) (D : Ends) : XS := fun C' d σ' H' => match C' with
  | .ref c => if sub c = true then
      (match i with
        | none => th D σ' H'
        | some j => ∀ e, H' e = none → M e = none → th (gone D j) (σ'.set j (some (.ref e))) (upd H' e (.exo c d)))
    else False
  | .int n _ => if sub n.toNat = true then
      (match i with
        | none => False
        | some j => ∀ e, H' e = none → M e = none → th (gone D j) (σ'.set j (some (.ref e))) (upd H' e (.exo n.toNat d)))
    else False
  | _ => False
mutual
noncomputable def wS : Sx → Gam → XS → TS
  | .asg i e, Γ, Ξ => fun D σ H => wE Γ e Ξ σ H fun v H1 => D.nx (σ.set i (some v)) H1
  | .exp e, Γ, Ξ => fun D σ H => wE Γ e Ξ σ H fun _ H1 => D.nx σ H1
  | .ret e, Γ, Ξ => fun D σ H => wE Γ e Ξ σ H D.rt
  | .iff c a b, Γ, Ξ => fun D σ H => wT Γ c Ξ σ H fun k H1 => if k = true then wSs a Γ Ξ D σ H1 else wSs b Γ Ξ D σ H1
  | .fr i it b, Γ, _ => fun D σ H => Γ.cm = true ∧ wI Γ it X0 σ H fun xs stay H1 => forW i (wSs b Γ X0) stay xs D σ H1
  | .rais C args, Γ, Ξ => fun D σ H => Γ.cm = true ∧ match Γ.exc C with
    | some (c, [f]) => (match args with
      | .cons e .nil => wE Γ e Ξ σ H fun v H1 => ∀ d, H1 d = none → Γ.mod d = none → Ξ (.ref c) (some d) σ (upd H1 d (.xd [(f, v)]))
      | _ => False)
    | _ => False
  | .tryx b C i h, Γ, Ξ => fun D σ H => Γ.cm = true ∧ Γ.cat C = true ∧ wSs b Γ (handW Γ.mod (fun c => Γ.sub c C == some true) (match i with | none => wSs h Γ.grip Ξ | some _ => wSs h Γ.hush X0) i D) D σ H
  | .sto o i e, Γ, Ξ => fun D σ H => wE Γ e Ξ σ H fun v H1 => wE Γ o Ξ σ H1 fun x H2 => wE Γ i Ξ σ H2 fun k H3 => stoV x k v H3 (D.nx σ)
  | .asgT is e, Γ, Ξ => fun D σ H => Γ.cm = true ∧ wE Γ e Ξ σ H fun x H1 => match x with
    | .ref p => (match rd Γ.mod H1 p with | some (.tup xs) => xs.length = is.length ∧ D.nx (setAll σ is xs) H1 | _ => False)
    | _ => False
  | .raisF C args, Γ, Ξ => fun D σ H => Γ.hd = true ∧ match Γ.exc C with
    | some (c, [f]) => (match args with
      | .cons e .nil => wE Γ e Ξ σ H fun v H1 => ∀ d, H1 d = none → Γ.mod d = none → Ξ (rawInt c) (some d) σ (upd H1 d (.xd [(f, v)]))
      | _ => False)
    | _ => False
noncomputable def wSs : Sxs → Gam → XS → TS
  | .nil, _, _ => fun D σ H => D.nx σ H
  | .cons s r, Γ, Ξ => fun D σ H => wS s Γ Ξ { D with nx := wSs r Γ Ξ D } σ H
end
end Sw
namespace Sw
open PySem PySem.Spec PyProof.Rows L2
section
variable {X : Cx} {M : Mo} {pins : List (Addr × Obj)} {σ : L2.St} {H : Hp} {s : Shared}
theorem all_list (I : Inv X pins σ H s) (hc : X.calm = true) {a : Addr} {xs : List V} {bs : List Bool} (hq : SqL X.K H a xs) (eb : allM asB xs = some bs) {Q : VK} (h : Q (.bl (bs.all id)) H) :
    wpAny (model X.prog X.w) X.A (call (.builtin "all") [.ref a]) (EP X pins σ Q) X.xe s := by
  obtain ⟨its, rv, pl, hz⟩ := I.list hq
  have hl := pl.isList
  have hlt : a < s.heap.objs.size := by obtain ⟨_, e, _⟩ := hl; exact Heap.lt_size e
  refine call_all_walk (wpAny_pyIter_list hl ?_)
  refine ⟨s.heap.objs.size, [s.heap.objs.size, a], [s.heap.objs.size], its.toArray.size, _, _, fun i => (bs[i]?).getD true, rfl, Walks.list (A := X.A.in1) (I.ok.hd hc) _ a (Nat.ne_of_lt hlt) its.toArray,
    ⟨⟨_, Heap.get?_push_size _ rfl, rfl, rfl⟩, hl.push _⟩, fun i v s' Q' E' hP hQ => ?_, fun h' tk hk => ?_⟩
  · obtain ⟨x, ex, rx⟩ := Vals.back rv (by simpa using hP)
    obtain ⟨b, e, fx⟩ := allM_get eb ex
    cases x <;> first | (cases fx; cases rx; simp only [e, Option.getD_some] at hQ; exact wpAny_truthy_bool hQ) | cases fx
  · have e : ((List.range its.toArray.size).all fun i => (bs[i]?).getD true) = bs.all id := by
      rw [List.size_toArray, ← rv.length, ← allM_length eb]; exact LSm.range_all bs
    rw [e]
    exact ⟨.bl _, H, I.kept (t' := tk) (LSm.kept_iter hk), rfl, h⟩
noncomputable def bfV : Bf → Value
  | .str => .type "str" | .int => .type "int" | .list => .type "list" | .tuple => .type "tuple"
  | .len => .builtin "len" | .all => .builtin "all" | .any => .builtin "any" | .abs => .builtin "abs" | .sorted => .builtin "sorted" | .sortset => .builtin "sorted"
  | .max => .builtin "max" | .min => .builtin "min" | .sum => .builtin "sum"
theorem strs_vals : ∀ {xs : List V} {its : List Value} {ts : List Str}, Vals xs its → allM asS xs = some ts → StrsAre its ts := by
  intro xs its ts r e
  induction r generalizing ts with
  | nil => simp [allM] at e; subst e; exact .nil
  | cons h r ih =>
    rename_i x u xs us
    cases x with
    | str y =>
      obtain ⟨t, rfl⟩ := h
      simp only [allM, asS] at e
      cases q : allM asS xs with
      | none => rw [q] at e; simp at e
      | some ts' => rw [q] at e; simp at e; subst e; exact .cons y t (ih q)
    | _ => simp [allM, asS] at e
theorem vals_of_strs : ∀ {its : List Value} {ts : List Str}, StrsAre its ts → Vals (ts.map V.str) its
  | _, _, .nil => .nil
  | _, _, .cons y t r => .cons ⟨t, rfl⟩ (vals_of_strs r)
theorem Inv.like {s' : Shared} (I : Inv X pins σ H s) (h1 : s'.heap = s.heap) (h2 : s'.gens = s.gens) (h3 : s'.os = s.os) : Inv X pins σ H s' := by
  obtain ⟨hp, g, d, tk, os⟩ := s'
  obtain ⟨hp', g', d', tk', os'⟩ := s
  dsimp only at h1 h2 h3
  subst h1; subst h2; subst h3
  exact ⟨I.ok, I.os, I.bare, I.base, I.loc, I.cell, I.free, I.freeC, I.pin, I.hok, I.len⟩
theorem new_list (mo : ModOk X.K M) {s' : Shared} {l : Addr} {out : Array Value} {e : Nat} {ys : List V} {Q : VK} (I : Inv X pins σ H s) (kp : ∀ b o, s.heap.get? b = some o → s'.heap.get? b = some o) (hg : s'.gens = s.gens) (ho : s'.os = s.os) (hl : s.heap.objs.size ≤ l)
    (hn : s'.heap.get? l = some (seqObj "list" out e)) (hv : Vals ys out.toList) (hz : ys.length ≤ sizeLine) (h : H l = none → M l = none → Q (.ref l) (upd H l (.lst ys))) : EP X pins σ Q (.ref l) s' := by
  have J : Inv X pins σ (upd H l (.lst ys)) { s with heap := s'.heap, toks := s'.toks } := I.laid (t' := s'.toks) kp hl (show ObjOk X.prog X.w _ s'.heap l (.lst ys) from ⟨hz, out.toList, e, hv, by rw [hn]⟩)
  have J' : Inv X pins σ (upd H l (.lst ys)) s' := Inv.like J rfl hg ho
  exact ⟨.ref l, _, J', rfl, h (I.hok.fresh hl) (OffM.new (Inv.offM mo J'))⟩
theorem sset_tail (mo : ModOk X.K M) (hc : X.calm = true) {h' : Heap} {tk : Nat} {τ : List Str} {Q : VK} (I : Inv X pins σ H s) (hS : PySem.Sg.SetIs X.prog X.w h' s.heap.objs.size τ) (kp : ∀ b o, s.heap.get? b = some o → h'.get? b = some o) (h : newSorted M τ H Q) :
    wpAny (model X.prog X.w) X.A (call (.builtin "sorted") [.ref s.heap.objs.size]) (EP X pins σ Q) X.xe { s with heap := h', toks := tk } := by
  obtain ⟨h64, h⟩ := h
  refine PySem.Sg.sorted_set (I.ok.hd hc) h64 hS fun s' l out ss e kp2 eg eo et hl hn a1 a2 a3 => ?_
  refine new_list mo I (fun b o q => kp2 b o (kp b o q)) eg eo (Nat.le_of_lt hl) hn (vals_of_strs a1) ?_ (h ss _ a2 a3)
  rw [List.length_map, a2.length_eq, sizeLine_eq]; omega
theorem sset_ok (mo : ModOk X.K M) (hc : X.calm = true) {x : V} {u : Value} {Q : VK} (I : Inv X pins σ H s) (r : RelV x u) (h : ssetV M x H Q) :
    wpAny (model X.prog X.w) X.A (call (.type "set") [u]) (fun v s1 => wpAny (model X.prog X.w) X.A (call (.builtin "sorted") [v]) (EP X pins σ Q) X.xe s1) X.xe s := by
  unfold ssetV at h
  split at h
  · obtain ⟨t, rfl⟩ := r
    exact PySem.Sg.call_set_str (I.ok.hd hc) _ t h.1 fun h' tk hS kp => sset_tail mo hc I hS kp h.2
  · cases r
    split at h
    · rename_i e
      split at h
      · rename_i ts eb
        obtain ⟨its, rv, pl, hz⟩ := I.list (rd_lst mo e)
        have hs := strs_vals rv eb
        have hl : its.toArray.size = ts.length := by rw [List.size_toArray, hs.len_eq]
        refine PySem.Sg.call_set_strs (I.ok.hd hc) pl.isList (by simpa using hs) (by rw [hl]; exact h.1) fun h' tk hS kp => sset_tail mo hc I (by rw [hl] at hS; exact hS) kp h.2
      · exact h.elim
    · exact h.elim
  · exact h.elim
theorem blt_ok (hc : X.calm = true) (m : ModOk X.K M) (f : Bf) : CallR X (bfV f) (bltV M f) := by
  intro pins s σ H xs us Q I r h
  cases f with
  | len =>
    cases xs with
    | nil => exact False.elim h
    | cons x t =>
      cases t with
      | cons _ _ => first | exact False.elim h | (cases x <;> exact False.elim h)
      | nil =>
        cases x with
        | str y =>
          exact call_len_str pins s σ H _ _ Q I r ⟨_, rfl, h.1, h.2⟩
        | ref p =>
          unfold bltV at h
          dsimp only at h
          split at h
          · rename_i e; exact call_len_seq pins s σ H _ _ Q I r ⟨_, _, rfl, .inl (rd_lst m e), h⟩
          · rename_i e; exact call_len_seq pins s σ H _ _ Q I r ⟨_, _, rfl, .inr (rd_tup m e), h⟩
          · exact h.elim
        | _ => exact False.elim h
  | all =>
    cases xs with
    | nil => exact False.elim h
    | cons x t =>
      cases t with
      | cons _ _ => first | exact False.elim h | (cases x <;> exact False.elim h)
      | nil =>
        cases x with
        | ref p =>
          obtain ⟨u, rfl, ru⟩ := vals1 r
          cases ru
          unfold bltV at h
          dsimp only at h
          split at h
          · rename_i e
            split at h
            · rename_i eb; exact all_list I hc (rd_lst m e) eb h
            · exact h.elim
          · exact h.elim
        | _ => exact False.elim h
  | str =>
    cases xs with
    | nil => exact False.elim h
    | cons x t =>
      cases t with
      | cons _ _ => first | exact False.elim h | (cases x <;> exact False.elim h)
      | nil =>
        cases x with
        | int i =>
          exact call_str_int pins s σ H _ _ Q I r ⟨_, rfl, h.1, h.2⟩
        | _ => exact False.elim h
  | int =>
    cases xs with
    | nil => exact False.elim h
    | cons x t =>
      cases t with
      | cons _ _ => first | exact False.elim h | (cases x <;> exact False.elim h)
      | nil =>
        cases x with
        | str x =>
          obtain ⟨u, rfl, ru⟩ := vals1 r
          obtain ⟨t, rfl⟩ := ru
          obtain ⟨h1, h⟩ := h
          split at h
          · rename_i n e
            exact PySem.W.KIN.call_text e h1 ⟨.int n, H, I.tok _, ⟨_, rfl⟩, h⟩
          · exact h.elim
        | bl b =>
          exact call_int1 pins s σ H _ _ Q I r (.inr ⟨_, rfl, h⟩)
        | _ => exact False.elim h
  | _ => exact False.elim h
noncomputable def mfT : Mf → String
  | .append => "list" | .pop => "list" | .extend => "list" | _ => "str"
noncomputable def mfId : Mf → String
  | .startswith => "str.startswith" | .endswith => "str.endswith" | .split => "str.split" | .join => "str.join" | .append => "list.append" | .pop => "list.pop" | .extend => "list.extend"
theorem strs_of : ∀ {xs : List V} {us : List Value} {ts : List Str}, Vals xs us → allM asS xs = some ts → ∃ l : List (Str × Tok), strValues l = us ∧ l.map (·.1) = ts
  | [], _, ts, .nil, h => by rw [allM_nil h]; exact ⟨[], rfl, rfl⟩
  | x :: xs, _, ts, .cons r t, h => by
    obtain ⟨a, l, h1, h2, rfl⟩ := allM_cons h
    obtain ⟨q, e1, e2⟩ := strs_of t h2
    cases x <;> first | cases h1 | skip
    obtain ⟨tk, rfl⟩ := r
    exact ⟨(_, tk) :: q, by rw [← e1]; rfl, by rw [← e2]; rfl⟩
theorem vals_strs : ∀ (l : List (Str × Tok)), Vals ((l.map (·.1)).map V.str) (strValues l)
  | [] => .nil
  | p :: r => .cons ⟨p.2, rfl⟩ (vals_strs r)
theorem split_ok (mo : ModOk X.K M) {pins : List (Addr × Obj)} {σ : L2.St} {H : Hp} {s : Shared} {x y : Str} {t u : Tok} {Q : VK} (I : Inv X pins σ H s) (hy : (y.length == 0) = false) (hx : x.length ≤ 1000000)
    (h : ∀ l, H l = none → M l = none → Q (.ref l) (upd H l (.lst ((Txt.split x y).map V.str)))) : wpAny (model X.prog X.w) X.A (call (.builtin "str.split") [.str x t, .str y u]) (EP X pins σ Q) X.xe s := by
  have hsz : x.length ≤ sizeLine := by rw [sizeLine_eq]; omega
  have hsz2 : (Builtin.Str.partsBetween x (Builtin.Str.occurrences x y 0 x.length (x.length + 1)) y.length).length ≤ sizeLine := by
    rw [PyProof.Rows.len_partsBetween]
    have := PySem.StrLaws.occ_length_le x y 0 x.length (x.length + 1)
    rw [sizeLine_eq]
    omega
  have fin : ∀ (l : List (Str × Tok)) (k : Nat), l.map (·.1) = Txt.split x y → l.length ≤ sizeLine → EP X pins σ Q (.ref s.heap.objs.size) { s with heap := s.heap.push { cls := .type "list", data := .seq (strValues l).toArray }, toks := k } := fun l k e hl => by
    have I2 := I.lnew (t' := k) (ys := (Txt.split x y).map V.str) (its := strValues l) (by rw [← e]; exact vals_strs l) (by rw [← e, List.length_map, List.length_map]; exact hl)
    exact ⟨.ref _, _, I2, rfl, h _ I.fresh (OffM.new (Inv.offM mo I2))⟩
  cases q1 : (decide (x.length < y.length) || decide (Builtin.Str.strKind x < Builtin.Str.strKind y)) with
  | true => exact call_meets PySem.F.slot_str_split (typeIs_str _ _ _) PySem.F.entry_str_split (PySem.F.args_str_split_2 _ _) (meets_str_split_cannot_occur x y t u q1) (fin [(x, t)] s.toks (by unfold Txt.split; rw [if_pos q1]; rfl) (by show 1 ≤ _; decide))
  | false =>
    have n1 : ¬ (decide (x.length < y.length) || decide (Builtin.Str.strKind x < Builtin.Str.strKind y)) = true := by rw [q1]; decide
    cases q2 : (Builtin.Str.occurrences x y 0 x.length (x.length + 1)).isEmpty with
    | true => exact call_meets PySem.F.slot_str_split (typeIs_str _ _ _) PySem.F.entry_str_split (PySem.F.args_str_split_2 _ _) (meets_str_split_not_found x y t u q1 hy q2) (fin [(x, t)] s.toks (by unfold Txt.split; rw [if_neg n1, if_pos q2]; rfl) (by show 1 ≤ _; decide))
    | false =>
      have n2 : ¬ (Builtin.Str.occurrences x y 0 x.length (x.length + 1)).isEmpty = true := by rw [q2]; decide
      refine call_meets PySem.F.slot_str_split (typeIs_str _ _ _) PySem.F.entry_str_split (PySem.F.args_str_split_2 _ _) (meets_str_split_sep x y t u q1 hy q2 hsz hsz2) ?_
      have z := fin (numbered s.toks (Builtin.Str.partsBetween x (Builtin.Str.occurrences x y 0 x.length (x.length + 1)) y.length)) (s.toks + (Builtin.Str.partsBetween x (Builtin.Str.occurrences x y 0 x.length (x.length + 1)) y.length).length)
        (by unfold Txt.split; rw [if_neg n1, if_neg n2]; exact numbered_texts _ _) (by have := congrArg List.length (numbered_texts s.toks (Builtin.Str.partsBetween x (Builtin.Str.occurrences x y 0 x.length (x.length + 1)) y.length)); rw [List.length_map] at this; rw [this]; exact hsz2)
      rw [← strsFrom_eq] at z
      exact z
theorem mth_ok (mo : ModOk X.K M) (m : Mf) : MtR X (mfId m) (mthV M m) := by
  intro pins s σ H x xs v us Q I rx r h
  cases m with
  | startswith =>
    cases x with
    | str x =>
      cases xs with
      | nil => exact False.elim h
      | cons y t =>
        cases t with
        | cons _ _ => first | exact False.elim h | (cases y <;> exact False.elim h)
        | nil =>
          cases y with
          | str y =>
            obtain ⟨u, rfl, ru⟩ := vals1 r
            obtain ⟨t, rfl⟩ := rx
            obtain ⟨t', rfl⟩ := ru
            exact PySem.SC.startswith ⟨.bl _, H, I, rfl, h⟩
          | _ => exact False.elim h
    | _ => exact False.elim h
  | endswith =>
    cases x with
    | str x =>
      cases xs with
      | nil => exact False.elim h
      | cons y t =>
        cases t with
        | cons _ _ => first | exact False.elim h | (cases y <;> exact False.elim h)
        | nil =>
          cases y with
          | str y =>
            obtain ⟨u, rfl, ru⟩ := vals1 r
            obtain ⟨t, rfl⟩ := rx
            obtain ⟨t', rfl⟩ := ru
            exact PySem.SC.endswith ⟨.bl _, H, I, rfl, h⟩
          | _ => exact False.elim h
    | _ => exact False.elim h
  | split =>
    cases x with
    | str x =>
      cases xs with
      | nil => exact False.elim h
      | cons y t =>
        cases t with
        | cons _ _ => first | exact False.elim h | (cases y <;> exact False.elim h)
        | nil =>
          cases y with
          | str y =>
            obtain ⟨u, rfl, ru⟩ := vals1 r
            obtain ⟨t, rfl⟩ := rx
            obtain ⟨t', rfl⟩ := ru
            exact split_ok mo I h.1 h.2.1 h.2.2
          | _ => exact False.elim h
    | _ => exact False.elim h
  | join =>
    cases x with
    | str x =>
      cases xs with
      | nil => exact False.elim h
      | cons y t =>
        cases t with
        | cons _ _ => first | exact False.elim h | (cases y <;> exact False.elim h)
        | nil =>
          cases y with
          | ref p =>
            obtain ⟨u, rfl, ru⟩ := vals1 r
            obtain ⟨t, rfl⟩ := rx
            cases ru
            unfold mthV at h
            dsimp only at h
            split at h
            · rename_i e
              split at h
              · rename_i ts et
                obtain ⟨its, rv, pl, _⟩ := I.list (rd_lst mo e)
                obtain ⟨l, e1, e2⟩ := strs_of rv et
                exact PySem.SC.join (l := l) (texts := ts) (by rw [e1]; exact pl.isList) e2 h.1 fun t' k => ⟨.str _, H, I.tok _, ⟨_, rfl⟩, h.2⟩
              · exact h.elim
            · exact h.elim
          | _ => exact False.elim h
    | _ => exact False.elim h
  | append =>
    cases x with
    | ref p =>
      cases xs with
      | nil => exact False.elim h
      | cons y t =>
        cases t with
        | cons _ _ => first | exact False.elim h | (cases y <;> exact False.elim h)
        | nil =>
          obtain ⟨u, rfl, ru⟩ := vals1 r
          unfold mthV at h
          dsimp only at h
          split at h
          · rename_i e
            exact mt_append pins s σ H _ _ _ _ Q I rx r ⟨_, _, _, rfl, rfl, e, h.1, h.2⟩
          · exact h.elim
    | _ => exact False.elim h
  | _ => exact False.elim h
theorem isl_ty {K : PySem.W.Frag} (mo : ModOk K M) {x : V} {H : Hp} (h : (match x with | .ref p => (match rd M H p with | some (.lst _) => true | _ => false) | _ => false) = true) : tyV K "list" x H := by
  cases x with
  | ref p =>
    dsimp only at h
    split at h
    · rename_i e; exact .inl ⟨rfl, _, rd_lst mo e⟩
    · cases h
  | _ => cases h
theorem mth_ty {K : PySem.W.Frag} (mo : ModOk K M) {m : Mf} {x : V} {H : Hp} (h : mty M m x H = true) : tyV K (mfT m) x H := by
  cases m with
  | append => exact isl_ty mo h
  | extend => exact isl_ty mo h
  | pop => exact isl_ty mo h
  | _ => cases x <;> first | exact rfl | cases h
theorem sl_str : SlR X (fun x lo hi H Q => ∃ z, x = .str z ∧ z.length ≤ sizeLine ∧ Q (.str (Txt.slice z lo hi)) H) := by
  intro pins s σ H x v vl vu lo hi sl Q I rx hs pl pu h
  obtain ⟨z, rfl, hz, q⟩ := h
  obtain ⟨t, rfl⟩ := rx
  refine ⟨"str", _, F.slot_str_getitem.lookup, typeIs_str _ _ _, ?_⟩
  cases pl with
  | none =>
    cases pu with
    | none => exact wpAny_getItem_str_slice (l := none) (u := none) (st := none) hs rfl (post_val_or_str ⟨Nat.le_trans (Txt.slice_le z _ _) hz, fun t' k => ⟨.str _, H, I.tok _, ⟨_, rfl⟩, q⟩⟩)
    | int j uj => exact wpAny_getItem_str_slice (l := none) (u := some (j, uj)) (st := none) hs rfl (post_val_or_str ⟨Nat.le_trans (Txt.slice_le z _ _) hz, fun t' k => ⟨.str _, H, I.tok _, ⟨_, rfl⟩, q⟩⟩)
  | int i ui =>
    cases pu with
    | none => exact wpAny_getItem_str_slice (l := some (i, ui)) (u := none) (st := none) hs rfl (post_val_or_str ⟨Nat.le_trans (Txt.slice_le z _ _) hz, fun t' k => ⟨.str _, H, I.tok _, ⟨_, rfl⟩, q⟩⟩)
    | int j uj => exact wpAny_getItem_str_slice (l := some (i, ui)) (u := some (j, uj)) (st := none) hs rfl (post_val_or_str ⟨Nat.le_trans (Txt.slice_le z _ _) hz, fun t' k => ⟨.str _, H, I.tok _, ⟨_, rfl⟩, q⟩⟩)
theorem slc_ok (m : ModOk X.K M) : SlR X (slcV M) := by
  intro pins s σ H x v vl vu lo hi sl Q I rx hs pl pu h
  unfold slcV at h
  split at h
  · exact sl_str pins s σ H _ v vl vu lo hi sl Q I rx hs pl pu ⟨_, rfl, h.1, h.2⟩
  · split at h
    · rename_i e
      obtain ⟨T, id, h1, h2, h3⟩ := sl_list pins s σ H _ v vl vu lo hi sl (fun v H' => OffM M H' → Q v H') I rx hs pl pu ⟨_, _, rfl, rd_lst m e, fun p hp of => h p hp of.new⟩
      exact ⟨T, id, h1, h2, thn h3 fun _ _ => ep_off m⟩
    · exact h.elim
  · exact h.elim
end
structure SeqIt (J : It) (xs : List V) (stay : Hp → Prop) : Prop where
  go : ∀ i H, stay H → i < xs.length → J.go i H
  yld : ∀ i H x H', i < xs.length → J.yld i H x H' → stay H → H' = H ∧ xs[i]? = some x
  stop : ∀ i H, stay H → xs.length ≤ i → J.stop i H
theorem seq_list {K : PySem.W.Frag} {M : Mo} (m : ModOk K M) {a : Addr} {xs : List V} : SeqIt (Itl K a) xs (fun H => rd M H a = some (.lst xs)) where
  go := fun i H st e => ⟨xs, xs[i], rd_lst m st, List.getElem?_eq_getElem e⟩
  yld := fun i H x H' _ y st => ⟨y.1, y.2 xs (rd_lst m st)⟩
  stop := fun i H st h => ⟨xs, rd_lst m st, h⟩
theorem seq_tup {K : PySem.W.Frag} {M : Mo} (m : ModOk K M) {a : Addr} {xs : List V} : SeqIt (Itt K a) xs (fun H => rd M H a = some (.tup xs)) where
  go := fun i H st e => ⟨xs, xs[i], rd_tup m st, List.getElem?_eq_getElem e⟩
  yld := fun i H x H' _ y st => ⟨y.1, y.2 xs (rd_tup m st)⟩
  stop := fun i H st h => ⟨xs, rd_tup m st, h⟩
theorem seq_range (lo : Int) (n : Nat) : SeqIt (Itr lo n) ((List.range n).map fun i : Nat => .int (lo + i)) (fun _ => True) where
  go := fun i H st e => by
    show i < n
    simpa using e
  yld := fun i H x H' e y st => by
    obtain ⟨y1, y2⟩ := y
    subst y2
    refine ⟨y1, ?_⟩
    have e : i < n := by simpa using e
    rw [List.getElem?_map, List.getElem?_range e]
    rfl
  stop := fun i H st h => by
    show n ≤ i
    simpa using h
noncomputable def Its (z : Str) : It := ⟨fun i _ => i < z.cps.size, fun i H x H' => H' = H ∧ ∃ c, z.cps[i]? = some c ∧ x = .str ⟨#[c]⟩, fun i _ => z.cps.size ≤ i⟩
theorem seq_str (z : Str) : SeqIt (Its z) (z.cps.toList.map fun c => .str ⟨#[c]⟩) (fun _ => True) where
  go := fun i H st e => by
    show i < z.cps.size
    simpa using e
  yld := fun i H x H' e y st => by
    obtain ⟨y1, c, y2, y3⟩ := y
    subst y3
    refine ⟨y1, ?_⟩
    rw [List.getElem?_map]
    simp [y2]
  stop := fun i H st h => by
    show z.cps.size ≤ i
    simpa using h
theorem turn_str {P : Program} {w : World} {K : PySem.W.Frag} {tg : Expr} (it : Addr) (z : Str) (t : Tok) : Turn P w K tg (Its z) [it] it (fun i h => h.IsStrIter it (strIterType z) z t i) where
  mem := by simp
  obj := fun i h st b hb => by
    have e : b = it := by simpa using hb
    subst e
    obtain ⟨o, ho, hc, hd⟩ := st
    exact ⟨o, ho, fun v q => by rw [hd] at q; cases q⟩
  keep := fun i h h' st k => by
    obtain ⟨o, ho, r⟩ := st
    exact ⟨o, k it (by simp) _ ho, r⟩
  item := by
    intro X hP hw hK hc i pins s σ H E I hf st hg
    subst hP hw hK
    obtain ⟨f0, f1, f2, f3, f4, f5⟩ := hf it (by simp)
    have hg : i < z.cps.size := hg
    have hx : z.cps[i]? = some z.cps[i] := Array.getElem?_eq_getElem hg
    have fin : ∀ (ty : String), ty ≠ "x" → strIterType z = ty → (["enumerate", "zip", "dict_itemiterator", "dict_reverseitemiterator", "odict_iterator", "itertools.zip_longest", "itertools.pairwise"].contains ty = false) → ∀ h', h'.IsStrIter it ty z t (i + 1) → Heap.SameBut it s.heap h' →
        ∃ u, some (Value.str ⟨#[z.cps[i]]⟩ s.toks) = some u ∧ wpAny (model X.prog X.w) X.A (letOwnedTupleGo tg (.ref it) u) (fun _ s2 => ∃ x H', Inv X pins σ H' s2 ∧ RelV x u ∧ (Its z).yld i H x H' ∧ s2.heap.IsStrIter it (strIterType z) z t (i + 1) ∧ ∀ b ∈ [it], H' b = none) E { s with heap := h', toks := s.toks + 1 } := by
      intro ty _ e hn h' st' sb
      have I1 : Inv X pins σ H { s with heap := h', toks := s.toks + 1 } := I.turned (fun b o hb e => sb.extBut b o hb e) f0 f1 f3 f4 f5
      obtain ⟨o, ho, hcl, hd⟩ := id st'
      refine ⟨_, rfl, go_of (s := { s with heap := h', toks := s.toks + 1 }) ho hcl hd hn ⟨.str ⟨#[z.cps[i]]⟩, H, I1, ⟨_, rfl⟩, ⟨rfl, _, hx, rfl⟩, by rw [e]; exact st', fun b hb => (hf b hb).1⟩⟩
    cases ha : z.cps.all (· < 128)
    · have e : strIterType z = "str_iterator" := by simp [strIterType, ha]
      rw [e] at st
      exact wpAny_pyNext_wide_item st hx fun h' st' sb => fin _ (by decide) e (by decide) h' st' sb
    · have e : strIterType z = "str_ascii_iterator" := by simp [strIterType, ha]
      rw [e] at st
      exact wpAny_pyNext_ascii_item st hx fun h' st' sb => fin _ (by decide) e (by decide) h' st' sb
  done := by
    intro X hP hw hK hc i pins s σ H E I hf st hg
    subst hP hw hK
    obtain ⟨f0, f1, f2, f3, f4, f5⟩ := hf it (by simp)
    have hg : z.cps.size ≤ i := hg
    have hx : z.cps[i]? = none := by simp [hg]
    cases ha : z.cps.all (· < 128)
    · have e : strIterType z = "str_iterator" := by simp [strIterType, ha]
      rw [e] at st
      exact wpAny_pyNext_wide_end (I.ok.hd hc) st hx fun h' eb => ⟨rfl, I.turned (t' := s.toks) (fun b o hb e => eb b o hb e) f0 f1 f3 f4 f5⟩
    · have e : strIterType z = "str_ascii_iterator" := by simp [strIterType, ha]
      rw [e] at st
      exact wpAny_pyNext_ascii_end (I.ok.hd hc) st hx fun h' eb => ⟨rfl, I.turned (t' := s.toks) (fun b o hb e => eb b o hb e) f0 f1 f3 f4 f5⟩
  self := fun A i s Q E st h => by
    cases ha : z.cps.all (· < 128)
    · have e : strIterType z = "str_iterator" := by simp [strIterType, ha]
      rw [e] at st
      exact wpAny_pyIter_striter_wide st h
    · have e : strIterType z = "str_ascii_iterator" := by simp [strIterType, ha]
      rw [e] at st
      exact wpAny_pyIter_striter_ascii st h
section
variable {X : Cx} {tg : Expr}
noncomputable def iSeq (wi : L2.St → Hp → (List V → (Hp → Prop) → Hp → Prop) → Prop) : TI := fun σ H R => ∃ k, wi σ H k ∧ ∀ J xs stay H1, SeqIt J xs stay → k xs stay H1 → R J H1
theorem iterV_mono {M : Mo} {x : V} {H : Hp} {k k' : List V → (Hp → Prop) → Prop} (h : iterV M x H k) (hk : ∀ xs stay, k xs stay → k' xs stay) : iterV M x H k' := by
  unfold iterV at h ⊢
  split at h
  · exact ⟨h.1, hk _ _ h.2⟩
  · split at h
    · first | exact hk _ _ h | (rename_i e; rw [e]; exact hk _ _ h)
    · first | exact hk _ _ h | (rename_i e; rw [e]; exact hk _ _ h)
    · exact h.elim
  · exact h.elim
theorem pi_str {pins : List (Addr × Obj)} {σ : L2.St} {H : Hp} {s : Shared} {R : It → Hp → Prop} {z : Str} {t : Tok} (I : Inv X pins σ H s) (q : R (Its z) H) :
    wpAny (model X.prog X.w) X.A (pyIter (.str z t)) (PIE X pins σ tg R) X.xe s := by
  refine wpAny_pyIter_strU ?_
  refine ⟨s.heap.objs.size, [s.heap.objs.size], _, _, H, rfl, I.kept (t' := s.toks) fun b o e => Heap.get?_push_of_some _ e, turn_str _ z t, ⟨_, Heap.get?_push_size _ rfl, rfl, rfl⟩, fun b hb => ?_, q⟩
  have e : b = s.heap.objs.size := by simpa using hb
  subst e
  exact I.fpOk (Nat.le_refl _) (I.hok.fresh (Nat.le_refl _))
theorem pi_val {M : Mo} (m : ModOk X.K M) {pins : List (Addr × Obj)} {σ : L2.St} {H : Hp} {s : Shared} {R : It → Hp → Prop} {x : V} {v : Value} (I : Inv X pins σ H s) (rx : RelV x v)
    (h : iterV M x H fun xs stay => ∀ J, SeqIt J xs stay → R J H) : wpAny (model X.prog X.w) X.A (pyIter v) (PIE X pins σ tg R) X.xe s := by
  unfold iterV at h
  split at h
  · obtain ⟨t, rfl⟩ := rx
    exact pi_str I (h.2 _ (seq_str _))
  · cases rx
    split at h
    · rename_i xs e
      obtain ⟨its, rv, p, hz⟩ := I.list (rd_lst m e)
      refine wpAny_pyIter_list p.isList ?_
      refine ⟨s.heap.objs.size, [s.heap.objs.size], _, _, H, rfl, I.kept (t' := s.toks) fun b o e => Heap.get?_push_of_some _ e, turn_list _ _, ⟨_, Heap.get?_push_size _ rfl, rfl, rfl⟩, fun b hb => ?_, h _ (seq_list m)⟩
      have e : b = s.heap.objs.size := by simpa using hb
      subst e
      exact I.fpOk (Nat.le_refl _) (I.hok.fresh (Nat.le_refl _))
    · rename_i xs e
      obtain ⟨its, rv, p, hz⟩ := I.tuple (rd_tup m e)
      refine wpAny_pyIter_tuple (show s.heap.IsTuple _ its.toArray from p) ?_
      refine ⟨s.heap.objs.size, [s.heap.objs.size], _, _, H, rfl, I.kept (t' := s.toks) fun b o e => Heap.get?_push_of_some _ e, turn_tuple _ _, ⟨_, Heap.get?_push_size _ rfl, rfl, rfl⟩, fun b hb => ?_, h _ (seq_tup m)⟩
      have e : b = s.heap.objs.size := by simpa using hb
      subst e
      exact I.fpOk (Nat.le_refl _) (I.hok.fresh (Nat.le_refl _))
    · exact h.elim
  · exact h.elim
end
end Sw
namespace Sw
open PySem PySem.Spec PyProof.Rows L2
theorem closure_go (env : Env) : ∀ (names : List (Str × NameKind)) (acc : List (Str × Addr)), (∀ y ∈ names, y.2 = .free → ∃ c, env.cells.lookup y.1 = some c) →
    ∃ cl, ((forIn names acc (fun (x : Str × NameKind) (r : List (Str × Addr)) => if (x.2 == .free) = true then (do let a ← cellOf env x.1; pure (ForInStep.yield ((x.1, a) :: r))) else pure (ForInStep.yield r)) : Sem (List (Str × Addr))) = pure (cl ++ acc)) ∧
      (∀ y ∈ cl, env.cells.lookup y.1 = some y.2) ∧ (∀ y ∈ names, y.2 = .free → ∃ c, (y.1, c) ∈ cl) := by
  intro names
  induction names with
  | nil => intro acc _; exact ⟨[], rfl, (fun _ h => by cases h), (fun _ h => by cases h)⟩
  | cons x r ih =>
    intro acc h
    obtain ⟨n, k⟩ := x
    cases hk : (k == NameKind.free) with
    | false =>
      obtain ⟨cl, e, h1, h2⟩ := ih acc fun y hy => h y (List.mem_cons_of_mem _ hy)
      refine ⟨cl, ?_, h1, fun y hy hf => ?_⟩
      · simp only [List.forIn_cons, hk, Bool.false_eq_true, if_false]
        exact e
      · rcases List.mem_cons.mp hy with rfl | hy
        · have hf : k = .free := hf
          rw [hf] at hk; cases hk
        · exact h2 y hy hf
    | true =>
      have hkf : k = .free := by simpa using hk
      obtain ⟨c, hc⟩ := h (n, k) List.mem_cons_self hkf
      obtain ⟨cl, e, h1, h2⟩ := ih ((n, c) :: acc) fun y hy => h y (List.mem_cons_of_mem _ hy)
      refine ⟨cl ++ [(n, c)], ?_, fun y hy => ?_, fun y hy hf => ?_⟩
      · simp only [List.forIn_cons, hk, if_true]
        unfold cellOf
        have hc' : env.cells.lookup n = some c := hc
        rw [hc']
        simp only [List.append_assoc, List.singleton_append]
        exact e
      · rcases List.mem_append.mp hy with hy | hy
        · exact h1 y hy
        · have ey : y = (n, c) := by simpa using hy
          subst ey; exact hc
      · rcases List.mem_cons.mp hy with rfl | hy
        · exact ⟨c, List.mem_append_right _ (by simp)⟩
        · obtain ⟨d, hd⟩ := h2 y hy hf
          exact ⟨d, List.mem_append_left _ hd⟩
theorem closure_ok {env : Env} {csc : Scope} (h : ∀ y ∈ csc.names, y.2 = .free → ∃ c, env.cells.lookup y.1 = some c) :
    ∃ cl, closureFor csc env = pure cl ∧ (∀ y c, cl.lookup y = some c → env.cells.lookup y = some c) ∧ (∀ y, (y, NameKind.free) ∈ csc.names → ∃ c, cl.lookup y = some c) := by
  obtain ⟨cl, e, h1, h2⟩ := closure_go env csc.names [] h
  refine ⟨cl, ?_, fun y c hl => h1 (y, c) (PySem.mem_of_lookup hl), fun y hy => ?_⟩
  · rw [List.append_nil] at e
    unfold closureFor
    simp only [e]
    rfl
  · obtain ⟨c, hc⟩ := h2 (y, .free) hy rfl
    cases q : cl.lookup y with
    | some d => exact ⟨d, rfl⟩
    | none =>
      exfalso
      clear h1 h2 e
      induction cl with
      | nil => cases hc
      | cons z r ih =>
        obtain ⟨a, b⟩ := z
        simp only [List.lookup_cons] at q
        cases hb : (y == a) with
        | true => rw [hb] at q; cases q
        | false =>
          rw [hb] at q
          rcases List.mem_cons.mp hc with hc | hc
          · cases hc
            simp at hb
          · exact ih hc q
theorem relabel_vis {csc : Scope} {env : Env} {y : Str} : (relabel csc env).names.lookup y = (csc.names.lookup y).map fun k => if (k == .free && env.scope.kind == .function && env.kindOf y == some .cell) then .cell else k := by
  unfold relabel
  dsimp only
  generalize csc.names = names
  induction names with
  | nil => rfl
  | cons z r ih =>
    obtain ⟨n, k⟩ := z
    simp only [List.map_cons, List.lookup_cons]
    cases hb : (y == n) with
    | true =>
      have e : y = n := by simpa using hb
      subst e
      by_cases hc : (k == NameKind.free && env.scope.kind == .function && env.kindOf y == some .cell) = true
      · simp only [hc, if_true, List.lookup_cons, hb, Option.map_some]
      · simp only [hc, if_false, List.lookup_cons, hb, Option.map_some, Bool.false_eq_true]
    | false =>
      by_cases hc : (k == NameKind.free && env.scope.kind == .function && env.kindOf n == some .cell) = true
      · simp only [hc, if_true, List.lookup_cons, hb]; exact ih
      · simp only [hc, if_false, List.lookup_cons, hb, Bool.false_eq_true]; exact ih
theorem mem_of_look {α β : Type} [BEq α] [LawfulBEq α] {l : List (α × β)} {a : α} {b : β} (h : l.lookup a = some b) : (a, b) ∈ l := by
  induction l with
  | nil => cases h
  | cons x r ih =>
    obtain ⟨c, d⟩ := x
    simp only [List.lookup_cons] at h
    cases hb : (a == c) with
    | true =>
      rw [hb] at h
      have e : a = c := by simpa using hb
      subst e
      cases h
      exact List.mem_cons_self
    | false => rw [hb] at h; exact List.mem_cons_of_mem _ (ih h)
structure CompOf (X X' : Cx) (csc : Scope) (N' : List Str) : Prop where
  prog : X'.prog = X.prog
  w : X'.w = X.w
  K : X'.K = X.K
  mg : X'.mg = X.mg
  base : X'.base = X.base
  A : X'.A = X.A
  calm : X'.calm = true
  xe : X'.xe = fun _ _ => False
  N : X'.N = N'
  scope : X'.env.scope = relabel csc X.env
noncomputable def PTs (X : Cx) (ifs : List Expr) (tt : TT) : Prop :=
  ∀ (pins : List (Addr × Obj)) (s : Shared) (σ : L2.St) (H : Hp) (Q : Bool → Hp → Prop), Inv X pins σ H s → tt σ H Q →
    wpAny (model X.prog X.w) X.A (forIn ifs true fun c r => if r = true then do let ok ← isTrue c X.env (eval c X.env); pure (ForInStep.yield ok) else pure (ForInStep.yield r)) (TP X pins σ Q) X.xe s
theorem vars_get {σ : L2.St} {fv : List (Str × Nat)} {i : Nat} {v : V} (h : (vars σ fv)[i]? = some (some v)) : ∃ y, fv[i]? = some y ∧ σ[y.2]? = some (some v) := by
  unfold vars at h
  rw [List.getElem?_map] at h
  cases e : fv[i]? with
  | none => rw [e] at h; cases h
  | some y =>
    rw [e] at h
    refine ⟨y, rfl, ?_⟩
    have h : (σ[y.2]?).join = some v := by simpa using h
    cases q : σ[y.2]? with
    | none => rw [q] at h; cases h
    | some z => rw [q] at h; simp at h; rw [h]
set_option maxHeartbeats 8000000 in
theorem Inv.letgo {X : Cx} {pins : List (Addr × Obj)} {σ : L2.St} {H : Hp} {s : Shared} {C : Addr} {h' : Heap} (I : Inv X pins σ H s) (f : FpOk X pins H C) (sb : Heap.SameBut C s.heap h') : Inv X pins σ H { s with heap := h' } := by
  have same : ∀ b o, b ≠ C → s.heap.get? b = some o → h'.get? b = some o := fun b o hb e => sb.extBut b o hb e
  obtain ⟨f0, f1, f2, f3, f4, f5⟩ := f
  refine I.call' (ch := [C]) (s' := { s with heap := h' }) rfl ⟨fun b o e n hb hx => same b o (by simpa using hx) e, fun b o e n hb hx => ⟨o.slots, same b o (by simpa using hx) e⟩, fun b o e n _ => n, fun b o e hb => ⟨o, same b o (by simpa using hb) e⟩, fun _ _ q => q, fun _ _ _ q => q, fun b ps q => ⟨#[], by simpa using q⟩⟩ (fun b o e => ?_) I.bare (fun b hb => ?_)
  · refine (I.hok b o e).stay (fun c u hcu q => same c u (fun z => ?_) q) (fun _ q => q) fun _ _ q => q
    subst z
    rcases hcu with z | z
    · rw [← z, f0] at e; cases e
    · rw [f0] at z; cases z
  · rw [show b = C by simpa using hb]
    exact ⟨f3, f1, f4, f5⟩
theorem comp_core {X : Cx} {M : Mo} (mo : ModOk X.K M) {sc csc : Scope} {elt iter : Expr} {ifs : List Expr} {x : Str} {px pos : Pos} {fv : List (Str × Nat)} {te : TE} {tt : TT} {wi : L2.St → Hp → (List V → (Hp → Prop) → Hp → Prop) → Prop} (hc : X.calm = true)
    (hcf : ∀ y, (sc.names.lookup y = some .cell ∨ sc.names.lookup y = some .free) → X.env.kindOf y = some .cell ∨ X.env.kindOf y = some .free)
    (ok : compOk sc csc X.N x fv = true) (hi : PI X (.Name x px) iter (iSeq wi))
    (he : ∀ X', CompOf X X' csc (x :: fv.map (·.1)) → PE X' elt te) (ht : ∀ X', CompOf X X' csc (x :: fv.map (·.1)) → PTs X' ifs tt)
    (hs : ∀ v, foldedSetIterable iter X.env v = pure v) {use : Option (Value → Sem Unit)} {R : Value → Shared → Prop} {pins : List (Addr × Obj)} {s : Shared} {σ : L2.St} {H : Hp} {Q : V → Hp → Prop} (I : Inv X pins σ H s)
    (h : wi σ H fun xs stay H1 => ∀ D, H1 D = none → M D = none → compW te tt (vars σ fv) D stay xs [] (upd H1 D (.lst [])) fun H' => Q (.ref D) H')
    (hfin : ∀ D C s' H', Inv X pins σ H' s' → FpOk X pins H' C → (∃ m, s'.heap.Ns C m) → Q (.ref D) H' → compPost (model X.prog X.w) X.A X.xe use R (.ref D) C (.ok .next) s') :
    wpAny (model X.prog X.w) X.A (comprehension (.ListComp elt [⟨.Name x px, iter, ifs, 0⟩] csc pos) csc X.env (firstIterPos [⟨.Name x px, iter, ifs, 0⟩] pos) (newList []) (firstAsync [⟨.Name x px, iter, ifs, 0⟩]) (firstIter [⟨.Name x px, iter, ifs, 0⟩] X.env) use) R X.xe s := by
  unfold compOk at ok
  simp only [Bool.and_eq_true, decide_eq_true_eq, List.all_eq_true, Bool.or_eq_true] at ok
  obtain ⟨⟨⟨⟨⟨hkind, hxl⟩, hsk⟩, hnames⟩, hfv⟩, hnd⟩ := ok
  have hfr : ∀ y ∈ csc.names, y.2 = .free → X.env.kindOf y.1 = some .cell ∨ X.env.kindOf y.1 = some .free := fun y hy hf => by
    rcases (hnames y hy).2 with q | q
    · exact absurd hf q
    · exact hcf _ q
  obtain ⟨cl, hclos, hcl1, hcl2⟩ := closure_ok (env := X.env) (csc := csc) fun y hy hf => I.ok.has _ (hfr y hy hf)
  refine wpAny_comprehension_free (cl := cl) rfl hs hclos hkind (fun y hy hl => ?_) ?_
  · rcases (hnames y hy).1.2 with q | q
    · exact absurd hl q
    · exact q
  show wpAny _ _ (eval iter X.env) _ _ _
  refine thn (hi pins s σ H (fun J H1 => ∃ xs stay, SeqIt J xs stay ∧ ∀ D, H1 D = none → M D = none → compW te tt (vars σ fv) D stay xs [] (upd H1 D (.lst [])) fun H' => Q (.ref D) H') I ⟨_, h, fun J xs stay H1 sq q => ⟨xs, stay, sq, q⟩⟩) fun v s1 h1 => thn h1 fun itv s2 h2 => ?_
  obtain ⟨it, fp, tn, J, H2, rfl, I2, T, st2, f2, xs, stay, SQ, hW⟩ := h2
  refine wpAny_newObj_type (wpAny_newFunctionEnv (fun y hy => (hnames y hy).1.1) (by intro y hy; simp at hy) (fun h₁ hns₁ hsb₁ => ?_) hkind)
  dsimp only at hns₁ hsb₁ ⊢
  generalize hG : s2.heap.push { cls := .type "list", dict := none, data := .seq ([] : List Value).toArray } = G at hns₁ hsb₁ ⊢
  have hC : G.objs.size = s2.heap.objs.size + 1 := by rw [← hG, Heap.size_push]
  have old : ∀ b o, s2.heap.get? b = some o → h₁.get? b = some o := fun b o e =>
    hsb₁.extBut b o (by rw [hC]; exact Nat.ne_of_lt (Nat.lt_succ_of_lt (Heap.lt_size e))) (Heap.get?_push_of_some _ (hG ▸ Heap.get?_push_of_some _ e))
  have hD1 : h₁.get? s2.heap.objs.size = some { cls := .type "list", data := .seq ([] : List Value).toArray 0 } :=
    hsb₁.extBut _ _ (by rw [hC]; exact Nat.ne_of_lt (Nat.lt_succ_self _)) (Heap.get?_push_of_some _ (hG ▸ Heap.get?_push_size _ rfl))
  have fD : H2 s2.heap.objs.size = none := I2.hok.fresh (Nat.le_refl _)
  have fC : H2 G.objs.size = none := I2.hok.fresh (by rw [hC]; exact Nat.le_succ _)
  have fpLt : ∀ b ∈ fp, b < s2.heap.objs.size := fun b hb => by
    obtain ⟨o, e, _⟩ := T.obj 0 _ st2 b hb
    exact Heap.lt_size e
  have clLt : ∀ y c, cl.lookup y = some c → c < s2.heap.objs.size := fun y c e => by
    obtain ⟨v, q⟩ := I2.cell y c (hcl1 y c e)
    exact q.lt
  let X' : Cx := { prog := X.prog, w := X.w, K := X.K, mg := X.mg, base := X.base, A := X.A, N := x :: fv.map (·.1), s₀ := s2, H₀ := H2, env := compEnvC csc cl G.objs.size X.env, outer := X.stack, stack := X.stack, ex := fp, fn := fun _ => false, calm := true, pn := [], xe := fun _ _ => False }
  have CO : CompOf X X' csc (x :: fv.map (·.1)) := ⟨rfl, rfl, rfl, rfl, rfl, rfl, rfl, rfl, rfl, rfl⟩
  have okX : X'.Ok := by
    refine ⟨I.ok.mod, hkind, I.ok.glob, I.ok.blt, (by show s2.heap.objs.size ≤ G.objs.size; rw [hC]; exact Nat.le_succ _), fun y z c e1 e2 => I.ok.inj y z c (hcl1 _ _ e1) (hcl1 _ _ e2), fun y hy => ?_, fun y c hf => absurd (show false = true from hf) Bool.false_ne_true, fun _ => I.ok.hd hc, I.ok.frames, .inl rfl,
      fun b hb => ⟨?_, fun y c e => ?_⟩, I2.bs, ?_, fun b o e hb => ?_, fun b hb hm => ?_, I2.stack, I2.stkFree⟩
    · have hy : (relabel csc X.env).names.lookup y = some .cell ∨ (relabel csc X.env).names.lookup y = some .free := hy
      rw [relabel_vis] at hy
      cases q : csc.names.lookup y with
      | none => rw [q] at hy; rcases hy with hy | hy <;> cases hy
      | some k =>
        have hm := mem_of_look q
        have kf : k = .free := by
          rw [q] at hy
          simp only [Option.map_some] at hy
          by_cases hk : k = .free
          · exact hk
          · have e : (k == NameKind.free) = false := by simpa using hk
            simp only [e, Bool.false_and, Bool.false_eq_true, if_false] at hy
            rcases hy with hy | hy
            · exact absurd (Option.some.inj hy) (hnames _ hm).1.1
            · exact Option.some.inj hy
        subst kf
        exact hcl2 y hm
    · exact Nat.ne_of_lt (Nat.lt_of_lt_of_le (fpLt b hb) (by show _ ≤ G.objs.size; rw [hC]; exact Nat.le_succ _))
    · exact (f2 b hb).2.2.2.2.1 y c (hcl1 y c e)
    · exact Nat.le_trans I.ok.bsz I2.sz
    · rcases (f2 b hb).2.2.2.1 with z | z
      · exact I.ok.noex b o e z
      · exact absurd (Nat.lt_of_lt_of_le (Heap.lt_size e) I.ok.bsz) (Nat.not_lt.mpr z)
    · rcases List.mem_cons.mp (I2.stkSub b hm) with z | z
      · exact (f2 b hb).2.1 z
      · exact (f2 b hb).2.2.1 z
  have loc0 : ∀ (s' : Shared) (H' : Hp), (∀ y c, cl.lookup y = some c → s'.heap.get? c = s2.heap.get? c) → ∀ (m : Str → Option Value) (i : Nat) (y : Str) (v : V), (x :: fv.map (·.1))[i]? = some y → (none :: vars σ fv)[i]? = some (some v) → ∃ u, RelV v u ∧ Look X'.env s'.heap m y u := by
    intro s' H' hkc m i y v e1 e2
    cases i with
    | zero => simp at e2
    | succ i =>
      have e1 : (fv.map (·.1))[i]? = some y := by simpa using e1
      have e2 : (vars σ fv)[i]? = some (some v) := by simpa using e2
      obtain ⟨z, ez, sz⟩ := vars_get e2
      rw [List.getElem?_map, ez] at e1
      have ey : z.1 = y := by simpa using e1
      subst ey
      obtain ⟨⟨hN, hlf⟩, _⟩ := hfv z (List.mem_of_getElem? ez)
      obtain ⟨m2, hn2, hl2⟩ := I2.loc
      have hkz : X.env.kindOf z.1 = some .cell ∨ X.env.kindOf z.1 = some .free := hfr _ (mem_of_look hlf) rfl
      have hvz : Vis X.env.scope z.1 := by
        rcases hkz with q | q
        · exact .inr (.inl q)
        · exact .inr (.inr q)
      obtain ⟨u, ru, lk⟩ := hl2 z.2 z.1 v hN sz hvz
      refine ⟨u, ru, .inr ⟨?_, ?_⟩⟩
      · show (relabel csc X.env).names.lookup z.1 = some .cell ∨ (relabel csc X.env).names.lookup z.1 = some .free
        rw [relabel_vis, hlf]
        simp only [Option.map_some]
        by_cases q : ((NameKind.free == NameKind.free) && X.env.scope.kind == .function && X.env.kindOf z.1 == some .cell) = true
        · rw [if_pos q]; exact .inl rfl
        · rw [if_neg q]; exact .inr rfl
      · obtain ⟨c, hcz⟩ := hcl2 z.1 (mem_of_look hlf)
        rcases lk with ⟨q, _⟩ | ⟨_, c', hc', cell⟩
        · rcases hkz with z1 | z1 <;> (rw [z1] at q; cases q)
        · have : c' = c := by
            have := hcl1 _ _ hcz
            rw [hc'] at this
            exact Option.some.inj this
          subst this
          refine ⟨c', hcz, ?_⟩
          obtain ⟨o, ho, hd⟩ := cell
          exact ⟨o, by rw [hkc _ _ hcz]; exact ho, hd⟩
  have hND : (x :: fv.map (·.1)).Nodup := List.nodup_cons.mpr ⟨fun hm => by
    obtain ⟨y, hy, e⟩ := List.mem_map.mp hm
    exact (hfv y hy).2 e, hnd⟩
  have hxr : (relabel csc X.env).names.lookup x = some .local := lookup_relabel_local hxl
  have I0 : ∀ tk0, Inv X' [] (none :: vars σ fv) (upd H2 s2.heap.objs.size (.lst [])) { s2 with heap := h₁, toks := tk0 } := fun tk0 => by
    refine ⟨okX, rfl, I2.bare, Un.laid old (Nat.le_refl _) fD, ⟨_, hns₁, fun i y v e1 e2 _ => loc0 { s2 with heap := h₁, toks := tk0 } H2 (fun y c e => ?_) _ i y v e1 e2⟩, fun y c e => ?_, ?_, fun y c e => ?_, fun p hp => absurd (show p ∈ ([] : List (Addr × Obj)) from hp) (by simp), I2.hok.laid old (Nat.le_refl _) ⟨Nat.zero_le _, [], 0, .nil, hD1⟩, ?_⟩
    · obtain ⟨v, o, ho, hd⟩ := I2.cell y c (hcl1 y c e)
      exact (old c o ho).trans ho.symm
    · obtain ⟨v, o, ho, hd⟩ := I2.cell y c (hcl1 y c e)
      exact ⟨v, o, old c o ho, hd⟩
    · show upd H2 s2.heap.objs.size (.lst []) G.objs.size = none
      rw [upd_ne (by rw [hC]; exact Nat.ne_of_gt (Nat.lt_succ_self _))]
      exact fC
    · rw [upd_ne (Nat.ne_of_lt (clLt y c e))]
      exact I2.freeC y c (hcl1 y c e)
    · show (none :: vars σ fv).length = (x :: fv.map (·.1)).length
      simp [vars]
  have fpN : ∀ b ∈ fp, ∀ o, (upd H2 s2.heap.objs.size o) b = none := fun b hb o => by
    rw [upd_ne (Nat.ne_of_lt (fpLt b hb))]
    exact (f2 b hb).1
  have fpX : ∀ {H' : Hp}, (∀ b ∈ fp, H' b = none) → ∀ b ∈ fp, FpOk X' [] H' b := fun hn b hb => by
    refine ⟨hn b hb, (okX.exf b hb).1, okX.exfs b hb, .inl hb, (okX.exf b hb).2, fun p hp => absurd (show p ∈ ([] : List (Addr × Obj)) from hp) (by simp)⟩
  have fin : ∀ (s' : Shared) (σ' : L2.St) (H' : Hp), Inv X' [] σ' H' s' → Q (.ref s2.heap.objs.size) H' → compPost (model X.prog X.w) X.A X.xe use R (.ref s2.heap.objs.size) G.objs.size (.ok .next) s' := by
    intro s' σ' H' I' q
    obtain ⟨m, hm, _⟩ := id I'.loc
    have B := I'.base
    have I3 : Inv X pins σ H' s' := by
      refine I2.call' (ch := fp) (s' := s') I'.os ⟨fun b o e n hb hx => B.keep b o e n hb hx, fun b o e n hb hx => B.slot b o e n hb hx, B.free, fun b o e hx => B.there b o e hx, B.tups, B.frzs, B.tbls⟩ I'.hok I'.bare (fun b hb => ?_)
      obtain ⟨f0, f1, f2', f3, f4, f5⟩ := f2 b hb
      exact ⟨f3, f1, f4, f5⟩
    exact hfin _ _ s' H' I3 (I2.fpOk (by rw [hC]; exact Nat.le_succ _) I'.free) ⟨m, hm⟩ q
  have loop : ∀ s₃ : Shared, (∃ tk0, s₃ = { s2 with heap := h₁, toks := tk0 }) →
      codeAny (model X.prog X.w) X.A (.compLoop (.ListComp elt [⟨.Name x px, iter, ifs, 0⟩] csc pos) 0 (.ref it) (.ref s2.heap.objs.size) (compEnvC csc cl G.objs.size X.env))
        (compPost (model X.prog X.w) X.A X.xe use R (.ref s2.heap.objs.size) G.objs.size) s₃ := by
    rintro s₃ ⟨tk0, rfl⟩
    refine codeAny_loop rfl (fun n s' => ∃ i acc H' v0, Inv X' [] (v0 :: vars σ fv) H' s' ∧ tn i s'.heap ∧ (∀ b ∈ fp, H' b = none) ∧ i + n = xs.length ∧ compW te tt (vars σ fv) s2.heap.objs.size stay (xs.drop i) acc H' (fun H' => Q (.ref s2.heap.objs.size) H'))
      (fun n s' hI => ?_) xs.length ⟨0, [], _, none, I0 tk0, T.keep 0 _ _ st2 (fun b hb o e => old b o e), fun b hb => fpN b hb _, by omega, by simpa using hW _ fD (OffM.new (Inv.offM (X := X') mo (I0 tk0)))⟩
    obtain ⟨i, acc, H', v0, I', st', fr', hin, cw⟩ := hI
    show wpAny _ _ ((compTurn (.ListComp elt [⟨.Name x px, iter, ifs, 0⟩] csc pos) 0 (.ref it) (.ref s2.heap.objs.size) (compEnvC csc cl G.objs.size X.env)).onRaise (fun x => do noteFrame x (compEnvC csc cl G.objs.size X.env); theTreesLotGoes x)) _ _ _
    refine wpAny_noted ?_
    rw [compTurn_list]
    refine wpAny_bind (wpAny_standAt (wpAny_bind ?_))
    cases ed : xs.drop i with
    | nil =>
      rw [ed] at cw
      obtain ⟨hst, hD, hq⟩ := cw
      have hle : xs.length ≤ i := by simpa using ed
      refine wpAny_mono (T.done X' rfl rfl rfl rfl i [] s' _ H' (fun _ _ => False) I' (fpX fr') st' (SQ.stop i H' hst hle)) (fun r s4 ⟨hr, I4⟩ => ?_) fun _ _ z => z.elim
      subst hr
      exact wpAny_pure (fin s4 _ H' I4 hq)
    | cons v r =>
      rw [ed] at cw
      obtain ⟨hst, cw⟩ := cw
      have hlt : i < xs.length := by
        have := congrArg List.length ed
        simp at this
        omega
      have hvi : xs[i]? = some v := by
        have := congrArg (fun l => l[0]?) ed
        simpa using this
      have hdr : xs.drop (i + 1) = r := by
        have := congrArg List.tail ed
        simpa [List.tail_drop] using this
      refine wpAny_mono (T.item X' rfl rfl rfl rfl i [] s' _ H' (fun _ _ => False) I' (fpX fr') st' (SQ.go i H' hst hlt)) (fun r' s4 ⟨u, hr, h4⟩ => ?_) fun _ _ z => z.elim
      subst hr
      refine wpAny_bind (wpAny_mono h4 (fun _ s5 ⟨y, H5, I5, r5, y5, st5, fr5⟩ => ?_) fun _ _ z => z.elim)
      obtain ⟨eH, ev⟩ := SQ.yld i H' y H5 hlt y5 hst
      subst eH
      rw [hvi] at ev
      obtain rfl : v = y := Option.some.inj ev
      have I5' := I5.pinned (fpX fr5) (T.obj _ _ st5)
      refine wpAny_bind (wpAny_mono (pg_name (X := X') (i := 0) (x := x) (pos := px) hND rfl (.inl hxr) (.inr hxr) _ s5 _ H5 v u (fun σ6 H6 => σ6 = some v :: vars σ fv ∧ H6 = H5) I5' r5 ⟨rfl, rfl⟩) (fun _ s6 ⟨σ6, H6, I6, e6, e6'⟩ => ?_) fun _ _ z => z.elim)
      subst e6 e6'
      refine wpAny_bind (wpAny_mono (ht X' CO _ s6 _ H6 _ I6 cw) (fun okb s7 ⟨H7, I7, q7⟩ => ?_) fun _ _ z => z.elim)
      have again : ∀ {s8 : Shared} {H8 : Hp} {acc' : List V}, Inv X' ([] ++ pinsAt fp s5.heap) (some v :: vars σ fv) H8 s8 → compW te tt (vars σ fv) s2.heap.objs.size stay r acc' H8 (fun H' => Q (.ref s2.heap.objs.size) H') →
          ∃ m, m < n ∧ ∃ i acc H' v0, Inv X' [] (v0 :: vars σ fv) H' s8 ∧ tn i s8.heap ∧ (∀ b ∈ fp, H' b = none) ∧ i + m = xs.length ∧ compW te tt (vars σ fv) s2.heap.objs.size stay (xs.drop i) acc H' (fun H' => Q (.ref s2.heap.objs.size) H') := by
        intro s8 H8 acc' I8 c8
        refine ⟨n - 1, by omega, i + 1, acc', H8, some v, I8.unpinned, T.keep _ _ _ st5 fun b hb o e => (I8.pin (b, o) (List.mem_append_right _ (List.mem_append_right _ (mem_pinsAt hb e)))).1, fun b hb => ?_, by omega, by rw [hdr]; exact c8⟩
        obtain ⟨o, e, d⟩ := T.obj _ _ st5 b hb
        exact (I8.pin (b, o) (List.mem_append_right _ (List.mem_append_right _ (mem_pinsAt hb e)))).2.1
      cases okb with
      | false =>
        simp only [Bool.false_eq_true, if_false] at q7 ⊢
        exact wpAny_pure ⟨rfl, again I7 q7⟩
      | true =>
        simp only [if_true] at q7 ⊢
        refine wpAny_bind (wpAny_bind (wpAny_mono (he X' CO _ s7 _ H7 _ I7 q7) (fun yv s8 ⟨yy, H8, I8, r8, hD8, hz8, q8⟩ => ?_) fun _ _ z => z.elim))
        refine wpAny_bind (wpAny_mono (mt_append (X := X') _ s8 _ H8 (.ref s2.heap.objs.size) [yy] (.ref s2.heap.objs.size) [yv] (fun _ H9 => H9 = upd H8 s2.heap.objs.size (.lst (acc ++ [yy]))) I8 rfl (.cons r8 .nil) ⟨_, acc, yy, rfl, rfl, hD8, hz8, rfl⟩) (fun _ s9 ⟨_, H9, I9, _, e9⟩ => ?_) fun _ _ z => z.elim)
        subst e9
        exact wpAny_pure (wpAny_pure ⟨rfl, again I9 q8⟩)
  exact codeAny_compStart_list (loop _ ⟨_, rfl⟩) (T.self _ 0 _ _ _ (T.keep 0 _ _ st2 (fun b hb o e => old b o e)) (loop _ ⟨_, rfl⟩))
section
variable {X : Cx} {M : Mo} {sc csc : Scope} {elt iter : Expr} {ifs : List Expr} {x : Str} {px pos : Pos} {fv : List (Str × Nat)} {te : TE} {tt : TT} {wi : L2.St → Hp → (List V → (Hp → Prop) → Hp → Prop) → Prop}
theorem pe_comp (mo : ModOk X.K M) (hc : X.calm = true)
    (hcf : ∀ y, (sc.names.lookup y = some .cell ∨ sc.names.lookup y = some .free) → X.env.kindOf y = some .cell ∨ X.env.kindOf y = some .free)
    (ok : compOk sc csc X.N x fv = true) (hi : PI X (.Name x px) iter (iSeq wi))
    (he : ∀ X', CompOf X X' csc (x :: fv.map (·.1)) → PE X' elt te) (ht : ∀ X', CompOf X X' csc (x :: fv.map (·.1)) → PTs X' ifs tt)
    (hs : ∀ v, foldedSetIterable iter X.env v = pure v) :
    PE X (.ListComp elt [⟨.Name x px, iter, ifs, 0⟩] csc pos) (fun σ H Q => wi σ H fun xs stay H1 => ∀ D, H1 D = none → M D = none → compW te tt (vars σ fv) D stay xs [] (upd H1 D (.lst [])) fun H' => Q (.ref D) H') := by
  intro pins s σ H Q I h
  rw [eval_ListComp]
  refine comp_core mo hc hcf ok hi he ht hs (use := none) (R := EP X pins σ Q) I h fun D C s' H' I' f ⟨m, hm⟩ q => ?_
  refine ⟨m, hm, fun h' sb => ⟨.ref D, H', ?_, rfl, q⟩⟩
  exact Inv.letgo I' f sb
theorem ps_setC (mo : ModOk X.K M) (hc : X.calm = true)
    (hcf : ∀ y, (sc.names.lookup y = some .cell ∨ sc.names.lookup y = some .free) → X.env.kindOf y = some .cell ∨ X.env.kindOf y = some .free)
    (ok : compOk sc csc X.N x fv = true) (hi : PI X (.Name x px) iter (iSeq wi))
    (he : ∀ X', CompOf X X' csc (x :: fv.map (·.1)) → PE X' elt te) (ht : ∀ X', CompOf X X' csc (x :: fv.map (·.1)) → PTs X' ifs tt)
    (hs : ∀ v, foldedSetIterable iter X.env v = pure v) {i : Nat} {t : Str} {tp spos : Pos} (hN : X.N.Nodup) (hit : X.N[i]? = some t) (hx : Loc X.env.scope t) (hf : X.fn t = true ∨ X.env.scope.names.lookup t = some .local)
    (hsw : swapsWith (.ListComp elt [⟨.Name x px, iter, ifs, 0⟩] csc pos) (some (.Name t tp)) spos.line X.env = pure true) :
    PS X (.Assign [.Name t tp] (.ListComp elt [⟨.Name x px, iter, ifs, 0⟩] csc pos) spos) (fun D σ H => wi σ H fun xs stay H1 => ∀ B, H1 B = none → M B = none → compW te tt (vars σ fv) B stay xs [] (upd H1 B (.lst [])) fun H' => D.nx (σ.set i (some (.ref B))) H') := by
  intro pins s σ H D I h
  rw [exec_Assign_Name_used _ _ _ _ hsw]
  refine wpAny_bind (wpAny_standAt (wpAny_bind ?_))
  show wpAny _ _ (do let _ ← comprehension _ _ _ _ _ _ _ (some _)) _ _ _
  refine wpAny_bind ?_
  refine comp_core mo hc hcf ok hi he ht hs (Q := fun v H' => D.nx (σ.set i (some v)) H') I h fun B C s' H' I' f ⟨m, hm⟩ q => ?_
  show wpAny _ _ (assign (.Name t tp) X.env (.ref B)) _ _ _
  refine wpAny_bind (wpAny_standAt ?_)
  unfold bindName
  refine wpAny_bind (wpAny_holding (wpAny_point ?_))
  refine wpAny_bind (store_ok2 I' hN hit hx (v := .ref B) rfl (fun s2 I2 ⟨a, sb, ha⟩ => ?_) hf)
  refine wpAny_point ?_
  have hne : C ≠ a := fun z => by
    subst z
    rcases ha with z | z
    · exact f.2.1 z
    · exact f.2.2.2.2.1 _ _ z rfl
  obtain ⟨o, es, ep, ho, r⟩ := hm
  have ho2 : s2.heap.get? C = some o := (sb.2 C hne).trans ho
  refine ⟨m, ⟨o, es, ep, ho2, r⟩, fun h' sb2 => ?_⟩
  exact wpAny_pure (wpAny_pure ⟨_, H', Inv.letgo I2 f sb2, q⟩)
end
end Sw
namespace Sw
open PySem PySem.Spec PyProof.Rows L2
theorem mapFields_eq {o : Obj} {vs : Array Value} (h : o.data = .fields vs) (f : Array Value → Array Value) : Obj.mapFields f o = { o with data := .fields (f vs) } := by
  obtain ⟨c, d, da, sl⟩ := o
  have h : da = .fields vs := h
  subst h
  rfl
structure Landed (fv : Value) (fs : List Addr) (h h' : Heap) (e : Addr) (oe : Obj) (ch : List Addr) : Prop where
  keep : ∀ b o, b ∉ fs → b ∉ ch → h.get? b = some o → h'.get? b = some o
  slot : ∀ b o, b ∉ ch → h.get? b = some o → ∃ sl, h'.get? b = some { o with slots := sl }
  exc : ∃ vs T oT ts, h'.get? e = some { oe with data := .fields vs } ∧ vs[1]? = some (.ref T) ∧ h.objs.size ≤ T ∧ h'.get? T = some oT ∧ oT.data = .fields ts ∧ ts[3]? = some fv ∧ vs.size = 6 ∧ ∀ vs0 : Array Value, oe.data = .fields vs0 → vs[2]? = vs0[2]?
@[reducible] noncomputable def flV (fl : Option Addr) : Value := fl.elim Value.none fun f => rawInt f
section
variable {M : Model} {A : Around} {E : Value → Shared → Prop} {s : Shared}
theorem entry_D {E0 : Value → Shared → Prop} {A2 : Around} {K : Sem Unit} {fl : Option Addr} {base : Heap} {env : Env} {outer : List Env} {L e : Addr} {oe : Obj} {vs : Array Value} {head : Value} {hadNext : Bool} {Q : Unit → Shared → Prop}
    (hfr : A.frames = some (env :: outer)) (hl : s.heap.FunFrames base (env :: outer)) (hf : env.frame = some L)
    (he : s.heap.get? e = some oe) (hd : oe.data = .fields vs) (hsz : vs.size = 6)
    (hK : ∀ s' o vs T, s'.heap.get? e = some o → o.data = .fields vs → vs[1]? = some (.ref T) → wpAny M A2 (setFlight (.ref e) fl) Q E s' → wpAny M A2 K Q E s')
    (h : ∀ h', Landed (flV fl) (frs (env :: outer)) s.heap h' e oe [e] → Q () { s with heap := h' }) :
    wpAny M A (do let a ← frameOf env; let pl ← entryPlaceOf L hadNext; let b ← EntryCells.newEntry head a .none (rawInt L) .none pl; setField (.ref e) 1 b) (fun _ s' => wpAny M A2 K Q E s') E0 s := by
  have hene : e ∉ (env :: outer).filterMap (·.frame) := fun hm => by
    obtain ⟨_, o, ho, hnf⟩ := hl.mem hm
    rw [he] at ho; injection ho with ho; subst ho; exact hnf vs hd
  refine wpAny_bind (wpAny_frameOf_fun hfr hl hf fun h₁ hs₁ => ?_)
  refine wpAny_bind (wpAny_entryPlaceOf fun pl hpl => ?_)
  unfold EntryCells.newEntry newFields
  refine wpAny_bind (wpAny_newObj_type ?_ (hpl.sizeOk5 _ _ _ _ _))
  have he₁ : h₁.get? e = some oe := (hs₁.2.1 e hene).trans he
  generalize hTO : ({ cls := .type "traceback", dict := none, data := .fields ([head, .ref L, .none, rawInt L, .none] ++ (if pl.isEmpty then List.replicate 6 Value.none else pl)).toArray } : Obj) = TO
  have he₂ := Heap.get?_push_of_some (h := h₁) TO he₁
  have hTd : ∃ ts, TO.data = .fields ts ∧ 3 < ts.size := by
    subst hTO
    exact ⟨_, rfl, by simp only [List.size_toArray, List.length_append, List.length_cons, List.length_nil] <;> omega⟩
  obtain ⟨ts, hTd, hT3⟩ := hTd
  refine wpAny_setField he₂ hd (by omega) ?_
  have hTe : h₁.objs.size ≠ e := Nat.ne_of_gt (Heap.lt_size he₁)
  have hd₃ := Obj.data_mapFields hd (·.setIfInBounds 1 (Value.ref h₁.objs.size))
  have he₃ := Heap.get?_update_self (Obj.mapFields (·.setIfInBounds 1 (Value.ref h₁.objs.size))) he₂ (Obj.isFreed_of_fields hd₃)
  have hfT : TO.isFreed = false := Obj.isFreed_of_fields hTd
  have hT₃ := (Heap.get?_update_other (h₁.push TO) (Obj.mapFields (·.setIfInBounds 1 (Value.ref h₁.objs.size))) (Ne.symm hTe)).trans (Heap.get?_push_size h₁ hfT)
  refine hK _ _ _ h₁.objs.size he₃ hd₃ (by simp [hsz]) ?_
  unfold setFlight
  refine wpAny_bind (wpAny_field he₃ hd₃ (x := .ref h₁.objs.size) (by simp [hsz]) ?_)
  rw [if_pos (show (Value.ref h₁.objs.size != Value.none) = true from by simp)]
  refine wpAny_setField hT₃ hTd hT3 (h _ ?_)
  have keep : ∀ b o, b ≠ e → h₁.get? b = some o →
      (((h₁.push TO).update e (Obj.mapFields (·.setIfInBounds 1 (Value.ref h₁.objs.size)))).update h₁.objs.size
        (Obj.mapFields (·.setIfInBounds 3 (flV fl)))).get? b = some o := fun b o hbe hb => by
    have hbT : h₁.objs.size ≠ b := Nat.ne_of_gt (Heap.lt_size hb)
    rw [Heap.get?_update_other _ _ hbT, Heap.get?_update_other _ _ (Ne.symm hbe)]
    exact Heap.get?_push_of_some _ hb
  refine ⟨fun b o hbf hbe hb => keep b o (by simpa using hbe) ((hs₁.2.1 b hbf).trans hb), fun b o hbe hb => ?_, ?_⟩
  · obtain ⟨sl, hs⟩ := hs₁.2.2 b o hb
    exact ⟨sl, keep b _ (by simpa using hbe) hs⟩
  · refine ⟨vs.setIfInBounds 1 (Value.ref h₁.objs.size), h₁.objs.size, _, ts.setIfInBounds 3 (flV fl), ?_, by simp [hsz], ?_, Heap.get?_update_self _ hT₃ (Obj.isFreed_of_fields (Obj.data_mapFields hTd _)), Obj.data_mapFields hTd _, by simp [hT3], by simp [hsz], fun vs0 h0 => ?_⟩
    · rw [Heap.get?_update_other _ _ hTe, he₃, mapFields_eq hd]
    · exact Nat.le_of_eq hs₁.1.symm
    · rw [hd] at h0; cases h0; simp [Array.getElem?_setIfInBounds]
noncomputable def ClsOf (Cv : Value) (oe : Obj) (vs : Array Value) : Prop := (∃ c, Cv = .ref c ∧ oe.cls = .ref c ∧ vs[2]? = some .none) ∨ ∃ c : Addr, Cv = rawInt c ∧ oe.cls = .ref c
theorem ClsOf.any {Cv : Value} {oe : Obj} {vs : Array Value} (h : ClsOf Cv oe vs) : ∃ c : Addr, oe.cls = .ref c ∧ (Cv = .ref c ∨ Cv = rawInt c) := by
  rcases h with ⟨c, e, h, _⟩ | ⟨c, e, h⟩
  · exact ⟨c, h, .inl e⟩
  · exact ⟨c, h, .inr e⟩
theorem ClsOf.same {Cv : Value} {oe oe' : Obj} {vs vs' : Array Value} (h : ClsOf Cv oe vs) (h1 : oe'.cls = oe.cls) (h2 : vs'[2]? = vs[2]?) : ClsOf Cv oe' vs' := by
  rcases h with ⟨c, e, h, k⟩ | ⟨c, e, h⟩
  · exact .inl ⟨c, e, h1.trans h, h2.trans k⟩
  · exact .inr ⟨c, e, h1.trans h⟩
noncomputable def XAt (L : Option Addr) (h : Heap) (e : Addr) (Cv : Value) (d : Option Addr) (P : Addr → Prop) : Prop :=
  ∃ oe vs, h.get? e = some oe ∧ ClsOf Cv oe vs ∧ oe.dict = d ∧ oe.data = .fields vs ∧ vs.size = 6 ∧ (vs[1]? = some .none ∨ ∃ T oT ts, vs[1]? = some (.ref T) ∧ P T ∧ T ≠ e ∧ h.get? T = some oT ∧ oT.data = .fields ts ∧ (ts[3]? = some .none ∨ ∃ l, L = some l ∧ ts[3]? = some (rawInt l)))
theorem note_gen {E0 : Value → Shared → Prop} {A2 : Around} {K : Sem Unit} {fl : Option Addr} {base : Heap} {env : Env} {outer : List Env} {L e : Addr} {Cv : Value} {d : Option Addr} {P : Addr → Prop} {Q : Unit → Shared → Prop}
    (hfr : A.frames = some (env :: outer)) (hl : s.heap.FunFrames base (env :: outer)) (hf : env.frame = some L) (hfl : fl = none ∨ fl = some L) (x : XAt (some L) s.heap e Cv d P)
    (hK : ∀ s' o vs T, s'.heap.get? e = some o → o.data = .fields vs → vs[1]? = some (.ref T) → wpAny M A2 (setFlight (.ref e) fl) Q E s' → wpAny M A2 K Q E s')
    (h : ∀ (h' : Heap) (ch : List Addr), (∀ b ∈ ch, b = e ∨ P b) → (∀ b o, b ∉ frs (env :: outer) → b ∉ ch → s.heap.get? b = some o → h'.get? b = some o) → (∀ b o, b ∉ ch → s.heap.get? b = some o → ∃ sl, h'.get? b = some { o with slots := sl }) →
      (∀ b o, s.heap.get? b = some o → ∃ o', h'.get? b = some o') → XAt fl h' e Cv d (fun T => s.heap.objs.size ≤ T ∨ P T) → Q () { s with heap := h' }) :
    wpAny M A (noteFrame (.ref e) env) (fun _ s' => wpAny M A2 K Q E s') E0 s := by
  obtain ⟨oe, vs, he, hc, hdi, hd, hsz, r⟩ := x
  have flok : ∀ ts : Array Value, ts[3]? = some (flV fl) → (ts[3]? = some .none ∨ ∃ l, fl = some l ∧ ts[3]? = some (rawInt l)) := fun ts z => by
    rcases hfl with q | q
    · subst q; exact .inl z
    · subst q; exact .inr ⟨L, rfl, z⟩
  have fin : ∀ (h1 h' : Heap) (ch : List Addr), h1.objs.size = s.heap.objs.size → (∀ b ∈ ch, b = e ∨ P b) → (∀ b o, b ∉ ch → s.heap.get? b = some o → h1.get? b = some o) → (∀ b ∈ ch, ∃ o', h1.get? b = some o') → Landed (flV fl) (frs (env :: outer)) h1 h' e oe [e] → e ∈ ch → Q () { s with heap := h' } := by
    intro h1 h' ch hs hch k1 k2 ld hec
    obtain ⟨vs', T, oT, ts, e1, e2, e3, e4, e5, e6, e7, e8⟩ := ld.exc
    have kE : ∀ b o, b ≠ e → h1.get? b = some o → ∃ o', h'.get? b = some o' := fun b o hb q => by
      obtain ⟨sl, q'⟩ := ld.slot b o (by simpa using hb) q
      exact ⟨_, q'⟩
    refine h h' ch hch (fun b o hb hc q => ld.keep b o hb (fun z => hc (by rw [show b = e by simpa using z]; exact hec)) (k1 b o hc q)) (fun b o hc q => ld.slot b o (fun z => hc (by rw [show b = e by simpa using z]; exact hec)) (k1 b o hc q))
      (fun b o q => ?_) ⟨_, vs', e1, hc.same rfl (e8 _ hd), hdi, rfl, e7, .inr ⟨T, oT, ts, e2, .inl (by rw [← hs]; exact e3), ?_, e4, e5, flok _ e6⟩⟩
    · by_cases hb : b = e
      · subst hb; exact ⟨_, e1⟩
      · by_cases hbc : b ∈ ch
        · obtain ⟨o', q'⟩ := k2 b hbc
          exact kE b o' hb q'
        · exact kE b o hb (k1 b o hbc q)
    · exact Nat.ne_of_gt (Nat.lt_of_lt_of_le (Heap.lt_size he) (by rw [← hs]; exact e3))
  unfold noteFrame
  simp only [hf]
  rcases r with r | ⟨T, oT, ts, h1, hP, hTe, hT, hdT, h3⟩
  · refine wpAny_bind (wpAny_field he hd r ?_)
    rw [if_neg (by decide)]
    exact entry_D hfr hl hf he hd hsz hK fun h' ld => fin s.heap h' [e] rfl (fun b hb => .inl (by simpa using hb)) (fun _ _ _ q => q) (fun b hb => ⟨oe, by rw [show b = e by simpa using hb]; exact he⟩) ld (by simp)
  · have other : ∀ (v : Value) b, b ≠ T → (s.heap.update T (Obj.mapFields (·.setIfInBounds 3 v))).get? b = s.heap.get? b := fun v b hb => Heap.get?_update_other _ _ (Ne.symm hb)
    have noRecord : ∀ b o, s.heap.get? b = some o → (∀ vs, o.data ≠ .fields vs) → b ≠ T := fun b o hb hnf q => by
      rw [q, hT] at hb; injection hb with hb; subst hb; exact hnf ts hdT
    rcases h3 with h3 | ⟨l, hl', h3⟩
    · refine wpAny_bind (wpAny_field he hd h1 ?_)
      rw [if_pos (show (Value.ref T != Value.none) = true from by simp)]
      refine wpAny_bind (wpAny_field hT hdT h3 ?_)
      rw [if_neg (show ¬ ((Value.none == rawInt L) = true) from by simp [rawInt])]
      refine wpAny_bind (wpAny_setField hT hdT (Array.getElem?_eq_some_iff.mp h3).1 ?_)
      refine entry_D (base := base) hfr (hl.of_keeps fun b o hb hnf => ⟨o, (other _ b (noRecord b o hb hnf)).trans hb, rfl⟩) hf ((other _ e (Ne.symm hTe)).trans he) hd hsz hK fun h' ld => ?_
      refine fin (s.heap.update T (Obj.mapFields (·.setIfInBounds 3 Value.none))) h' [e, T] (Heap.size_update ..) (fun b hb => ?_) (fun b o hb q => ?_) (fun b hb => ?_) ld (by simp)
      · rcases List.mem_cons.mp hb with z | z
        · exact .inl z
        · exact .inr (by rw [show b = T by simpa using z]; exact hP)
      · rw [other _ b (fun z => hb (by simp [z]))]; exact q
      · rcases List.mem_cons.mp hb with z | z
        · exact ⟨oe, by rw [z, other _ e (Ne.symm hTe)]; exact he⟩
        · exact ⟨_, by rw [show b = T by simpa using z]; exact Heap.get?_update_self _ hT (Obj.isFreed_of_fields (Obj.data_mapFields hdT _))⟩
    · cases hl'
      refine wpAny_bind (wpAny_field he hd h1 ?_)
      rw [if_pos (show (Value.ref T != Value.none) = true from by simp)]
      refine wpAny_bind (wpAny_field hT hdT h3 ?_)
      rw [if_pos (show (rawInt L == rawInt L) = true from by simp)]
      refine wpAny_pure (hK _ _ _ T he hd h1 ?_)
      unfold setFlight
      refine wpAny_bind (wpAny_field he hd h1 ?_)
      rw [if_pos (show (Value.ref T != Value.none) = true from by simp)]
      have h3' : 3 < ts.size := (Array.getElem?_eq_some_iff.mp h3).1
      refine wpAny_setField hT hdT h3' (h _ [T] (fun b hb => .inr (by rw [show b = T by simpa using hb]; exact hP)) (fun b o _ hb q => (other _ b (by simpa using hb)).trans q) (fun b o hb q => ⟨o.slots, (other _ b (by simpa using hb)).trans q⟩) (fun b o q => ?_)
        ⟨oe, vs, (other _ e (Ne.symm hTe)).trans he, hc, hdi, hd, hsz, .inr ⟨T, _, _, h1, .inr hP, hTe, Heap.get?_update_self _ hT (Obj.isFreed_of_fields (Obj.data_mapFields hdT _)), Obj.data_mapFields hdT _, flok _ (by simp [h3'])⟩⟩)
      by_cases hb : b = T
      · subst hb; exact ⟨_, Heap.get?_update_self _ hT (Obj.isFreed_of_fields (Obj.data_mapFields hdT _))⟩
      · exact ⟨o, (other _ b hb).trans q⟩
theorem note_land {base : Heap} {env : Env} {outer : List Env} {L e : Addr} {Cv : Value} {d : Option Addr} {P : Addr → Prop} {Q : Unit → Shared → Prop}
    (hfr : A.frames = some (env :: outer)) (hl : s.heap.FunFrames base (env :: outer)) (hf : env.frame = some L) (x : XAt (some L) s.heap e Cv d P)
    (h : ∀ (h' : Heap) (ch : List Addr), (∀ b ∈ ch, b = e ∨ P b) → (∀ b o, b ∉ frs (env :: outer) → b ∉ ch → s.heap.get? b = some o → h'.get? b = some o) → (∀ b o, b ∉ ch → s.heap.get? b = some o → ∃ sl, h'.get? b = some { o with slots := sl }) →
      (∀ b o, s.heap.get? b = some o → ∃ o', h'.get? b = some o') → XAt none h' e Cv d (fun T => s.heap.objs.size ≤ T ∨ P T) → Q () { s with heap := h' }) :
    wpAny M A (noteFrame (.ref e) env) (fun _ s' => wpAny M A (setFlight (.ref e) none) Q E s') E s :=
  note_gen (A2 := A) (K := setFlight (.ref e) none) hfr hl hf (.inl rfl) x (fun _ _ _ _ _ _ _ q => q) h
theorem note_back {A2 : Around} {base : Heap} {env : Env} {outer : List Env} {L e : Addr} {Cv : Value} {d : Option Addr} {P : Addr → Prop} {R : Value → Shared → Prop}
    (hfr : A.frames = some (env :: outer)) (hl : s.heap.FunFrames base (env :: outer)) (hf : env.frame = some L) (x : XAt (some L) s.heap e Cv d P)
    (h : ∀ (h' : Heap) (ch : List Addr), (∀ b ∈ ch, b = e ∨ P b) → (∀ b o, b ∉ frs (env :: outer) → b ∉ ch → s.heap.get? b = some o → h'.get? b = some o) → (∀ b o, b ∉ ch → s.heap.get? b = some o → ∃ sl, h'.get? b = some { o with slots := sl }) →
      (∀ b o, s.heap.get? b = some o → ∃ o', h'.get? b = some o') → XAt (some L) h' e Cv d (fun T => s.heap.objs.size ≤ T ∨ P T) → R (.ref e) { s with heap := h' }) :
    notedBy M A env (cameBackBy M A2 env R) (.ref e) s := by
  unfold notedBy
  show wpAny M A (noteFrame (.ref e) env) (fun _ s'' => wpAny M A2 _ _ _ s'') _ s
  refine note_gen (fl := some L) hfr hl hf (.inr rfl) x (fun s' o vs T h1 h2 h3 q => ?_) h
  refine wpAny_bind (wpAny_field h1 h2 h3 ?_)
  rw [if_neg (show ¬ ((Value.ref T == Value.none) = true) from by simp)]
  rw [hf]
  first | exact q | exact wpAny_bind (wpAny_pure q)
end
end Sw
namespace Sw
open PySem PySem.Spec PyProof.Rows L2
noncomputable def CXW (P : Program) (w : World) : CXT := fun outer H s E e s' => ∃ ea C d H', e = .ref ea ∧ s'.os = s.os ∧ AllBare s'.gens ∧ Un (frs outer) [] H H' s.heap s'.heap ∧ HOk P w H' s'.heap ∧
  s.heap.objs.size ≤ ea ∧ H' ea = none ∧ XAt none s'.heap ea C d (fun T => s.heap.objs.size ≤ T ∧ H' T = none) ∧ E C d H'
structure Flew (X : Cx) (pins : List (Addr × Obj)) (σ : L2.St) (H : Hp) (e : Addr) (C : Value) (d : Option Addr) (s : Shared) : Prop where
  inv : Inv X pins σ H s
  fe : FpOk X pins H e
  at_ : XAt (some X.env.locals) s.heap e C d (FpOk X pins H)
noncomputable def XOk (X : Cx) (Ξ : XS) : Prop := ∀ pins σ H e C d s, Flew X pins σ H e C d s → Ξ C d σ H → X.xe (.ref e) s
theorem XAt.imp {L : Option Addr} {h : Heap} {e : Addr} {C : Value} {d : Option Addr} {P P' : Addr → Prop} (x : XAt L h e C d P) (i : ∀ T, P T → P' T) : XAt L h e C d P' := by
  obtain ⟨oe, vs, h1, h2, h3, h4, h5, r⟩ := x
  refine ⟨oe, vs, h1, h2, h3, h4, h5, r.imp id fun ⟨T, oT, ts, r1, r2, r3⟩ => ⟨T, oT, ts, r1, i T r2, r3⟩⟩
theorem XAt.fly {l : Addr} {h : Heap} {e : Addr} {C : Value} {d : Option Addr} {P : Addr → Prop} (x : XAt none h e C d P) : XAt (some l) h e C d P := by
  obtain ⟨oe, vs, h1, h2, h3, h4, h5, r⟩ := x
  refine ⟨oe, vs, h1, h2, h3, h4, h5, r.imp id fun ⟨T, oT, ts, r1, r2, r3, r4, r5, r6⟩ => ⟨T, oT, ts, r1, r2, r3, r4, r5, r6.imp id fun ⟨l, q, _⟩ => nomatch q⟩⟩
theorem XOk.no {X : Cx} : XOk X X0 := fun _ _ _ _ _ _ _ _ h => h.elim
section
variable {X : Cx} {pins : List (Addr × Obj)} {σ : L2.St} {H : Hp} {s s' : Shared}
theorem flew_of {E : XK} {e : Value} (I : Inv X pins σ H s) (h : CXW X.prog X.w X.stack H s E e s') : ∃ ea C d H', e = .ref ea ∧ Flew X pins σ H' ea C d s' ∧ E C d H' := by
  obtain ⟨ea, C, d, H', rfl, ho, hg, u, hok, hs, hn, x, q⟩ := h
  have I' : Inv X pins σ H' s' := I.call' (ch := []) ho u hok hg (fun b hb => absurd hb (by simp))
  exact ⟨ea, C, d, H', rfl, ⟨I', I.fpOk hs hn, (x.imp fun T ⟨h1, h2⟩ => I.fpOk h1 h2).fly⟩, q⟩
theorem run_fnX {Q : VK} {us : List Value} {vs : List V} {k : Nat} {f : Addr} {fd : FuncData} {ps : List Str} {sp : Sp} {Ξ : XS} (F : FnOk X.prog X.w X.K X.mg X.base (CXW X.prog X.w) k f fd ps sp) (hr : Room k X.A) (hb : Binds X.K fd ps []) (xo : XOk X Ξ)
    (I : Inv X pins σ H s) (r : Vals vs us) (h : sp vs H Q fun C d H' => Ξ C d σ H') : wpAny (model X.prog X.w) X.A (call (.ref f) us) (EP X pins σ Q) X.xe s := by
  have hl : (us ++ []).length = ps.length := by rw [List.append_nil, ← r.length]; exact F.len _ _ _ _ h
  refine wpAny_call (codeAny_mono (F.run X.A X.stack s H ⟨us, []⟩ us vs Q (fun C d H' => Ξ C d σ H') hr I.env0 (by have := hb s us I.kIn hl; rwa [List.append_nil] at this) r h) fun r s' hq => ?_)
  cases r with
  | error e =>
    obtain ⟨ea, C, d, H', e1, fl, q⟩ := flew_of (E := fun C d H' => Ξ C d σ H') (e := e) (s' := s') I hq
    subst e1
    exact xo pins σ H' ea C d s' fl q
  | ok fl =>
    cases fl with
    | ret u => exact I.after hq
    | next => exact False.elim hq
    | brk => exact False.elim hq
    | cont => exact False.elim hq
end
theorem hok_land {X : Cx} {pins : List (Addr × Obj)} {σ : L2.St} {H : Hp} {e : Addr} {C : Value} {d : Option Addr} {s : Shared} (F : Flew X pins σ H e C d s) {h' : Heap} {ch : List Addr} (hch : ∀ b ∈ ch, b = e ∨ FpOk X pins H b)
    (k : ∀ b o, b ∉ frs X.stack → b ∉ ch → s.heap.get? b = some o → h'.get? b = some o) : HOk X.prog X.w H h' := by
  intro a o ea
  have nch : ∀ c u, H c = some u → c ∉ ch := fun c u q hc => by
    rcases hch c hc with z | z
    · rw [z, F.fe.1] at q; cases q
    · rw [z.1] at q; cases q
  refine (F.inv.hok a o ea).stay (fun c u hc q => k c u (fun hm => ?_) (fun hm => ?_) q) (fun _ q => q) fun _ _ q => q
  · have hn := F.inv.stkFree c hm
    rcases hc with z | z
    · rw [z, ea] at hn; cases hn
    · rw [z] at hn; cases hn
  · rcases hc with z | z
    · exact nch c o (by rw [z]; exact ea) hm
    · exact nch c _ z hm
theorem xok_def {P : Program} {w : World} {K : PySem.W.Frag} {mg : Str → Option Value} {base : Heap} {N : List Str} {qual : Str} {scope : Scope} {f : Addr} {cd : Value} {A : Around} {outer : List Env} {s : Shared} {H : Hp} {E : XK} :
    XOk (cxOf (CXW P w) P w K mg base N qual scope f cd A outer s H E) (fun C d _ H' => E C d H') := by
  intro pins σ H' e C d s' F q
  have I := F.inv
  show wpAny (model P w) (A.deeper (envOfC qual scope s.heap.objs.size f cd)) (leaving (envOfC qual scope s.heap.objs.size f cd) (.ref e)) _ _ s'
  unfold leaving
  have sz : s.heap.objs.size ≤ s'.heap.objs.size := I.sz
  refine wpAny_bind (note_land (base := base) I.ok.frames I.stack rfl F.at_ fun h' ch hch k1 k2 k3 x' => ?_)
  have fpS : ∀ b, FpOk (cxOf (CXW P w) P w K mg base N qual scope f cd A outer s H E) pins H' b → s.heap.objs.size ≤ b := fun b z => by
    rcases z.2.2.2.1 with z | z
    · exact absurd (show b ∈ ([] : List Addr) from z) (by simp)
    · exact z
  have big : ∀ b ∈ ch, s.heap.objs.size ≤ b := fun b hb => by
    have fp : ∀ b, FpOk (cxOf (CXW P w) P w K mg base N qual scope f cd A outer s H E) pins H' b → s.heap.objs.size ≤ b := fun b z => by
      rcases z.2.2.2.1 with z | z
      · exact absurd (show b ∈ ([] : List Addr) from z) (by simp)
      · exact z
    rcases hch b hb with z | z
    · rw [z]; exact fp e F.fe
    · exact fp b z
  have nch : ∀ b o, s.heap.get? b = some o → b ∉ ch := fun b o e hb => absurd (Heap.lt_size e) (Nat.not_lt.mpr (big b hb))
  have B := I.base
  have hok' : HOk P w H' h' := hok_land F hch k1
  have fpe : s.heap.objs.size ≤ e := by
    rcases F.fe.2.2.2.1 with z | z
    · exact absurd (show e ∈ ([] : List Addr) from z) (by simp)
    · exact z
  have un : Un (frs outer) [] H H' s.heap h' := by
    refine ⟨fun b o eb n hb _ => k1 b o (fun hm => ?_) (nch b o eb) (B.keep b o eb n hb (by exact List.not_mem_nil)), fun b o eb n hb _ => ?_, fun b o eb n _ => B.free b o eb n List.not_mem_nil, fun b o eb _ => ?_, B.tups, B.frzs, B.tbls⟩
    · rcases List.mem_cons.mp hm with z | z
      · exact absurd (Heap.lt_size eb) (by rw [z]; exact Nat.lt_irrefl _)
      · exact hb z
    · obtain ⟨sl, q1⟩ := B.slot b o eb n hb List.not_mem_nil
      obtain ⟨sl2, q2⟩ := k2 b _ (nch b o eb) q1
      exact ⟨sl2, q2⟩
    · obtain ⟨o', q1⟩ := B.there b o eb List.not_mem_nil
      exact k3 b o' q1
  refine ⟨e, C, d, H', rfl, I.os, I.bare, un, hok', fpe, F.fe.1, x'.imp fun T hT => ?_, q⟩
  rcases hT with hT | hT
  · exact ⟨Nat.le_trans sz hT, I.hok.fresh hT⟩
  · exact ⟨fpS T hT, hT.1⟩
end Sw
namespace Sw
open PySem PySem.Spec PyProof.Rows L2 PySem.W
open Sem (wp)
section
variable {prog : Program} {w : World} {A : Around} {R : Result → Shared → Prop} {h : Heap} {g : Array GenState} {d : Drawn} {t : Nat} {os : OsState}
variable {nm q : Str} {C N : Addr} {bs bm bmB : List Value} {hdct : Bool} {sn : List Str} {sub : List Value} {ab : Bool} {col : Option Bool} {dd : Option Addr} {k0 k1 k2 k3 k5 : Option Value} {B newId initId : String}
theorem make_excI {K : Frag} {fI : Addr} (X : K.In h) (F : ExcBaseFacts B newId initId bmB) (hB : bmB.contains (.type B) = true) (T : OwnTail h bmB bm) {mN : Str → Option Value} {rest : List Value}
    (hC : h.get? C = some (excClassObj nm q C N bs bm hdct sn sub ab col dd k0 k1 k2 k3 k5 newId)) (hn : h.Ns N mN) (hni : mN "__init__" = some (.ref fI)) (hfn : typeIn K (.ref fI) = some (.type "function"))
    (hq : codeAny (model prog w) (A.under (.builtin "type.__call__" ⟨.ref C :: rest, []⟩)) (.call (.ref fI) ⟨.ref (h.objs.size + 1) :: rest, []⟩) (InitBack (h.objs.size + 1) R)
      ⟨(h.push { cls := .type "tuple", data := .seq rest.toArray }).push { cls := .ref C, data := .fields #[.ref h.objs.size, .none, .none, .none, .bool false, .none] }, g, d, t, os⟩) (hrest : rest.length ≤ sizeLine) :
    codeAny (model prog w) A (.call (.ref C) ⟨rest, []⟩) R ⟨h, g, d, t, os⟩ := by
  have f1 := tc_lookup
  have f2 := tc_bind (.ref C)
  have hT : (⟨h, g, d, t, os⟩ : Shared).TypeIs (.ref C) "type" := ⟨_, hC, rfl⟩
  refine codeAny_of_tree ?_
  show wpAny _ _ (callAny (.ref C) _) _ _ _
  repeat (any_goals (first | assumption | with_reducible refine wpAny_loadPart_at hC ?_ | wp_step))
  refine ⟨rfl, ?_⟩
  refine codeAny_call_builtin_at (Code.quiet_builtin _ (by decide +kernel)) entry_typeCall (wpAny_check_type_call_sub hC ?_)
  repeat (first | with_reducible refine wpAny_loadPart_at hC ?_ | with_reducible refine wpAny_madeBy_exc hC ?_ | wp_step)
  refine codeAny_call_builtin_code (Code.quiet_builtin _ F.quiet) (wpAny_check_new_subU F hB T hC ?_)
  refine codeAny_exc_new_subU F hB F T hC ?_ hrest
  show wpAny _ _ _ _ _ _
  have hC₁ := Heap.get?_push_of_some { cls := .ref C, data := .fields #[.ref h.objs.size, .none, .none, .none, .bool false, .none] }
    (Heap.get?_push_of_some { cls := .type "tuple", data := .seq rest.toArray } hC)
  have hn₁ : ((h.push { cls := .type "tuple", data := .seq rest.toArray }).push { cls := .ref C, data := .fields #[.ref h.objs.size, .none, .none, .none, .bool false, .none] }).Ns N mN :=
    let ⟨o, es, ep, e, r⟩ := hn; ⟨o, es, ep, Heap.get?_push_of_some _ (Heap.get?_push_of_some _ e), r⟩
  have hget : ((h.push { cls := .type "tuple", data := .seq rest.toArray }).push
      { cls := .ref C, data := .fields #[.ref h.objs.size, .none, .none, .none, .bool false, .none] }).get? (h.objs.size + 1) = some
      { cls := .ref C, data := .fields #[.ref h.objs.size, .none, .none, .none, .bool false, .none] } := by heap_get
  have hcC : (Value.ref C :: bm).contains (.ref C) = true := by simp
  have T₁ := T.keeps (h' := (h.push { cls := .type "tuple", data := .seq rest.toArray }).push { cls := .ref C, data := .fields #[.ref h.objs.size, .none, .none, .none, .bool false, .none] })
    fun b o e => Heap.get?_push_of_some _ (Heap.get?_push_of_some _ e)
  have X₁ : K.In ((h.push { cls := .type "tuple", data := .seq rest.toArray }).push { cls := .ref C, data := .fields #[.ref h.objs.size, .none, .none, .none, .bool false, .none] }) := X.keeps fun b o e => Heap.get?_push_of_some _ (Heap.get?_push_of_some _ e)
  have b1 := bind_fn (M := model prog w) X₁ (.ref (h.objs.size + 1)) hfn
  unfold isInstance
  dsimp only [List.nil_append, List.singleton_append, List.append_eq]
  repeat (first | with_reducible refine wpAny_loadPart_at hget ?_ | (with_reducible refine wpAny_isSubtype_exc hC₁ ?_; rw [hcC]) | wp_step)
  show wpAny _ _ (typeLookup (.ref C) _) _ _ _
  refine wpAny_typeLookup_tail hC₁ hn₁ T₁ F.mroIs F.init.lookup ?_
  rw [hni]
  refine wpAny_holding (wpAny_bind (b1.at ?_))
  refine wpAny_bind (wpAny_call (codeAny_mono hq fun r s' z => ?_))
  rcases r with e | (v | _ | _ | _) <;> first | exact z | exact z.elim | skip
  obtain ⟨rfl, z⟩ := z
  exact wpAny_pure (wpAny_pure z)
end
noncomputable def excTail : List Value := [.type "ValueError", .type "Exception", .type "BaseException", .type "object"]
noncomputable def excOnly : List Value → Bool
  | .ref _ :: r => excOnly r
  | l => l == excTail
theorem excOnly_cases : ∀ {l : List Value}, excOnly l = true → (∃ c r, l = .ref c :: r ∧ excOnly r = true) ∨ l = excTail
  | [], h => .inr (beq_iff_eq.mp h)
  | x :: r, h => by
    cases x <;> first | exact .inl ⟨_, _, rfl, h⟩ | exact .inr (beq_iff_eq.mp h)
theorem refuse_tail (self : Value) : refuseLoop self "__setattr__" excTail = pure () := by kernel_rfl
theorem refuse_exc (self : Value) : ∀ (l : List Value), excOnly l = true → refuseLoop self "__setattr__" l = pure () := by
  intro l
  induction l with
  | nil => intro h; exact absurd h (by decide)
  | cons x r ih =>
    intro h
    rcases excOnly_cases h with ⟨c, r', e, h'⟩ | e
    · injection e with e1 e2
      subst e1 e2
      rw [refuseLoop_ref]
      exact ih h'
    · rw [e]; exact refuse_tail self
theorem exc_has : ∀ (l : List Value), excOnly l = true → l.contains (.type "object") = true ∧ l.isEmpty = false := by
  intro l
  induction l with
  | nil => intro h; exact absurd h (by decide)
  | cons x r ih =>
    intro h
    refine ⟨?_, rfl⟩
    rcases excOnly_cases h with ⟨c, r', e, h'⟩ | e
    · injection e with e1 e2
      subst e1 e2
      rw [List.contains_cons, (ih h').1, Bool.or_true]
    · rw [e]; decide +kernel
noncomputable def plainExc (K : Frag) (C : Addr) : Bool := (clsIn K C).any fun cd => excOnly cd.mro
section
variable {prog : Program} {w : World} {A : Around} {s : Shared} {K : Frag} {x C : Addr}
theorem osa_exc {R : Result → Shared → Prop} {ox : Obj} {od : Option Obj} {name : Str} {tk : Tok} {v : Value} {r : Option Value} (X : K.In s.heap) (I : InstAt s.heap x ox C od) (hp : plainExc K C = true) (ht : takerIn K C name = some r)
    (h : ∀ b, wpAny (model prog w) A.in1 (match r with | some a => Builtin.ObjectAttr.setByDescriptor a (.ref x) v | none => Builtin.ObjectAttr.storeInOwnDict (.ref x) (.ref C) (.str name tk) name v b)
      (fun fin s' => match fin with | .done f => R (.ok f) s' | .again c' => c'.quiet = true ∧ codeAny (model prog w) A c' R s') (fun e s' => R (.error e) s') s) :
    codeAny (model prog w) A (.call (.builtin "object.__setattr__") ⟨[.ref x, .str name tk, v], []⟩) R s := by
  have SF := PySem.F.store_object
  obtain ⟨cd, hc, ho⟩ := any_some hp
  obtain ⟨h1, ne⟩ := exc_has _ ho
  have sub : Looks (model prog w) s.heap (isInstance (.ref x) (.type "object")) true := I.type.andThen (looks_mroIn X (by unfold mroIn; rw [hc, Option.bind_some, if_neg (by rw [ne]; decide), h1]))
  refine codeAny_call_builtin SF.slot.plain SF.entry (@check_slot (model prog w) _ _ s "object.__setattr__" "object" "__setattr__" (.ref x) [.str name tk, v] [] _ SF.kind SF.split sub (SF.args (.ref x) (.str name tk) v) ?_)
  obtain ⟨attr, ha, hr⟩ := Option.bind_eq_some_iff.mp ht
  have hm : Looks (model prog w) s.heap (mroOf (.ref C)) cd.mro := (looks_clsIn X hc).andThen .now
  have L3 : Looks (model prog w) s.heap (Builtin.ObjectAttr.storeTaker? attr) r := by
    cases attr with
    | none => cases hr; exact .now
    | some a =>
      obtain ⟨b, hb, rfl⟩ := Option.map_eq_some_iff.mp hr
      refine (looks_takesIn X hb).andThen ?_
      cases b <;> exact .now
  rw [osa_eq, refuse_eq]
  refine wpAny_bind (wpAny_bind (I.type.here (wpAny_bind (hm.here ?_))))
  rw [refuse_exc _ _ ho]
  refine wpAny_pure (wpAny_bind (I.type.here (wpAny_bind ((looks_findIn X ha).here (wpAny_bind (L3.here ?_))))))
  exact h _
theorem set_exc0 {ox : Obj} {vs : Array Value} {name : Str} {v : Value} {E : Value → Shared → Prop} {Q : Unit → Shared → Prop} (X : K.In s.heap) (hx : s.heap.get? x = some ox) (hcl : ox.cls = .ref C) (hdi : ox.dict = none) (hda : ox.data = .fields vs)
    (hs : findIn K (.ref C) "__setattr__" = some (some (.builtin "object.__setattr__"))) (hp : plainExc K C = true) (ht : takerIn K C name = some none) (hh : hasDictIn K C = true)
    (h : ∀ h', h'.get? x = some { ox with dict := some s.heap.objs.size } → h'.Ns1 s.heap.objs.size (fun y => if y = name then some v else none) → (∀ b o, b ≠ x → s.heap.get? b = some o → h'.get? b = some o) → Q () { s with heap := h', toks := s.toks + 2 }) :
    wpAny (model prog w) A (setAttr (.ref x) name v) Q E s := by
  have J : InstAt s.heap x ox C none := ⟨hx, hcl, by obtain ⟨a, b, c, d⟩ := ox; have hda : c = .fields vs := hda; subst hda; rfl, by rw [hdi]; trivial⟩
  refine set_plain X J hs (osa_exc (s := { s with toks := s.toks + 1 }) (r := none) X J hp ht fun b => ?_)
  obtain ⟨cd, hc, hd'⟩ := any_some hh
  refine wpAny_bind (wpAny_pure (wpAny_bind (wpAny_bind (wpAny_loadPart hx ?_))))
  simp only [hcl]
  refine wpAny_bind (Looks.here (s := { s with toks := s.toks + 1 }) (looks_clsIn X hc) ?_)
  rw [hd']
  simp only [hdi, hda]
  rw [if_neg (by decide), if_neg (show ¬ ((!true || !typeHasDict (Value.ref C)) = true) from Bool.false_ne_true)]
  refine wpAny_bind (wpAny_alloc ?_)
  have hx1 := Heap.get?_push_of_some { cls := Value.type "dict", data := Data.dict #[] } hx
  refine wpAny_bind (wpAny_update hx1 ?_)
  refine wpAny_pure (a := some s.heap.objs.size) ?_
  have ne : s.heap.objs.size ≠ x := Nat.ne_of_gt (Heap.lt_size hx)
  have hx2 := Heap.get?_update_self (fun o => ({ cls := o.cls, dict := some s.heap.objs.size, data := o.data, slots := o.slots } : Obj)) hx1 (Obj.isFreed_of_fields (vs := vs) hda)
  have hd2 : ((s.heap.push { cls := Value.type "dict", data := Data.dict #[] }).update x fun o => ({ cls := o.cls, dict := some s.heap.objs.size, data := o.data, slots := o.slots } : Obj)).get? s.heap.objs.size = some { cls := Value.type "dict", data := Data.dict #[] } :=
    (Heap.get?_update_other _ _ (Ne.symm ne)).trans (Heap.get?_push_size _ rfl)
  have hn : ((s.heap.push { cls := Value.type "dict", data := Data.dict #[] }).update x fun o => ({ cls := o.cls, dict := some s.heap.objs.size, data := o.data, slots := o.slots } : Obj)).Ns1 s.heap.objs.size (fun _ => none) :=
    ⟨_, _, _, hd2, rfl, (by intro e he; simp at he), List.Pairwise.nil, fun _ => rfl⟩
  refine wpAny_bind (wpAny_pure (wpAny_bind ?_))
  refine wpAny_nsSet1 (s := { s with heap := ((s.heap.push { cls := Value.type "dict", data := Data.dict #[] }).update x fun o => ({ cls := o.cls, dict := some s.heap.objs.size, data := o.data, slots := o.slots } : Obj)), toks := s.toks + 1 }) hn fun h' hn2 hs2 => ?_
  obtain ⟨oD, esD, epD, hoD, hdD, hcD⟩ := hn2.count (ns := [name]) (PySem.Within.cons (ns := []) name v (fun _ => by simp))
  refine wpAny_bind (wpAny_lookBehind hoD (by rw [hdD]; exact pastItsLine_dict (Nat.le_trans hcD (by show 1 ≤ _; decide))) ?_)
  refine wpAny_pure (h h' ((hs2.2 x (Ne.symm ne)).trans hx2) hn2 fun b o hb e => ?_)
  refine (hs2.2 b (Nat.ne_of_lt (Heap.lt_size e))).trans ?_
  rw [Heap.get?_update_other _ _ (Ne.symm hb)]
  exact Heap.get?_push_of_some _ e
end
end Sw
namespace Sw
open PySem PySem.Spec PyProof.Rows L2
open PySem.W (Frag clsIn findIn takerIn hasDictIn typeIn InitBack nsIn nsOkIn tailIn)
noncomputable def excInI (K : Frag) (C fI : Addr) : Bool := match K.lookup C with
  | some ⟨.type "type", _, .cls cd, sl⟩ => (match cd.mro, sl.toList with
    | .ref C' :: bm, [_, _, _, _, some (.builtin n), _] => C' == C && n == "ValueError.__new__" && !cd.hasDel && tailIn K excTail bm && nsOkIn K cd.ns && nsIn K cd.ns "__init__" == some (some (.ref fI))
    | _, _ => false)
  | _ => false
structure XCls (K : Frag) (C fI : Addr) (f : Str) : Prop where
  ex : excInI K C fI = true
  fn : typeIn K (.ref fI) = some (.type "function")
  sa : findIn K (.ref C) "__setattr__" = some (some (.builtin "object.__setattr__"))
  pl : plainExc K C = true
  tk : takerIn K C f = some none
  hd : hasDictIn K C = true
noncomputable def rawX (e C t : Addr) (d : Option Addr) : Heap → Prop := fun h => ∃ o, h.get? e = some o ∧ o.cls = .ref C ∧ o.dict = d ∧ o.data = .fields #[.ref t, .none, .none, .none, .bool false, .none]
theorem raw_ok {P : Program} {w : World} {H : Hp} {h : Heap} {e C t : Addr} {d : Option Addr} (x : rawX e C t d h) : ObjOk P w H h e (.ext (rawX e C t d)) := by
  obtain ⟨o, ho, r⟩ := x
  exact ⟨⟨o, ho, r⟩, ⟨o, ho⟩, fun h1 h2 ⟨o', e', r'⟩ k => ⟨o', k o' e', r'⟩⟩
section
variable {X : Cx} {pins : List (Addr × Obj)} {σ : L2.St} {H : Hp} {s : Shared}
theorem ps_xset {C fI : Addr} {f : Str} {o value : Expr} {ta tv : TE} {pos pos' : Pos} (c : XCls X.K C fI f) (ha : PE X o ta) (hv : PE X value tv) (hs : swapsWith value (some (.Attribute o f pos')) pos.line X.env = pure false) :
    PS X (.Assign [.Attribute o f pos'] value pos) (fun D σ H => tv σ H fun y H1 => ta σ H1 fun x H2 => ∃ e t, x = .ref e ∧ H2 e = some (.ext (rawX e C t none)) ∧ ∀ d, H2 d = none → D.nx σ (upd (upd H2 d (.xd [(f, y)])) e (.ext (rawX e C t (some d))))) := by
  intro pins s σ H D I h
  refine plainObj_wpAny_Assign_Attribute (thn (hv pins s σ H _ I h) fun u s1 ⟨y, H1, I1, ry, q⟩ => thn (ha pins s1 σ H1 _ I1 q) fun ov s2 ⟨x, H2, I2, rx, e, t, ex, ee, q2⟩ => ?_) hs
  subst ex
  obtain rfl : ov = Value.ref e := rx
  obtain ⟨⟨ob, hob, hcl, hdi, hda⟩, _, _⟩ : (rawX e C t none) s2.heap ∧ _ := I2.hok e _ ee
  refine set_exc0 I2.kIn hob hcl hdi hda c.sa c.pl c.tk c.hd fun h' e1 e2 e3 => ?_
  have fd : H2 s2.heap.objs.size = none := I2.hok.fresh (Nat.le_refl _)
  have ne : e ≠ s2.heap.objs.size := Nat.ne_of_lt (I2.hok.lt ee)
  have nx : ObjOk X.prog X.w (upd (upd H2 s2.heap.objs.size (.xd [(f, y)])) e (.ext (rawX e C t (some s2.heap.objs.size)))) h' s2.heap.objs.size (.xd [(f, y)]) := by
    refine ⟨_, e2, fun g => ?_⟩
    by_cases hg : g = f
    · subst hg; simp [List.lookup, RelO]; exact ry
    · have hb : (g == f) = false := by simpa using hg
      simp [List.lookup, hb, hg, RelO]
  refine ⟨σ, _, ?_, q2 s2.heap.objs.size fd⟩
  have un : Un X.fs [] H2 (upd (upd H2 s2.heap.objs.size (.xd [(f, y)])) e (.ext (rawX e C t (some s2.heap.objs.size)))) s2.heap h' := by
    have nH : ∀ b, H2 b = none → b ≠ e := fun b hb z => by rw [z, ee] at hb; cases hb
    refine ⟨fun b o q n _ _ => e3 b o (nH b n) q, fun b o q n _ _ => ⟨o.slots, e3 b o (nH b n) q⟩, fun b o q n _ => ?_, fun b o q _ => ?_, fun b xs q => ?_, fun b o u q => ?_, fun b ps q => ⟨#[], ?_⟩⟩
    · rw [upd_ne (nH b n), upd_ne (Nat.ne_of_lt (Heap.lt_size q))]; exact n
    · by_cases hb : b = e
      · subst hb; exact ⟨_, e1⟩
      · exact ⟨o, e3 b o hb q⟩
    · rw [upd_ne (ne_of q ee (by intro z; cases z)), upd_ne (ne_of_none q fd)]; exact q
    · rw [upd_ne (ne_of q ee (by intro z; cases z)), upd_ne (ne_of_none q fd)]; exact q
    · rw [upd_ne (ne_of q ee (by intro z; cases z)), upd_ne (ne_of_none q fd)]; simpa using q
  refine I2.un (h' := h') (t' := s2.toks + 2) un fun b u q => ?_
  by_cases hb : b = e
  · subst hb
    rw [upd_same] at q
    cases q
    exact raw_ok ⟨_, e1, hcl, rfl, hda⟩
  · rw [upd_ne hb] at q
    by_cases hb2 : b = s2.heap.objs.size
    · subst hb2
      rw [upd_same] at q
      cases q
      exact nx
    · rw [upd_ne hb2] at q
      refine (I2.hok b u q).stay (fun c v hc z => e3 c v (fun z2 => ?_) z) (fun c z => ?_) fun c xs z => ?_
      · subst z2
        rcases hc with z3 | z3
        · exact hb z3.symm
        · rw [ee] at z3; cases z3
      · rw [upd_ne (ne_of z ee (by intro z; cases z)), upd_ne (ne_of_none z fd)]; exact z
      · rw [upd_ne (ne_of z ee (by intro z; cases z)), upd_ne (ne_of_none z fd)]; exact z
noncomputable def spX (C : Addr) (f : Str) : Sp := fun vs H Q _ => ∃ e t y, vs = [.ref e, y] ∧ H e = some (.ext (rawX e C t none)) ∧ ∀ d, H d = none → Q .non (upd (upd H d (.xd [(f, y)])) e (.ext (rawX e C t (some d))))
end
structure RoomU (k : Nat) (A : Around) : Prop where
  dp : A.depth + 3 * k + 5 < recursionLimit
  un : A.units + 16 * k + 200 < cLine
theorem RoomU.of {k : Nat} {A : Around} (r : Room k A) : RoomU k A := ⟨r.dp, r.un⟩
theorem RoomU.mono {j k : Nat} {A : Around} (r : RoomU k A) (h : j ≤ k) : RoomU j A := ⟨by have := r.dp; omega, by have := r.un; omega⟩
theorem RoomU.make {k : Nat} {A : Around} (r : RoomU (k + 1) A) (C : Addr) (us : List Value) (kw : List (Str × Value)) : RoomU k (A.under (.builtin "type.__call__" ⟨.ref C :: us, kw⟩)) :=
  ⟨by have := r.dp; rw [make_depth]; omega, by have := r.un; rw [make_units]; omega⟩
theorem mark_frames {A : Around} {v : Option Value} : (A.mark v).frames = A.frames := by
  first | rfl | (unfold Around.mark; rfl) | (cases v <;> rfl)
theorem mark_units {A : Around} {v : Option Value} : (A.mark v).units = A.units := by
  first | rfl | (unfold Around.mark; rfl) | (cases v <;> rfl)
theorem mark_depth {A : Around} {v : Option Value} : (A.mark v).depth = A.depth := by
  first | rfl | (unfold Around.mark; rfl) | (cases v <;> rfl)
theorem RoomU.mark {k : Nat} {A : Around} {v : Option Value} (r : RoomU k A) : RoomU k (A.mark v) := ⟨by rw [mark_depth]; exact r.dp, by rw [mark_units]; exact r.un⟩
structure FnOkU (P : Program) (w : World) (K : Frag) (mg : Str → Option Value) (base : Heap) (CX : CXT) (k : Nat) (f : Addr) (fd : FuncData) (ps : List Str) (sp : Sp) : Prop where
  len : ∀ vs H Q E, sp vs H Q E → vs.length = ps.length
  run : ∀ (A : Around) (outer : List Env) (s : Shared) (H : Hp) (args : Args) (us : List Value) (vs : List V) (Q : VK) (E : XK), RoomU k A → Env0 P w K mg base A outer s H → BindsTo s fd args (ps.zip us) → Vals vs us → sp vs H Q E →
    codeAny (model P w) A (.call (.ref f) args) (CR CX outer P w H s Q E) s
theorem FnOkU.mono {P : Program} {w : World} {K : Frag} {mg : Str → Option Value} {base : Heap} {CX : CXT} {j k : Nat} {f : Addr} {fd : FuncData} {ps : List Str} {sp : Sp} (F : FnOkU P w K mg base CX j f fd ps sp) (h : j ≤ k) :
    FnOkU P w K mg base CX k f fd ps sp := ⟨F.len, fun A outer s H args us vs Q E hr => F.run A outer s H args us vs Q E (hr.mono h)⟩
@[reducible] noncomputable def cxU (CX : CXT) (P : Program) (w : World) (K : Frag) (mg : Str → Option Value) (base : Heap) (N : List Str) (qual : Str) (scope : Scope) (f : Addr) (cd : Value) (A : Around) (outer : List Env) (s : Shared) (H : Hp) (E : XK) : Cx :=
  { cxOf CX P w K mg base N qual scope f cd A outer s H E with calm := false }
theorem fn_ofU {CX : CXT} {P : Program} {w : World} {K : Frag} {mg : Str → Option Value} {base : Heap} {k : Nat} {f : Addr} {name qual : Str} {params : Arguments} {body : List Stmt} {scope : Scope} {dV kV doc pm cdv ct oc : Value} {an od : Option Addr}
    {osl : Array (Option Value)} {N ps : List Str} {sp : Sp} (lk : K.lookup f = some ⟨oc, od, .func (PySem.W.fnOf name qual params body scope dV kV doc pm an cdv ct), osl⟩) (hcd : PySem.W.codeIn K cdv qual = true) (S : FnScope N ps scope)
    (len : ∀ vs H Q E, sp vs H Q E → vs.length = ps.length)
    (hbody : ∀ (A : Around) (outer : List Env) (s : Shared) (H : Hp) (vs : List V) (Q : VK) (E : XK), sp vs H Q E →
      ∃ t, PSs (cxU CX P w K mg base N qual scope f cdv A outer s H E) body t ∧ t { nx := fun _ H' => Q .non H', rt := Q } (start N vs) H) :
    FnOkU P w K mg base CX (k + 1) f (PySem.W.fnOf name qual params body scope dV kV doc pm an cdv ct) ps sp := by
  refine ⟨len, fun A outer s H args us vs Q E hr e0 hb r hsp => ?_⟩
  have hl := len _ _ _ _ hsp
  have KX : K.In s.heap := e0.mod.kin.keeps fun b o e => (e0.bs b o e).1
  have lim : s.heap.NoLimit := e0.mod.nolimit.keeps fun b o e => (e0.bs b o e).1
  have hkind : ∀ y ∈ ps.zip us, scope.names.lookup y.1 = some .local ∨ (scope.names.lookup y.1 = some .cell ∧ ((cellsFrom (s.heap.objs.size + 1) scope.names []).lookup y.1).isSome = true) := fun ⟨n, v⟩ hy => by
    rcases S.par n (List.of_mem_zip hy).1 with q | q
    · exact .inl q
    · exact .inr ⟨q, PySem.W.cellsFrom_some _ _ _ (.inl q)⟩
  refine codeAny_call_function (by have := hr.dp; omega) (KX _ _ lk) rfl S.co S.gen rfl (PySem.W.codeRec_of KX hcd) (hb _ _ _ _ ?_)
  refine wpAny_newFunctionEnv_cells S.kind hkind fun env he s1 x => ?_
  subst he
  refine ⟨lim.keeps x.toInCall.keep, codeAny_func ?_⟩
  obtain ⟨t, ht, hq⟩ := hbody A outer s H vs Q E hsp
  have e0' : Env0 P w K mg base { A with handled := none } outer s H := ⟨e0.frames, e0.mod, e0.bs, e0.bsz, e0.funs, e0.frf, e0.hok, e0.bare⟩
  have I0 : Inv (cxOf CX P w K mg base N qual scope f cdv { A with handled := none } outer s H E) [] (start N vs) H s1 := inv_start S rfl e0' hl r x
  have I : Inv (cxU CX P w K mg base N qual scope f cdv A outer s H E) [] (start N vs) H s1 := by
    have ok := I0.ok
    exact ⟨⟨ok.mod, ok.kind, ok.glob, ok.blt, ok.above, ok.inj, ok.has, ok.cab, fun z => absurd (show false = true from z) Bool.false_ne_true, Around.frames_deeper e0.frames, ok.stk, ok.exf, ok.bs, ok.bsz, ok.noex, ok.exfs, ok.funs, ok.frf⟩,
      I0.os, I0.bare, I0.base, I0.loc, I0.cell, I0.free, I0.freeC, I0.pin, I0.hok, I0.len⟩
  refine wpAny_mono (ht [] s1 (start N vs) H _ I hq) (fun fl s' hs => ?_) fun e s' hs => hs
  have fin : ∀ {σ' : St} {H' : Hp} {v : V} {u : Value}, Inv (cxU CX P w K mg base N qual scope f cdv A outer s H E) [] σ' H' s' → RelV v u → Q v H' → CE outer P w H s Q u s' :=
    fun {σ' H' v u} J rv q => ⟨v, H', J.os, J.bare, J.base, J.hok, rv, q⟩
  cases fl with
  | ret u =>
    obtain ⟨v, σ', H', J, rv, q⟩ := hs
    exact fin J rv q
  | next =>
    obtain ⟨σ', H', J, q⟩ := hs
    exact fin (v := V.non) (u := Value.none) J rfl q
  | brk =>
    obtain ⟨_, _, _, q⟩ := hs
    exact False.elim q
  | cont =>
    obtain ⟨_, _, _, q⟩ := hs
    exact False.elim q
theorem fn_xinit {P : Program} {w : World} {K : Frag} {mg : Str → Option Value} {base : Heap} {k : Nat} {C fI : Addr} {f y qual : Str} {st : Stmt} {fd : FuncData} {p1 p2 p3 p4 : Pos} (c : XCls K C fI f) (F : Fun K "__init__" qual st fI fd) (S : FnScope ["self", y] ["self", y] (defScope st))
    (hb : defBody st = [.Assign [.Attribute (.Name "self" p1) f p2] (.Name y p3) p4]) (v0 : isVis (defScope st) "self" = true) (v1 : isVis (defScope st) y = true) (o1 : okName y = true) : FnOkU P w K mg base (CXW P w) (k + 1) fI fd ["self", y] (spX C f) := by
  obtain ⟨oc, od, kV, doc, pm, an, cdv, ct, osl, rfl, lk, hcd⟩ := F.ex
  refine fn_ofU lk hcd S (fun vs H Q E h => ?_) fun A outer s H vs Q E hsp => ?_
  · obtain ⟨e, t, y, rfl, _⟩ := h; rfl
  · obtain ⟨e, t, v, rfl, he, q⟩ := hsp
    have vis : ∀ {sc : Scope} {x : Str}, isVis sc x = true → Vis sc x := fun {sc x} h => by
      unfold isVis at h
      unfold Vis
      split at h <;> first | (rename_i e; rw [e]; first | exact .inl rfl | exact .inr (.inl rfl) | exact .inr (.inr rfl)) | cases h
    have ok1 : (y == ("__debug__" : Str)) = false ∧ (y == ("__classdict__" : Str)) = false := by
      unfold okName at o1
      simp only [Bool.and_eq_true, Bool.not_eq_true'] at o1
      exact o1.1
    rw [hb]
    refine ⟨_, pss_one (ps_xset (X := cxU (CXW P w) P w K mg base ["self", y] qual (defScope st) fI cdv A outer s H E) c (pe_var (i := 0) rfl (vis v0)) (pe_var (i := 1) rfl (vis v1) ok1.1 ok1.2) rfl), ?_⟩
    exact ⟨v, rfl, .ref e, rfl, e, t, rfl, he, q⟩
section
variable {X : Cx} {pins : List (Addr × Obj)} {σ : L2.St} {H : Hp} {s : Shared}
theorem Inv.forget {e : Addr} {φ : Heap → Prop} {H0 : Hp} (I : Inv X pins σ H s) (he : H e = some (.ext φ)) (h0 : ∀ b, H0 b = if b = e then none else H b) : Inv X pins σ H0 s := by
  have n0 : ∀ b u, H b = some u → b ≠ e → H0 b = some u := fun b u q hb => by rw [h0, if_neg hb]; exact q
  have nn : ∀ b, H b = none → H0 b = none := fun b q => by
    rw [h0]; split
    · rfl
    · exact q
  refine ⟨I.ok, I.os, I.bare, ⟨I.base.keep, I.base.slot, fun b o q n hx => nn b (I.base.free b o q n hx), I.base.there, fun b xs q => ?_, fun b o u q => ?_, fun b ps q => ?_⟩, I.loc, I.cell, nn _ I.free, fun x c q => nn _ (I.freeC x c q), fun p hp => ?_, fun b u q => ?_, I.len⟩
  · exact n0 b _ (I.base.tups b xs q) (ne_of (I.base.tups b xs q) he (by intro z; cases z))
  · exact n0 b _ (I.base.frzs b o u q) (ne_of (I.base.frzs b o u q) he (by intro z; cases z))
  · obtain ⟨more, z⟩ := I.base.tbls b ps q
    exact ⟨more, n0 b _ z (ne_of z he (by intro z; cases z))⟩
  · obtain ⟨p1, p2, p3⟩ := I.pin p hp
    exact ⟨p1, nn _ p2, p3⟩
  · rw [h0] at q
    split at q
    · cases q
    · rename_i hb
      refine (I.hok b u q).stay (fun _ _ _ z => z) (fun c z => n0 c _ z (ne_of z he (by intro z; cases z))) fun c xs z => n0 c _ z (ne_of z he (by intro z; cases z))
theorem ns_some_of {K : Frag} {h : Heap} {N : Addr} {mg : Str → Option Value} {n : Str} {v : Value} (X : K.In h) (G : h.Ns N mg) (e : nsIn K N n = some (some v)) : mg n = some v := by
  obtain ⟨o, es, ep, ho, hd, _, hf⟩ := G
  unfold nsIn at e
  split at e
  · rename_i c d es' n' sl q
    have := X _ _ q
    rw [ho] at this
    cases this
    cases hd
    split at e
    · rename_i he
      rw [← hf]
      unfold nsFind findBy
      rw [← Array.find?_toList, he]
      first | exact Option.some.inj e | (cases e; rfl)
    · split at e <;> cases e
  · cases e
theorem exc_obj {K : Frag} {h : Heap} {C fI : Addr} (X : K.In h) (q : excInI K C fI = true) : ∃ nm qn N bs bm hdct sn sub ab col dd k0 k1 k2 k3 k5 mN,
    h.get? C = some (excClassObj nm qn C N bs bm hdct sn sub ab col dd k0 k1 k2 k3 k5 "ValueError.__new__") ∧ h.Ns N mN ∧ mN "__init__" = some (.ref fI) ∧ OwnTail h excTail bm := by
  unfold excInI at q
  split at q
  · rename_i dd cd sl ho
    split at q
    · rename_i C' bm k0 k1 k2 k3 n k5 hm hs
      simp only [Bool.and_eq_true, beq_iff_eq, Bool.not_eq_true'] at q
      obtain ⟨⟨⟨⟨⟨rfl, rfl⟩, hdel⟩, ht⟩, hok⟩, hni⟩ := q
      obtain ⟨nm, bs, mro, ns, qn, hd, sn, sub, ab, col, del⟩ := cd
      dsimp only at hm hdel hok hni
      subst hm hdel
      have hsl : sl = #[k0, k1, k2, k3, some (.builtin "ValueError.__new__"), k5] := by
        obtain ⟨l⟩ := sl
        simp only at hs
        rw [hs]
      subst hsl
      have hNs := Heap.Ns.of_isNs (PySem.W.isNs_of_in X hok)
      exact ⟨nm, qn, ns, bs, bm, hd, sn, sub, ab, col, dd, k0, k1, k2, k3, k5, _, X _ _ ho, hNs, ns_some_of X hNs hni, PySem.W.tail_of_in X ht⟩
    · cases q
  · cases q
structure XRise (X : Cx) (k : Nat) (C fI : Addr) (f : Str) : Prop where
  cls : XCls X.K C fI f
  run : ∃ fd ps, FnOkU X.prog X.w X.K X.mg X.base (CXW X.prog X.w) k fI fd ps (spX C f) ∧ Binds X.K fd ps []
theorem make_x {k : Nat} {C fI : Addr} {f : Str} {v : V} {u : Value} {Q : Value → Shared → Prop} {E : Value → Shared → Prop} (c : XRise X k C fI f) (hr : RoomU (k + 1) X.A) (I : Inv X pins σ H s) (r : RelV v u)
    (h : ∀ e t d s', s.heap.objs.size ≤ e → H e = none → H d = none → e ≠ d → Inv X pins σ (upd (upd H d (.xd [(f, v)])) e (.ext (rawX e C t (some d)))) s' → Q (.ref e) s') :
    wpAny (model X.prog X.w) X.A (call (.ref C) [u]) Q E s := by
  obtain ⟨fd, ps, F, hb⟩ := c.run
  obtain ⟨nm, qn, N, bs, bm, hdct, sn, sub, ab, col, dd, k0, k1, k2, k3, k5, mN, hC, hn, hni, T⟩ := exc_obj I.kIn c.cls.ex
  have ne : s.heap.objs.size + 1 ≠ s.heap.objs.size := by omega
  have fe : H (s.heap.objs.size + 1) = none := I.hok.fresh (Nat.le_succ _)
  have hget : ((s.heap.push { cls := .type "tuple", data := .seq [u].toArray }).push { cls := .ref C, data := .fields #[.ref s.heap.objs.size, .none, .none, .none, .bool false, .none] }).get? (s.heap.objs.size + 1) = some
      { cls := .ref C, data := .fields #[.ref s.heap.objs.size, .none, .none, .none, .bool false, .none] } := by heap_get
  have I2 : Inv X pins σ (upd H (s.heap.objs.size + 1) (.ext (rawX (s.heap.objs.size + 1) C s.heap.objs.size none))) { s with heap := ((s.heap.push { cls := .type "tuple", data := .seq [u].toArray }).push { cls := .ref C, data := .fields #[.ref s.heap.objs.size, .none, .none, .none, .bool false, .none] }) } :=
    I.laid (t' := s.toks) (fun b o q => Heap.get?_push_of_some _ (Heap.get?_push_of_some _ q)) (Nat.le_succ _) (raw_ok ⟨_, hget, rfl, rfl, rfl⟩)
  have hsp : spX C f [.ref (s.heap.objs.size + 1), v] (upd H (s.heap.objs.size + 1) (.ext (rawX (s.heap.objs.size + 1) C s.heap.objs.size none)))
      (fun z H2 => z = .non ∧ ∃ d, H d = none ∧ s.heap.objs.size + 1 ≠ d ∧ H2 = upd (upd H d (.xd [(f, v)])) (s.heap.objs.size + 1) (.ext (rawX (s.heap.objs.size + 1) C s.heap.objs.size (some d)))) (fun _ _ _ => False) := by
    refine ⟨_, _, v, rfl, upd_same, fun d hd => ⟨rfl, d, ?_, ?_, ?_⟩⟩
    · by_cases z : d = s.heap.objs.size + 1
      · rw [z, upd_same] at hd; cases hd
      · rw [upd_ne z] at hd; exact hd
    · intro z; rw [← z, upd_same] at hd; cases hd
    · have nd : d ≠ s.heap.objs.size + 1 := by intro z; rw [z, upd_same] at hd; cases hd
      funext b
      unfold upd
      by_cases hb : b = s.heap.objs.size + 1
      · simp [hb]
      · simp [hb]
  have r2 : Vals [.ref (s.heap.objs.size + 1), v] [.ref (s.heap.objs.size + 1), u] := .cons rfl (.cons r .nil)
  have hl : ([Value.ref (s.heap.objs.size + 1), u] ++ []).length = ps.length := by
    rw [List.append_nil, ← r2.length]; exact F.len _ _ _ _ hsp
  have hbt := hb { s with heap := ((s.heap.push { cls := .type "tuple", data := .seq [u].toArray }).push { cls := .ref C, data := .fields #[.ref s.heap.objs.size, .none, .none, .none, .bool false, .none] }) } [.ref (s.heap.objs.size + 1), u] I2.kIn hl
  rw [List.append_nil] at hbt
  obtain ⟨hp, g, dr, tk, os⟩ := s
  refine wpAny_call (make_excI I.kIn PySem.F.excBase_ValueError (by decide +kernel) T hC hn hni c.cls.fn (codeAny_mono (F.run _ X.stack _ _ ⟨[.ref (hp.objs.size + 1), u], []⟩ [.ref (hp.objs.size + 1), u] _ _ _ (hr.make C [u] []) (I2.env0.make C [u] []) hbt r2 hsp) fun r s' hq' => ?_) (by show 1 ≤ _; decide))
  cases r with
  | error e => obtain ⟨_, _, _, _, _, _, _, _, _, _, _, _, z⟩ := hq'; exact z.elim
  | ok fl =>
    cases fl with
    | ret u' =>
      obtain ⟨z, H', I3, rv, ev, d, hd, hne, eH⟩ := I2.after hq'
      subst ev eH
      exact ⟨rv, h _ _ d s' (Nat.le_succ _) fe hd hne I3⟩
    | next => exact False.elim hq'
    | brk => exact False.elim hq'
    | cont => exact False.elim hq'
theorem ps_raise {M : Mo} (mo : ModOk X.K M) {k : Nat} {C fI : Addr} {f x : Str} {e : Expr} {te : TE} {np cpos pos : Pos} {Ξ : XS} (c : XRise X k C fI f) (hr : Room (k + 1) X.A) (hc : X.calm = true) (hg : Gl X x) (hm : X.mg x = some (.ref C)) (hk : PySem.W.keepIn X.K (.ref C) = true) (xo : XOk X Ξ)
    (he : PE X e te) (hpl : plainE e = true) (hdb : (x == ("__debug__" : Str)) = false) :
    PS X (.Raise (some (.Call (.Name x np) [e] [] cpos)) none pos) (fun _ σ H => te σ H fun v H1 => ∀ d, H1 d = none → M d = none → Ξ (.ref C) (some d) σ (upd H1 d (.xd [(f, v)]))) := by
  intro pins s σ H D I h
  rw [arm_exec_Raise]
  simp only [evalOpt, Option.map]
  refine wpAny_bind (wpAny_standAt ?_)
  unfold raiseStmt
  refine wpAny_bind (wpAny_bind ?_)
  have st : starEach [e] X.env = (false, eval e X.env) :: starEach [] X.env := by cases e <;> first | rfl | cases hpl
  refine wpAny_Call_Name_kw (ld_glob I hg hm ?_ hdb)
  refine PySem.W.callWith_K (h₀ := X.base) I.ok.mod.kin hk (thn (pa_cons he pa_nil st cpos pins s σ H (fun vs H1 => match vs with | [v] => ∀ d, H1 d = none → M d = none → Ξ (.ref C) (some d) σ (upd H1 d (.xd [(f, v)])) | _ => False) I h) fun us s1 ⟨vs, H1, I1, r, q⟩ => ⟨I1.kIn, ?_⟩) st rfl
  obtain ⟨v, rfl⟩ : ∃ v, vs = [v] := by
    dsimp only at q
    split at q
    · exact ⟨_, rfl⟩
    · exact q.elim
  obtain ⟨u, rfl, ru⟩ := vals1 r
  refine make_x c (RoomU.of hr) I1 ru fun ea t d s2 hsz fe fd hne I2 => ?_
  refine wpAny_bind (wpAny_standAt (wpAny_pure ?_))
  obtain ⟨⟨ob, hob, hcl, hdi, hda⟩, _, _⟩ : (rawX ea C t (some d)) s2.heap ∧ _ := I2.hok ea _ upd_same
  obtain ⟨nm, qn, N, bs, bm, hdct, sn, sub, ab, col, dd, k0, k1, k2, k3, k5, mN, hC, hn, hni, T⟩ := exc_obj I2.kIn c.cls.ex
  have hcB : (Value.ref C :: bm).contains (.type "BaseException") = true := by rw [List.contains_cons, T.hasType (b := true) (by decide +kernel), Bool.or_true]
  have fin : X.xe (.ref ea) s2 := by
    have ne : ∀ b o, X.s₀.heap.get? b = some o → b ≠ ea := fun b o eb => Nat.ne_of_lt (Nat.lt_of_lt_of_le (Heap.lt_size eb) (Nat.le_trans I1.sz hsz))
    have I3 : Inv X pins σ (upd H1 d (.xd [(f, v)])) s2 := Inv.forget I2 upd_same (fun b => by
      by_cases hb : b = ea
      · rw [if_pos hb, hb, upd_ne hne]; exact fe
      · rw [if_neg hb, upd_ne hb])
    refine xo pins σ _ ea (.ref C) (some d) s2 ⟨I3, I1.fpOk hsz (by rw [upd_ne hne]; exact fe), ob, _, hob, .inl ⟨C, rfl, hcl, rfl⟩, hdi, hda, rfl, .inl rfl⟩ (q d fd (OffM.new (Inv.offM mo I3)))
  obtain ⟨oc, od, oda, osl⟩ := ob
  have hcl : oc = .ref C := hcl
  have hdi : od = some d := hdi
  have hda : oda = _ := hda
  subst hcl hdi hda
  obtain ⟨hp, g, dr, tk, os⟩ := s2
  repeat (first | with_reducible refine wpAny_loadPart_at hob ?_ | with_reducible refine wpAny_loadPart_at hC ?_ | (with_reducible refine wpAny_isSubtype_exc hC ?_; rw [hcB]) | wp_step)
  exact wpAny_raiseNew_none (I.ok.hd hc) fin
end
end Sw
namespace Sw
open PySem PySem.Spec PyProof.Rows L2
open PySem.W (Frag clsIn findIn takerIn hasDictIn typeIn InitBack nsIn nsOkIn tailIn)
theorem entry_unchain : entryFor table "proto.unchain" = some Builtin.«proto.unchain» := entryFor_of_tree (by kernel_rfl)
section
variable {P : Program} {w : World} {A : Around} {E : Value → Shared → Prop} {s : Shared}
theorem unchain_ok {e : Value} {h0 : Addr} {o0 : Obj} {vs0 : Array Value} {Q : Value → Shared → Prop} (h1 : s.heap.get? h0 = some o0) (h2 : o0.data = .fields vs0) (h3 : vs0[2]? = some .none) (hq : Q .none s) :
    wpAny (model P w) A (runValue (.builtin "proto.unchain" ⟨[e, .ref h0, .ref h0, .bool false], []⟩)) Q E s := by
  refine wpAny_runValue (codeAny_builtin entry_unchain ?_)
  unfold Builtin.«proto.unchain»
  refine wpAny_bind (wpAny_field h1 h2 h3 ?_)
  rw [if_pos (by decide)]
  refine wpAny_bind (wpAny_pure ?_)
  exact wpAny_pure hq
end
section
variable {X : Cx} {pins : List (Addr × Obj)} {σ : L2.St} {H : Hp} {s : Shared}
noncomputable def InHand (X : Cx) : Prop := ∃ h0 o0 vs0, X.A.handled = some (.ref h0) ∧ (h0, o0) ∈ X.pn ∧ o0.data = .fields vs0 ∧ vs0[2]? = some .none
theorem ps_raiseF {M : Mo} (mo : ModOk X.K M) {k : Nat} {C fI : Addr} {f x : Str} {e : Expr} {te : TE} {np cpos pos npos : Pos} {j : Nat} {Ξ : XS} (c : XRise X k C fI f) (hr : RoomU (k + 1) X.A) (hh : InHand X) (hg : Gl X x) (hm : X.mg x = some (.ref C)) (hk : PySem.W.keepIn X.K (.ref C) = true) (xo : XOk X Ξ)
    (he : PE X e te) (hpl : plainE e = true) (hdb : (x == ("__debug__" : Str)) = false) :
    PS X (.Raise (some (.Call (.Name x np) [e] [] cpos)) (some (.Constant .none j npos)) pos) (fun _ σ H => te σ H fun v H1 => ∀ d, H1 d = none → M d = none → Ξ (rawInt C) (some d) σ (upd H1 d (.xd [(f, v)]))) := by
  intro pins s σ H D I h
  rw [arm_exec_Raise]
  simp only [evalOpt, Option.map]
  refine wpAny_bind (wpAny_standAt ?_)
  unfold raiseStmt
  refine wpAny_bind (wpAny_bind ?_)
  have st : starEach [e] X.env = (false, eval e X.env) :: starEach [] X.env := by cases e <;> first | rfl | cases hpl
  refine wpAny_Call_Name_kw (ld_glob I hg hm ?_ hdb)
  refine PySem.W.callWith_K (h₀ := X.base) I.ok.mod.kin hk (thn (pa_cons he pa_nil st cpos pins s σ H (fun vs H1 => match vs with | [v] => ∀ d, H1 d = none → M d = none → Ξ (rawInt C) (some d) σ (upd H1 d (.xd [(f, v)])) | _ => False) I h) fun us s1 ⟨vs, H1, I1, r, q⟩ => ⟨I1.kIn, ?_⟩) st rfl
  obtain ⟨v, rfl⟩ : ∃ v, vs = [v] := by
    dsimp only at q
    split at q
    · exact ⟨_, rfl⟩
    · exact q.elim
  obtain ⟨u, rfl, ru⟩ := vals1 r
  refine make_x c hr I1 ru fun ea t d s2 hsz fe fd hne I2 => ?_
  refine wpAny_bind (wpAny_standAt (wpAny_pure ?_))
  obtain ⟨⟨ob, hob, hcl, hdi, hda⟩, _, _⟩ : (rawX ea C t (some d)) s2.heap ∧ _ := I2.hok ea _ upd_same
  obtain ⟨nm, qn, N, bs, bm, hdct, sn, sub, ab, col, dd, k0, k1, k2, k3, k5, mN, hC, hn, hni, T⟩ := exc_obj I2.kIn c.cls.ex
  have hcB : (Value.ref C :: bm).contains (.type "BaseException") = true := by rw [List.contains_cons, T.hasType (b := true) (by decide +kernel), Bool.or_true]
  obtain ⟨h0, o0, vs0, hh1, hh2, hh3, hh4⟩ := hh
  obtain ⟨g1, g2, g3, g4, g5⟩ := I2.pin (h0, o0) (List.mem_append_left _ hh2)
  have hne0 : h0 ≠ ea := fun z => by rw [z, upd_same] at g2; cases g2
  have fin : ∀ h' o' vs', h'.get? ea = some o' → o'.cls = .ref C → o'.dict = some d → o'.data = .fields vs' → vs'.size = 6 → vs'[1]? = some .none → (∀ b, b ≠ ea → h'.get? b = s2.heap.get? b) → X.xe (.ref ea) { s2 with heap := h' } := by
    intro h' o' vs' q1 q2 q3 q4 q5 q6 q7
    have ne : ∀ b o, X.s₀.heap.get? b = some o → b ≠ ea := fun b o eb => Nat.ne_of_lt (Nat.lt_of_lt_of_le (Heap.lt_size eb) (Nat.le_trans I1.sz hsz))
    have I3 : Inv X pins σ (upd H1 d (.xd [(f, v)])) s2 := Inv.forget I2 upd_same (fun b => by
      by_cases hb : b = ea
      · rw [if_pos hb, hb, upd_ne hne]; exact fe
      · rw [if_neg hb, upd_ne hb])
    have fp : FpOk X pins (upd H1 d (.xd [(f, v)])) ea := I1.fpOk hsz (by rw [upd_ne hne]; exact fe)
    have I4 : Inv X pins σ (upd H1 d (.xd [(f, v)])) { s2 with heap := h' } := by
      refine I3.call (g' := s2.gens) (t' := s2.toks) (d' := s2.drawn) (ch := [ea]) ⟨fun b o q n hb hc => ?_, fun b o q n hb hc => ⟨o.slots, ?_⟩, fun b o q n _ => n, fun b o q _ => ?_, fun _ _ q => q, fun _ _ _ q => q, fun b ps q => ⟨#[], by simpa using q⟩⟩ ?_ I3.bare fun b hb => ?_
      · rw [q7 b (by simpa using hc)]; exact q
      · rw [q7 b (by simpa using hc)]; exact q
      · by_cases hb : b = ea
        · subst hb; exact ⟨_, q1⟩
        · exact ⟨o, by rw [q7 b hb]; exact q⟩
      · intro b u q
        refine (I3.hok b u q).stay (fun z y hz hy => ?_) (fun _ z => z) fun _ _ z => z
        rw [q7 z (fun z2 => ?_)]
        · exact hy
        · subst z2
          rcases hz with z3 | z3
          · rw [← z3, fp.1] at q; cases q
          · rw [fp.1] at z3; cases z3
      · rw [show b = ea by simpa using hb]
        obtain ⟨f0, f1, f2, f3, f4, f5⟩ := fp
        exact ⟨f3, f1, f4, f5⟩
    exact xo pins σ _ ea (rawInt C) (some d) _ ⟨I4, fp, o', vs', q1, .inr ⟨C, rfl, q2⟩, q3, q4, q5, .inl q6⟩ (q d fd (OffM.new (Inv.offM mo I3)))
  obtain ⟨oc, od, oda, osl⟩ := ob
  have hcl : oc = .ref C := hcl
  have hdi : od = some d := hdi
  have hda : oda = _ := hda
  subst hcl hdi hda
  refine wpAny_bind (wpAny_holding (wpAny_bind ?_))
  obtain ⟨hp, g, dr, tk, os⟩ := s2
  refine Constant_none ?_
  refine wpAny_bind (wpAny_standAt (wpAny_pure ?_))
  refine wpAny_bind (wpAny_pure ?_)
  dsimp only
  refine wpAny_bind (wpAny_holding ?_)
  repeat (first | with_reducible refine wpAny_loadPart_at hob ?_ | with_reducible refine wpAny_loadPart_at hC ?_ | (with_reducible refine wpAny_isSubtype_exc hC ?_; rw [hcB]) | wp_step)
  have hCe : ea ≠ C := fun z => by
    subst z
    rw [hC] at hob
    cases hob
  have hC2 : ((hp.update ea (Obj.mapFields fun x => x.setIfInBounds 3 Value.none)).update ea (Obj.mapFields fun x => x.setIfInBounds 4 (Value.bool true))).get? C = some (excClassObj nm qn C N bs bm hdct sn sub ab col dd k0 k1 k2 k3 k5 "ValueError.__new__") := by
    rw [Heap.get?_update_other _ _ hCe, Heap.get?_update_other _ _ hCe]; exact hC
  have hob1 := Heap.get?_update_self (Obj.mapFields fun x => x.setIfInBounds 3 Value.none) hob rfl
  have hob2 := Heap.get?_update_self (Obj.mapFields fun x => x.setIfInBounds 4 (Value.bool true)) hob1 rfl
  refine wpAny_loadPart_at hC2 ?_
  refine wpAny_pure ?_
  rw [if_pos (by rfl)]
  refine wpAny_pure ?_
  refine wpAny_bind ?_
  unfold setFlight
  refine wpAny_bind (wpAny_field (x := Value.none) hob2 rfl (by rfl) ?_)
  rw [if_neg (show ¬ ((Value.none != Value.none) = true) from by decide)]
  refine wpAny_pure ?_
  unfold raiseNew
  refine wpAny_bind (wpAny_handled ?_)
  rw [hh1]
  dsimp only
  rw [if_pos (show (Value.ref h0 != Value.ref ea) = true from by simpa using hne0)]
  have hh0 : ((hp.update ea (Obj.mapFields fun x => x.setIfInBounds 3 Value.none)).update ea (Obj.mapFields fun x => x.setIfInBounds 4 (Value.bool true))).get? h0 = some o0 := by
    rw [Heap.get?_update_other _ _ (Ne.symm hne0), Heap.get?_update_other _ _ (Ne.symm hne0)]; exact g1
  refine wpAny_bind (wpAny_holding (unchain_ok (vs0 := vs0) hh0 hh3 hh4 ?_))
  refine wpAny_bind (wpAny_setField (x := .ref h0) hob2 rfl (by show 2 < 6; decide) ?_)
  have hob3 := Heap.get?_update_self (Obj.mapFields fun x => x.setIfInBounds 2 (Value.ref h0)) hob2 rfl
  refine wpAny_throw (fin _ _ _ hob3 rfl rfl rfl rfl rfl fun b hb => ?_)
  rw [Heap.get?_update_other _ _ (Ne.symm hb), Heap.get?_update_other _ _ (Ne.symm hb), Heap.get?_update_other _ _ (Ne.symm hb)]
end
end Sw
namespace Sw
open PySem PySem.Spec PyProof.Rows L2
open PySem.W (Frag clsIn findIn takerIn hasDictIn typeIn InitBack nsIn nsOkIn tailIn ktsIn mroIn)
@[reducible] noncomputable def Cx.deep (X : Cx) (pins : List (Addr × Obj)) (E : Value → Shared → Prop) : Cx := { X with pn := X.pn ++ pins, xe := E }
@[reducible] noncomputable def Cx.held (X : Cx) (e : Addr) : Cx := { X with A := X.A.mark (some (.ref e)), calm := false, xe := fun _ _ => False }
@[reducible] noncomputable def Cx.hold (X : Cx) (e : Addr) (o : Obj) : Cx := { X with A := X.A.mark (some (.ref e)), calm := false, pn := X.pn ++ [(e, o)], xe := notedBy (model X.prog X.w) (X.A.mark (some (.ref e))) X.env (cameBackBy (model X.prog X.w) X.A X.env X.xe) }
theorem rawInt_inj {a b : Addr} (h : rawInt a = rawInt b) : a = b := by
  unfold rawInt at h
  cases h
  rfl
section
variable {X : Cx} {pins pins' : List (Addr × Obj)} {σ : L2.St} {H : Hp} {s : Shared} {E : Value → Shared → Prop} {e : Addr}
theorem Cx.Ok.deep (ok : X.Ok) (pins : List (Addr × Obj)) (E : Value → Shared → Prop) : (Cx.deep X pins E).Ok :=
  ⟨ok.mod, ok.kind, ok.glob, ok.blt, ok.above, ok.inj, ok.has, ok.cab, ok.hd, ok.frames, ok.stk, ok.exf, ok.bs, ok.bsz, ok.noex, ok.exfs, ok.funs, ok.frf⟩
theorem Cx.Ok.undeep (ok : (Cx.deep X pins E).Ok) : X.Ok :=
  ⟨ok.mod, ok.kind, ok.glob, ok.blt, ok.above, ok.inj, ok.has, ok.cab, ok.hd, ok.frames, ok.stk, ok.exf, ok.bs, ok.bsz, ok.noex, ok.exfs, ok.funs, ok.frf⟩
theorem Inv.deep (I : Inv X pins σ H s) (E : Value → Shared → Prop) : Inv (Cx.deep X pins E) [] σ H s :=
  ⟨Cx.Ok.deep I.ok pins E, I.os, I.bare, I.base, I.loc, I.cell, I.free, I.freeC, fun p hp => I.pin p (by simpa using hp), I.hok, I.len⟩
theorem Inv.undeep (I : Inv (Cx.deep X pins E) pins' σ H s) : Inv X pins σ H s :=
  ⟨Cx.Ok.undeep I.ok, I.os, I.bare, I.base, I.loc, I.cell, I.free, I.freeC, fun p hp => I.pin p (List.mem_append_left _ hp), I.hok, I.len⟩
theorem SP.undeep {D : Ends} {f : Flow} (h : SP (Cx.deep X pins E) pins' D f s) : SP X pins D f s := by
  cases f with
  | next => obtain ⟨σ', H', I, q⟩ := h; exact ⟨σ', H', Inv.undeep I, q⟩
  | brk => obtain ⟨σ', H', I, q⟩ := h; exact ⟨σ', H', Inv.undeep I, q⟩
  | cont => obtain ⟨σ', H', I, q⟩ := h; exact ⟨σ', H', Inv.undeep I, q⟩
  | ret u => obtain ⟨v, σ', H', I, r, q⟩ := h; exact ⟨v, σ', H', Inv.undeep I, r, q⟩
theorem FpOk.undeep {b : Addr} (f : FpOk (Cx.deep X pins E) pins' H b) : FpOk X pins H b :=
  ⟨f.1, f.2.1, f.2.2.1, f.2.2.2.1, f.2.2.2.2.1, fun p hp => f.2.2.2.2.2 p (List.mem_append_left _ hp)⟩
theorem Flew.undeep {C : Value} {d : Option Addr} (F : Flew (Cx.deep X pins E) pins' σ H e C d s) : Flew X pins σ H e C d s :=
  ⟨Inv.undeep F.inv, FpOk.undeep F.fe, F.at_.imp fun _ z => FpOk.undeep z⟩
theorem Inv.held (I : Inv X pins σ H s) (e : Addr) : Inv (Cx.held X e) pins σ H s := by
  have ok := I.ok
  exact ⟨⟨ok.mod, ok.kind, ok.glob, ok.blt, ok.above, ok.inj, ok.has, ok.cab, fun z => absurd (show false = true from z) Bool.false_ne_true, (by show (X.A.mark _).frames = _; rw [mark_frames]; exact ok.frames), ok.stk, ok.exf, ok.bs, ok.bsz, ok.noex, ok.exfs, ok.funs, ok.frf⟩,
    I.os, I.bare, I.base, I.loc, I.cell, I.free, I.freeC, I.pin, I.hok, I.len⟩
theorem Inv.unheld (I : Inv (Cx.held X e) pins σ H s) (ok0 : X.Ok) : Inv X pins σ H s :=
  ⟨ok0, I.os, I.bare, I.base, I.loc, I.cell, I.free, I.freeC, I.pin, I.hok, I.len⟩
theorem Inv.hold {C : Value} {d : Option Addr} {o : Obj} (F : Flew X pins σ H e C d s) (ho : s.heap.get? e = some o) (hnc : ∀ v, o.data ≠ .cell v) : Inv (Cx.hold X e o) pins σ H s := by
  have I := F.inv
  have ok := I.ok
  obtain ⟨f0, f1, f2, f3, f4, f5⟩ := F.fe
  refine ⟨⟨ok.mod, ok.kind, ok.glob, ok.blt, ok.above, ok.inj, ok.has, ok.cab, fun z => absurd (show false = true from z) Bool.false_ne_true, (by show (X.A.mark _).frames = _; rw [mark_frames]; exact ok.frames), ok.stk, ok.exf, ok.bs, ok.bsz, ok.noex, ok.exfs, ok.funs, ok.frf⟩,
    I.os, I.bare, I.base, I.loc, I.cell, I.free, I.freeC, fun p hp => ?_, I.hok, I.len⟩
  have hp : p ∈ (X.pn ++ [(e, o)]) ++ pins := hp
  rcases List.mem_append.mp hp with q | q
  · rcases List.mem_append.mp q with q | q
    · exact I.pin p (List.mem_append_left _ q)
    · rw [show p = (e, o) by simpa using q]
      exact ⟨ho, f0, f1, f2, hnc⟩
  · exact I.pin p (List.mem_append_right _ q)
theorem Inv.unhold {o : Obj} (I : Inv (Cx.hold X e o) pins σ H s) (ok0 : X.Ok) : Inv X pins σ H s :=
  ⟨ok0, I.os, I.bare, I.base, I.loc, I.cell, I.free, I.freeC, fun p hp => I.pin p (by
    rcases List.mem_append.mp hp with q | q
    · exact List.mem_append_left _ (List.mem_append_left _ q)
    · exact List.mem_append_right _ q), I.hok, I.len⟩
theorem Inv.adopt {Cv : Value} {C : Addr} {d : Option Addr} (F : Flew X pins σ H e Cv d s) (hC : Cv = .ref C ∨ Cv = rawInt C) : Inv X pins σ (upd H e (.exo C d)) s := by
  have I := F.inv
  obtain ⟨f0, f1, f2, f3, f4, f5⟩ := F.fe
  obtain ⟨oe, vs, he, hc', hdi, hda, _⟩ := F.at_
  have hc : oe.cls = .ref C := by
    obtain ⟨c, h1, h2⟩ := hc'.any
    rw [h1]
    rcases h2 with h2 | h2 <;> rcases hC with h3 | h3 <;> rw [h2] at h3
    · exact h3
    · cases h3
    · cases h3
    · rw [rawInt_inj h3]
  have ne : ∀ b u, H b = some u → b ≠ e := fun b u q => ne_of_none q f0
  refine ⟨I.ok, I.os, I.bare, ⟨I.base.keep, I.base.slot, fun b o q n hx => ?_, I.base.there, fun b xs q => ?_, fun b o u q => ?_, fun b ps q => ?_⟩, I.loc, I.cell, ?_, fun x c q => ?_, fun p hp => ?_, fun b u q => ?_, I.len⟩
  · have hb : b ≠ e := fun z => by
      rcases f3 with z1 | z1
      · exact hx (by rw [z]; exact z1)
      · exact absurd (Heap.lt_size q) (Nat.not_lt.mpr (by rw [z]; exact z1))
    rw [upd_ne hb]; exact I.base.free b o q n hx
  · rw [upd_ne (ne b _ (I.base.tups b xs q))]; exact I.base.tups b xs q
  · rw [upd_ne (ne b _ (I.base.frzs b o u q))]; exact I.base.frzs b o u q
  · obtain ⟨more, z⟩ := I.base.tbls b ps q
    exact ⟨more, by rw [upd_ne (ne b _ z)]; exact z⟩
  · rw [upd_ne (Ne.symm f1)]; exact I.free
  · rw [upd_ne (f4 x c q)]; exact I.freeC x c q
  · obtain ⟨p1, p2, p3⟩ := I.pin p hp
    exact ⟨p1, by rw [upd_ne (f5 p hp)]; exact p2, p3⟩
  · by_cases hb : b = e
    · subst hb
      rw [upd_same] at q
      cases q
      exact ⟨oe, vs, he, hc, hdi, hda⟩
    · rw [upd_ne hb] at q
      exact (I.hok b u q).stay (fun _ _ _ z => z) (fun c z => by rw [upd_ne (ne c _ z)]; exact z) fun c xs z => by rw [upd_ne (ne c _ z)]; exact z
theorem Flew.land {C : Value} {d : Option Addr} (F : Flew X pins σ H e C d s) {h' : Heap} {ch : List Addr} (hch : ∀ b ∈ ch, b = e ∨ FpOk X pins H b)
    (k1 : ∀ b o, b ∉ frs X.stack → b ∉ ch → s.heap.get? b = some o → h'.get? b = some o) (k2 : ∀ b o, b ∉ ch → s.heap.get? b = some o → ∃ sl, h'.get? b = some { o with slots := sl }) (k3 : ∀ b o, s.heap.get? b = some o → ∃ o', h'.get? b = some o')
    (x : XAt (some X.env.locals) h' e C d (fun T => s.heap.objs.size ≤ T ∨ FpOk X pins H T)) : Flew X pins σ H e C d { s with heap := h' } := by
  have I := F.inv
  have I' : Inv X pins σ H { s with heap := h' } := by
    refine I.call (g' := s.gens) (t' := s.toks) (d' := s.drawn) (ch := ch) ⟨fun b o q n hb hc => k1 b o hb hc q, fun b o q n hb hc => k2 b o hc q, fun b o q n _ => n, fun b o q _ => k3 b o q, fun _ _ q => q, fun _ _ _ q => q, fun b ps q => ⟨#[], by simpa using q⟩⟩ (hok_land F hch k1) I.bare fun b hb => ?_
    rcases hch b hb with z | z
    · subst z
      obtain ⟨f0, f1, f2, f3, f4, f5⟩ := F.fe
      exact ⟨f3, f1, f4, f5⟩
    · obtain ⟨f0, f1, f2, f3, f4, f5⟩ := z
      exact ⟨f3, f1, f4, f5⟩
  refine ⟨I', F.fe, x.imp fun T hT => ?_⟩
  rcases hT with z | z
  · exact I.fpOk z (I.hok.fresh z)
  · exact z
theorem XOk.hold {o : Obj} {Ξ : XS} (xo : XOk X Ξ) (ok0 : X.Ok) (hstk : X.stack = X.env :: X.outer ∧ X.env.frame = some X.env.locals) : XOk (Cx.hold X e o) Ξ := by
  intro pins σ H e' C d s F q
  obtain ⟨hs1, hs2⟩ := hstk
  have hfr : (X.A.mark (some (.ref e))).frames = some (X.env :: X.outer) := by rw [← hs1]; exact F.inv.ok.frames
  have hl : s.heap.FunFrames X.base (X.env :: X.outer) := by rw [← hs1]; exact F.inv.stack
  show notedBy _ _ X.env _ _ _
  refine note_back (base := X.base) hfr hl hs2 F.at_ fun h' ch hch k1 k2 k3 x' => ?_
  have F2 := F.land hch (by show ∀ b o, b ∉ frs X.stack → _; rw [hs1]; exact k1) k2 k3 x'
  have sub : ∀ b, FpOk (Cx.hold X e o) pins H b → FpOk X pins H b := fun b ⟨f0, f1, f2, f3, f4, f5⟩ => ⟨f0, f1, f2, f3, f4, fun p hp => f5 p (by
    rcases List.mem_append.mp hp with q | q
    · exact List.mem_append_left _ (List.mem_append_left _ q)
    · exact List.mem_append_right _ q)⟩
  exact xo pins σ H e' C d _ ⟨Inv.unhold F2.inv ok0, sub _ F2.fe, F2.at_.imp sub⟩ q
theorem Flew.again {C : Value} {d : Option Addr} {M : Model} {A : Around} {E : Value → Shared → Prop} {Q : Unit → Shared → Prop} (F : Flew X pins σ H e C d s) (h : ∀ s', Flew X pins σ H e C d s' → Q () s') : wpAny M A (setFlight (.ref e) none) Q E s := by
  obtain ⟨oe, vs, he, hc, hdi, hd, hsz, r⟩ := F.at_
  unfold setFlight
  rcases r with r | ⟨T, oT, ts, h1, hP, hTe, hT, hdT, h3⟩
  · refine wpAny_bind (wpAny_field he hd r ?_)
    rw [if_neg (by decide)]
    exact wpAny_pure (h s F)
  · have h3' : 3 < ts.size := by
      rcases h3 with h3 | ⟨_, _, h3⟩
      · exact (Array.getElem?_eq_some_iff.mp h3).1
      · exact (Array.getElem?_eq_some_iff.mp h3).1
    refine wpAny_bind (wpAny_field he hd h1 ?_)
    rw [if_pos (show (Value.ref T != Value.none) = true from by simp)]
    refine wpAny_setField hT hdT h3' (h _ ?_)
    have other : ∀ b, b ≠ T → (s.heap.update T (Obj.mapFields (·.setIfInBounds 3 ((none : Option Addr).elim Value.none fun f => rawInt f)))).get? b = s.heap.get? b := fun b hb => Heap.get?_update_other _ _ (Ne.symm hb)
    have self := Heap.get?_update_self (Obj.mapFields (·.setIfInBounds 3 ((none : Option Addr).elim Value.none fun f => rawInt f))) hT (Obj.isFreed_of_fields (Obj.data_mapFields hdT _))
    refine F.land (ch := [T]) (fun b hb => .inr (by rw [show b = T by simpa using hb]; exact hP)) (fun b o _ hb q => (other b (by simpa using hb)).trans q) (fun b o hb q => ⟨o.slots, (other b (by simpa using hb)).trans q⟩) (fun b o q => ?_) ⟨oe, vs, (other e (Ne.symm hTe)).trans he, hc, hdi, hd, hsz, .inr ⟨T, _, _, h1, .inr hP, hTe, self, Obj.data_mapFields hdT _, .inl ?_⟩⟩
    · by_cases hb : b = T
      · subst hb; exact ⟨_, self⟩
      · exact ⟨o, (other b hb).trans q⟩
    · simp [h3']
theorem unbind_ok {j : Nat} {n : Str} {pos : Pos} {M : Model} {A : Around} {E : Value → Shared → Prop} {Q : Unit → Shared → Prop} (I : Inv X pins σ H s) (hN : X.N.Nodup) (hj : X.N[j]? = some n) (hl : X.env.scope.names.lookup n = some .local)
    (h : ∀ s', Inv X pins (σ.set j none) H s' → Q () s') : wpAny M A (do bindName X.env n .none; unbindBehindTheSuite X.env n pos) Q E s := by
  obtain ⟨m, hn, hm⟩ := id I.loc
  refine wpAny_nameGoes_keeps (env := X.env) hl hn (by rw [I.ok.kind]; rfl) fun h' v hn' sb => h _ ?_
  have eB : ∀ b o, b ≠ X.env.locals → s.heap.get? b = some o → h'.get? b = some o := fun b o hb q => sb.extBut b o hb q
  have neL : ∀ b o, X.s₀.heap.get? b = some o → b ≠ X.env.locals := fun b o q => Nat.ne_of_lt (Nat.lt_of_lt_of_le (Heap.lt_size q) I.ok.above)
  have cellNe : ∀ x c, X.env.cells.lookup x = some c → c ≠ X.env.locals := I.cne
  have B := I.base
  obtain ⟨oL, esL, epL, hoL, _⟩ := id hn'
  refine ⟨I.ok, I.os, I.bare, ⟨fun b o q n hb hx => eB b o (neL b o q) (B.keep b o q n hb hx), fun b o q n hb hx => ?_, B.free, fun b o q hx => ?_, B.tups, B.frzs, B.tbls⟩, ⟨_, hn', fun i x w e1 e2 e3 => ?_⟩, fun x c q => ?_, I.free, I.freeC, fun p hp => ?_, fun b u q => ?_, ?_⟩
  · obtain ⟨sl, z⟩ := B.slot b o q n hb hx
    exact ⟨sl, eB b _ (neL b o q) z⟩
  · obtain ⟨o', z⟩ := B.there b o q hx
    exact ⟨o', eB b _ (neL b o q) z⟩
  · have hij : i ≠ j := fun z => by
      subst z
      rw [List.getElem?_set_self'] at e2
      cases z2 : σ[i]? <;> rw [z2] at e2 <;> simp at e2
    rw [List.getElem?_set_ne (Ne.symm hij)] at e2
    obtain ⟨u, ru, lk⟩ := hm i x w e1 e2 e3
    have hxn : x ≠ n := fun z => by
      subst z
      exact hij (nodup_ix hN e1 hj)
    refine ⟨u, ru, ?_⟩
    rcases lk with ⟨h1, h2⟩ | ⟨h1, c, h2, o, h3, h4⟩
    · exact .inl ⟨h1, by dsimp only; rw [if_neg hxn]; exact h2⟩
    · exact .inr ⟨h1, c, h2, o, eB c o (cellNe x c h2) h3, h4⟩
  · obtain ⟨v', o, h3, h4⟩ := I.cell x c q
    exact ⟨v', o, eB c o (cellNe x c q) h3, h4⟩
  · obtain ⟨p1, p2, p3, p4⟩ := I.pin p hp
    exact ⟨eB _ _ p3 p1, p2, p3, p4⟩
  · refine (I.hok b u q).stay (fun c v' hc z => eB c v' (fun z2 => ?_) z) (fun _ z => z) fun _ _ z => z
    subst z2
    rcases hc with z3 | z3
    · rw [← z3, I.free] at q; cases q
    · rw [I.free] at z3; cases z3
  · rw [List.length_set]; exact I.len
end
end Sw
namespace Sw
open PySem PySem.Spec PyProof.Rows L2
open PySem.W (Frag clsIn findIn takerIn hasDictIn typeIn InitBack nsIn nsOkIn tailIn ktsIn mroIn Looks looks_mroIn kts_cls)
theorem exc_match {prog : Program} {w : World} {A : Around} {E : Value → Shared → Prop} {s : Shared} {K : Frag} {e c C2 : Addr} {ob : Obj} {Q : Bool → Shared → Prop} (X : K.In s.heap) (hob : s.heap.get? e = some ob) (hcl : ob.cls = .ref c)
    (h2 : ktsIn K C2 "BaseException" = true) (hs : mroIn K c (.ref C2) = some true) (hq : Q true s) : wpAny (model prog w) A (excMatches (.ref e) (.ref C2)) Q E s := by
  obtain ⟨nm, qn, N, bs, bm, hdct, sn, sub, ab, col, dd, k0, k1, k2, k3, k5, newId, hC, hbase, _⟩ := kts_cls X h2
  have hcB : (Value.ref C2 :: bm).contains (.type "BaseException") = true := by rw [List.contains_cons, hbase, Bool.or_true]
  have f := tc_notTuple
  have L : Looks (model prog w) s.heap (isSubtype (.ref c) (.ref C2)) true := looks_mroIn X hs
  obtain ⟨hp, g, dr, tk, os⟩ := s
  unfold excMatches
  repeat (first | (with_reducible refine wpAny_loadPart_at hob ?_; rw [hcl]) | with_reducible refine wpAny_loadPart_at hC ?_ | (with_reducible refine wpAny_isSubtype_exc hC ?_; rw [hcB]) | wp_step)
  refine Looks.here (s := ⟨hp, g, dr, tk, os⟩) L ?_
  repeat wp_step
  exact hq
noncomputable def HandOk (X : Cx) (hb : List Stmt) (th : TS) : Option Nat → Prop
  | none => ∀ e o vs, o.data = .fields vs → vs[2]? = some .none → X.Ok → PSs (Cx.hold X e o) hb th
  | some _ => ∀ e, PSs (Cx.held X e) hb th
theorem ps_try {X : Cx} {M : Mo} (mo : ModOk X.K M) {C2 : Addr} {x : Str} {np hpos pos : Pos} {n : Option Str} {j : Option Nat} {body : List Stmt} {b₀ : Stmt} {hb : List Stmt} {tbf : XS → TS} {th : TS} {sub : Addr → Bool}
    (hstk : X.stack = X.env :: X.outer ∧ X.env.frame = some X.env.locals) (hg : Gl X x) (hm : X.mg x = some (.ref C2)) (hdb : (x == ("__debug__" : Str)) = false)
    (h2 : ktsIn X.K C2 "BaseException" = true) (hsub : ∀ c, sub c = true → mroIn X.K c (.ref C2) = some true)
    (hbody : ∀ pins E' Ξ', XOk (Cx.deep X pins E') Ξ' → PSs (Cx.deep X pins E') body (tbf Ξ')) (hh : HandOk X (b₀ :: hb) th j)
    (hN : X.N.Nodup) (hj : match j, n with | none, none => True | some j, some y => X.N[j]? = some y ∧ X.env.scope.names.lookup y = some .local | _, _ => False) :
    PS X (.Try body [.ExceptHandler (some (.Name x np)) n (b₀ :: hb) hpos] [] [] pos) (fun D σ H => tbf (handW M sub th j D) D σ H) := by
  intro pins s σ H D I h
  refine wpAny_Try_except ?_
  let ΞB : XS := handW M sub th j D
  let E' : Value → Shared → Prop := fun e s1 => ∃ ea C d σ' H', e = .ref ea ∧ Flew X pins σ' H' ea C d s1 ∧ ΞB C d σ' H'
  have xo : XOk (Cx.deep X pins E') ΞB := fun pins' σ' H' e C d s1 F q => ⟨e, C, d, σ', H', rfl, Flew.undeep F, q⟩
  refine wpAny_mono (hbody pins E' ΞB xo [] s σ H D (Inv.deep I E') h) (fun f s1 q => ?_) fun e s1 q => ?_
  · have q' := SP.undeep q
    cases f with
    | next => exact wpAny_execs_nil q'
    | brk => exact q'
    | cont => exact q'
    | ret u => exact q'
  · obtain ⟨ea, Cv, d, σ', H', rfl, F, q⟩ := q
    obtain ⟨hs1, hs2⟩ := hstk
    have hfr : X.A.frames = some (X.env :: X.outer) := by rw [← hs1]; exact F.inv.ok.frames
    have hl : s1.heap.FunFrames X.base (X.env :: X.outer) := by rw [← hs1]; exact F.inv.stack
    refine note_land (base := X.base) hfr hl hs2 F.at_ fun h' ch hch k1 k2 k3 x' => ?_
    have F2 := F.land hch (by rw [hs1]; exact k1) k2 k3 x'.fly
    have q : handW M sub th j D Cv d σ' H' := q
    have key : ∃ C : Addr, (Cv = .ref C ∨ Cv = rawInt C) ∧ sub C = true ∧ (match j with
        | none => Cv = .ref C ∧ th D σ' H'
        | some j => ∀ e, H' e = none → M e = none → th (gone D j) (σ'.set j (some (.ref e))) (upd H' e (.exo C d))) := by
      obtain ⟨_, _, _, cl, _⟩ := F2.at_
      obtain ⟨c, _, hcv⟩ := cl.any
      refine ⟨c, hcv, ?_⟩
      unfold handW at q
      rcases hcv with z | z
      · subst z
        dsimp only at q
        by_cases hsb : sub c = true
        · rw [if_pos hsb] at q
          refine ⟨hsb, ?_⟩
          cases j with
          | none => exact ⟨rfl, q⟩
          | some j => exact q
        · rw [if_neg hsb] at q; exact q.elim
      · subst z
        unfold rawInt at q
        dsimp only at q
        rw [Int.toNat_natCast] at q
        by_cases hsb : sub c = true
        · rw [if_pos hsb] at q
          refine ⟨hsb, ?_⟩
          cases j with
          | none => exact q.elim
          | some j => exact q
        · rw [if_neg hsb] at q; exact q.elim
    obtain ⟨C, hCv, hsb, q⟩ := key
    refine wpAny_handleBy_cons ?_ (by intro z; cases z)
    have I2 := F2.inv
    have IH := Inv.held I2 ea
    refine codeAny_handlers_test ?_
    obtain ⟨ob, vs, hob, hcl', _⟩ := F2.at_
    have hcl : ob.cls = .ref C := by
      obtain ⟨c, h1, h2⟩ := hcl'.any
      rw [h1]
      rcases h2 with h2 | h2 <;> rcases hCv with h3 | h3 <;> rw [h2] at h3
      · exact h3
      · cases h3
      · cases h3
      · rw [rawInt_inj h3]
    refine ld_glob (X := Cx.held X ea) IH hg hm (exc_match I2.kIn hob hcl h2 (hsub C hsb) ?_) hdb
    show codeAny _ _ _ _ _
    cases n with
    | none =>
      cases j with
      | some _ => exact hj.elim
      | none =>
        obtain ⟨hCr, q9⟩ := q
        subst hCr
        refine codeAny_handlers_suite (F2.again fun s3 F3 => ?_)
        obtain ⟨o3, vs3, ho3, hc3, _, hd3, _⟩ := F3.at_
        have hv3 : vs3[2]? = some .none := by
          rcases hc3 with ⟨c, _, _, z⟩ | ⟨c, z, _⟩
          · exact z
          · cases z
        have IL := Inv.hold F3 ho3 (by intro v z; rw [hd3] at z; cases z)
        refine wpAny_mono (hh ea o3 vs3 hd3 hv3 I.ok pins s3 σ' H' D IL q9) (fun f s4 q4 => ?_) fun _ _ z => z
        cases f with
        | next => obtain ⟨σ5, H5, I5, q5⟩ := q4; exact ⟨σ5, H5, Inv.unhold I5 I.ok, q5⟩
        | brk => obtain ⟨σ5, H5, I5, q5⟩ := q4; exact ⟨σ5, H5, Inv.unhold I5 I.ok, q5⟩
        | cont => obtain ⟨σ5, H5, I5, q5⟩ := q4; exact ⟨σ5, H5, Inv.unhold I5 I.ok, q5⟩
        | ret u => obtain ⟨v, σ5, H5, I5, r5, q5⟩ := q4; exact ⟨v, σ5, H5, Inv.unhold I5 I.ok, r5, q5⟩
    | some y =>
      cases j with
      | none => exact hj.elim
      | some j =>
        obtain ⟨hj1, hj2⟩ := hj
        refine codeAny_handlers_suite_as (F2.again fun s3 F3 => ?_)
        have I3 := Inv.held (Inv.adopt F3 hCv) ea
        refine store_ok (X := Cx.held X ea) (v := .ref ea) I3 hN hj1 (.inl hj2) rfl (fun s4 I4 => ?_) (.inr hj2)
        refine wpAny_mono (hh ea pins s4 _ _ (gone D j) I4 (q ea F3.fe.1 (OffM.new (Inv.offM mo (Inv.adopt F3 hCv))))) (fun f s5 q5 => ?_) fun _ _ z => z.elim
        cases f with
        | next =>
          obtain ⟨σ5, H5, I5, q6⟩ := q5
          exact unbind_ok (Inv.unheld I5 I.ok) hN hj1 hj2 fun s6 I6 => ⟨_, H5, I6, q6⟩
        | brk =>
          obtain ⟨σ5, H5, I5, q6⟩ := q5
          exact unbind_ok (Inv.unheld I5 I.ok) hN hj1 hj2 fun s6 I6 => ⟨_, H5, I6, q6⟩
        | cont =>
          obtain ⟨σ5, H5, I5, q6⟩ := q5
          exact unbind_ok (Inv.unheld I5 I.ok) hN hj1 hj2 fun s6 I6 => ⟨_, H5, I6, q6⟩
        | ret u =>
          obtain ⟨v, σ5, H5, I5, r5, q6⟩ := q5
          exact unbind_ok (Inv.unheld I5 I.ok) hN hj1 hj2 fun s6 I6 => ⟨v, _, H5, I6, r5, q6⟩
end Sw
namespace Sw
open PySem PySem.Spec PyProof.Rows L2 PySem.W
section
variable {prog : Program} {w : World} {A : Around} {E : Value → Shared → Prop} {s : Shared} {K : Frag} {x C : Addr} {ox : Obj} {od : Option Obj} {name : Str} {expr : Bool}
structure XGet (K : Frag) (C : Addr) : Prop where
  ga : findIn K (.ref C) "__getattribute__" = some (some (.builtin "BaseException.__getattribute__"))
  gh : findIn K (.ref C) "__getattr__" = some none
  sb : mroIn K C (.type "BaseException") = some true
  ob : mroIn K C (.type "object") = some true
theorem xget_slot {R : Result → Shared → Prop} {tk : Tok} (X : K.In s.heap) (I : InstAt s.heap x ox C od) (c : XGet K C)
    (h : wpAny (model prog w) A.in1 (Builtin.«object.__getattribute__» ⟨[.ref x, .str name tk], []⟩) (fun fin s' => match fin with | .done f => R (.ok f) s' | .again c' => c'.quiet = true ∧ codeAny (model prog w) A c' R s') (fun e s' => R (.error e) s') s) :
    codeAny (model prog w) A (.call (.builtin "BaseException.__getattribute__") ⟨[.ref x, .str name tk], []⟩) R s := by
  have hk : builtinKind "BaseException.__getattribute__" = some .slot := by decide +kernel
  have hsplit : splitId "BaseException.__getattribute__" = some ("BaseException", "__getattribute__") := by decide +kernel
  have L : Looks (model prog w) s.heap (isInstance (.ref x) (.type "BaseException")) true := I.type.andThen (looks_mroIn X c.sb)
  exact codeAny_call_builtin PySem.F.excAttr_ValueError.ga.plain PySem.F.entry_bexc_ga (@check_slot (model prog w) _ _ s "BaseException.__getattribute__" "BaseException" "__getattribute__" (.ref x) [.str name tk] [] _ hk hsplit L (PySem.F.args_bexc_ga (.ref x) (.str name tk)) h)
theorem xget_by {fill : Bool} {tk : Tok} {Q : Value → Shared → Prop} (X : K.In s.heap) (I : InstAt s.heap x ox C od) (c : XGet K C)
    (h : wpAny (model prog w) A.in1 (Builtin.«object.__getattribute__» ⟨[.ref x, .str name tk], []⟩) (fun fin s' => match fin with | .done (.ret v) => wpAny (model prog w) A (handedOut v) Q E s' | _ => False) (fun _ _ => False) s) :
    wpAny (model prog w) A (getAttrBy (.ref x) (.str name tk) fill expr) Q E s := by
  have hx0 : (expr && onTheHeap (Value.builtin "BaseException.__getattribute__")) = false := by cases expr <;> rfl
  have hx2 : (Value.builtin "BaseException.__getattribute__" == Value.builtin "object.__getattribute__") = false := by decide +kernel
  have hx1 : (onTheHeap (Value.ref C) && Value.builtin "BaseException.__getattribute__" == Value.builtin "object.__getattribute__") = false := by rw [hx2]; exact Bool.and_false _
  unfold getAttrBy
  refine wpAny_holding (wpAny_bind (I.type.here (wpAny_bind ((looks_findIn X c.ga).here ?_))))
  show wpAny _ _ (if (onTheHeap (Value.ref C) && Value.builtin "BaseException.__getattribute__" == Value.builtin "object.__getattribute__") = true then _ else _) _ _ _
  rw [hx1, if_neg Bool.false_ne_true]
  unfold getAttrByItsOwn hookBefore
  refine wpAny_bind ?_
  show wpAny _ _ (typeLookup (.ref C) "__getattr__") _ _ _
  refine (looks_findIn X c.gh).here (wpAny_bind (wpAny_attempt (wpAny_holding ?_)))
  unfold callGetattribute boundAndCalled
  rw [hx0, if_neg Bool.false_ne_true, PySem.F.excAttr_ValueError.ga.bind]
  refine wpAny_bind (wpAny_pure (wpAny_call (xget_slot X I c (wpAny_mono h (fun fin s' z => ?_) fun _ _ z => z.elim))))
  rcases fin with (_ | _ | _ | _) | _ <;> first | exact z | exact z.elim
theorem xget_value {v : Value} {Q : Value → Shared → Prop} (X : K.In s.heap) (I : InstAt s.heap x ox C od) (c : XGet K C) (hf : findObj K C od name = some (.value v)) (hh : handedIn v = true) (h : Q v { s with toks := s.toks + 1 }) :
    wpAny (model prog w) A (getAttr (.ref x) name expr) Q E s := by
  unfold getAttr
  refine wpAny_bind (wpAny_mkText (xget_by (s := { s with toks := s.toks + 1 }) X I c ?_))
  obtain ⟨hh', g, d, t, os⟩ := s
  have L0 := I.type (M := model prog w)
  have L1 := looks_find (M := model prog w) X I hf
  unfold Builtin.«object.__getattribute__»
  repeat lk
  show wpAny _ _ (handedOut v) _ _ _
  rw [handedOut_of hh]
  exact wpAny_pure h
theorem xget_class {Q : Option Value → Shared → Prop} (X : K.In s.heap) (I : InstAt s.heap x ox C od) (c : XGet K C) (hf : findObj K C od "__class__" = some (.bind (.builtin "getset_descriptor.__get__") (.builtin "object.__class__")))
    (h : Q (some (.ref C)) { s with toks := s.toks + 1 }) : wpAny (model prog w) A (getAttr? (.ref x) "__class__") Q E s := by
  unfold getAttr? getAttrBy?
  refine wpAny_bind (wpAny_mkText (wpAny_bind (wpAny_attempt (xget_by (s := { s with toks := s.toks + 1 }) X I c ?_))))
  obtain ⟨hh', g, d, t, os⟩ := s
  have L0 := I.type (M := model prog w)
  have L1 := looks_find (M := model prog w) X I hf
  unfold Builtin.«object.__getattribute__»
  repeat (first | (with_reducible refine wpAny_call (class_get X I c.ob ?_)) | lk)
  exact h
theorem kitx_exc (c : XGet K C) (hdct : hasDictIn K C = true) (hf : ∀ od, findObj K C od "__class__" = some (.bind (.builtin "getset_descriptor.__get__") (.builtin "object.__class__"))) :
    KitX K (.ref x) (.ref C) (fun h => ∃ ox od, InstAt h x ox C od) where
  ty := fun _ _ _ ⟨_, _, I⟩ => I.type
  it := fun _ _ X _ => by
    obtain ⟨cdD, hcD, _⟩ := any_some hdct
    unfold clsIn at hcD
    split at hcD
    · rename_i c' d' cd' sl' ho
      intro A' Q' E' s' k q
      unfold isType loadHead
      exact wpAny_bind (wpAny_loadPart (k _ _ (X _ _ ho)) (wpAny_pure q))
    · cases hcD
  ne := fun h tp dd its n sl X htp => by
    obtain ⟨cdD, hcD, _⟩ := any_some hdct
    refine Bool.eq_false_iff.mpr fun q => ?_
    have e : C = tp := Value.ref.inj (beq_iff_eq.mp q)
    subst e
    unfold clsIn at hcD
    split at hcD
    · rename_i c' d' cd' sl' ho
      have z := (X _ _ ho).symm.trans htp
      cases z
    · cases hcD
  ca := fun X ⟨_, _, I⟩ k => xget_class X I c (hf _) k
noncomputable def classBy (K : Frag) (C : Addr) : Bool := (clsIn K C).isSome && findIn K (.ref C) "__class__" == some (some (.builtin "object.__class__"))
  && specialIn K (.builtin "object.__class__") "__get__" == some (some (.builtin "getset_descriptor.__get__")) && takesIn K (.builtin "object.__class__") == some true
theorem classBy_find (h : classBy K C = true) (od : Option Obj) : findObj K C od "__class__" = some (.bind (.builtin "getset_descriptor.__get__") (.builtin "object.__class__")) := by
  unfold classBy at h
  simp only [Bool.and_eq_true, beq_iff_eq] at h
  obtain ⟨⟨⟨h1, h2⟩, h3⟩, h4⟩ := h
  obtain ⟨cd, h1⟩ := Option.isSome_iff_exists.mp h1
  unfold findObj
  rw [h1, Option.bind_some, h2, Option.bind_some]
  simp only [h3, h4, Option.bind_some]
end
structure XRead (K : Frag) (C : Addr) : Prop where
  get : XGet K C
  hd : hasDictIn K C = true
  cl : classBy K C = true
section
variable {X : Cx} {pins : List (Addr × Obj)} {σ : L2.St} {H : Hp} {s : Shared} {A : Around} {E : Value → Shared → Prop} {Q : Value → Shared → Prop} {e C : Addr} {d : Option Addr}
theorem getexc_ok {b : Bool} {dx : Addr} {fs : List (Str × V)} {f : Str} {v : V} (I : Inv X pins σ H s) (he : H e = some (.exo C (some dx))) (hd : H dx = some (.xd fs)) (c : XRead X.K C) (n : NoAttr X.K C f) (l : fs.lookup f = some v)
    (h : ∀ u s', Inv X pins σ H s' → RelV v u → Q u s') : wpAny (model X.prog X.w) A (getAttr (.ref e) f b) Q E s := by
  obtain ⟨oe, vs, h1, h2, h3, h4⟩ : ∃ oe vs, s.heap.get? e = some oe ∧ oe.cls = .ref C ∧ oe.dict = some dx ∧ oe.data = .fields vs := I.hok e _ he
  obtain ⟨mA, N1, r⟩ : ∃ mA, s.heap.Ns1 dx mA ∧ ∀ f, RelO (fs.lookup f) (mA f) := I.hok dx _ hd
  obtain ⟨u, hu, ru⟩ := RelO.some_of (v := v) (o := mA f) (by rw [← l]; exact r f)
  obtain ⟨od, hod, hl⟩ := lookIn_ns N1
  have J : PySem.W.InstAt s.heap e oe C (some od) := ⟨h1, h2, by obtain ⟨a, b, c, d⟩ := oe; have h4 : c = .fields vs := h4; subst h4; rfl, by rw [h3]; exact hod⟩
  exact xget_value I.kIn J c.get (PySem.W.findObj_own c.hd n rfl (by rw [hl, hu])) (handed_of ru) (h u _ (I.tok _) ru)
theorem isexc_ok {b : Bool} {cl : Value} (I : Inv X pins σ H s) (he : H e = some (.exo C d)) (hdx : ∀ dx, d = some dx → ∃ fs, H dx = some (.xd fs)) (c : XRead X.K C) (k : PySem.W.kitOne X.K (.ref C) cl = some b) (h : ∀ tk, Q (.bool b) { s with toks := tk }) :
    wpAny (model X.prog X.w) A (call (.builtin "isinstance") [.ref e, cl]) Q E s := by
  obtain ⟨oe, vs, h1, h2, h3, h4⟩ : ∃ oe vs, s.heap.get? e = some oe ∧ oe.cls = .ref C ∧ oe.dict = d ∧ oe.data = .fields vs := I.hok e _ he
  have nc : PySem.W.notCls oe = true := by obtain ⟨a, b, c, d⟩ := oe; have h4 : c = .fields vs := h4; subst h4; rfl
  have J : ∃ ox od, PySem.W.InstAt s.heap e ox C od := by
    cases d with
    | none => exact ⟨oe, none, h1, h2, nc, by rw [h3]; trivial⟩
    | some dx =>
      obtain ⟨fs, hd⟩ := hdx dx rfl
      obtain ⟨mA, ⟨od, es, ep, hod, _⟩, _⟩ : ∃ mA, s.heap.Ns1 dx mA ∧ ∀ f, RelO (fs.lookup f) (mA f) := I.hok dx _ hd
      exact ⟨oe, some od, h1, h2, nc, by rw [h3]; exact hod⟩
  exact PySem.W.kia_one (kitx_exc c.get c.hd (classBy_find c.cl)) I.kIn J k (fun z => nomatch z) h
end
end Sw
namespace Sw
open PySem PySem.Spec PyProof.Rows L2
open PySem.W (Frag keepIn ktsIn mroIn kitOne)
noncomputable def bltNames : List Str := ["len", "all", "any", "str", "int", "abs", "sorted", "list", "tuple", "max", "min", "sum", "isinstance", "range", "bool", "dict", "set", "ValueError"]
noncomputable def NameVal (mg : Str → Option Value) (x : Str) (u : Value) : Prop := mg x = some u ∨ (mg x = none ∧ bootBuiltins x = some u)
structure GOk (P : Program) (w : World) (K : Frag) (mg : Str → Option Value) (base : Heap) (Γ : Gam) (k : Nat) : Prop where
  mod : ModOk K Γ.mod
  con : ∀ x v, Γ.con x = some v → ∃ u, mg x = some u ∧ RelV v u
  fn : ∀ f, Γ.has f = true → ∃ fa fd ps, mg f = some (.ref fa) ∧ keepIn K (.ref fa) = true ∧ FnOk P w K mg base (CXW P w) k fa fd ps (Γ.fn f) ∧ Binds K fd ps []
  exc : ∀ C c fs, Γ.exc C = some (c, fs) → ∃ fI f fd ps, fs = [f] ∧ mg C = some (.ref c) ∧ keepIn K (.ref c) = true ∧ XCls K c fI f ∧ FnOkU P w K mg base (CXW P w) k fI fd ps (spX c f) ∧ Binds K fd ps []
  no : ∀ x ∈ bltNames, mg x = none
  sub : ∀ c C b, Γ.sub c C = some b → XRead K c ∧ ∃ u, NameVal mg C u ∧ kitOne K (.ref c) u = some b
  cat : ∀ C, Γ.cat C = true → ∃ C2, mg C = some (.ref C2) ∧ ktsIn K C2 "BaseException" = true ∧ ∀ c, Γ.sub c C = some true → mroIn K c (.ref C2) = some true
  fo : ∀ C f, Γ.fo C f = true → XRead K C ∧ NoAttr K C f
structure Ctx (X : Cx) (Γ : Gam) (sc : Scope) (k : Nat) : Prop where
  g : GOk X.prog X.w X.K X.mg X.base Γ k
  room : Γ.cm = true → Room (k + 1) X.A
  calm : Γ.cm = true → X.calm = true
  un : X.A.units + 64 < cLine
  vis : ∀ x, isVis sc x = true → Vis X.env.scope x
  gl : ∀ x, isGl sc x = true → Gl X x
  cf : ∀ y, (sc.names.lookup y = some .cell ∨ sc.names.lookup y = some .free) → X.env.kindOf y = some .cell ∨ X.env.kindOf y = some .free
theorem GOk.hush {P : Program} {w : World} {K : Frag} {mg : Str → Option Value} {base : Heap} {Γ : Gam} {k : Nat} (g : GOk P w K mg base Γ k) : GOk P w K mg base Γ.hush k :=
  ⟨g.mod, g.con, g.fn, g.exc, g.no, g.sub, g.cat, g.fo⟩
theorem GOk.grip {P : Program} {w : World} {K : Frag} {mg : Str → Option Value} {base : Heap} {Γ : Gam} {k : Nat} (g : GOk P w K mg base Γ k) : GOk P w K mg base Γ.grip k :=
  ⟨g.mod, g.con, g.fn, g.exc, g.no, g.sub, g.cat, g.fo⟩
section
variable {X : Cx} {a b e : Expr} {rest : List Expr} {ta tb : TE} {pos : Pos} {M : Mo}
theorem PE.of {t t' : TE} (h : PE X e t) (i : ∀ σ H Q, t' σ H Q → t σ H Q) : PE X e t' := fun pins s σ H Q I q => h pins s σ H Q I (i σ H Q q)
theorem PT.of {t t' : TT} (h : PT X e t) (i : ∀ σ H Q, t' σ H Q → t σ H Q) : PT X e t' := fun pins s σ H Q I q => h pins s σ H Q I (i σ H Q q)
theorem PE.never {t : TE} (i : ∀ σ H Q, ¬ t σ H Q) : PE X e t := fun pins s σ H Q I q => (i σ H Q q).elim
theorem PT.never {t : TT} (i : ∀ σ H Q, ¬ t σ H Q) : PT X e t := fun pins s σ H Q I q => (i σ H Q q).elim
theorem truV_mono {x : V} {H : Hp} {Q Q' : Bool → Prop} (h : truV M x H Q) (i : ∀ k, Q k → Q' k) : truV M x H Q' := by
  unfold truV at h ⊢
  cases x with
  | non => exact i _ h
  | bl b => exact i _ h
  | int j => exact i _ h
  | str y => exact ⟨h.1, i _ h.2⟩
  | ref p =>
    dsimp only at h ⊢
    split at h
    · exact i _ h
    · exact i _ h
    · exact h.elim
  | _ => exact h.elim
theorem tru_end (m : ModOk X.K M) {pins : List (Addr × Obj)} {s : Shared} {σ : L2.St} {H : Hp} {x : V} {v : Value} {Q : Bool → Prop} {Q' : Bool → Shared → Prop} (I : Inv X pins σ H s) (rx : RelV x v) (q : truV M x H Q)
    (h : ∀ k s', Inv X pins σ H s' → Q k → Q' k s') : wpAny (model X.prog X.w) X.A (truthy v) Q' X.xe s := by
  refine thn (tru_of m pins s σ H x v (fun k H2 => H2 = H ∧ Q k) I rx (truV_mono q fun k z => ⟨rfl, z⟩)) fun k s2 ⟨H2, I2, e2, q2⟩ => ?_
  subst e2
  exact h k s2 I2 q2
theorem pe_andV (m : ModOk X.K M) (ha : PE X a ta) (hb : PE X (.BoolOp .And (b :: rest) pos) tb) : PE X (.BoolOp .And (a :: b :: rest) pos) (fun σ H Q => ta σ H fun x H1 => truV M x H1 fun k => if k = true then tb σ H1 Q else Q x H1) := by
  intro pins s σ H Q I h
  refine BoolOp_and (thn (ha pins s σ H _ I h) fun v s1 ⟨x, H1, I1, r1, q1⟩ => tru_end m I1 r1 q1 fun k s2 I2 q2 => ?_)
  cases k with
  | true => exact hb pins s2 σ H1 Q I2 q2
  | false => exact ⟨x, H1, I2, r1, q2⟩
theorem pe_orV (m : ModOk X.K M) (ha : PE X a ta) (hb : PE X (.BoolOp .Or (b :: rest) pos) tb) : PE X (.BoolOp .Or (a :: b :: rest) pos) (fun σ H Q => ta σ H fun x H1 => truV M x H1 fun k => if k = true then Q x H1 else tb σ H1 Q) := by
  intro pins s σ H Q I h
  refine BoolOp_or (thn (ha pins s σ H _ I h) fun v s1 ⟨x, H1, I1, r1, q1⟩ => tru_end m I1 r1 q1 fun k s2 I2 q2 => ?_)
  cases k with
  | false => exact hb pins s2 σ H1 Q I2 q2
  | true => exact ⟨x, H1, I2, r1, q2⟩
theorem pe_notV (m : ModOk X.K M) (ha : PE X a ta) : PE X (.UnaryOp .Not a pos) (fun σ H Q => ta σ H fun x H1 => truV M x H1 fun k => Q (.bl (!k)) H1) := by
  intro pins s σ H Q I h
  refine UnaryOp_ (thn (ha pins s σ H _ I h) fun v s1 ⟨x, H1, I1, r1, q1⟩ => not_of (tru_end m I1 r1 q1 fun k s2 I2 q2 => ⟨.bl (!k), H1, I2, rfl, q2⟩))
theorem pt_tru (m : ModOk X.K M) (ha : PE X a ta) (he : ∀ whole, isTrue a X.env whole = (do let v ← whole; standAt a.pos; holding [v] (truthy v))) : PT X a (fun σ H Q => ta σ H fun x H1 => truV M x H1 fun k => Q k H1) := by
  intro pins s σ H Q I h
  exact isTrue_plain (thn (ha pins s σ H _ I h) fun v s1 ⟨x, H1, I1, r1, q1⟩ => tru_end m I1 r1 q1 fun k s2 I2 q2 => ⟨H1, I2, q2⟩) (he _)
end
section
variable {X : Cx}
theorem star_cons {e : Expr} {es : List Expr} {env : Env} (h : plainE e = true) : starEach (e :: es) env = (false, eval e env) :: starEach es env := by
  cases e <;> first | rfl | cases h
theorem plain_any : ∀ {es : List Expr} {env : Env} {pos : Pos}, (∀ e ∈ es, plainE e = true) → (backTo pos (starEach es env)).any (·.1) = false
  | [], _, _, _ => rfl
  | e :: es, env, pos, h => by
    rw [star_cons (h e List.mem_cons_self)]
    show (false || (backTo pos (starEach es env)).any (·.1)) = false
    rw [plain_any fun e he => h e (List.mem_cons_of_mem _ he)]
    rfl
theorem plain_all : ∀ {es : List Expr} {env : Env} {pos : Pos}, (∀ e ∈ es, plainE e = true) → (backTo pos (starEach es env)).all (fun x => !x.1) = true
  | [], _, _, _ => rfl
  | e :: es, env, pos, h => by
    rw [star_cons (h e List.mem_cons_self)]
    show ((!false) && (backTo pos (starEach es env)).all (fun x => !x.1)) = true
    rw [plain_all fun e he => h e (List.mem_cons_of_mem _ he)]
    rfl
theorem a2 {a b : Bool} (h : (a && b) = true) : a = true ∧ b = true := Bool.and_eq_true_iff.mp h
theorem nx_get {N : List Str} {i : Nat} (h : decide (i < N.length) = true) : N[i]? = some (nx N i) := by
  have h := of_decide_eq_true h
  unfold nx
  rw [List.getD_eq_getElem?_getD, List.getElem?_eq_getElem h]
  rfl
theorem bE_plain {N : List Str} (e : Ex) {a : Expr} : plainE (bE N e a) = true := by cases e <;> rfl
theorem bI_plain {N : List Str} (it : Ix) {a : Expr} : plainE (bI N it a) = true := by
  cases it with
  | ex e => exact bE_plain e
  | rng1 _ => rfl
theorem bEs_plain {N : List Str} : ∀ (cs : Exs) {es : List Expr}, ∀ e ∈ bEs N cs es, plainE e = true
  | .nil, _ => fun e h => nomatch (show e ∈ [] from h)
  | .cons c r, es => fun e h => (List.mem_cons.mp (show e ∈ bE N c (es.headD default) :: bEs N r es.tail from h)).elim (fun q => q ▸ bE_plain c) (bEs_plain r e)
theorem bEs_len {N : List Str} : ∀ (cs : Exs) {es : List Expr}, (bEs N cs es).length = cs.len
  | .nil, _ => rfl
  | .cons _ r, _ => congrArg (· + 1) (bEs_len r)
theorem okName_of {x : Str} (h : okName x = true) : (x == ("__debug__" : Str)) = false ∧ (x == ("__classdict__" : Str)) = false ∧ x ≠ "__name__" := by
  unfold okName at h
  simp only [Bool.and_eq_true, Bool.not_eq_true', decide_eq_false_iff_not] at h
  exact ⟨h.1.1, h.1.2, h.2⟩
end
end Sw
namespace Sw
open PySem PySem.Spec PyProof.Rows L2
open PySem.W (Frag keepIn ktsIn mroIn kitOne)
theorem boot_bf (f : Bf) : bootBuiltins f.name = some (bfV f) := by cases f <;> kernel_rfl
theorem bf_in (f : Bf) : f.name ∈ bltNames := by cases f <;> decide +kernel
theorem in_isin : ("isinstance" : Str) ∈ bltNames := by decide +kernel
theorem in_range : ("range" : Str) ∈ bltNames := by decide +kernel
theorem boot_isin : bootBuiltins "isinstance" = some (.builtin "isinstance") := by kernel_rfl
noncomputable def tyN : Ty → Option String
  | .str => some "str" | .int => some "int" | .bool => some "bool" | .list => some "list" | .tuple => some "tuple" | .dict => some "dict" | .own _ => none
theorem boot_ty : ∀ {T : Ty} {n : String}, tyN T = some n → bootBuiltins T.name = some (.type n) ∧ T.name ∈ bltNames := by
  intro T n h
  cases T <;> first | (cases h; exact ⟨by kernel_rfl, by decide +kernel⟩) | cases h
theorem kit_ty {K : Frag} {M : Mo} {H : Hp} {x : V} {T : Ty} {n : String} (h : known M H x = true) (ht : tyN T = some n) : ∃ t, TyOf K H x t ∧ kitOne K t (.type n) = some (isTy T H x) := by
  cases x with
  | non => exact ⟨_, .non, by cases T <;> first | (cases ht; kernel_rfl) | cases ht⟩
  | bl b => exact ⟨_, .bl b, by cases T <;> first | (cases ht; kernel_rfl) | cases ht⟩
  | int i => exact ⟨_, .int i, by cases T <;> first | (cases ht; kernel_rfl) | cases ht⟩
  | str y => exact ⟨_, .str y, by cases T <;> first | (cases ht; kernel_rfl) | cases ht⟩
  | ref p =>
    unfold known at h
    dsimp only at h
    split at h
    · rename_i xs e
      exact ⟨_, .lst e, by unfold isTy; simp only [e]; cases T <;> first | (cases ht; kernel_rfl) | cases ht⟩
    · rename_i xs e
      exact ⟨_, .tup e, by unfold isTy; simp only [e]; cases T <;> first | (cases ht; kernel_rfl) | cases ht⟩
    · rename_i xs e
      exact ⟨_, .dK e, by unfold isTy; simp only [e]; cases T <;> first | (cases ht; kernel_rfl) | cases ht⟩
    · rename_i o xs e
      exact ⟨_, .frz e, by unfold isTy; simp only [e]; cases T <;> first | (cases ht; kernel_rfl) | cases ht⟩
    · cases h
  | _ => cases h
section
variable {X : Cx} {Γ : Gam} {sc : Scope} {k : Nat} {Ξ : XS}
theorem ld_name {pins : List (Addr × Obj)} {s : Shared} {σ : L2.St} {H : Hp} {x : Str} {u : Value} {pos : Pos} {Q : Value → Shared → Prop} {E : Value → Shared → Prop} (I : Inv X pins σ H s) (hg : Gl X x) (hv : NameVal X.mg x u) (ho : okName x = true) (h : Q u s) :
    wpAny (model X.prog X.w) X.A (eval (.Name x pos) X.env) Q E s := by
  obtain ⟨o1, o2, o3⟩ := okName_of ho
  rcases hv with hv | ⟨hv, hb⟩
  · exact ld_glob I hg hv h o1
  · exact ld_blt I hg hv hb h o3 o1
theorem pe_isin {a : Expr} {ta : TE} {y : Str} {p py pos : Pos} {R : V → Hp → VK → Prop} (C : Ctx X Γ sc k) (hg : Gl X "isinstance") (ha : PE X a ta) (hp : plainE a = true) (hy : Gl X y) (ho : okName y = true)
    (hR : ∀ (pins : List (Addr × Obj)) (s : Shared) (σ : L2.St) (H : Hp) (x : V) (v : Value) (Q : VK), Inv X pins σ H s → RelV x v → R x H Q → ∃ u, NameVal X.mg y u ∧ wpAny (model X.prog X.w) X.A (call (.builtin "isinstance") [v, u]) (EP X pins σ Q) X.xe s) :
    PE X (.Call (.Name "isinstance" p) [a, .Name y py] [] pos) (fun σ H Q => ta σ H fun x H1 => R x H1 Q) := by
  intro pins s σ H Q I h
  refine wpAny_Call_Name_kw (ld_blt I hg (C.g.no _ in_isin) boot_isin ?_)
  have hs := star_cons (env := X.env) (es := [.Name y py]) hp
  refine PyProof.Rows.callWith_builtin1 ?_ hs rfl
  rw [hs]
  show wpAny _ _ (spliced ((false, eval a X.env) :: backTo pos (starEach [.Name y py] X.env))) _ _ s
  refine Calls.spliced_cons (thn (ha pins s σ H _ I h) fun v s1 ⟨x, H1, I1, r1, q1⟩ => ?_)
  obtain ⟨u, hv, z⟩ := hR pins s1 σ H1 x v Q I1 r1 q1
  exact Calls.spliced_cons (ld_name I1 hy hv ho (Calls.spliced_nil z))
theorem Ctx.comp {X' : Cx} {csc : Scope} {N' : List Str} (C : Ctx X Γ sc k) (c : CompOf X X' csc N') (hc : Γ.cm = true) : Ctx X' Γ csc k := by
  have look : ∀ y, X'.env.scope.names.lookup y = (csc.names.lookup y).map fun k => if (k == .free && X.env.scope.kind == .function && X.env.kindOf y == some .cell) then .cell else k := fun y => by
    rw [c.scope]; exact relabel_vis
  refine ⟨by rw [c.prog, c.w, c.K, c.mg, c.base]; exact C.g, fun h => by rw [c.A]; exact C.room h, fun _ => c.calm, by rw [c.A]; exact C.un, fun x h => ?_, fun x h => ?_, fun y h => ?_⟩
  · have l := look x
    unfold isVis at h
    unfold Vis
    split at h
    · rename_i e; rw [e] at l; exact .inl l
    · rename_i e; rw [e] at l; exact .inr (.inl l)
    · rename_i e
      rw [e] at l
      simp only [Option.map_some] at l
      by_cases q : ((NameKind.free == NameKind.free) && X.env.scope.kind == .function && X.env.kindOf x == some .cell) = true
      · rw [if_pos q] at l; exact .inr (.inl l)
      · rw [if_neg q] at l; exact .inr (.inr l)
    · cases h
  · have l := look x
    unfold isGl at h
    split at h
    · rename_i e; rw [e] at l; exact l
    · cases h
  · have l := look y
    rcases h with h | h
    · rw [h] at l; exact .inl l
    · rw [h] at l
      simp only [Option.map_some] at l
      by_cases q : ((NameKind.free == NameKind.free) && X.env.scope.kind == .function && X.env.kindOf y == some .cell) = true
      · rw [if_pos q] at l; exact .inl l
      · rw [if_neg q] at l; exact .inr l
end
end Sw
namespace Sw
open PySem PySem.Spec PyProof.Rows L2
open PySem.W (Frag keepIn ktsIn mroIn kitOne)
theorem mfS (m : Mf) : PlainAttrs (mfT m) ∧ Slot (mfT m) m.name (mfId m) ∧ typeOf (.builtin (mfId m)) = pure (.type "method_descriptor") := by
  cases m
  · exact ⟨F.plainAttrs_str, F.slot_str_startswith, F.type_str_startswith⟩
  · exact ⟨F.plainAttrs_str, F.slot_str_endswith, F.type_str_endswith⟩
  · exact ⟨F.plainAttrs_str, F.slot_str_split, F.type_str_split⟩
  · exact ⟨F.plainAttrs_str, F.slot_str_join, F.type_str_join⟩
  · exact ⟨F.plainAttrs_list, F.slot_list_append, F.type_list_append⟩
  · exact ⟨F.plainAttrs_list, F.slot_list_pop, F.type_list_pop⟩
  · exact ⟨F.plainAttrs_list, F.slot_list_extend, F.type_list_extend⟩
theorem base_of {o : Expr} {m : Str} {env : Env} {t : Sem Value} (h : noCall0 o = true) : attributeBase o m env t = t := by
  cases o with
  | Call f args kws pos =>
    cases f with
    | Name x p =>
      cases args with
      | nil =>
        cases kws with
        | nil => cases h
        | cons _ _ => rfl
      | cons _ _ => rfl
    | _ => rfl
  | _ => rfl
section
variable {X : Cx}
theorem pe_mth0 {M : Mo} (mo : ModOk X.K M) {m : Mf} {o : Expr} {apos cpos : Pos} {to : TE} (ho : PE X o to) (hn : noCall0 o = true) (hl : (apos.endLine == cpos.line) = true) :
    PE X (.Call (.Attribute o m.name apos) [] [] cpos) (fun σ H Q => to σ H fun x H1 => mty M m x H1 = true ∧ mthV M m x [] H1 Q) := by
  obtain ⟨pa, slot, hty⟩ := mfS m
  intro pins s σ H Q I h
  refine wpAny_Call_method0_late (base_of hn) hl (thn (ho pins s σ H _ I h) fun v s1 ⟨x, H1, I1, r1, ty, q1⟩ => ?_)
  obtain ⟨h1, h2⟩ := tyV_is I1 r1 (mth_ty mo ty)
  exact ⟨_, _, pa, slot, hty, h1, h2, Calls.callWith_builtin rfl (PySem.evalArgs_none (mth_ok mo m pins s1 σ H1 x [] v [] Q I1 r1 .nil q1))⟩
theorem pe_mth {M : Mo} (mo : ModOk X.K M) {m : Mf} {o e : Expr} {es : List Expr} {apos cpos : Pos} {to : TE} {t : TA} (ho : PE X o to) (ha : PA X (e :: es) t) (hp : ∀ e' ∈ e :: es, plainE e' = true) (hn : noCall0 o = true) (hl : (apos.endLine == cpos.line) = true) (hf : (e :: es).length < 20) :
    PE X (.Call (.Attribute o m.name apos) (e :: es) [] cpos) (fun σ H Q => to σ H fun x H1 => mty M m x H1 = true ∧ t σ H1 fun vs H2 => mthV M m x vs H2 Q) := by
  obtain ⟨pa, slot, hty⟩ := mfS m
  have hfew : ((backTo cpos (starEach (e :: es) X.env)).all (fun x => !x.1) && (backToKw cpos (keywordEach [] X.env)).all (fun x => x.1.isSome)
      && decide ((e :: es).length + ([] : List Keyword).length + (if ([] : List Keyword).isEmpty then 0 else 1) < 30)) = true := by
    rw [plain_all hp]
    simp only [Bool.true_and]
    rw [Bool.and_eq_true]
    refine ⟨rfl, decide_eq_true ?_⟩
    simp at hf ⊢
    omega
  intro pins s σ H Q I h
  refine wpAny_Call_method_late (base_of hn) hfew hl rfl (thn (ho pins s σ H _ I h) fun v s1 ⟨x, H1, I1, r1, ty, q1⟩ => ?_)
  obtain ⟨h1, h2⟩ := tyV_is I1 r1 (mth_ty mo ty)
  refine ⟨_, _, pa, slot, hty, h1, h2, ?_⟩
  have hA := ha cpos pins s1 σ H1 _ I1 q1
  have hs := star_cons (env := X.env) (es := es) (hp e List.mem_cons_self)
  rw [hs] at hA ⊢
  refine Calls.callWith_builtin (by show (false || (backTo cpos (starEach es X.env)).any (·.1)) = false; rw [plain_any fun e he => hp e (List.mem_cons_of_mem _ he)]; rfl) (Calls.evalArgs_plain ?_)
  exact thn hA fun us s2 ⟨vs, H2, I2, r2, q2⟩ => mth_ok mo m pins s2 σ H2 x vs v us Q I2 r1 r2 q2
end
section
variable (Γ : Gam) (k : Nat)
theorem chain_marks {o1 o2 : CmpOp} {b c : Expr} (h : plainE c = true) : lastMarks [o1, o2] [b, c] = false := by
  show behindInMarks o2 c = false
  cases c <;> first | rfl | cases h
theorem one_marks {op : CmpOp} {b : Expr} (h : plainE b = true) : behindInMarks op b = false := by
  cases b <;> first | rfl | cases h
theorem un_negV {X : Cx} : UnR X (unaryOp .USub) (fun x H Q => match x with | .int i => Q (.int (-i)) H | _ => False) := by
  intro pins s σ H x v Q I r h
  split at h
  · exact un_neg pins s σ H _ v Q I r ⟨_, rfl, h⟩
  · exact h.elim
theorem pe_callG {X : Cx} {Γ : Gam} {sc : Scope} {k : Nat} {Ξ : XS} {f : Str} {es : List Expr} {t : TA} {p pos : Pos} (C : Ctx X Γ sc k) (xo : XOk X Ξ) (hg : Gl X f) (ho : okName f = true) (ha : PA X es t) (hp : ∀ e ∈ es, plainE e = true) (h0 : es = [] → t = fun _ H Q => Q [] H) :
    PE X (.Call (.Name f p) es [] pos) (fun σ H Q => (Γ.cm = true ∧ Γ.has f = true) ∧ t σ H fun vs H1 => Γ.fn f vs H1 Q fun C d H' => Ξ C d σ H') := by
  intro pins s σ H Q I ⟨⟨hc, hh⟩, h⟩
  obtain ⟨fa, fd, ps, hm, hk, F, hb⟩ := C.g.fn f hh
  refine wpAny_Call_Name_kw (ld_glob I hg hm ?_ (okName_of ho).1)
  cases es with
  | nil =>
    rw [h0 rfl] at h
    exact PySem.W.callWith_K0 I.kIn hk (run_fnX (us := []) F ((C.room hc).mono (Nat.le_succ _)) hb xo I .nil h)
  | cons e es =>
    refine PySem.W.callWith_K (h₀ := X.base) I.ok.mod.kin hk (thn (ha pos pins s σ H _ I h) fun us s1 ⟨vs, H1, I1, r, q⟩ => ⟨I1.kIn, ?_⟩) (star_cons (hp e List.mem_cons_self)) (plain_any fun e he => hp e (List.mem_cons_of_mem _ he))
    exact run_fnX F ((C.room hc).mono (Nat.le_succ _)) hb xo I1 r q
theorem pe_bltG {X : Cx} {M : Mo} {e : Expr} {es : List Expr} {t : TA} {p pos : Pos} {x : Str} (hc : X.calm = true) (mo : ModOk X.K M) (f : Bf) (hx : f.name = x) (hg : Gl X x) (hm : X.mg x = none) (ho : okName x = true) (ha : PA X (e :: es) t) (hp : ∀ e' ∈ e :: es, plainE e' = true) :
    PE X (.Call (.Name x p) (e :: es) [] pos) (tCB (bltV M f) t) := by
  subst hx
  have hb := blt_ok hc mo f
  have hv := boot_bf f
  have he := star_cons (env := X.env) (es := es) (hp e List.mem_cons_self)
  have hpl := plain_any (env := X.env) (pos := pos) (es := es) fun e he => hp e (List.mem_cons_of_mem _ he)
  obtain ⟨o1, o2, o3⟩ := okName_of ho
  cases f with
  | str => exact pe_callTy hb hg hm hv ha o3 o1 he hpl
  | int => exact pe_callTy hb hg hm hv ha o3 o1 he hpl
  | list => exact pe_callTy hb hg hm hv ha o3 o1 he hpl
  | tuple => exact pe_callTy hb hg hm hv ha o3 o1 he hpl
  | _ => exact pe_callB hb hg hm hv ha o3 o1 he hpl
theorem boot_sorted : bootBuiltins ("sorted" : Str) = some (.builtin "sorted") := by kernel_rfl
theorem boot_set : bootBuiltins ("set" : Str) = some (.type "set") := by kernel_rfl
theorem pe_sset {X : Cx} {M : Mo} {e : Expr} {te : TE} {p p2 pos pos2 : Pos} (hc : X.calm = true) (mo : ModOk X.K M) (g1 : Gl X "sorted") (m1 : X.mg "sorted" = none) (g2 : Gl X "set") (m2 : X.mg "set" = none) (ha : PE X e te) (hp : plainE e = true) :
    PE X (.Call (.Name "sorted" p) [.Call (.Name "set" p2) [e] [] pos2] [] pos) (fun σ H Q => te σ H fun x H1 => ssetV M x H1 Q) := by
  intro pins s σ H Q I h
  have hs := star_cons (env := X.env) (es := []) hp
  refine wpAny_Call_Name_kw (ld_blt I g1 m1 boot_sorted ?_)
  refine PyProof.Rows.callWith_builtin1 ?_ rfl rfl
  refine Calls.spliced_cons (wpAny_Call_Name_kw (ld_blt I g2 m2 boot_set ?_))
  refine PyProof.Rows.callWith_type1 ?_ hs rfl
  rw [hs]
  refine Calls.spliced_cons (thn (ha pins s σ H _ I h) fun u s1 ⟨x, H1, I1, r1, q1⟩ => Calls.spliced_nil ?_)
  exact thn (sset_ok mo hc I1 r1 q1) fun v s2 z => Calls.spliced_nil z
theorem plain_ix {b : Expr} (h : plainE b = true) : PlainIx b := by
  intro o i
  cases b <;> first | rfl | cases h
theorem plain_fold {e : Expr} {env : Env} (h : plainE e = true) (v : Value) : foldedSetIterable e env v = pure v := by
  cases e <;> first | rfl | cases h
theorem pts_nil {X : Cx} : PTs X [] (fun _ H Q => Q true H) := fun pins s σ H Q I q => by
  show wpAny _ _ (pure true) _ _ _
  exact wpAny_pure ⟨H, I, q⟩
theorem pts_one {X : Cx} {c : Expr} {t : TT} (h : PT X c t) : PTs X [c] t := fun pins s σ H Q I q => by
  show wpAny _ _ (forIn [c] true fun c r => if r = true then do let ok ← isTrue c X.env (eval c X.env); pure (ForInStep.yield ok) else pure (ForInStep.yield r)) _ _ _
  rw [List.forIn_cons]
  simp only [if_true, List.forIn_nil]
  refine wpAny_bind (wpAny_bind (thn (h pins s σ H Q I q) fun b s1 z => wpAny_pure ?_))
  exact wpAny_pure z
theorem po_int {X : Cx} {e : Expr} {te : TE} (h : PE X e te) : PO X (some e) (fun σ H Q => te σ H fun x H1 => match x with | .int i => Q (some i) H1 | _ => False) := by
  intro pins s σ H Q I hw
  rw [evalPart_some]
  refine thn (h pins s σ H _ I hw) fun u s1 ⟨x, H1, I1, r1, q1⟩ => ?_
  cases x with
  | int i =>
    obtain ⟨t, e⟩ := (show ∃ t, u = Value.int i t from r1)
    subst e
    exact ⟨some i, H1, I1, .int i t, q1⟩
  | _ => exact q1.elim
theorem pi_rng1 {X : Cx} {tg a : Expr} {ta : TE} {p pos : Pos} (hg : Gl X "range") (hm : X.mg "range" = none) (ha : PE X a ta) (hp : plainE a = true) :
    PI X tg (.Call (.Name "range" p) [a] [] pos) (iSeq fun σ H k => ta σ H fun x H1 => match x with | .int j => -(2 ^ 62) ≤ j ∧ j < 2 ^ 62 ∧ k ((List.range j.toNat).map fun i : Nat => .int i) (fun _ => True) H1 | _ => False) := by
  intro pins s σ H R I ⟨kk, hw, hk⟩
  have hs := star_cons (env := X.env) (es := []) hp
  refine Call_ (ld_blt I hg hm boot_range (PyProof.Rows.callWith_type1 ?_ hs rfl))
  rw [hs]
  refine Calls.spliced_cons (thn (ha pins s σ H _ I hw) fun v s1 ⟨x, H1, I1, r1, q1⟩ => Calls.spliced_nil ?_)
  cases x with
  | int j =>
    obtain ⟨t, e⟩ := (show ∃ t, v = Value.int j t from r1)
    subst e
    obtain ⟨q1, q2, q⟩ := q1
    refine call_range_1 (range_it I1 (by omega) (by omega) q1 q2 ?_)
    have hq := seq_range 0 j.toNat
    simp only [Int.zero_add] at hq
    rw [Int.sub_zero]
    exact hk _ _ _ _ hq q
  | _ => exact q1.elim
theorem pe_tupM {X : Cx} {M : Mo} (mo : ModOk X.K M) {es : List Expr} {t : TA} {x1} {pos : Pos} (h : PA X es t) : PE X (.Tuple es x1 pos) (fun σ H Q => t σ H fun xs H1 => xs.length ≤ sizeLine ∧ ∀ p, H1 p = none → M p = none → Q (.ref p) (upd H1 p (.tup xs))) := by
  intro pins s σ H Q I hq
  refine wpAny_Tuple_spliced (thn (h pos pins s σ H _ I hq) fun us s1 ⟨xs, H1, I1, r, z, q⟩ => ⟨by rw [← r.length]; exact z, ?_⟩)
  have hf : H1 s1.heap.objs.size = none := I1.hok.fresh (Nat.le_refl _)
  have I2 : Inv X pins σ (upd H1 s1.heap.objs.size (.tup xs)) { s1 with heap := s1.heap.push { cls := .type "tuple", data := .seq us.toArray } } := I1.laid (t' := s1.toks) (fun b u e => Heap.get?_push_of_some _ e) (Nat.le_refl _) ⟨z, us, r, ⟨_, Heap.get?_push_size _ rfl, rfl, _, rfl⟩⟩
  exact ⟨.ref s1.heap.objs.size, _, I2, rfl, q _ hf (OffM.new (Inv.offM mo I2))⟩
theorem pe_lstM {X : Cx} {M : Mo} (mo : ModOk X.K M) {es : List Expr} {t : TA} {pos : Pos} (h : PA X es t) : PE X (.List es pos) (fun σ H Q => t σ H fun xs H1 => xs.length ≤ sizeLine ∧ ∀ p, H1 p = none → M p = none → Q (.ref p) (upd H1 p (.lst xs))) := by
  intro pins s σ H Q I hq
  refine wpAny_List_spliced (thn (h pos pins s σ H _ I hq) fun us s1 ⟨xs, H1, I1, r, z, q⟩ => ⟨by rw [← r.length]; exact z, ?_⟩)
  have hf : H1 s1.heap.objs.size = none := I1.hok.fresh (Nat.le_refl _)
  have I2 : Inv X pins σ (upd H1 s1.heap.objs.size (.lst xs)) { s1 with heap := s1.heap.push { cls := .type "list", data := .seq us.toArray } } := I1.laid (t' := s1.toks) (fun b u e => Heap.get?_push_of_some _ e) (Nat.le_refl _) ⟨z, us, 0, r, Heap.get?_push_size _ rfl⟩
  exact ⟨.ref s1.heap.objs.size, _, I2, rfl, q _ hf (OffM.new (Inv.offM mo I2))⟩
theorem isin_ty {X : Cx} {Γ : Gam} {sc : Scope} {k : Nat} {pins : List (Addr × Obj)} {s : Shared} {σ : L2.St} {H : Hp} {x : V} {v : Value} {T : Ty} {n : String} {Q : VK} (C : Ctx X Γ sc k) (I : Inv X pins σ H s) (rx : RelV x v) (ht : tyN T = some n)
    (q : known Γ.mod H x = true ∧ Q (.bl (isTy T H x)) H) : ∃ u, NameVal X.mg T.name u ∧ wpAny (model X.prog X.w) X.A (call (.builtin "isinstance") [v, u]) (EP X pins σ Q) X.xe s := by
  obtain ⟨b1, b2⟩ := boot_ty ht
  obtain ⟨t, ty, kt⟩ := kit_ty (K := X.K) q.1 ht
  exact ⟨_, .inr ⟨C.g.no _ b2, b1⟩, isinst_ok I rx ty kt fun tk => ⟨.bl _, H, I.tok _, rfl, q.2⟩⟩
theorem isin_own {X : Cx} {Γ : Gam} {sc : Scope} {k : Nat} {pins : List (Addr × Obj)} {s : Shared} {σ : L2.St} {H : Hp} {x : V} {v : Value} {c : Str} {Q : VK} (C : Ctx X Γ sc k) (I : Inv X pins σ H s)
    (q : match x with | .ref p => (match H p with | some (.exo C d) => hasXd H d = true ∧ (match Γ.sub C c with | some b => Q (.bl b) H | none => False) | _ => False) | _ => False) (rx : RelV x v) :
    ∃ u, NameVal X.mg c u ∧ wpAny (model X.prog X.w) X.A (call (.builtin "isinstance") [v, u]) (EP X pins σ Q) X.xe s := by
  cases x with
  | ref p =>
    cases (show v = Value.ref p from rx)
    dsimp only at q
    split at q
    · rename_i Ca d he
      obtain ⟨qx, q⟩ := q
      split at q
      · rename_i b hs
        obtain ⟨xr, u, hv, kt⟩ := C.g.sub _ _ _ hs
        refine ⟨u, hv, isexc_ok I he (fun dx e => ?_) xr kt fun tk => ⟨.bl b, H, I.tok _, rfl, q⟩⟩
        subst e
        unfold hasXd at qx
        dsimp only at qx
        split at qx
        · rename_i fs e; exact ⟨fs, e⟩
        · cases qx
      · exact q.elim
    · exact q.elim
  | _ => exact q.elim
theorem pe_conV {X : Cx} {v : V} {n : Nat} {p : Pos} (h : isC v = true) : PE X (.Constant (cOf v) n p) (fun _ H Q => Q v H) := by
  cases v
  case int i => exact pe_int
  case str x => exact pe_str
  case bl b => exact pe_bl
  case non => exact pe_non
  all_goals cases h
theorem pe_globG {X : Cx} {Γ : Gam} {sc : Scope} {k : Nat} {x : Str} {p : Pos} (C : Ctx X Γ sc k) (hg : isGl sc x = true) (ho : okName x = true) :
    PE X (.Name x p) (fun _ H Q => match Γ.con x with | some v => Q v H | none => False) := by
  intro pins s σ H Q I q
  cases e : Γ.con x with
  | none => rw [e] at q; exact q.elim
  | some v =>
    rw [e] at q
    obtain ⟨u, hu, ru⟩ := C.g.con _ _ e
    exact ld_glob I (C.gl _ hg) hu ⟨v, H, I, ru, q⟩ (okName_of ho).1
theorem pe_varG {X : Cx} {Γ : Gam} {sc : Scope} {k : Nat} {i : Nat} {p : Pos} (C : Ctx X Γ sc k) (hi : decide (i < X.N.length) = true) (h : isVis sc (nx X.N i) = true ∧ okName (nx X.N i) = true) :
    PE X (.Name (nx X.N i) p) (fun σ H Q => match σ[i]? with | some (some v) => Q v H | _ => False) := by
  obtain ⟨o1, o2, o3⟩ := okName_of h.2
  refine PE.of (pe_var (nx_get hi) (C.vis _ h.1) o1 o2) fun σ H Q q => ?_
  match e : σ[i]?, q with
  | some (some v), q => exact ⟨v, e, q⟩
theorem pe_fldG {X : Cx} {Γ : Gam} {sc : Scope} {k : Nat} {a : Expr} {ta : TE} {f : Str} {p : Pos} (C : Ctx X Γ sc k) (hn : noCall0 a = true) (ha : PE X a ta) :
    PE X (.Attribute a f p) (fun σ H Q => ta σ H fun x H1 => match x with
      | .ref p => match H1 p with
        | some (.exo C (some d)) => match H1 d with | some (.xd fs) => Γ.fo C f = true ∧ (match fs.lookup f with | some v => Q v H1 | none => False) | _ => False
        | _ => False
      | _ => False) := by
  intro pins s σ H Q I q
  refine attr_of (base_of hn) (thn (ha pins s σ H _ I q) fun u s1 ⟨x, H1, I1, rx, q1⟩ => ?_)
  cases x with
  | ref p =>
    cases (show u = Value.ref p from rx)
    dsimp only at q1
    split at q1
    · rename_i Ca d he
      split at q1
      · rename_i fs hd
        obtain ⟨qf, q1⟩ := q1
        obtain ⟨xr, na⟩ := C.g.fo _ _ qf
        split at q1
        · rename_i v hl
          exact getexc_ok I1 he hd xr na hl fun u s2 I2 ru => ⟨v, H1, I2, ru, q1⟩
        · exact q1.elim
      · exact q1.elim
    · exact q1.elim
  | _ => exact q1.elim
theorem pe_isinG {X : Cx} {Γ : Gam} {sc : Scope} {k : Nat} {a : Expr} {ta : TE} {T : Ty} {p py pos : Pos} (C : Ctx X Γ sc k) (hg : Gl X "isinstance") (ha : PE X a ta) (hp : plainE a = true) (hy : Gl X T.name) (ho : okName T.name = true) :
    PE X (.Call (.Name "isinstance" p) [a, .Name T.name py] [] pos) (fun σ H Q => ta σ H fun x H1 => match (generalizing := false) T with
      | .own c => (match x with | .ref p => (match H1 p with | some (.exo C d) => hasXd H1 d = true ∧ (match Γ.sub C c with | some b => Q (.bl b) H1 | none => False) | _ => False) | _ => False)
      | T => known Γ.mod H1 x = true ∧ Q (.bl (isTy T H1 x)) H1) := by
  refine pe_isin C hg ha hp hy ho fun pins s σ H x v Q I rx q => ?_
  cases T with
  | own c => exact isin_own C I q rx
  | str => exact isin_ty (T := .str) (n := "str") C I rx rfl q
  | int => exact isin_ty (T := .int) (n := "int") C I rx rfl q
  | bool => exact isin_ty (T := .bool) (n := "bool") C I rx rfl q
  | list => exact isin_ty (T := .list) (n := "list") C I rx rfl q
  | tuple => exact isin_ty (T := .tuple) (n := "tuple") C I rx rfl q
  | dict => exact isin_ty (T := .dict) (n := "dict") C I rx rfl q
theorem and_b {N : List Str} {b : Ex} {tl : List Expr} {p : Pos} (h : isAnd b = true) : ∃ x r, bE N b (.BoolOp .And tl p) = .BoolOp .And (x :: r) p := by
  cases b <;> first | exact ⟨_, _, rfl⟩ | cases h
theorem or_b {N : List Str} {b : Ex} {tl : List Expr} {p : Pos} (h : isOr b = true) : ∃ x r, bE N b (.BoolOp .Or tl p) = .BoolOp .Or (x :: r) p := by
  cases b <;> first | exact ⟨_, _, rfl⟩ | cases h
theorem row_and {N : List Str} {b : Ex} {a : Expr} {l : Bool} {e1 : Expr} {tl : List Expr} {p : Pos} {o1 o2 : Bool} {P : Expr → Prop} (h : cond l o1 (isAnd b && o2) = true)
    (h1 : o1 = true → P (.BoolOp .And [a, bE N b e1] p)) (h2 : o2 = true → ∀ x r, bE N b (.BoolOp .And tl p) = .BoolOp .And (x :: r) p → P (.BoolOp .And (a :: x :: r) p)) :
    P (.BoolOp .And (a :: cond l [bE N b e1] (ek (bE N b (.BoolOp .And tl p)))) p) := by
  cases l with
  | true => exact h1 h
  | false =>
    obtain ⟨h, ho⟩ := a2 h
    obtain ⟨x, r, e⟩ := and_b (N := N) (tl := tl) (p := p) h
    rw [e]
    exact h2 ho x r e
theorem row_or {N : List Str} {b : Ex} {a : Expr} {l : Bool} {e1 : Expr} {tl : List Expr} {p : Pos} {o1 o2 : Bool} {P : Expr → Prop} (h : cond l o1 (isOr b && o2) = true)
    (h1 : o1 = true → P (.BoolOp .Or [a, bE N b e1] p)) (h2 : o2 = true → ∀ x r, bE N b (.BoolOp .Or tl p) = .BoolOp .Or (x :: r) p → P (.BoolOp .Or (a :: x :: r) p)) :
    P (.BoolOp .Or (a :: cond l [bE N b e1] (ek (bE N b (.BoolOp .Or tl p)))) p) := by
  cases l with
  | true => exact h1 h
  | false =>
    obtain ⟨h, ho⟩ := a2 h
    obtain ⟨x, r, e⟩ := or_b (N := N) (tl := tl) (p := p) h
    rw [e]
    exact h2 ho x r e
theorem pe_bltN {X : Cx} {Γ : Gam} {sc : Scope} {k : Nat} {f : Bf} {es : List Expr} {t : TA} {p pos : Pos} (C : Ctx X Γ sc k) (hg : isGl sc f.name = true) (ho : okName f.name = true) (h0 : es.length ≠ 0) (ha : PA X es t) (hp : ∀ e' ∈ es, plainE e' = true) :
    PE X (.Call (.Name f.name p) es [] pos) (fun σ H Q => Γ.cm = true ∧ t σ H fun vs H1 => bltV Γ.mod f vs H1 Q) := by
  intro pins s σ H Q I ⟨hc, q⟩
  cases es with
  | nil => exact absurd rfl h0
  | cons e es => exact pe_bltG (C.calm hc) C.g.mod f rfl (C.gl _ hg) (C.g.no _ (bf_in f)) ho ha hp pins s σ H Q I q
theorem pe_mthN {X : Cx} {Γ : Gam} {m : Mf} {o : Expr} {es : List Expr} {apos cpos : Pos} {to : TE} {t : TA} (mo : ModOk X.K Γ.mod) (ho : PE X o to) (hn : noCall0 o = true) (hl : (apos.endLine == cpos.line) = true) (hf : es.length < 20) (ha : PA X es t) (hp : ∀ e' ∈ es, plainE e' = true) (h0 : es = [] → t = fun _ H Q => Q [] H) :
    PE X (.Call (.Attribute o m.name apos) es [] cpos) (fun σ H Q => to σ H fun x H1 => mty Γ.mod m x H1 = true ∧ t σ H1 fun vs H2 => mthV Γ.mod m x vs H2 Q) := by
  cases es with
  | nil => rw [h0 rfl]; exact pe_mth0 mo ho hn hl
  | cons e es => exact pe_mth mo ho ha hp hn hl hf
theorem nil_of {N : List Str} {Γ : Gam} {Ξ : XS} {es : List Expr} : ∀ (args : Exs), bEs N args es = [] → wEs Γ args Ξ = fun _ H Q => Q [] H
  | .nil, _ => rfl
  | .cons _ _, h => nomatch (show _ :: _ = [] from h)
theorem cN {P : List Str → Prop} {a b : List Str} (e : a = b) (h : P a) : P b := e ▸ h
theorem pt_val {X : Cx} {Γ : Gam} {sc : Scope} {k : Nat} {e : Expr} {te : TE} {t : TT} (C : Ctx X Γ sc k) (h : PE X e te) (hl : ∀ whole, isTrue e X.env whole = (do let v ← whole; standAt e.pos; holding [v] (truthy v))) (i : ∀ σ H Q, t σ H Q → te σ H fun x H1 => truV Γ.mod x H1 fun k => Q k H1) : PT X e t :=
  PT.of (pt_tru C.g.mod h hl) i
mutual
theorem sE : (e : Ex) → ∀ {X : Cx} {sc : Scope} {Ξ : XS} {ast : Expr}, Ctx X Γ sc k → XOk X Ξ → oE sc X.N e ast = true → PE X (bE X.N e ast) (wE Γ e Ξ)
  | .var i => fun C xo h => pe_varG C (a2 h).1 (a2 (a2 h).2)
  | .con v => fun C xo h => pe_conV h
  | .glob x => fun C xo h => pe_globG C (a2 h).1 (a2 h).2
  | .bin op a b => fun C xo h => pe_op (bin_ok C.g.mod op) (sE a C xo (a2 h).1) (sE b C xo (a2 h).2)
  | .neg a => fun C xo h => pe_un un_negV (sE a C xo h)
  | .cmp op a b => fun C xo h => pe_cmpR (cmp_ok C.un C.g.mod op) (sE a C xo (a2 h).1) (sE b C xo (a2 h).2) (one_marks (bE_plain b))
  | .cmp2 o1 o2 a b c => fun C xo h => pe_chain (cmp_ok C.un C.g.mod o1) (cmp_ok C.un C.g.mod o2) (sE a C xo (a2 h).1) (sE b C xo (a2 (a2 h).2).1) (sE c C xo (a2 (a2 h).2).2) (chain_marks (bE_plain c))
  | .and a b => fun C xo h => row_and (P := fun e => PE _ e (wE Γ (.and a b) _)) (a2 h).2
      (fun h2 => pe_andV C.g.mod (sE a C xo (a2 h).1) (pe_one (sE b C xo h2)))
      (fun h2 x r e => pe_andV C.g.mod (sE a C xo (a2 h).1) (e ▸ sE b C xo h2))
  | .or a b => fun C xo h => row_or (P := fun e => PE _ e (wE Γ (.or a b) _)) (a2 h).2
      (fun h2 => pe_orV C.g.mod (sE a C xo (a2 h).1) (pe_one (sE b C xo h2)))
      (fun h2 x r e => pe_orV C.g.mod (sE a C xo (a2 h).1) (e ▸ sE b C xo h2))
  | .not a => fun C xo h => pe_notV C.g.mod (sE a C xo h)
  | .call f args => fun C xo h => pe_callG C xo (C.gl _ (a2 (a2 h).1).1) (a2 (a2 h).1).2 (sEs args C xo (a2 h).2) (bEs_plain args) (nil_of args)
  | .blt f args => fun C xo h => pe_bltN C (a2 (a2 h).1).1 (a2 (a2 h).1).2 (by rw [bEs_len]; exact of_decide_eq_true (a2 (a2 (a2 h).2).1).2) (sEs args C xo (a2 (a2 h).2).2) (bEs_plain args)
  | .mth m o args => fun C xo h => pe_mthN C.g.mod (sE o C xo (a2 (a2 (a2 h).2).2).1) (a2 (a2 h).1).1 (a2 (a2 h).1).2 (by rw [bEs_len]; exact of_decide_eq_true (a2 (a2 h).2).1) (sEs args C xo (a2 (a2 (a2 h).2).2).2) (bEs_plain args) (nil_of args)
  | .isin a T => fun C xo h => pe_isinG C (C.gl _ (a2 (a2 h).1).1) (sE a C xo (a2 h).2) (bE_plain a) (C.gl _ (a2 (a2 (a2 h).1).2).1) (a2 (a2 (a2 h).1).2).2
  | .fld a f => fun C xo h => pe_fldG C (a2 h).1 (sE a C xo (a2 h).2)
  | .idx a b => fun C xo h => pe_ix (idx_ok C.g.mod) (sE a C xo (a2 h).1) (sE b C xo (a2 h).2) (plain_ix (bE_plain b))
  | .slc a lo hi => fun C xo h => pe_slice (slc_ok C.g.mod) (sE a C xo (a2 h).1) (sP lo C xo (a2 (a2 h).2).1) (sP hi C xo (a2 (a2 h).2).2)
  | .tup es => fun C xo h => pe_tupM C.g.mod (sEs es C xo h)
  | .lst es => fun C xo h => pe_lstM C.g.mod (sEs es C xo h)
  | .sset a => fun C xo h pins s σ H Q I q => pe_sset (C.calm q.1) C.g.mod (C.gl _ (a2 (a2 h).1).1) (C.g.no _ (by decide +kernel)) (C.gl _ (a2 (a2 h).1).2) (C.g.no _ (by decide +kernel)) (sE a C xo (a2 h).2) (bE_plain a) pins s σ H Q I q.2
  | .comp x fv it elt ifs => fun C xo h pins s σ H Q I q =>
    pe_comp C.g.mod (C.calm q.1) C.cf (a2 (a2 h).1).1 (sI it C xo (a2 (a2 h).2).1)
      (fun X' c => cN (P := fun N => PE X' (bE N elt _) _) c.N (sE elt (C.comp c q.1) XOk.no (cN (P := fun N => oE _ N elt _ = true) c.N.symm (a2 (a2 (a2 h).2).2).1)))
      (fun X' c => cN (P := fun N => PTs X' (bEs N ifs _) _) c.N (sTs ifs (C.comp c q.1) XOk.no (cN (P := fun N => oEs _ N ifs _ = true) c.N.symm (a2 (a2 (a2 h).2).2).2) (of_decide_eq_true (a2 (a2 h).1).2)))
      (plain_fold (bI_plain it)) pins s σ H Q I q.2
theorem sT : (e : Ex) → ∀ {X : Cx} {sc : Scope} {Ξ : XS} {ast : Expr}, Ctx X Γ sc k → XOk X Ξ → oE sc X.N e ast = true → PT X (bE X.N e ast) (wT Γ e Ξ)
  | .and a b => fun C xo h => row_and (P := fun e => PT _ e (wT Γ (.and a b) _)) (a2 h).2
      (fun h2 => PW.pt (pw_and (sT a C xo (a2 h).1) (pw_and1 (sT b C xo h2))))
      (fun h2 x r e => PW.pt (pw_and (sT a C xo (a2 h).1) fun _ => (show PT _ (.BoolOp .And (x :: r) _) (wT Γ b _) from e ▸ sT b C xo h2)))
  | .or a b => fun C xo h => row_or (P := fun e => PT _ e (wT Γ (.or a b) _)) (a2 h).2
      (fun h2 => PW.pt (pw_or (sT a C xo (a2 h).1) (pw_or1 (sT b C xo h2))))
      (fun h2 x r e => PW.pt (pw_or (sT a C xo (a2 h).1) fun _ => (show PT _ (.BoolOp .Or (x :: r) _) (wT Γ b _) from e ▸ sT b C xo h2)))
  | .not a => fun C xo h => pt_not (sT a C xo h)
  | .cmp op a b => fun C xo h => pt_cmpR (cmp_ok C.un C.g.mod op) (sE a C xo (a2 h).1) (sE b C xo (a2 h).2) (one_marks (bE_plain b))
  | .cmp2 o1 o2 a b c => fun C xo h => pt_chain (cmp_ok C.un C.g.mod o1) (cmp_ok C.un C.g.mod o2) (sE a C xo (a2 h).1) (sE b C xo (a2 (a2 h).2).1) (sE c C xo (a2 (a2 h).2).2) (chain_marks (bE_plain c))
  | .var i => fun C xo h => pt_val C (sE (.var i) C xo h) (fun _ => rfl) fun σ H Q q => q
  | .call f args => fun C xo h => pt_val C (sE (.call f args) C xo h) (fun _ => rfl) fun σ H Q q => q
  | .blt f args => fun C xo h => pt_val C (sE (.blt f args) C xo h) (fun _ => rfl) fun σ H Q q => q
  | .mth m o args => fun C xo h => pt_val C (sE (.mth m o args) C xo h) (fun _ => rfl) fun σ H Q q => q
  | .isin a T => fun C xo h => pt_val C (sE (.isin a T) C xo h) (fun _ => rfl) fun σ H Q q => by cases T <;> exact q
  | .idx a b => fun C xo h => pt_val C (sE (.idx a b) C xo h) (fun _ => rfl) fun σ H Q q => q
  | .con v => fun C xo h => pt_val C (sE (.con v) C xo h) (fun _ => rfl) fun σ H Q q => q
  | .glob x => fun C xo h => PT.never fun σ H Q q => q
  | .bin op a b => fun C xo h => PT.never fun σ H Q q => q
  | .neg a => fun C xo h => PT.never fun σ H Q q => q
  | .fld a f => fun C xo h => PT.never fun σ H Q q => q
  | .slc a lo hi => fun C xo h => PT.never fun σ H Q q => q
  | .tup es => fun C xo h => PT.never fun σ H Q q => q
  | .lst es => fun C xo h => PT.never fun σ H Q q => q
  | .sset a => fun C xo h => PT.never fun σ H Q q => q
  | .comp x fv it elt ifs => fun C xo h => PT.never fun σ H Q q => q
theorem sP : (es : Exs) → ∀ {X : Cx} {sc : Scope} {Ξ : XS} {ast : Expr}, Ctx X Γ sc k → XOk X Ξ → oEs sc X.N es [ast] = true → PO X (bEs X.N es [ast]).head? (wP Γ es Ξ)
  | .nil => fun C xo h => po_none
  | .cons e .nil => fun C xo h => po_int (sE e C xo (a2 h).1)
  | .cons e (.cons f r) => fun C xo h pins s σ H Q I q => False.elim q
theorem sTs : (es : Exs) → ∀ {X : Cx} {sc : Scope} {Ξ : XS} {asts : List Expr}, Ctx X Γ sc k → XOk X Ξ → oEs sc X.N es asts = true → es.len ≤ 1 → PTs X (bEs X.N es asts) (wTs Γ es Ξ)
  | .nil => fun C xo h hl => pts_nil
  | .cons e .nil => fun C xo h hl => pts_one (sT e C xo (a2 h).1)
  | .cons e (.cons _ r) => fun C xo h hl => absurd (Nat.le_of_succ_le_succ hl) (Nat.not_succ_le_zero _)
theorem sI : (it : Ix) → ∀ {X : Cx} {sc : Scope} {Ξ : XS} {tg ast : Expr}, Ctx X Γ sc k → XOk X Ξ → oI sc X.N it ast = true → PI X tg (bI X.N it ast) (iSeq (wI Γ it Ξ))
  | .ex e => fun C xo h pins s σ H R I ⟨kk, hw, hk⟩ =>
    thn (sE e C xo h pins s σ H _ I hw) fun v s1 ⟨x, H1, I1, r1, q1⟩ => pi_val C.g.mod I1 r1 (iterV_mono q1 fun xs stay q J sq => hk J xs stay H1 sq q)
  | .rng1 a => fun C xo h => pi_rng1 (C.gl _ (a2 h).1) (C.g.no _ in_range) (sE a C xo (a2 h).2) (bE_plain a)
theorem sEs : (es : Exs) → ∀ {X : Cx} {sc : Scope} {Ξ : XS} {asts : List Expr}, Ctx X Γ sc k → XOk X Ξ → oEs sc X.N es asts = true → PA X (bEs X.N es asts) (wEs Γ es Ξ)
  | .nil => fun C xo h => pa_nil
  | .cons e r => fun C xo h => pa_cons (sE e C xo (a2 h).1) (sEs r C xo (a2 h).2) (star_cons (bE_plain e))
end
end
end Sw
namespace Sw
open PySem PySem.Spec PyProof.Rows L2
open PySem.W (Frag keepIn ktsIn mroIn kitOne)
structure SCtx (X : Cx) (Γ : Gam) (sc : Scope) (k : Nat) : Prop extends Ctx X Γ sc k where
  nd : X.N.Nodup
  loc : ∀ x, isLoc sc x = true → Loc X.env.scope x ∧ (X.fn x = true ∨ X.env.scope.names.lookup x = some .local)
  lcl : ∀ x, sc.names.lookup x = some .local → X.env.scope.names.lookup x = some .local
  stk : X.stack = X.env :: X.outer ∧ X.env.frame = some X.env.locals
  ru : RoomU (k + 1) X.A
  ih : Γ.hd = true → InHand X
section
variable {X : Cx} {Γ : Gam} {sc : Scope} {k : Nat}
theorem SCtx.nox (C : SCtx X Γ sc k) : SCtx X.nox Γ sc k := ⟨⟨C.g, C.room, C.calm, C.un, C.vis, C.gl, C.cf⟩, C.nd, C.loc, C.lcl, C.stk, C.ru, C.ih⟩
theorem SCtx.deep (C : SCtx X Γ sc k) (pins : List (Addr × Obj)) (E : Value → Shared → Prop) : SCtx (Cx.deep X pins E) Γ sc k := ⟨⟨C.g, C.room, C.calm, C.un, C.vis, C.gl, C.cf⟩, C.nd, C.loc, C.lcl, C.stk, C.ru, fun h => let ⟨h0, o0, vs0, h1, h2, h3⟩ := C.ih h; ⟨h0, o0, vs0, h1, List.mem_append_left _ h2, h3⟩⟩
theorem SCtx.held (C : SCtx X Γ sc k) (e : Addr) : SCtx (Cx.held X e) Γ.hush sc k :=
  ⟨⟨C.g.hush, fun h => absurd (show false = true from h) Bool.false_ne_true, fun h => absurd (show false = true from h) Bool.false_ne_true, by show (X.A.mark _).units + 64 < cLine; rw [mark_units]; exact C.un, C.vis, C.gl, C.cf⟩, C.nd, C.loc, C.lcl, C.stk, C.ru.mark, fun h => absurd (show false = true from h) Bool.false_ne_true⟩
theorem SCtx.hold (C : SCtx X Γ sc k) (e : Addr) (o : Obj) {vs : Array Value} (h1 : o.data = .fields vs) (h2 : vs[2]? = some .none) : SCtx (Cx.hold X e o) Γ.grip sc k :=
  ⟨⟨C.g.grip, fun h => absurd (show false = true from h) Bool.false_ne_true, fun h => absurd (show false = true from h) Bool.false_ne_true, by show (X.A.mark _).units + 64 < cLine; rw [mark_units]; exact C.un, C.vis, C.gl, C.cf⟩, C.nd, C.loc, C.lcl, C.stk, C.ru.mark,
    fun _ => ⟨e, o, vs, by first | rfl | (unfold Around.mark; rfl), List.mem_append_right _ (by simp), h1, h2⟩⟩
theorem PS.nox {st : Stmt} {t : TS} (h : PS X.nox st t) : PS X st t := fun pins s σ H D I hw =>
  wpAny_mono (h pins s σ H D (I.wish _) hw) (fun _ _ q => q.unwish) fun _ _ z => False.elim z
theorem PS.of {st : Stmt} {t t' : TS} (h : PS X st t) (i : ∀ D σ H, t' D σ H → t D σ H) : PS X st t' := fun pins s σ H D I q => h pins s σ H D I (i D σ H q)
theorem no_swap {e : Expr} {t : Option Expr} {n : Nat} {env : Env} (h : notComp e = true) : swapsWith e t n env = pure false := by
  cases e <;> first | rfl | cases h
theorem for_seq {i : Nat} {tb : TS} {J : It} {xs : List V} {stay : Hp → Prop} {D : Ends} {σ : L2.St} {H : Hp} (sq : SeqIt J xs stay) (h : forW i tb stay xs D σ H) :
    ∃ W : Nat → Nat → L2.St → Hp → Prop, (∃ m, W 0 m σ H) ∧ ∀ n m σ H, W n m σ H →
      (J.stop n H ∧ D.nx σ H) ∨ (J.go n H ∧ ∃ N : L2.St → Hp → Prop, (∀ σ' H', N σ' H' → ∃ m', m' < m ∧ W (n + 1) m' σ' H') ∧ ∀ x H', J.yld n H x H' → gName i x σ H' fun σ2 H2 => tb { D with nx := N, ct := N, bk := D.nx } σ2 H2) := by
  refine ⟨fun n m σ H => m = xs.length - n ∧ n ≤ xs.length ∧ forW i tb stay (xs.drop n) D σ H, ⟨xs.length, by simp, Nat.zero_le _, by simpa using h⟩, ?_⟩
  rintro n m σ H ⟨rfl, hn, hw⟩
  cases e : xs.drop n with
  | nil =>
    rw [e] at hw
    have hle : xs.length ≤ n := by simpa using e
    exact .inl ⟨sq.stop n H hw.1 hle, hw.2⟩
  | cons v r =>
    rw [e] at hw
    have hlt : n < xs.length := by
      have := congrArg List.length e
      simp at this
      omega
    have hvi : xs[n]? = some v := by
      have := congrArg (fun l => l[0]?) e
      simpa using this
    have hdr : xs.drop (n + 1) = r := by
      have := congrArg List.tail e
      simpa [List.tail_drop] using this
    refine .inr ⟨sq.go n H hw.1 hlt, forW i tb stay r D, fun σ' H' z => ⟨xs.length - (n + 1), by omega, rfl, hlt, by rw [hdr]; exact z⟩, fun x H' y => ?_⟩
    obtain ⟨eH, ev⟩ := sq.yld n H x H' hlt y hw.1
    subst eH
    rw [hvi] at ev
    obtain rfl : v = x := Option.some.inj ev
    exact hw.2
end
section
variable {X : Cx} {Γ : Gam} {sc : Scope} {k : Nat} {M : Mo}
theorem stoV_ok (hu : X.A.units + 64 < cLine) : PSet X (fun x k v H Q => stoV x k v H Q) := by
  intro pins s σ H o i v ov iv u Q I ro ri rv h
  unfold stoV at h
  cases o with
  | ref p =>
    dsimp only at h
    split at h
    · rename_i xs e
      cases i with
      | int j =>
        dsimp only at h
        split at h
        · rename_i n en
          exact set_list pins s σ H _ _ v ov iv u Q I ro ri rv ⟨_, _, _, _, rfl, rfl, e, en, h⟩
        · exact h.elim
      | _ => exact h.elim
    · exact h.elim
  | _ => exact h.elim
theorem ps_sto {o i value : Expr} {to ti tv : TE} {pos pos' : Pos} (hu : X.A.units + 64 < cLine) (ho : PE X o to) (hi : PE X i ti) (hv : PE X value tv) (hs : swapsWith value (some (.Subscript o i pos')) pos.line X.env = pure false) :
    PS X (.Assign [.Subscript o i pos'] value pos) (fun D σ H => tv σ H fun v H1 => to σ H1 fun x H2 => ti σ H2 fun k H3 => stoV x k v H3 (D.nx σ)) := by
  intro pins s σ H D I h
  refine wpAny_Assign_Subscript (thn (hv pins s σ H _ I h) fun r s1 ⟨v, H1, I1, rv, q1⟩ => thn (ho pins s1 σ H1 _ I1 q1) fun u s2 ⟨x, H2, I2, rx, q2⟩ => thn (hi pins s2 σ H2 _ I2 q2) fun iv s3 ⟨y, H3, I3, ry, q3⟩ => ?_) hs
  exact thn (stoV_ok hu pins s3 σ H3 x y v u iv r _ I3 rx ry rv q3) fun _ s4 ⟨H4, I4, q4⟩ => ⟨σ, H4, I4, q4⟩
noncomputable def gNames : List Nat → TGs
  | [] => gNil
  | i :: is => gCons (gName i) (gNames is)
theorem gNames_all : ∀ {is : List Nat} {xs : List V} {σ : L2.St} {H : Hp} {Q : L2.St → Hp → Prop}, xs.length = is.length → Q (setAll σ is xs) H → gNames is xs σ H Q
  | [], [], σ, H, Q, _, q => ⟨rfl, q⟩
  | i :: is, x :: xs, σ, H, Q, hl, q => ⟨x, xs, rfl, gNames_all (by simpa using hl) q⟩
  | [], _ :: _, _, _, _, hl, _ => by simp at hl
  | _ :: _, [], _, _, _, hl, _ => by simp at hl
theorem bN_map : ∀ (is : List Nat) {ts : List Expr} {N : List Str} {env : Env}, assignEach (bN N is ts) env = (bN N is ts).map fun t => (false, assign t env)
  | [], _, _, _ => rfl
  | _ :: is, ts, N, env => congrArg (_ :: ·) (bN_map is (ts := ts.tail) (N := N) (env := env))
theorem bN_length : ∀ (is : List Nat) {ts : List Expr} {N : List Str}, (bN N is ts).length = is.length
  | [], _, _ => rfl
  | _ :: is, _, _ => congrArg (· + 1) (bN_length is)
theorem bN_len {is : List Nat} {ts : List Expr} {N : List Str} {env : Env} : (assignEach (bN N is ts) env).length = is.length := by
  rw [bN_map, List.length_map, bN_length]
theorem bN_star {is : List Nat} {ts : List Expr} {N : List Str} {env : Env} : (assignEach (bN N is ts) env).findIdx? (·.1) = none := by
  rw [bN_map, List.findIdx?_eq_none_iff]
  intro x hx
  obtain ⟨t, _, rfl⟩ := List.mem_map.mp hx
  rfl
theorem pgs_names (C : SCtx X Γ sc k) : ∀ {is : List Nat} {ts : List Expr}, oN sc X.N is = true → PGs X (bN X.N is ts) (gNames is)
  | [], _, _ => pgs_nil
  | i :: is, _, h => pgs_cons (pg_name C.nd (nx_get (a2 (a2 h).1).1) (C.loc _ (a2 (a2 h).1).2).1 (C.loc _ (a2 (a2 h).1).2).2) (pgs_names C (a2 h).2) rfl
theorem ps_asgT (mo : ModOk X.K M) (hc : X.calm = true) {is : List Nat} {ts : List Expr} {e : Expr} {te : TE} {kt} {pt pos : Pos} (hp : PGs X ts (gNames is)) (hn : (assignEach ts X.env).length = is.length) (hst : (assignEach ts X.env).findIdx? (·.1) = none) (he : PE X e te) (h1 : notComp e = true) (h2 : notTup e = true) :
    PS X (.Assign [.Tuple ts kt pt] e pos) (fun D σ H => te σ H fun x H1 => match x with | .ref p => (match rd M H1 p with | some (.tup xs) => xs.length = is.length ∧ D.nx (setAll σ is xs) H1 | _ => False) | _ => False) := by
  intro pins s σ H D I h
  refine wpAny_Assign_stores (thn (he pins s σ H _ I h) fun v s1 ⟨x, H1, I1, r1, q1⟩ => ?_) (show swapsWith e (some (.Tuple ts kt pt)) pos.line X.env = pure false from no_swap h1) (by cases e <;> first | rfl | cases h2)
  cases x with
  | ref p =>
    dsimp only at q1
    split at q1
    · rename_i xs ex
      exact thn (pg_tup (k := kt) hc hp hn hst pins s1 σ H1 (.ref p) v D.nx I1 r1 ⟨p, xs, rfl, rd_tup mo ex, q1.1, gNames_all q1.1 q1.2⟩) fun _ s2 q => q
    · exact q1.elim
  | _ => exact q1.elim
end
theorem comp_b {N : List Str} {e : Ex} {a : Expr} (h : (!isComp e) = true) : notComp (bE N e a) = true := by
  cases e <;> first | rfl | cases h
theorem tup_b {N : List Str} {e : Ex} {a : Expr} (h : (!isTup e) = true) : notTup (bE N e a) = true := by
  cases e <;> first | rfl | cases h
section
variable {X : Cx} {Γ : Gam} {sc : Scope} {k : Nat} {Ξ : XS}
theorem ps_asgC {i : Nat} {x : Str} {fv : List (Str × Nat)} {it : Ix} {el : Ex} {ifs : Exs} {tp pos : Pos} {a : Expr} (C : SCtx X Γ sc k) (xo : XOk X Ξ) (h1 : X.N[i]? = some (nx X.N i)) (h2 : isLoc sc (nx X.N i) = true) (h3 : usedOk sc (csc a) (nx X.N i) tp a.pos = true) (h : oE sc X.N (.comp x fv it el ifs) a = true) :
    PS X (.Assign [.Name (nx X.N i) tp] (bE X.N (.comp x fv it el ifs) a) pos) (wS (.asg i (.comp x fv it el ifs)) Γ Ξ) := by
  obtain ⟨k1, k0⟩ := a2 h3
  obtain ⟨k2, k3⟩ := a2 k0
  have k1 := of_decide_eq_true k1
  have k3 := (Bool.not_eq_true' _).mp k3
  intro pins s σ H D I ⟨hc, q⟩
  refine ps_setC C.g.mod (C.calm hc) C.cf (a2 (a2 h).1).1 (sI _ _ it C.toCtx xo (a2 (a2 h).2).1)
      (fun X' c => cN (P := fun N => PE X' (bE N el _) _) c.N (sE _ _ el (C.toCtx.comp c hc) XOk.no (cN (P := fun N => oE _ N el _ = true) c.N.symm (a2 (a2 (a2 h).2).2).1)))
      (fun X' c => cN (P := fun N => PTs X' (bEs N ifs _) _) c.N (sTs _ _ ifs (C.toCtx.comp c hc) XOk.no (cN (P := fun N => oEs _ N ifs _ = true) c.N.symm (a2 (a2 (a2 h).2).2).2) (of_decide_eq_true (a2 (a2 h).1).2)))
      (plain_fold (bI_plain it)) C.nd h1 (C.loc _ h2).1 (C.loc _ h2).2 ?_ pins s σ H D I q
  have e1 : (X.env.kindOf (nx X.N i) == some .local) = true := by
    have := C.lcl _ k1
    show (X.env.scope.names.lookup (nx X.N i) == some .local) = true
    rw [this]; rfl
  have e2 : (X.env.blockKind == .function) = true := by
    unfold Env.blockKind
    rw [I.ok.kind]; rfl
  show (pure (X.env.blockKind == .function && X.env.kindOf (nx X.N i) == some .local && tp.line == a.pos.line && !((csc a).names.any fun (n, k) => n == nx X.N i && (k == .local || k == .cell))) : Sem Bool) = _
  rw [e1, e2, k2, k3]
  rfl
theorem ps_asgE {i : Nat} {e : Ex} {tp pos : Pos} {a : Expr} (C : SCtx X Γ sc k) (xo : XOk X Ξ) (hi : decide (i < X.N.length) = true) (hl : isLoc sc (nx X.N i) = true) (hu : (!isComp e || usedOk sc (csc a) (nx X.N i) tp a.pos) = true) (he : oE sc X.N e a = true) :
    PS X (.Assign [.Name (nx X.N i) tp] (bE X.N e a) pos) (wS (.asg i e) Γ Ξ) := by
  rcases Bool.or_eq_true_iff.mp hu with hu | hu
  · exact ps_set C.nd (nx_get hi) (C.loc _ hl).1 (sE _ _ e C.toCtx xo he) (no_swap (comp_b hu)) (C.loc _ hl).2
  · cases hq : isComp e with
    | false => exact ps_set C.nd (nx_get hi) (C.loc _ hl).1 (sE _ _ e C.toCtx xo he) (no_swap (comp_b (by rw [hq]; rfl))) (C.loc _ hl).2
    | true => cases e <;> first | exact ps_asgC C xo (nx_get hi) hl (by assumption) he | cases hq
theorem ps_raisG {x : Str} {args : Exs} {as : List Expr} {p p2 p3 : Pos} (C : SCtx X Γ sc k) (xo : XOk X Ξ) (hg : isGl sc x = true) (ho : okName x = true) (h : oEs sc X.N args as = true) :
    PS X (.Raise (some (.Call (.Name x p) (bEs X.N args as) [] p2)) none p3) (wS (.rais x args) Γ Ξ) := by
  intro pins s σ H D I ⟨hc, q⟩
  split at q
  · rename_i c f he
    obtain ⟨fI, f', fd, ps, hf, hm, hk, xc, F, hb⟩ := C.g.exc _ _ _ he
    cases hf
    match args, h, q with
    | .cons e .nil, h, q => exact ps_raise C.g.mod ⟨xc, fd, ps, F, hb⟩ (C.room hc) (C.calm hc) (C.gl _ hg) hm hk xo (sE _ _ e C.toCtx xo (a2 h).1) (bE_plain e) (okName_of ho).1 pins s σ H D I q
    | .nil, _, q => exact q.elim
    | .cons _ (.cons _ _), _, q => exact q.elim
  · exact q.elim
theorem ps_raisFG {x : Str} {args : Exs} {as : List Expr} {n : Nat} {p p2 p3 p4 : Pos} (C : SCtx X Γ sc k) (xo : XOk X Ξ) (hg : isGl sc x = true) (ho : okName x = true) (h : oEs sc X.N args as = true) :
    PS X (.Raise (some (.Call (.Name x p) (bEs X.N args as) [] p2)) (some (.Constant .none n p4)) p3) (wS (.raisF x args) Γ Ξ) := by
  intro pins s σ H D I ⟨hc, q⟩
  split at q
  · rename_i c f he
    obtain ⟨fI, f', fd, ps, hf, hm, hk, xc, F, hb⟩ := C.g.exc _ _ _ he
    cases hf
    match args, h, q with
    | .cons e .nil, h, q => exact ps_raiseF C.g.mod ⟨xc, fd, ps, F, hb⟩ C.ru (C.ih hc) (C.gl _ hg) hm hk xo (sE _ _ e C.toCtx xo (a2 h).1) (bE_plain e) (okName_of ho).1 pins s σ H D I q
    | .nil, _, q => exact q.elim
    | .cons _ (.cons _ _), _, q => exact q.elim
  · exact q.elim
theorem ps_tryG {b : Sxs} {x : Str} {i : Option Nat} {body hb : List Stmt} {np hp pos : Pos} {th : TS} (C : SCtx X Γ sc k) (hg : isGl sc x = true) (ho : okName x = true) (hj : i.all (fun j => decide (j < X.N.length) && decide (sc.names.lookup (nx X.N j) = some .local)) = true) (h0 : hb ≠ [])
    (hB : ∀ pins E' Ξ', XOk (Cx.deep X pins E') Ξ' → PSs (Cx.deep X pins E') body (wSs b Γ Ξ')) (hH : HandOk X hb th i) :
    PS X (.Try body [.ExceptHandler (some (.Name x np)) (i.map (nx X.N)) hb hp] [] [] pos) (fun D σ H => Γ.cm = true ∧ Γ.cat x = true ∧ wSs b Γ (handW Γ.mod (fun c => Γ.sub c x == some true) th i D) D σ H) := by
  intro pins s σ H D I ⟨hc, hcat, q⟩
  obtain ⟨C2, hm, h2, hsub⟩ := C.g.cat _ hcat
  cases hb with
  | nil => exact absurd rfl h0
  | cons b0 r0 =>
    refine ps_try C.g.mod (tbf := fun Ξ' => wSs b Γ Ξ') C.stk (C.gl _ hg) hm (okName_of ho).1 h2 (fun c hs => hsub c (by simpa using hs)) hB hH C.nd ?_ pins s σ H D I q
    cases i with
    | none => trivial
    | some j => exact ⟨nx_get (a2 hj).1, C.lcl _ (of_decide_eq_true (a2 hj).2)⟩
theorem bSs_ne {N : List Str} {ss : List Stmt} : ∀ {h : Sxs}, nilX h = true → bSs N h ss ≠ []
  | .cons _ _, _ => List.cons_ne_nil _ _
end
mutual
theorem sS : (st : Sx) → ∀ {X : Cx} {Γ : Gam} {sc : Scope} {k : Nat} {Ξ : XS} {ast : Stmt}, SCtx X Γ sc k → XOk X Ξ → oS sc X.N st ast = true → PS X (bS X.N st ast) (wS st Γ Ξ)
  | .asg i e => fun C xo h => ps_asgE C xo (a2 (a2 h).1).1 (a2 (a2 h).1).2 (a2 (a2 h).2).1 (a2 (a2 h).2).2
  | .exp e => fun C xo h => ps_expr (sE _ _ e C.toCtx xo (a2 h).2) (no_swap (comp_b (a2 h).1))
  | .ret e => fun C xo h => ps_ret (sE _ _ e C.toCtx xo h)
  | .iff c a b => fun C xo h => ps_if (sT _ _ c C.toCtx xo (a2 h).1) (sSs a C xo (a2 (a2 h).2).1) (sSs b C xo (a2 (a2 h).2).2)
  | .fr i it b => fun C xo h pins s σ H D I q =>
    PS.nox (ps_for PassesOwn.never (C.calm q.1) (sI _ _ it C.nox.toCtx XOk.no (a2 (a2 h).2).1) (pg_name C.nd (nx_get (a2 (a2 h).1).1) (C.loc _ (a2 (a2 h).1).2).1 (C.loc _ (a2 (a2 h).1).2).2) (sSs b C.nox XOk.no (a2 (a2 h).2).2) (plain_fold (bI_plain it))) pins s σ H D I
      ⟨_, q.2, fun J xs stay H1 sq z => for_seq sq z⟩
  | .rais x args => fun C xo h => ps_raisG C xo (a2 (a2 h).1).1 (a2 (a2 h).1).2 (a2 h).2
  | .tryx b x i hs => fun C xo h => ps_tryG C (a2 (a2 h).1).1 (a2 (a2 h).1).2 (a2 (a2 h).2).1 (bSs_ne (a2 (a2 (a2 (a2 h).2).2).2).1)
      (fun pins E' Ξ' xo' => sSs b (C.deep pins E') xo' (a2 (a2 (a2 h).2).2).1)
      (match i with
        | none => fun e o vs z1 z2 ok0 => sSs hs (C.hold e o z1 z2) (XOk.hold xo ok0 C.stk) (a2 (a2 (a2 (a2 h).2).2).2).2
        | some j => fun e => sSs hs (C.held e) XOk.no (a2 (a2 (a2 (a2 h).2).2).2).2)
  | .sto o i e => fun C xo h => ps_sto C.un (sE _ _ o C.toCtx xo (a2 (a2 h).1).2) (sE _ _ i C.toCtx xo (a2 (a2 h).2).1) (sE _ _ e C.toCtx xo (a2 (a2 h).2).2) (no_swap (comp_b (a2 (a2 h).1).1))
  | .asgT is e => fun C xo h pins s σ H D I q => ps_asgT C.g.mod (C.calm q.1) (pgs_names C (a2 (a2 h).1).2) bN_len bN_star (sE _ _ e C.toCtx xo (a2 h).2) (comp_b (a2 (a2 (a2 h).1).1).1) (tup_b (a2 (a2 (a2 h).1).1).2) pins s σ H D I q.2
  | .raisF x args => fun C xo h => ps_raisFG C xo (a2 (a2 h).1).1 (a2 (a2 h).1).2 (a2 h).2
theorem sSs : (ss : Sxs) → ∀ {X : Cx} {Γ : Gam} {sc : Scope} {k : Nat} {Ξ : XS} {asts : List Stmt}, SCtx X Γ sc k → XOk X Ξ → oSs sc X.N ss asts = true → PSs X (bSs X.N ss asts) (wSs ss Γ Ξ)
  | .nil => fun C xo h => pss_nil
  | .cons s r => fun C xo h => pss_cons (sS s C xo (a2 h).1) (sSs r C xo (a2 h).2)
end
theorem sB {X : Cx} {Γ : Gam} {sc : Scope} {k : Nat} {Ξ : XS} {ss : Sxs} {asts : List Stmt} (C : SCtx X Γ sc k) (xo : XOk X Ξ) (h : mSs sc X.N ss asts) : PSs X asts (wSs ss Γ Ξ) := h.1 ▸ sSs ss C xo h.2
end Sw
namespace Sw
open PySem PySem.Spec PyProof.Rows L2
open PySem.W (Frag keepIn ktsIn mroIn kitOne)
noncomputable def spOf (Γ : Gam) (N : List Str) (n : Nat) (body : Sxs) : Sp := fun vs H Q E => vs.length = n ∧ wSs body Γ (fun C d _ H' => E C d H') { nx := fun _ H' => Q .non H', rt := Q } (start N vs) H
section
variable {P : Program} {w : World} {K : Frag} {mg : Str → Option Value} {base : Heap} {Γ : Gam} {k : Nat}
theorem fn_spOf {x qual : Str} {st : Stmt} {f : Addr} {fd : FuncData} {N ps : List Str} {body : Sxs} (F : Fun K x qual st f fd) (S : FnScope N ps (defScope st)) (g : GOk P w K mg base Γ k) (hm : mSs (defScope st) N body (defBody st)) (hhd : Γ.hd = false) :
    FnOk P w K mg base (CXW P w) (k + 2) f fd ps (spOf Γ N ps.length body) := by
  obtain ⟨oc, od, kV, doc, pm, an, cdv, ct, osl, rfl, lk, hcd⟩ := F.ex
  refine fn_of lk hcd S (fun vs H Q E h => h.1) fun A outer s H vs Q E hr hsp => ?_
  have C : SCtx (cxOf (CXW P w) P w K mg base N qual (defScope st) f cdv A outer s H E) Γ (defScope st) k := by
    refine ⟨⟨g, fun _ => hr, fun _ => rfl, hr.units, fun x h => ?_, fun x h => ?_, fun y h => h⟩, S.nd, fun x h => ⟨?_, .inl rfl⟩, fun x h => h, ⟨rfl, rfl⟩, RoomU.of hr, fun h => absurd (hhd.symm.trans h) Bool.false_ne_true⟩
    · unfold isVis at h
      unfold Vis
      split at h <;> first | (rename_i e; first | exact .inl e | exact .inr (.inl e) | exact .inr (.inr e)) | cases h
    · unfold isGl at h
      split at h <;> first | (rename_i e; exact e) | cases h
    · unfold isLoc at h
      unfold L2.Loc
      split at h <;> first | (rename_i e; first | exact .inl e | exact .inr e) | cases h
  exact ⟨_, sB C xok_def hm, hsp.2⟩
noncomputable def Gam.add (Γ : Gam) (f : Str) (sp : Sp) : Gam := { Γ with has := fun x => decide (x = f) || Γ.has x, fn := fun x => if x = f then sp else Γ.fn x }
theorem GOk.add {f : Str} {fa : Addr} {fd : FuncData} {ps : List Str} {sp : Sp} {j : Nat} (g : GOk P w K mg base Γ k) (hm : mg f = some (.ref fa)) (hk : keepIn K (.ref fa) = true) (F : FnOk P w K mg base (CXW P w) j fa fd ps sp) (hb : Binds K fd ps []) (h1 : j ≤ k) :
    GOk P w K mg base (Γ.add f sp) k := by
  refine ⟨g.mod, g.con, fun x hx => ?_, g.exc, g.no, g.sub, g.cat, g.fo⟩
  by_cases e : x = f
  · subst e
    exact ⟨fa, fd, ps, hm, hk, by show FnOk P w K mg base _ k fa fd ps (if x = x then sp else _); rw [if_pos rfl]; exact F.mono h1, hb⟩
  · have hx : (decide (x = f) || Γ.has x) = true := hx
    rw [decide_eq_false e, Bool.false_or] at hx
    obtain ⟨fa', fd', ps', h1, h2, h3, h4⟩ := g.fn x hx
    exact ⟨fa', fd', ps', h1, h2, by show FnOk P w K mg base _ k fa' fd' ps' (if x = f then sp else _); rw [if_neg e]; exact h3, h4⟩
theorem GOk.mono {j : Nat} (g : GOk P w K mg base Γ j) (h : j ≤ k) : GOk P w K mg base Γ k :=
  ⟨g.mod, g.con, fun f hf => let ⟨fa, fd, ps, h1, h2, h3, h4⟩ := g.fn f hf; ⟨fa, fd, ps, h1, h2, h3.mono h, h4⟩,
   fun C c fs e => let ⟨fI, f, fd, ps, h1, h2, h3, h4, h5, h6⟩ := g.exc C c fs e; ⟨fI, f, fd, ps, h1, h2, h3, h4, h5.mono h, h6⟩, g.no, g.sub, g.cat, g.fo⟩
noncomputable def Off (K : Frag) (H : Hp) : Prop := ∀ b o, K.lookup b = some o → H b = none
theorem FnOk.off {CX : CXT} {f : Addr} {fd : FuncData} {ps : List Str} {sp sp' : Sp} (F : FnOk P w K mg base CX k f fd ps sp) (len : ∀ vs H Q E, sp' vs H Q E → vs.length = ps.length) (h : ∀ vs H Q E, Off K H → sp' vs H Q E → sp vs H Q E) :
    FnOk P w K mg base CX k f fd ps sp' :=
  ⟨len, fun A outer s H args us vs Q E hr he hb hv hs => F.run A outer s H args us vs Q E hr he hb hv (h _ _ _ _ (fun b o e => (he.bs b o (he.mod.kin b o e)).2) hs)⟩
end
noncomputable def LstK (K : Frag) (a : Addr) (xs : List V) : Prop := ∃ (o : Obj) (its : Array Value) (n : Nat), K.lookup a = some o ∧ o.cls = .type "list" ∧ o.dict = none ∧ o.data = .seq its n ∧ its.size ≤ sizeLine ∧ Vals xs its.toList
noncomputable def TupK (K : Frag) (a : Addr) (xs : List V) : Prop := ∃ (o : Obj) (its : Array Value) (n : Nat), K.lookup a = some o ∧ o.cls = .type "tuple" ∧ o.data = .seq its n ∧ its.size ≤ sizeLine ∧ Vals xs its.toList
open Classical in
noncomputable def modK (K : Frag) : Mo := fun a => if h : ∃ xs, LstK K a xs then some (.lst h.choose) else if h : ∃ xs, TupK K a xs then some (.tup h.choose) else none
theorem modK_ok (K : Frag) : ModOk K (modK K) := by
  intro a o h
  unfold modK at h
  split at h
  · rename_i z; cases h; exact z.choose_spec
  · split at h
    · rename_i z; cases h; exact z.choose_spec
    · cases h
theorem modK_lst {K : Frag} {a : Addr} {xs : List V} (h : LstK K a xs) : modK K a = some (.lst xs) := by
  have z : ∃ xs, LstK K a xs := ⟨xs, h⟩
  unfold modK
  rw [dif_pos z]
  obtain ⟨o, its, n, h1, h2, h3, h4, h5, h6⟩ := h
  obtain ⟨o', its', n', k1, k2, k3, k4, k5, k6⟩ := z.choose_spec
  rw [h1] at k1; cases k1
  rw [h4] at k4; cases k4
  rw [Vals.inj k6 h6]
theorem modK_tup {K : Frag} {a : Addr} {xs : List V} (h : TupK K a xs) : modK K a = some (.tup xs) := by
  have z : ∃ xs, TupK K a xs := ⟨xs, h⟩
  have y : ¬ ∃ xs, LstK K a xs := fun ⟨ys, o, its, n, k1, k2, _⟩ => by
    obtain ⟨o', its', n', h1, h2, _⟩ := h
    rw [h1] at k1; cases k1
    rw [h2] at k2
    simp at k2
  unfold modK
  rw [dif_neg y, dif_pos z]
  obtain ⟨o, its, n, h1, h2, h4, h5, h6⟩ := h
  obtain ⟨o', its', n', k1, k2, k4, k5, k6⟩ := z.choose_spec
  rw [h1] at k1; cases k1
  rw [h4] at k4; cases k4
  rw [Vals.inj k6 h6]
theorem script_rd {K : Frag} {H : Hp} {a : Addr} {xs : List V} (off : Off K H) (h : SqL K H a xs) : rd (modK K) H a = some (.lst xs) := by
  unfold rd
  rcases h with (h | ⟨o, h⟩) | h
  · rw [h]
  · rw [h]
  · have z : LstK K a xs := h
    obtain ⟨o, _, _, h1, _⟩ := h
    rw [off a o h1]
    exact modK_lst z
end Sw
namespace Sw
open PySem PySem.Spec PyProof.Rows L2
open PySem.W (Frag keepIn)
noncomputable def Gam.wit (Γ : Gam) (l : List (Str × Sp)) : Gam := { Γ with has := fun x => (l.lookup x).isSome || Γ.has x, fn := fun x => (l.lookup x).getD (Γ.fn x) }
section
variable {P : Program} {w : World} {K : Frag} {mg : Str → Option Value} {base : Heap} {Γ : Gam} {k : Nat}
theorem GOk.wit0 (g : GOk P w K mg base Γ k) : GOk P w K mg base (Γ.wit []) k := ⟨g.mod, g.con, g.fn, g.exc, g.no, g.sub, g.cat, g.fo⟩
theorem GOk.wit1 {l : List (Str × Sp)} {f : Str} {fa : Addr} {fd : FuncData} {ps : List Str} {sp : Sp} {j : Nat} (g : GOk P w K mg base (Γ.wit l) k) (hm : mg f = some (.ref fa)) (hk : keepIn K (.ref fa) = true) (F : FnOk P w K mg base (CXW P w) j fa fd ps sp) (hb : Binds K fd ps []) (h1 : j ≤ k) :
    GOk P w K mg base (Γ.wit ((f, sp) :: l)) k := by
  refine ⟨g.mod, g.con, fun x hx => ?_, g.exc, g.no, g.sub, g.cat, g.fo⟩
  have e : ∀ x, ((f, sp) :: l).lookup x = if x == f then some sp else l.lookup x := fun x => by
    rw [List.lookup_cons]
    cases x == f <;> rfl
  have hx : ((((f, sp) :: l).lookup x).isSome || Γ.has x) = true := hx
  show ∃ fa fd ps, _ ∧ _ ∧ FnOk P w K mg base (CXW P w) k fa fd ps ((((f, sp) :: l).lookup x).getD (Γ.fn x)) ∧ _
  rw [e] at hx ⊢
  by_cases q : x = f
  · subst q
    rw [beq_self_eq_true, if_pos rfl]
    exact ⟨fa, fd, ps, hm, hk, F.mono h1, hb⟩
  · have q' : (x == f) = false := by simpa using q
    rw [q'] at hx ⊢
    rw [if_neg Bool.false_ne_true] at hx ⊢
    exact g.fn x hx
end
section
variable {K : Frag} {x qual : Str} {st : Stmt} {f : Addr} {fd : FuncData}
@[reducible] noncomputable def bindsAs (x qual : Str) (st : Stmt) (ps : List Str) (us : List Value) : Prop := ∀ (kV doc pm : Value) (an : Option Addr) (cdv ct : Value), bindArgs (PySem.W.fnOf x qual (defArgs st) (defBody st) (defScope st) .none kV doc pm an cdv ct) ⟨us, []⟩ = pure (ps.zip us)
theorem len_one {α : Type} : ∀ {us : List α}, us.length = 1 → ∃ a, us = [a]
  | [a], _ => ⟨a, rfl⟩
theorem len_two {α : Type} : ∀ {us : List α}, us.length = 2 → ∃ a b, us = [a, b]
  | [a, b], _ => ⟨a, b, rfl⟩
theorem len_three {α : Type} : ∀ {us : List α}, us.length = 3 → ∃ a b c, us = [a, b, c]
  | [a, b, c], _ => ⟨a, b, c, rfl⟩
theorem binds_1 {p : Str} (F : Fun K x qual st f fd) (h : ∀ a, bindsAs x qual st [p] [a]) : Binds K fd [p] [] := F.binds fun kV doc pm an cdv ct us hl => by
  obtain ⟨a, rfl⟩ := len_one hl
  exact h a kV doc pm an cdv ct
theorem binds_2 {p q : Str} (F : Fun K x qual st f fd) (h : ∀ a b, bindsAs x qual st [p, q] [a, b]) : Binds K fd [p, q] [] := F.binds fun kV doc pm an cdv ct us hl => by
  obtain ⟨a, b, rfl⟩ := len_two hl
  exact h a b kV doc pm an cdv ct
theorem binds_3 {p q r : Str} (F : Fun K x qual st f fd) (h : ∀ a b c, bindsAs x qual st [p, q, r] [a, b, c]) : Binds K fd [p, q, r] [] := F.binds fun kV doc pm an cdv ct us hl => by
  obtain ⟨a, b, c, rfl⟩ := len_three hl
  exact h a b c kV doc pm an cdv ct
end
end Sw
namespace Sw
open PySem PySem.Spec PyProof.Rows L2
theorem comp_pure {te : TE} {fvs : L2.St} {D : Addr} {stay : Hp → Prop} {H0 : Hp} {k : Hp → Prop} (f : V → V) : ∀ (xs acc : List V), (∀ v ∈ xs, ∀ H Q, Q (f v) H → te (some v :: fvs) H Q) → (∀ l, stay (upd H0 D (.lst l))) → acc.length + xs.length ≤ sizeLine →
    k (upd H0 D (.lst (acc ++ xs.map f))) → compW te (fun _ H Q => Q true H) fvs D stay xs acc (upd H0 D (.lst acc)) k := by
  intro xs
  induction xs with
  | nil =>
    intro acc h1 h2 h3 h4
    exact ⟨h2 _, upd_same, by simpa using h4⟩
  | cons v r ih =>
    intro acc h1 h2 h3 h4
    refine ⟨h2 _, ?_⟩
    show if true = true then _ else _
    rw [if_pos rfl]
    refine h1 v List.mem_cons_self _ _ ⟨upd_same, by rw [List.length_cons] at h3; omega, ?_⟩
    rw [upd_upd]
    refine ih (acc ++ [f v]) (fun v hv => h1 v (List.mem_cons_of_mem _ hv)) h2 (by rw [List.length_append]; simp at h3 ⊢; omega) ?_
    simpa using h4
theorem for_inv {i : Nat} {tb : TS} {stay : Hp → Prop} {D : Ends} {xs : List V} (Pv : Nat → L2.St → Hp → Prop) (st : ∀ n σ H, Pv n σ H → stay H)
    (step : ∀ n v σ H (D' : Ends), xs[n]? = some v → Pv n σ H → (∀ σ' H', Pv (n + 1) σ' H' → D'.nx σ' H') → (∀ σ' H', Pv (n + 1) σ' H' → D'.ct σ' H') → D'.rt = D.rt → D'.bk = D.nx → tb D' (σ.set i (some v)) H)
    (fin : ∀ σ H, Pv xs.length σ H → D.nx σ H) {σ : L2.St} {H : Hp} (h0 : Pv 0 σ H) : forW i tb stay xs D σ H := by
  have go : ∀ (r : List V) (n : Nat), xs.drop n = r → n ≤ xs.length → ∀ σ H, Pv n σ H → forW i tb stay r D σ H := by
    intro r
    induction r with
    | nil =>
      intro n e hn σ H p
      have : xs.length ≤ n := by simpa using e
      have hn' : n = xs.length := by omega
      subst hn'
      exact ⟨st _ σ H p, fin σ H p⟩
    | cons v r ih =>
      intro n e hn σ H p
      have hlt : n < xs.length := by
        have := congrArg List.length e
        simp at this
        omega
      have hv : xs[n]? = some v := by
        have := congrArg (fun l => l[0]?) e
        simpa using this
      have hr : xs.drop (n + 1) = r := by
        have := congrArg List.tail e
        simpa [List.tail_drop] using this
      exact ⟨st _ σ H p, step n v σ H _ hv p (fun σ' H' q => ih (n + 1) hr hlt σ' H' q) (fun σ' H' q => ih (n + 1) hr hlt σ' H' q) rfl rfl⟩
  exact go xs 0 (by simp) (Nat.zero_le _) σ H h0
structure Ext (M : Mo) (H H' : Hp) : Prop where
  same : ∀ a o, H a = some o → H' a = some o
  off : ∀ a, M a ≠ none → H a = none → H' a = none
theorem Ext.refl {M : Mo} {H : Hp} : Ext M H H := ⟨fun _ _ h => h, fun _ _ h => h⟩
theorem Ext.trans {M : Mo} {H H1 H2 : Hp} (a : Ext M H H1) (b : Ext M H1 H2) : Ext M H H2 := ⟨fun c o h => b.same c o (a.same c o h), fun c m h => b.off c m (a.off c m h)⟩
theorem Ext.upd {M : Mo} {H : Hp} {p : Addr} {o : HO} (h : H p = none) (m : M p = none) : Ext M H (upd H p o) :=
  ⟨fun b u e => by rw [upd_ne (ne_of_none e h)]; exact e, fun b mb e => by rw [upd_ne (fun z => mb (by rw [z]; exact m))]; exact e⟩
theorem Ext.upd2 {M : Mo} {H H' : Hp} {p : Addr} {o o' : HO} (h : H p = none) (m : M p = none) (x : Ext M (L2.upd H p o) H') : Ext M H (L2.upd H' p o') :=
  ⟨fun b u e => by
    have ne : b ≠ p := ne_of_none e h
    rw [upd_ne ne]
    exact x.same b u (by rw [upd_ne ne]; exact e), fun b mb e => by
    have ne : b ≠ p := fun z => mb (by rw [z]; exact m)
    rw [upd_ne ne]
    exact x.off b mb (by rw [upd_ne ne]; exact e)⟩
theorem Ext.rd {M : Mo} {H H' : Hp} {a : Addr} {u : HO} (s : Ext M H H') (e : rd M H a = some u) : rd M H' a = some u := by
  unfold Sw.rd at e ⊢
  cases q : H a with
  | none =>
    rw [q] at e
    rw [s.off a (by intro z; rw [z] at e; cases e) q]
    exact e
  | some o => rw [s.same a o q]; rw [q] at e; exact e
theorem rd_upd {M : Mo} {H : Hp} {p : Addr} {o : HO} (h : ∀ ob u, o ≠ .frz ob u) : Sw.rd M (L2.upd H p o) p = some o := by
  unfold Sw.rd
  rw [upd_same]
  cases o <;> first | rfl | exact absurd rfl (h _ _)
section
variable {M : Mo} {H : Hp} {Q : VK}
theorem v_add (i j : Int) : binV M .Add (.int i) (.int j) H Q = Q (.int (i + j)) H := rfl
theorem v_adds (x y : Str) : binV M .Add (.str x) (.str y) H Q = (x.length + y.length ≤ sizeLine ∧ Q (.str (x ++ y)) H) := rfl
theorem v_mul (i j : Int) : binV M .Mult (.int i) (.int j) H Q = ((bnd i || bnd j) = true ∧ Q (.int (i * j)) H) := rfl
theorem v_div (i j : Int) : binV M .FloorDiv (.int i) (.int j) H Q = (0 < j ∧ j < 1073741824 ∧ Q (.int (i / j)) H) := rfl
theorem v_mod (i j : Int) : binV M .Mod (.int i) (.int j) H Q = (0 < j ∧ Q (.int (i % j)) H) := rfl
theorem v_pow (i j : Int) : binV M .Pow (.int i) (.int j) H Q = (CPow i j ∧ Q (.int (i ^ j.toNat)) H) := rfl
theorem v_lt (i j : Int) : cmpV M .Lt (.int i) (.int j) H Q = Q (.bl (decide (i < j))) H := rfl
theorem v_le (i j : Int) : cmpV M .LtE (.int i) (.int j) H Q = Q (.bl (decide (i ≤ j))) H := rfl
theorem v_les (x y : Str) : cmpV M .LtE (.str x) (.str y) H Q = Q (.bl (!decide (y.cps.toList < x.cps.toList))) H := rfl
theorem v_ins (x y : Str) : cmpV M .In (.str x) (.str y) H Q = Q (.bl (!(Builtin.Str.occurrences y x 0 y.length 1).isEmpty)) H := rfl
theorem v_eqi (i j : Int) : cmpV M .Eq (.int i) (.int j) H Q = Q (.bl (decide (i = j))) H := by
  show Q (.bl (decide (V.int i = V.int j))) H = _
  simp only [V.int.injEq]
theorem v_nei (i j : Int) : cmpV M .NotEq (.int i) (.int j) H Q = Q (.bl (!decide (i = j))) H := by
  show Q (.bl (!decide (V.int i = V.int j))) H = _
  simp only [V.int.injEq]
theorem v_eqs (x y : Str) : cmpV M .Eq (.str x) (.str y) H Q = Q (.bl (decide (x = y))) H := by
  show Q (.bl (decide (V.str x = V.str y))) H = _
  simp only [V.str.injEq]
theorem v_nes (x y : Str) : cmpV M .NotEq (.str x) (.str y) H Q = Q (.bl (!decide (x = y))) H := by
  show Q (.bl (!decide (V.str x = V.str y))) H = _
  simp only [V.str.injEq]
theorem v_neb (x y : Bool) : cmpV M .NotEq (.bl x) (.bl y) H Q = Q (.bl (!decide (x = y))) H := by
  show Q (.bl (!decide (V.bl x = V.bl y))) H = _
  simp only [V.bl.injEq]
theorem v_eqb (x y : Bool) : cmpV M .Eq (.bl x) (.bl y) H Q = Q (.bl (decide (x = y))) H := by
  show Q (.bl (decide (V.bl x = V.bl y))) H = _
  simp only [V.bl.injEq]
theorem s_rr (a b : Addr) : scal (.ref a) (.ref b) = false := rfl
theorem v_is (x : V) : cmpV M .Is x .non H Q = Q (.bl (decide (x = .non))) H := by cases x <;> rfl
theorem v_muls (x : Str) (k : Int) : binV M .Mult (.str x) (.int k) H Q = ((-(2 ^ 63) ≤ k ∧ k < 2 ^ 63 ∧ x.length * k.toNat ≤ 16777216) ∧ Q (.str (Txt.mul x k)) H) := rfl
theorem v_cat (a b : Addr) : binV M .Add (.ref a) (.ref b) H Q = (match rd M H a, rd M H b with
    | some (.lst xs), some (.lst ys) => xs.length + ys.length ≤ sizeLine ∧ ∀ p, H p = none → M p = none → Q (.ref p) (upd H p (.lst (xs ++ ys)))
    | _, _ => False) := rfl
theorem m_join (x : Str) (p : Addr) : mthV M .join (.str x) [.ref p] H Q = (match rd M H p with | some (.lst xs) => (match allM asS xs with | some ts => JoinOk x ts = true ∧ Q (.str (Txt.join x ts)) H | none => False) | _ => False) := rfl
theorem m_split (x y : Str) : mthV M .split (.str x) [.str y] H Q = ((y.length == 0) = false ∧ x.length ≤ 1000000 ∧ ∀ l, H l = none → M l = none → Q (.ref l) (upd H l (.lst ((Txt.split x y).map V.str)))) := rfl
theorem m_append (p : Addr) (v : V) : mthV M .append (.ref p) [v] H Q = (match H p with | some (.lst xs) => xs.length < sizeLine ∧ Q .non (upd H p (.lst (xs ++ [v]))) | _ => False) := rfl
theorem t_bl (b : Bool) {R : Bool → Prop} : truV M (.bl b) H R = R b := rfl
theorem t_non {R : Bool → Prop} : truV M .non H R = R false := rfl
theorem t_int (i : Int) {R : Bool → Prop} : truV M (.int i) H R = R (i != 0) := rfl
theorem b_lens (x : Str) : bltV M .len [.str x] H Q = (x.length ≤ sizeLine ∧ Q (.int x.length) H) := rfl
theorem b_lenr (p : Addr) : bltV M .len [.ref p] H Q = (match rd M H p with | some (.lst xs) => Q (.int xs.length) H | some (.tup xs) => Q (.int xs.length) H | _ => False) := rfl
theorem b_str (i : Int) : bltV M .str [.int i] H Q = (i.natAbs.log2 < 1920 ∧ Q (.str (toString i)) H) := rfl
theorem b_int (x : Str) : bltV M .int [.str x] H Q = (x.length ≤ 640 ∧ match PySem.intText? x with | some n => Q (.int n) H | none => False) := rfl
theorem i_str (z : Str) (i : Int) : idxV M (.str z) (.int i) H Q = (z.length ≤ sizeLine ∧ match atI z.cps.toList i with | some c => Q (.str ⟨#[c]⟩) H | none => False) := rfl
theorem i_ref (p : Addr) (i : Int) : idxV M (.ref p) (.int i) H Q = (match rd M H p with | some (.lst xs) => (match atI xs i with | some v => Q v H | none => False) | some (.tup xs) => (match atI xs i with | some v => Q v H | none => False) | _ => False) := rfl
theorem s_str (z : Str) (lo hi : Option Int) : slcV M (.str z) lo hi H Q = (z.length ≤ sizeLine ∧ Q (.str (Txt.slice z lo hi)) H) := rfl
theorem s_ref (p : Addr) (lo hi : Option Int) : slcV M (.ref p) lo hi H Q = (match rd M H p with
    | some (.lst xs) => ∀ l, H l = none → M l = none → Q (.ref l) (upd H l (.lst (cutV xs lo hi)))
    | _ => False) := rfl
theorem m_sw (x y : Str) : mthV M .startswith (.str x) [.str y] H Q = Q (.bl (Txt.startswith x y)) H := rfl
theorem m_ew (x y : Str) : mthV M .endswith (.str x) [.str y] H Q = Q (.bl (Txt.endswith x y)) H := rfl
end
@[reducible] noncomputable def cps (x : Str) : List Nat := x.cps.toList
theorem len_cps (x : Str) : x.length = (cps x).length := by
  show x.cps.size = x.cps.toList.length
  simp
theorem lt_one {a b : Nat} : ([a] < [b]) ↔ a < b := by
  simp [List.cons_lt_cons_iff]
theorem seq {s : Sx} {r : Sxs} {Γ : Gam} {Ξ : XS} {D : Ends} {σ : L2.St} {H : Hp} (h : wS s Γ Ξ { D with nx := wSs r Γ Ξ D } σ H) : wSs (.cons s r) Γ Ξ D σ H := by
  rw [wSs]
  exact h
theorem seq0 {Γ : Gam} {Ξ : XS} {D : Ends} {σ : L2.St} {H : Hp} (h : D.nx σ H) : wSs .nil Γ Ξ D σ H := by
  rw [wSs]
  exact h
end Sw
namespace Sw
theorem r_get0 {α : Type} (a : α) (l : List α) : (a :: l)[0]? = some a := rfl
theorem r_getS {α : Type} (a : α) (l : List α) (n : Nat) : (a :: l)[n + 1]? = l[n]? := rfl
theorem r_set0 {α : Type} (a b : α) (l : List α) : (a :: l).set 0 b = b :: l := rfl
theorem r_setS {α : Type} (a b : α) (l : List α) (n : Nat) : (a :: l).set (n + 1) b = a :: l.set n b := rfl
theorem r_map0 {α β : Type} (f : α → β) : List.map f [] = [] := rfl
theorem r_mapS {α β : Type} (f : α → β) (a : α) (l : List α) : List.map f (a :: l) = f a :: List.map f l := rfl
theorem r_app0 {α : Type} (l : List α) : [] ++ l = l := rfl
theorem r_appS {α : Type} (a : α) (l m : List α) : (a :: l) ++ m = a :: (l ++ m) := rfl
theorem r_len0 {α : Type} : ([] : List α).length = 0 := rfl
theorem r_lenS {α : Type} (a : α) (l : List α) : (a :: l).length = l.length + 1 := rfl
theorem r_rep0 {α : Type} (a : α) : List.replicate 0 a = [] := rfl
theorem r_repS {α : Type} (a : α) (n : Nat) : List.replicate (n + 1) a = a :: List.replicate n a := rfl
theorem r_join {α : Type} (a : Option α) : (some a).join = a := rfl
end Sw
namespace Wd
open PySem PySem.Spec PyProof.Rows L2 Sw
@[reducible] noncomputable def N_made_of : List Str := ["text", "signs"]
noncomputable def b_made_of : Sxs := (.cons (.ret (.blt .all (.cons (.comp "sign" [("signs", 1)] (.ex (.var 0)) (.cmp .In (.var 0) (.var 1)) .nil) .nil)))
 .nil)
@[reducible] noncomputable def N_is_name : List Str := ["thing"]
noncomputable def b_is_name : Sxs := (.cons (.ret (.and (.isin (.var 0) .str) (.and (.cmp2 .LtE .LtE (.con (.int 1)) (.blt .len (.cons (.var 0) .nil)) (.glob "MOST_LETTERS")) (.call "made_of" (.cons (.var 0) (.cons (.glob "LETTERS") .nil))))))
 .nil)
@[reducible] noncomputable def N_writes_number : List Str := ["text"]
noncomputable def b_writes_number : Sxs := (.cons (.iff (.mth .startswith (.var 0) (.cons (.con (.str "0")) .nil)) (.cons (.ret (.cmp .Eq (.var 0) (.con (.str "0"))))
  .nil) .nil)
 (.cons (.ret (.and (.cmp2 .LtE .LtE (.con (.int 1)) (.blt .len (.cons (.var 0) .nil)) (.glob "MOST_FIGURES")) (.call "made_of" (.cons (.var 0) (.cons (.glob "FIGURES") .nil)))))
 .nil))
@[reducible] noncomputable def N_number_of : List Str := ["text"]
noncomputable def b_number_of : Sxs := (.cons (.iff (.not (.call "writes_number" (.cons (.var 0) .nil))) (.cons (.rais "NoRow" (.cons (.var 0) .nil))
  .nil) .nil)
 (.cons (.ret (.blt .int (.cons (.var 0) .nil)))
 .nil))
@[reducible] noncomputable def N_number_within : List Str := ["text", "least", "greatest", "number"]
noncomputable def b_number_within : Sxs := (.cons (.asg 3 (.call "number_of" (.cons (.var 0) .nil)))
 (.cons (.iff (.not (.cmp2 .LtE .LtE (.var 1) (.var 3) (.var 2))) (.cons (.rais "NoRow" (.cons (.var 0) .nil))
  .nil) .nil)
 (.cons (.ret (.var 3))
 .nil)))
@[reducible] noncomputable def N_name_in : List Str := ["piece"]
noncomputable def b_name_in : Sxs := (.cons (.iff (.not (.call "is_name" (.cons (.var 0) .nil))) (.cons (.rais "NoRow" (.cons (.var 0) .nil))
  .nil) .nil)
 (.cons (.ret (.var 0))
 .nil))
@[reducible] noncomputable def N_rank_in : List Str := ["piece"]
noncomputable def b_rank_in : Sxs := (.cons (.iff (.not (.mth .endswith (.var 0) (.cons (.con (.str ":")) .nil))) (.cons (.rais "NoRow" (.cons (.var 0) .nil))
  .nil) .nil)
 (.cons (.ret (.call "number_within" (.cons (.slc (.var 0) .nil (.cons (.neg (.con (.int 1))) .nil)) (.cons (.con (.int 0)) (.cons (.glob "MOST_RANK") .nil)))))
 .nil))
@[reducible] noncomputable def N_group_in : List Str := ["piece"]
noncomputable def b_group_in : Sxs := (.cons (.iff (.cmp .NotIn (.var 0) (.glob "SIDE_GROUPS")) (.cons (.rais "NoRow" (.cons (.var 0) .nil))
  .nil) .nil)
 (.cons (.ret (.var 0))
 .nil))
@[reducible] noncomputable def N_marks_in : List Str := ["piece", "rising"]
noncomputable def b_marks_in : Sxs := (.cons (.iff (.cmp .Eq (.var 0) (.glob "NO_MARKS")) (.cons (.ret (.con (.str "")))
  .nil) .nil)
 (.cons (.asg 1 (.mth .join (.con (.str "")) (.cons (.sset (.var 0)) .nil)))
 (.cons (.iff (.or (.cmp .Eq (.var 0) (.con (.str ""))) (.or (.cmp .NotEq (.var 0) (.var 1)) (.not (.call "made_of" (.cons (.var 0) (.cons (.glob "LETTERS") .nil)))))) (.cons (.rais "NoRow" (.cons (.var 0) .nil))
  .nil) .nil)
 (.cons (.ret (.var 0))
 .nil))))
@[reducible] noncomputable def N_side_in : List Str := ["pieces"]
noncomputable def b_side_in : Sxs := (.cons (.ret (.tup (.cons (.call "group_in" (.cons (.idx (.var 0) (.con (.int 0))) .nil)) (.cons (.call "number_within" (.cons (.idx (.var 0) (.con (.int 1))) (.cons (.con (.int 1)) (.cons (.glob "MOST_SIZE") .nil)))) (.cons (.call "marks_in" (.cons (.idx (.var 0) (.con (.int 2))) .nil)) .nil)))))
 .nil)
@[reducible] noncomputable def N_couple_in : List Str := ["pieces", "need"]
noncomputable def b_couple_in : Sxs := (.cons (.iff (.or (.cmp .NotEq (.blt .len (.cons (.var 0) .nil)) (.glob "PIECES")) (.cmp .NotEq (.idx (.var 0) (.con (.int 6))) (.con (.str ">")))) (.cons (.rais "NoRow" (.cons (.var 0) .nil))
  .nil) .nil)
 (.cons (.asg 1 (.call "number_within" (.cons (.idx (.var 0) (.con (.int 1))) (.cons (.con (.int 1)) (.cons (.glob "MOST_NEED") .nil)))))
 (.cons (.ret (.tup (.cons (.call "name_in" (.cons (.idx (.var 0) (.con (.int 0))) .nil)) (.cons (.var 1) (.cons (.call "rank_in" (.cons (.idx (.var 0) (.con (.int 2))) .nil)) (.cons (.call "side_in" (.cons (.slc (.var 0) (.cons (.con (.int 3)) .nil) (.cons (.con (.int 6)) .nil)) .nil)) (.cons (.call "side_in" (.cons (.slc (.var 0) (.cons (.con (.int 7)) .nil) .nil) .nil)) .nil)))))))
 .nil)))
@[reducible] noncomputable def N_read_couple : List Str := ["text", "pieces"]
noncomputable def b_read_couple : Sxs := (.cons (.asg 1 (.mth .split (.var 0) (.cons (.con (.str " ")) .nil)))
 (.cons (.tryx (.cons (.ret (.call "couple_in" (.cons (.var 1) .nil)))
  .nil) "NoRow" none (.cons (.raisF "NoRow" (.cons (.var 0) .nil))
  .nil))
 .nil))
variable {M : Mo}
noncomputable def madeOf (t s : Str) : Bool := (cps t).all fun c => decide (c ∈ cps s)
noncomputable def spMadeOf (M : Mo) : Sp := fun vs H Q _ => ∃ t s, vs = [.str t, .str s] ∧ t.length ≤ sizeLine ∧ ∀ H', Ext M H H' → Q (.bl (madeOf t s)) H'
theorem allM_bools : ∀ (bs : List Bool), allM asB (bs.map V.bl) = some bs
  | [] => rfl
  | b :: r => by
    simp only [List.map_cons, allM, asB, allM_bools r]
theorem ok_made_of {Γ : Gam} (hc : Γ.cm = true) (hM : Γ.mod = M) (vs : List V) (H : Hp) (Q : VK) (E : XK) (h : spMadeOf M vs H Q E) : spOf Γ N_made_of 2 b_made_of vs H Q E := by
  subst hM
  obtain ⟨t, s, rfl, ht, h⟩ := h
  refine ⟨rfl, ?_⟩
  unfold b_made_of
  dsimp only [Sw.wSs, Sw.wS, Sw.wE, Sw.wT, Sw.wEs, Sw.wTs, Sw.wI, Sw.wP, Sw.vars, L2.start, Sw.r_get0, Sw.r_getS, Sw.r_set0, Sw.r_setS, Sw.r_map0, Sw.r_mapS, Sw.r_app0, Sw.r_appS, Sw.r_len0, Sw.r_lenS, Sw.r_rep0, Sw.r_repS, Sw.r_join, Nat.reduceAdd, Nat.reduceSub]
  refine ⟨hc, hc, ht, fun D hD mD => ?_⟩
  refine comp_pure (fun v => match v with | .str x => .bl (!(Builtin.Str.occurrences s x 0 s.length 1).isEmpty) | v => v) _ [] ?_ (fun _ => trivial) ?_ ?_
  · intro v hv H1 Q1 q
    obtain ⟨c, hc, rfl⟩ := List.mem_map.mp hv
    exact q
  · simpa [len_cps] using ht
  · unfold bltV
    dsimp only
    rw [rd_upd (by intro _ _ z; cases z)]
    dsimp only
    have e : List.map (fun v => match v with | V.str x => V.bl (!(Builtin.Str.occurrences s x 0 s.length 1).isEmpty) | v => v) (List.map (fun c => V.str ⟨#[c]⟩) (cps t)) = ((cps t).map fun c => decide (c ∈ cps s)).map V.bl := by
      rw [List.map_map, List.map_map]
      refine List.map_congr_left fun c _ => ?_
      show V.bl (!(Builtin.Str.occurrences s ⟨#[c]⟩ 0 s.length 1).isEmpty) = V.bl (decide (c ∈ cps s))
      rw [PySem.StrLaws.found_one]
    rw [List.nil_append, e, allM_bools]
    have e2 : (((cps t).map fun c => decide (c ∈ cps s)).all id) = madeOf t s := by
      unfold madeOf
      rw [List.all_map]
      rfl
    dsimp only
    rw [e2]
    exact h _ (Ext.upd hD mD)
theorem atI_some {α : Type} {xs : List α} {i : Int} (h0 : 0 ≤ i) (h1 : i < xs.length) : ∃ x, atI xs i = some x ∧ xs[i.toNat]? = some x := by
  have hlt : i.toNat < xs.length := by omega
  refine ⟨xs[i.toNat], ?_, List.getElem?_eq_getElem hlt⟩
  unfold atI ixN
  rw [if_pos h0, if_pos h1, Option.bind_some, List.getElem?_eq_getElem hlt]
noncomputable def inRange (lo hi c : Nat) : Bool := decide (lo ≤ c) && decide (c ≤ hi)
theorem n0_codes : (Str.ofString "0").cps.toList = [48] := by decide +kernel
theorem n9_codes : (Str.ofString "9").cps.toList = [57] := by decide +kernel
noncomputable def isNameZ (t : Str) : Bool := (cps t).all (inRange 97 122) && (decide (1 ≤ (cps t).length) && decide ((cps t).length ≤ 8))
theorem len_i (t : Str) : (t.length : Int) = ((cps t).length : Int) := by rw [len_cps]
noncomputable def writesZ (t : Str) : Bool := (cps t).all (inRange 48 57) && ((decide (1 ≤ (cps t).length) && decide ((cps t).length ≤ 12)) && (!decide ((cps t)[0]? = some 48) || decide (cps t = [48])))
theorem str_ext {x y : Str} (h : cps x = cps y) : x = y := by
  obtain ⟨⟨a⟩⟩ := x
  obtain ⟨⟨b⟩⟩ := y
  have h : a = b := h
  rw [h]
noncomputable def letters : Str := "abcdefghijklmnopqrstuvwxyz"
noncomputable def figures : Str := "0123456789"
theorem letters_mem : ∀ c : Nat, decide (c ∈ cps letters) = inRange 97 122 c := by
  intro c
  have e : cps letters = (List.range 26).map (· + 97) := by decide +kernel
  rw [e, Bool.eq_iff_iff]
  simp only [decide_eq_true_eq, List.mem_map, List.mem_range, inRange, Bool.and_eq_true]
  exact ⟨fun ⟨a, h1, h2⟩ => by omega, fun ⟨h1, h2⟩ => ⟨c - 97, by omega, by omega⟩⟩
theorem figures_mem : ∀ c : Nat, decide (c ∈ cps figures) = inRange 48 57 c := by
  intro c
  have e : cps figures = (List.range 10).map (· + 48) := by decide +kernel
  rw [e, Bool.eq_iff_iff]
  simp only [decide_eq_true_eq, List.mem_map, List.mem_range, inRange, Bool.and_eq_true]
  exact ⟨fun ⟨a, h1, h2⟩ => by omega, fun ⟨h1, h2⟩ => ⟨c - 48, by omega, by omega⟩⟩
theorem madeOf_letters (t : Str) : madeOf t letters = (cps t).all (inRange 97 122) := by
  unfold madeOf
  exact congrArg (fun f => (cps t).all f) (funext letters_mem)
theorem madeOf_figures (t : Str) : madeOf t figures = (cps t).all (inRange 48 57) := by
  unfold madeOf
  exact congrArg (fun f => (cps t).all f) (funext figures_mem)
noncomputable def nameV : V → Bool
  | .str t => isNameZ t
  | _ => false
noncomputable def smallV : V → Prop
  | .str t => t.length ≤ sizeLine
  | _ => True
noncomputable def spIsName (M : Mo) : Sp := fun vs H Q _ => ∃ x, vs = [x] ∧ known M H x = true ∧ smallV x ∧ ∀ H', Ext M H H' → Q (.bl (nameV x)) H'
structure G1 (Γ : Gam) (M : Mo) : Prop where
  cm : Γ.cm = true
  mod : Γ.mod = M
  mo : Γ.has "made_of" = true ∧ Γ.fn "made_of" = spMadeOf M
  le : Γ.con "LETTERS" = some (.str letters)
  fi : Γ.con "FIGURES" = some (.str figures)
  ml : Γ.con "MOST_LETTERS" = some (.int 8)
  mf : Γ.con "MOST_FIGURES" = some (.int 12)
theorem isTy_str {H : Hp} {x : V} : isTy .str H x = true → ∃ t, x = .str t := by
  intro h
  cases x <;> first | exact ⟨_, rfl⟩ | (simp [isTy] at h; done) | (unfold isTy at h; dsimp only at h; split at h <;> simp at h)
theorem ok_is_name {Γ : Gam} (g : G1 Γ M) (vs : List V) (H : Hp) (Q : VK) (E : XK) (h : spIsName M vs H Q E) : spOf Γ N_is_name 1 b_is_name vs H Q E := by
  obtain ⟨x, rfl, hk, hs, h⟩ := h
  refine ⟨rfl, ?_⟩
  obtain rfl := g.mod
  unfold b_is_name
  dsimp only [Sw.wSs, Sw.wS, Sw.wE, Sw.wT, Sw.wEs, Sw.wTs, Sw.wI, Sw.wP, Sw.vars, L2.start, Sw.r_get0, Sw.r_getS, Sw.r_set0, Sw.r_setS, Sw.r_map0, Sw.r_mapS, Sw.r_app0, Sw.r_appS, Sw.r_len0, Sw.r_lenS, Sw.r_rep0, Sw.r_repS, Sw.r_join, Nat.reduceAdd, Nat.reduceSub]
  refine ⟨hk, ?_⟩
  simp only [Sw.t_bl]
  by_cases q0 : isTy .str H x = true
  case neg =>
    have e : isTy .str H x = false := by simpa using q0
    have e2 : nameV x = false := by
      cases x <;> first | rfl | (simp [isTy] at e)
    rw [e2] at h
    rw [if_neg q0, e]
    exact h H Ext.refl
  case pos =>
    obtain ⟨t, rfl⟩ := isTy_str q0
    have hs : t.length ≤ sizeLine := hs
    have h : ∀ H', Ext Γ.mod H H' → Q (.bl (isNameZ t)) H' := h
    rw [if_pos q0]
    simp only [g.cm, g.ml, g.le, Sw.b_lens, Sw.v_le, Sw.t_bl, true_and, hs]
    refine ⟨_, rfl, ?_⟩
    by_cases q : 1 ≤ (cps t).length
    · rw [if_pos (by rw [len_i, decide_eq_true_eq]; omega)]
      by_cases q2 : (cps t).length ≤ 8
      · rw [if_pos (by rw [len_i, decide_eq_true_eq]; omega), g.mo.2]
        refine ⟨g.mo.1, t, letters, rfl, hs, fun H' x => ?_⟩
        have e : isNameZ t = madeOf t letters := by
          unfold isNameZ
          rw [madeOf_letters, decide_eq_true q, decide_eq_true q2]
          simp
        rw [← e]
        exact h H' x
      · have e : isNameZ t = false := by
          unfold isNameZ
          rw [decide_eq_false q2]
          simp
        rw [e] at h
        rw [if_neg (by rw [len_i, decide_eq_true_eq]; omega), decide_eq_false (by rw [len_i]; omega)]
        exact h H Ext.refl
    · have e : isNameZ t = false := by
        unfold isNameZ
        rw [decide_eq_false q]
        simp
      rw [e] at h
      rw [if_neg (by rw [len_i, decide_eq_true_eq]; omega)]
      simp only [Bool.false_eq_true, if_false]
      exact h H Ext.refl
theorem starts0 (t : Str) : Txt.startswith t (Str.ofString "0") = decide ((cps t)[0]? = some 48) := by
  have e0 : (Str.ofString "0") = ⟨#[48]⟩ := str_ext (by rw [show cps (Str.ofString "0") = [48] from n0_codes])
  rw [e0]
  obtain ⟨⟨l⟩⟩ := t
  show (decide (0 + 1 ≤ l.length) && ((⟨l⟩ : Array Nat).extract 0 (0 + 1) == #[48])) = decide (l[0]? = some 48)
  cases l with
  | nil => rfl
  | cons c r =>
    rw [Bool.eq_iff_iff]
    simp
noncomputable def spWrites (M : Mo) : Sp := fun vs H Q _ => ∃ t, vs = [.str t] ∧ t.length ≤ sizeLine ∧ ∀ H', Ext M H H' → Q (.bl (writesZ t)) H'
theorem dec_0 (t : Str) : (decide (V.str t = V.str (Str.ofString "0"))) = decide (cps t = [48]) := by
  rw [Bool.eq_iff_iff]
  simp only [decide_eq_true_eq]
  refine ⟨fun z => ?_, fun z => ?_⟩
  · rw [V.str.inj z]; exact n0_codes
  · exact congrArg V.str (str_ext (by rw [z]; exact n0_codes.symm))
theorem ok_writes {Γ : Gam} (g : G1 Γ M) (vs : List V) (H : Hp) (Q : VK) (E : XK) (h : spWrites M vs H Q E) : spOf Γ N_writes_number 1 b_writes_number vs H Q E := by
  obtain ⟨t, rfl, ht, h⟩ := h
  refine ⟨rfl, ?_⟩
  obtain rfl := g.mod
  unfold b_writes_number
  dsimp only [Sw.wSs, Sw.wS, Sw.wE, Sw.wT, Sw.wEs, Sw.wTs, Sw.wI, Sw.wP, Sw.vars, L2.start, Sw.r_get0, Sw.r_getS, Sw.r_set0, Sw.r_setS, Sw.r_map0, Sw.r_mapS, Sw.r_app0, Sw.r_appS, Sw.r_len0, Sw.r_lenS, Sw.r_rep0, Sw.r_repS, Sw.r_join, Nat.reduceAdd, Nat.reduceSub]
  refine ⟨rfl, ?_⟩
  simp only [Sw.m_sw, Sw.t_bl, starts0]
  by_cases q0 : (cps t)[0]? = some 48
  · rw [if_pos (by simpa using q0)]
    show Q (.bl (decide (V.str t = V.str (Str.ofString "0")))) H
    simp only [dec_0]
    have e : writesZ t = decide (cps t = [48]) := by
      unfold writesZ
      rw [decide_eq_true q0]
      by_cases q1 : cps t = [48]
      · rw [q1]; decide
      · rw [decide_eq_false q1]; simp
    rw [← e]
    exact h H Ext.refl
  · rw [if_neg (by simpa using q0)]
    have e0 : writesZ t = ((cps t).all (inRange 48 57) && (decide (1 ≤ (cps t).length) && decide ((cps t).length ≤ 12))) := by
      unfold writesZ
      rw [decide_eq_false q0]
      simp
    simp only [g.cm, g.mf, g.fi, Sw.b_lens, Sw.v_le, Sw.t_bl, true_and, ht]
    refine ⟨_, rfl, ?_⟩
    by_cases q : 1 ≤ (cps t).length
    · rw [if_pos (by rw [len_i, decide_eq_true_eq]; omega)]
      by_cases q2 : (cps t).length ≤ 12
      · rw [if_pos (by rw [len_i, decide_eq_true_eq]; omega), g.mo.2]
        refine ⟨g.mo.1, t, figures, rfl, ht, fun H' x => ?_⟩
        have e : writesZ t = madeOf t figures := by
          rw [e0, madeOf_figures, decide_eq_true q, decide_eq_true q2]
          simp
        rw [← e]
        exact h H' x
      · have e : writesZ t = false := by
          rw [e0, decide_eq_false q2]
          simp
        rw [e] at h
        rw [if_neg (by rw [len_i, decide_eq_true_eq]; omega), decide_eq_false (by rw [len_i]; omega)]
        exact h H Ext.refl
    · have e : writesZ t = false := by
        rw [e0, decide_eq_false q]
        simp
      rw [e] at h
      rw [if_neg (by rw [len_i, decide_eq_true_eq]; omega)]
      simp only [Bool.false_eq_true, if_false]
      exact h H Ext.refl
noncomputable def spNumber (M : Mo) (c : Addr) : Sp := fun vs H Q E => ∃ t, vs = [.str t] ∧ t.length ≤ 640 ∧
  (writesZ t = true → ∃ n, PySem.intText? t = some n ∧ ∀ H', Ext M H H' → Q (.int n) H') ∧
  (writesZ t = false → ∀ H' d, Ext M H H' → H' d = some (.xd [("row", .str t)]) → E (.ref c) (some d) H')
structure G2 (Γ : Gam) (M : Mo) (c : Addr) : Prop extends G1 Γ M where
  wr : Γ.has "writes_number" = true ∧ Γ.fn "writes_number" = spWrites M
  ex : Γ.exc "NoRow" = some (c, [("row" : Str)])
theorem small_640 {n : Nat} (h : n ≤ 640) : n ≤ sizeLine := Nat.le_trans h (by decide)
theorem ok_number {Γ : Gam} {c : Addr} (g : G2 Γ M c) (vs : List V) (H : Hp) (Q : VK) (E : XK) (h : spNumber M c vs H Q E) : spOf Γ N_number_of 1 b_number_of vs H Q E := by
  obtain ⟨t, rfl, ht, h1, h2⟩ := h
  refine ⟨rfl, ?_⟩
  obtain rfl := g.mod
  unfold b_number_of
  dsimp only [Sw.wSs, Sw.wS, Sw.wE, Sw.wT, Sw.wEs, Sw.wTs, Sw.wI, Sw.wP, Sw.vars, L2.start, Sw.r_get0, Sw.r_getS, Sw.r_set0, Sw.r_setS, Sw.r_map0, Sw.r_mapS, Sw.r_app0, Sw.r_appS, Sw.r_len0, Sw.r_lenS, Sw.r_rep0, Sw.r_repS, Sw.r_join, Nat.reduceAdd, Nat.reduceSub]
  rw [g.wr.2]
  refine ⟨⟨g.cm, g.wr.1⟩, t, rfl, small_640 ht, fun H' x => ?_⟩
  simp only [Sw.t_bl]
  by_cases q : writesZ t = true
  · rw [if_neg (by rw [q]; decide)]
    obtain ⟨n, e, h1⟩ := h1 q
    simp only [Sw.b_int, e]
    exact ⟨g.cm, ht, h1 H' x⟩
  · have q : writesZ t = false := by simpa using q
    rw [if_pos (by rw [q]; rfl), g.ex]
    refine ⟨g.cm, fun d hd md => h2 q _ d (x.trans (Ext.upd hd md)) upd_same⟩
theorem len_app (x y : Str) : (x ++ y).length = x.length + y.length := by
  show (x.cps ++ y.cps).size = x.cps.size + y.cps.size
  simp
theorem digits_head : ∀ (m : Nat), 0 < m → ∃ c r, Nat.toDigits 10 m = c :: r ∧ 49 ≤ c.toNat := by
  intro m
  induction m using Nat.strongRecOn with
  | _ m ih =>
    intro h
    by_cases q : m < 10
    · rw [Nat.toDigits_of_lt_base q]
      refine ⟨_, [], rfl, ?_⟩
      have : ∀ k, k < 10 → 0 < k → 49 ≤ (Nat.digitChar k).toNat := by decide
      exact this m q h
    · obtain ⟨c, r, e, hc⟩ := ih (m / 10) (by omega) (by omega)
      rw [Nat.toDigits_of_base_le (by decide) (by omega), e]
      exact ⟨c, _, rfl, hc⟩
theorem num_cps (n : Int) (h0 : 0 ≤ n) : cps (Str.ofString (toString n)) = (Nat.toDigits 10 n.toNat).map Char.toNat := by
  have e : n = ((n.toNat : Nat) : Int) := by omega
  have := PySem.W.KIN.signs_num n.toNat
  rw [← e] at this
  exact this
theorem digits_range {m : Nat} {c : Nat} (h : c ∈ (Nat.toDigits 10 m).map Char.toNat) : inRange 48 57 c = true := by
  obtain ⟨d, hd, rfl⟩ := List.mem_map.mp h
  have := Nat.isDigit_of_mem_toDigits (by decide) (by decide) hd
  unfold Char.isDigit at this
  simp only [Bool.and_eq_true, decide_eq_true_eq] at this
  unfold inRange
  simp only [Bool.and_eq_true, decide_eq_true_eq]
  exact ⟨this.1, this.2⟩
theorem toString_writes (n : Int) (h0 : 0 ≤ n) (h1 : n < 10 ^ 12) : writesZ (Str.ofString (toString n)) = true ∧ (Str.ofString (toString n)).length ≤ 12 := by
  have e := num_cps n h0
  have hl : (cps (Str.ofString (toString n))).length ≤ 12 := by
    rw [e, List.length_map]
    exact (Nat.length_toDigits_le_iff (by decide) (by decide)).mpr (by omega)
  refine ⟨?_, by rw [len_cps]; exact hl⟩
  unfold writesZ
  rw [decide_eq_true hl]
  have h2 : 1 ≤ (cps (Str.ofString (toString n))).length := by
    rw [e, List.length_map]
    exact Nat.length_toDigits_pos
  rw [decide_eq_true h2]
  have h3 : (cps (Str.ofString (toString n))).all (inRange 48 57) = true := by
    rw [List.all_eq_true]
    intro c hc
    rw [e] at hc
    exact digits_range hc
  rw [h3]
  by_cases hz : n.toNat = 0
  · have : cps (Str.ofString (toString n)) = [48] := by
      rw [e, hz]
      decide
    rw [this]
    decide
  · obtain ⟨c, r, e2, hc⟩ := digits_head n.toNat (by omega)
    rw [e, e2]
    have : c.toNat ≠ 48 := by omega
    simp [this]
theorem writes_reads {t : Str} (h : writesZ t = true) : ∃ n, PySem.intText? t = some n := by
  unfold writesZ at h
  simp only [Bool.and_eq_true, decide_eq_true_eq] at h
  obtain ⟨h1, ⟨h2, h3⟩, _⟩ := h
  refine ⟨_, PySem.intText_digits (x := t) (fun c hc => ?_) (fun z => ?_) ?_⟩
  · have := List.all_eq_true.mp h1 c hc
    simpa [inRange] using this
  · have z : cps t = [] := z
    rw [z] at h2
    simp at h2
  · rw [len_cps]; omega
end Wd
namespace Wd
open PySem PySem.Spec PyProof.Rows L2 Sw
variable {M : Mo}
noncomputable def Refuses (c : Addr) (M : Mo) (H : Hp) (E : XK) : Prop := ∀ H' d r, Ext M H H' → H' d = some (.xd [(("row" : Str), r)]) → E (.ref c) (some d) H'
noncomputable def Gives (c : Addr) (M : Mo) (o : Option V) (H : Hp) (Q : VK) (E : XK) : Prop := match o with
  | some v => ∀ H', Ext M H H' → Q v H'
  | none => Refuses c M H E
theorem Refuses.ext {c : Addr} {H H1 : Hp} {E : XK} (h : Refuses c M H E) (x : Ext M H H1) : Refuses c M H1 E := fun H' d r x' hd => h H' d r (x.trans x') hd
theorem Gives.ext {c : Addr} {o : Option V} {H H1 : Hp} {Q : VK} {E : XK} (h : Gives c M o H Q E) (x : Ext M H H1) : Gives c M o H1 Q E := by
  unfold Gives at h ⊢
  cases o with
  | none => exact Refuses.ext h x
  | some v => exact fun H' x' => h H' (x.trans x')
theorem _root_.Sw.OffM.rd {M : Mo} {H : Hp} {p : Addr} {o : List V} (off : OffM M H) (h : M p = some (.tup o)) : Sw.rd M H p = some (.tup o) := by
  have e : H p = none := off p (by rw [h]; simp)
  unfold Sw.rd
  rw [e, h]
noncomputable def numIn (t : Str) (a b : Int) : Option Int := if writesZ t = true then (match PySem.intText? t with | some n => if a ≤ n ∧ n ≤ b then some n else none | none => none) else none
noncomputable def spWithin (M : Mo) (c : Addr) : Sp := fun vs H Q E => ∃ t a b, vs = [.str t, .int a, .int b] ∧ t.length ≤ 640 ∧ Gives c M ((numIn t a b).map V.int) H Q E
structure G3 (Γ : Gam) (M : Mo) (c : Addr) : Prop extends G2 Γ M c where
  nu : Γ.has "number_of" = true ∧ Γ.fn "number_of" = spNumber M c
theorem ok_within {Γ : Gam} {c : Addr} (g : G3 Γ M c) (vs : List V) (H : Hp) (Q : VK) (E : XK) (h : spWithin M c vs H Q E) : spOf Γ N_number_within 3 b_number_within vs H Q E := by
  obtain ⟨t, a, b, rfl, ht, h⟩ := h
  refine ⟨rfl, ?_⟩
  obtain rfl := g.mod
  unfold b_number_within
  dsimp only [Sw.wSs, Sw.wS, Sw.wE, Sw.wT, Sw.wEs, Sw.wTs, Sw.wI, Sw.wP, Sw.vars, L2.start, Sw.r_get0, Sw.r_getS, Sw.r_set0, Sw.r_setS, Sw.r_map0, Sw.r_mapS, Sw.r_app0, Sw.r_appS, Sw.r_len0, Sw.r_lenS, Sw.r_rep0, Sw.r_repS, Sw.r_join, Nat.reduceAdd, Nat.reduceSub]
  rw [g.nu.2]
  refine ⟨⟨g.cm, g.nu.1⟩, t, rfl, ht, fun hw => ?_, fun hw H' d x hd => ?_⟩
  · obtain ⟨n, hn⟩ := writes_reads hw
    refine ⟨n, hn, fun H' x => ?_⟩
    have e : numIn t a b = if a ≤ n ∧ n ≤ b then some n else none := by unfold numIn; rw [if_pos hw, hn]
    rw [e] at h
    simp (config := { maxSteps := 10000000, failIfUnchanged := false }) only [Sw.v_add, Sw.v_adds, Sw.v_mul, Sw.v_div, Sw.v_mod, Sw.v_pow, Sw.v_lt, Sw.v_le, Sw.v_les, Sw.v_ins, Sw.v_eqi, Sw.v_nei, Sw.v_eqs, Sw.v_nes, Sw.v_neb, Sw.v_eqb, Sw.v_is, Sw.t_bl, Sw.t_non, Sw.t_int, Sw.b_lens, Sw.b_lenr, Sw.b_str, Sw.b_int, Sw.i_str, Sw.i_ref, Sw.s_str, Sw.s_ref, Sw.m_sw, Sw.m_ew]
    refine ⟨_, rfl, ?_⟩
    by_cases q1 : a ≤ n
    · rw [if_pos (decide_eq_true q1)]
      refine ⟨_, rfl, ?_⟩
      by_cases q2 : n ≤ b
      · rw [if_neg (by simpa using q2)]
        rw [if_pos ⟨q1, q2⟩] at h
        exact h H' x
      · rw [if_pos (by simpa using q2), g.ex]
        rw [if_neg (fun z => q2 z.2)] at h
        exact ⟨g.cm, fun d hd md => h _ d _ (x.trans (Ext.upd hd md)) upd_same⟩
    · rw [if_neg (by simpa using q1)]
      refine ⟨_, rfl, ?_⟩
      rw [if_pos (by rfl), g.ex]
      rw [if_neg (fun z => q1 z.1)] at h
      exact ⟨g.cm, fun d hd md => h _ d _ (x.trans (Ext.upd hd md)) upd_same⟩
  · have e : numIn t a b = none := by unfold numIn; rw [if_neg (by rw [hw]; decide)]
    rw [e] at h
    exact h H' d _ x hd
noncomputable def spNameIn (M : Mo) (c : Addr) : Sp := fun vs H Q E => ∃ t, vs = [.str t] ∧ t.length ≤ 640 ∧ Gives c M (if isNameZ t = true then some (.str t) else none) H Q E
noncomputable def rankIn (t : Str) : Option Int := if Txt.endswith t (Str.ofString ":") = true then numIn (Txt.slice t none (some (-1))) 0 1000000 else none
noncomputable def spRankIn (M : Mo) (c : Addr) : Sp := fun vs H Q E => ∃ t, vs = [.str t] ∧ t.length ≤ 640 ∧ Gives c M ((rankIn t).map V.int) H Q E
noncomputable def groups : List V := [.str "O", .str "A", .str "B", .str "AB"]
noncomputable def isGroup (t : Str) : Bool := inV (.str t) groups
noncomputable def spGroupIn (M : Mo) (c : Addr) : Sp := fun vs H Q E => ∃ t, vs = [.str t] ∧ OffM M H ∧ Gives c M (if isGroup t = true then some (.str t) else none) H Q E
structure G4 (Γ : Gam) (M : Mo) (c : Addr) : Prop extends G3 Γ M c where
  nw : Γ.has "number_within" = true ∧ Γ.fn "number_within" = spWithin M c
  na : Γ.has "is_name" = true ∧ Γ.fn "is_name" = spIsName M
  mr : Γ.con "MOST_RANK" = some (.int 1000000)
  mn : Γ.con "MOST_NEED" = some (.int 1000000)
  ms : Γ.con "MOST_SIZE" = some (.int 99)
  nm : Γ.con "NO_MARKS" = some (.str "-")
  pc : Γ.con "PIECES" = some (.int 10)
  sg : ∃ p, Γ.con "SIDE_GROUPS" = some (.ref p) ∧ M p = some (.tup groups)
theorem ok_name_in {Γ : Gam} {c : Addr} (g : G4 Γ M c) (vs : List V) (H : Hp) (Q : VK) (E : XK) (h : spNameIn M c vs H Q E) : spOf Γ N_name_in 1 b_name_in vs H Q E := by
  obtain ⟨t, rfl, ht, h⟩ := h
  refine ⟨rfl, ?_⟩
  obtain rfl := g.mod
  unfold b_name_in
  dsimp only [Sw.wSs, Sw.wS, Sw.wE, Sw.wT, Sw.wEs, Sw.wTs, Sw.wI, Sw.wP, Sw.vars, L2.start, Sw.r_get0, Sw.r_getS, Sw.r_set0, Sw.r_setS, Sw.r_map0, Sw.r_mapS, Sw.r_app0, Sw.r_appS, Sw.r_len0, Sw.r_lenS, Sw.r_rep0, Sw.r_repS, Sw.r_join, Nat.reduceAdd, Nat.reduceSub]
  rw [g.na.2]
  refine ⟨⟨g.cm, g.na.1⟩, .str t, rfl, rfl, small_640 ht, fun H' x => ?_⟩
  simp (config := { maxSteps := 10000000, failIfUnchanged := false }) only [Sw.v_add, Sw.v_adds, Sw.v_mul, Sw.v_div, Sw.v_mod, Sw.v_pow, Sw.v_lt, Sw.v_le, Sw.v_les, Sw.v_ins, Sw.v_eqi, Sw.v_nei, Sw.v_eqs, Sw.v_nes, Sw.v_neb, Sw.v_eqb, Sw.v_is, Sw.t_bl, Sw.t_non, Sw.t_int, Sw.b_lens, Sw.b_lenr, Sw.b_str, Sw.b_int, Sw.i_str, Sw.i_ref, Sw.s_str, Sw.s_ref, Sw.m_sw, Sw.m_ew]
  show if (!isNameZ t) = true then _ else _
  by_cases q : isNameZ t = true
  · rw [if_neg (by rw [q]; decide)]
    rw [if_pos q] at h
    exact h H' x
  · rw [if_pos (by simpa using q), g.ex]
    rw [if_neg q] at h
    exact ⟨g.cm, fun d hd md => h _ d _ (x.trans (Ext.upd hd md)) upd_same⟩
theorem ok_rank_in {Γ : Gam} {c : Addr} (g : G4 Γ M c) (vs : List V) (H : Hp) (Q : VK) (E : XK) (h : spRankIn M c vs H Q E) : spOf Γ N_rank_in 1 b_rank_in vs H Q E := by
  obtain ⟨t, rfl, ht, h⟩ := h
  refine ⟨rfl, ?_⟩
  obtain rfl := g.mod
  unfold b_rank_in
  dsimp only [Sw.wSs, Sw.wS, Sw.wE, Sw.wT, Sw.wEs, Sw.wTs, Sw.wI, Sw.wP, Sw.vars, L2.start, Sw.r_get0, Sw.r_getS, Sw.r_set0, Sw.r_setS, Sw.r_map0, Sw.r_mapS, Sw.r_app0, Sw.r_appS, Sw.r_len0, Sw.r_lenS, Sw.r_rep0, Sw.r_repS, Sw.r_join, Nat.reduceAdd, Nat.reduceSub]
  refine ⟨rfl, ?_⟩
  simp (config := { maxSteps := 10000000, failIfUnchanged := false }) only [Sw.v_add, Sw.v_adds, Sw.v_mul, Sw.v_div, Sw.v_mod, Sw.v_pow, Sw.v_lt, Sw.v_le, Sw.v_les, Sw.v_ins, Sw.v_eqi, Sw.v_nei, Sw.v_eqs, Sw.v_nes, Sw.v_neb, Sw.v_eqb, Sw.v_is, Sw.t_bl, Sw.t_non, Sw.t_int, Sw.b_lens, Sw.b_lenr, Sw.b_str, Sw.b_int, Sw.i_str, Sw.i_ref, Sw.s_str, Sw.s_ref, Sw.m_sw, Sw.m_ew]
  by_cases q : Txt.endswith t (Str.ofString ":") = true
  · rw [if_neg (by rw [q]; decide)]
    have e : rankIn t = numIn (Txt.slice t none (some (-1))) 0 1000000 := by unfold rankIn; rw [if_pos q]
    rw [e] at h
    rw [g.nw.2, g.mr]
    exact ⟨⟨g.cm, g.nw.1⟩, small_640 ht, _, 0, 1000000, rfl, Nat.le_trans (Txt.slice_le _ _ _) ht, h⟩
  · rw [if_pos (by simpa using q), g.ex]
    have e : rankIn t = none := by unfold rankIn; rw [if_neg q]
    rw [e] at h
    exact ⟨g.cm, fun d hd md => h _ d _ (Ext.upd hd md) upd_same⟩
theorem ok_group_in {Γ : Gam} {c : Addr} (g : G4 Γ M c) (vs : List V) (H : Hp) (Q : VK) (E : XK) (h : spGroupIn M c vs H Q E) : spOf Γ N_group_in 1 b_group_in vs H Q E := by
  obtain ⟨t, rfl, off, h⟩ := h
  obtain ⟨p, hp, hr⟩ := g.sg
  have hr := off.rd hr
  refine ⟨rfl, ?_⟩
  obtain rfl := g.mod
  unfold b_group_in
  dsimp only [Sw.wSs, Sw.wS, Sw.wE, Sw.wT, Sw.wEs, Sw.wTs, Sw.wI, Sw.wP, Sw.vars, L2.start, Sw.r_get0, Sw.r_getS, Sw.r_set0, Sw.r_setS, Sw.r_map0, Sw.r_mapS, Sw.r_app0, Sw.r_appS, Sw.r_len0, Sw.r_lenS, Sw.r_rep0, Sw.r_repS, Sw.r_join, Nat.reduceAdd, Nat.reduceSub]
  rw [hp]
  dsimp only
  unfold cmpV
  dsimp only
  rw [hr]
  dsimp only
  refine ⟨rfl, by decide +kernel, _, rfl, ?_⟩
  show if (!isGroup t) = true then _ else _
  by_cases q : isGroup t = true
  · rw [if_neg (by rw [q]; decide)]
    rw [if_pos q] at h
    exact h H Ext.refl
  · rw [if_pos (by simpa using q), g.ex]
    rw [if_neg q] at h
    exact ⟨g.cm, fun d hd md => h _ d _ (Ext.upd hd md) upd_same⟩
end Wd
namespace Wd
open PySem PySem.Spec PyProof.Rows L2 Sw
variable {M : Mo}
noncomputable def joinL (g : List Nat) : List Str → List Nat
  | [] => []
  | x :: r => cps x ++ (r.map fun p => g ++ cps p).flatten
theorem glue_fold (g : Array Nat) : ∀ (ps : List Str) (acc : Array Nat), (ps.foldl (fun acc p => acc ++ g ++ p.cps) acc).toList = acc.toList ++ (ps.map fun p => g.toList ++ cps p).flatten
  | [], acc => by simp
  | p :: r, acc => by
    rw [List.foldl_cons, glue_fold g r]
    simp [cps]
theorem cps_join (sep : Str) (l : List Str) : cps (Txt.join sep l) = joinL (cps sep) l := by
  cases l with
  | nil => rfl
  | cons x r =>
    show ((r.foldl (fun acc p => acc ++ sep.cps ++ p.cps) x.cps)).toList = _
    rw [glue_fold]
    rfl
theorem joinL_nil : ∀ l : List Str, joinL [] l = (l.map cps).flatten
  | [] => rfl
  | x :: r => by simp [joinL]
theorem fold_len (n B : Nat) : ∀ (l : List Str) (a : Nat), (∀ x ∈ l, x.length ≤ B) → l.foldl (fun a (x : Str) => a + x.length + n) a ≤ a + l.length * (B + n)
  | [], a, h => by simp
  | x :: r, a, h => by
    rw [List.foldl_cons]
    refine Nat.le_trans (fold_len n B r _ fun y hy => h y (List.mem_cons_of_mem _ hy)) ?_
    have := h x List.mem_cons_self
    rw [List.length_cons, Nat.succ_mul]
    omega
theorem joinOk (sep : Str) (l : List Str) (B : Nat) (h : ∀ x ∈ l, x.length ≤ B) (hb : l.length * (B + sep.length) ≤ 16777216) : JoinOk sep l = true := by
  unfold JoinOk Builtin.Str.tooLong
  have z := fold_len sep.length B l 0 h
  rw [List.foldl_toArray]
  simp only [Bool.not_eq_true', decide_eq_false_iff_not, gt_iff_lt, Nat.not_lt]
  rw [sizeLine_eq]
  omega
theorem dd_mem : ∀ (l acc : List Str) (x : Str), x ∈ l.foldl PySem.Sg.putIn acc ↔ x ∈ acc ∨ x ∈ l
  | [], acc, x => by simp
  | y :: r, acc, x => by
    rw [List.foldl_cons, dd_mem r]
    unfold PySem.Sg.putIn
    split
    · rename_i h
      constructor
      · rintro (h1 | h1)
        · exact .inl h1
        · exact .inr (List.mem_cons_of_mem _ h1)
      · rintro (h1 | h1)
        · exact .inl h1
        · rcases List.mem_cons.mp h1 with rfl | h1
          · exact .inl h
          · exact .inr h1
    · simp only [List.mem_append, List.mem_singleton, List.mem_cons, List.not_mem_nil, or_false]
      constructor
      · rintro ((h1 | h1) | h1)
        · exact .inl h1
        · exact .inr (.inl h1)
        · exact .inr (.inr h1)
      · rintro (h1 | h1 | h1)
        · exact .inl (.inl h1)
        · exact .inl (.inr h1)
        · exact .inr h1
theorem dd_nodup : ∀ (l acc : List Str), acc.Nodup → (l.foldl PySem.Sg.putIn acc).Nodup
  | [], acc, h => h
  | y :: r, acc, h => by
    rw [List.foldl_cons]
    refine dd_nodup r _ ?_
    unfold PySem.Sg.putIn
    split
    · exact h
    · rename_i q
      rw [List.nodup_append]
      exact ⟨h, by simp, fun a ha b hb => by rw [List.mem_singleton.mp hb]; exact fun z => q (z ▸ ha)⟩
theorem dd_id : ∀ (l acc : List Str), (acc ++ l).Nodup → l.foldl PySem.Sg.putIn acc = acc ++ l
  | [], acc, h => by simp
  | y :: r, acc, h => by
    rw [List.foldl_cons]
    have q : y ∉ acc := fun z => by
      rw [List.nodup_append] at h
      exact h.2.2 y z y List.mem_cons_self rfl
    have e : PySem.Sg.putIn acc y = acc ++ [y] := by unfold PySem.Sg.putIn; rw [if_neg q]
    rw [e, dd_id r _ (by simpa using h)]
    simp
noncomputable def chars (t : Str) : List Str := (cps t).map fun c => ⟨#[c]⟩
theorem met_chars (t : Str) : PySem.Sg.metS (fun i => ⟨#[t.cps.getD i 0]⟩) t.cps.size = (chars t).foldl PySem.Sg.putIn [] := by
  unfold PySem.Sg.metS
  congr 1
  apply List.ext_getElem
  · simp [chars, cps]
  · intro i h1 h2
    simp at h1
    simp [chars, cps, Array.getD, h1]
theorem met_len {t : Str} {l : List Nat} {k : Nat} (h : ∀ c ∈ cps t, c ∈ l) (hk : l.length ≤ k) : ((chars t).foldl PySem.Sg.putIn []).length ≤ k := by
  have nd := dd_nodup (chars t) [] List.nodup_nil
  have sub : ∀ x ∈ (chars t).foldl PySem.Sg.putIn [], x ∈ l.map fun c => (⟨#[c]⟩ : Str) := fun x hx => by
    rcases (dd_mem _ _ _).mp hx with h1 | h1
    · simp at h1
    · obtain ⟨c, hc, rfl⟩ := List.mem_map.mp h1
      exact List.mem_map.mpr ⟨c, h c hc, rfl⟩
  have := List.Nodup.length_le_of_subset nd sub
  rw [List.length_map] at this
  omega
noncomputable def rising (l : List Nat) : Bool := decide (l.Pairwise (· < ·))
noncomputable def single (c : Nat) : Str := ⟨#[c]⟩
theorem rise_from : ∀ (r : List Nat) (p : Nat), risingS (single p) (r.map single) = true → (p :: r).Pairwise (· ≤ ·)
  | [], p, _ => by simp
  | x :: r, p, h => by
    rw [List.map_cons] at h
    unfold risingS at h
    rw [ltCps_eq] at h
    simp only [Bool.and_eq_true, Bool.not_eq_true', decide_eq_false_iff_not] at h
    have h1 : ¬ ([x] < [p]) := h.1
    rw [lt_one] at h1
    have ih := rise_from r x h.2
    rw [List.pairwise_cons]
    refine ⟨fun y hy => ?_, ih⟩
    rcases List.mem_cons.mp hy with rfl | hy
    · omega
    · have := (List.pairwise_cons.mp ih).1 y hy
      omega
theorem rise_all (l : List Nat) (h : sortedS (l.map single) = true) : l.Pairwise (· ≤ ·) := by
  cases l with
  | nil => simp
  | cons x r => exact rise_from r x h
theorem flat_single (l : List Nat) : (l.map fun c => cps (single c)).flatten = l := by
  induction l with
  | nil => rfl
  | cons x r ih => rw [List.map_cons, List.flatten_cons, ih]; rfl
theorem rise_join {t : Str} {ss : List Str} (hp : List.Perm ss ((chars t).foldl PySem.Sg.putIn [])) (hs : sortedS ss = true) : decide (t = Txt.join (Str.ofString "") ss) = rising (cps t) := by
  have nd : ss.Nodup := hp.nodup_iff.mpr (dd_nodup (chars t) [] List.nodup_nil)
  have al : ∀ x ∈ ss, x = single ((cps x).headD 0) := fun x hx => by
    rcases (dd_mem _ _ _).mp (hp.mem_iff.mp hx) with h1 | h1
    · simp at h1
    · obtain ⟨c, hc, rfl⟩ := List.mem_map.mp h1
      rfl
  have e : ss = (ss.map fun x => (cps x).headD 0).map single := by
    rw [List.map_map]
    conv => lhs; rw [← List.map_id ss]
    exact List.map_congr_left fun x hx => al x hx
  generalize (ss.map fun x => (cps x).headD 0) = ls at e
  subst e
  have ndl : ls.Nodup := (List.pairwise_map.mp nd).imp fun {a b} h z => h (congrArg single z)
  have le := rise_all ls hs
  have lt : ls.Pairwise (· < ·) := (le.and ndl).imp fun {a b} h => Nat.lt_of_le_of_ne h.1 h.2
  have ej : cps (Txt.join (Str.ofString "") (ls.map single)) = ls := by
    rw [cps_join, show cps (Str.ofString "") = [] from rfl, joinL_nil, List.map_map]
    exact flat_single ls
  unfold rising
  rw [Bool.eq_iff_iff, decide_eq_true_eq, decide_eq_true_eq]
  constructor
  · intro h
    rw [h, ej]
    exact lt
  · intro h
    have ndc : (chars t).Nodup := by
      unfold chars
      refine List.Pairwise.map _ (fun a b (hab : a < b) z => ?_) h
      have z : (#[a] : Array Nat) = #[b] := congrArg Str.cps z
      simp at z
      omega
    rw [dd_id (chars t) [] (by simpa using ndc), List.nil_append] at hp
    have hp2 : List.Perm ls (cps t) := by
      have z := hp.map fun x => (cps x).headD 0
      unfold chars at z
      rw [List.map_map, List.map_map] at z
      have e1 : (List.map ((fun x => (cps x).headD 0) ∘ single) ls) = ls := by
        conv => rhs; rw [← List.map_id ls]
        exact List.map_congr_left fun x _ => rfl
      have e2 : (List.map ((fun x => (cps x).headD 0) ∘ fun c => (⟨#[c]⟩ : Str)) (cps t)) = cps t := by
        conv => rhs; rw [← List.map_id (cps t)]
        exact List.map_congr_left fun x _ => rfl
      rw [e1, e2] at z
      exact z
    have eq : ls = cps t := List.Perm.eq_of_pairwise (le := fun a b => a < b) (fun a b _ _ h1 h2 => absurd h1 (Nat.lt_asymm h2)) lt h hp2
    exact str_ext (by rw [ej, eq])
theorem allM_strs : ∀ (l : List Str), allM asS (l.map V.str) = some l
  | [] => rfl
  | b :: r => by
    simp only [List.map_cons, allM, asS, allM_strs r]
noncomputable def marksIn (t : Str) : Option Str := if t = "-" then some "" else if t = "" then none else if rising (cps t) = true ∧ madeOf t letters = true then some t else none
noncomputable def spMarksIn (M : Mo) (c : Addr) : Sp := fun vs H Q E => ∃ t, vs = [.str t] ∧ t.length ≤ 640 ∧ ((chars t).foldl PySem.Sg.putIn []).length < 64 ∧ Gives c M ((marksIn t).map V.str) H Q E
theorem ok_marks_in {Γ : Gam} {c : Addr} (g : G4 Γ M c) (vs : List V) (H : Hp) (Q : VK) (E : XK) (h : spMarksIn M c vs H Q E) : spOf Γ N_marks_in 1 b_marks_in vs H Q E := by
  obtain ⟨t, rfl, ht, h64, h⟩ := h
  refine ⟨rfl, ?_⟩
  obtain rfl := g.mod
  unfold b_marks_in
  dsimp only [Sw.wSs, Sw.wS, Sw.wE, Sw.wT, Sw.wEs, Sw.wTs, Sw.wI, Sw.wP, Sw.vars, L2.start, Sw.r_get0, Sw.r_getS, Sw.r_set0, Sw.r_setS, Sw.r_map0, Sw.r_mapS, Sw.r_app0, Sw.r_appS, Sw.r_len0, Sw.r_lenS, Sw.r_rep0, Sw.r_repS, Sw.r_join, Nat.reduceAdd, Nat.reduceSub]
  rw [g.nm]
  dsimp only
  simp (config := { maxSteps := 10000000, failIfUnchanged := false }) only [Sw.v_add, Sw.v_adds, Sw.v_mul, Sw.v_div, Sw.v_mod, Sw.v_pow, Sw.v_lt, Sw.v_le, Sw.v_les, Sw.v_ins, Sw.v_eqi, Sw.v_nei, Sw.v_eqs, Sw.v_nes, Sw.v_neb, Sw.v_eqb, Sw.v_is, Sw.t_bl, Sw.t_non, Sw.t_int, Sw.b_lens, Sw.b_lenr, Sw.b_str, Sw.b_int, Sw.i_str, Sw.i_ref, Sw.s_str, Sw.s_ref, Sw.m_sw, Sw.m_ew]
  refine ⟨_, rfl, ?_⟩
  unfold marksIn at h
  by_cases q0 : t = "-"
  · rw [if_pos (decide_eq_true q0)]
    rw [if_pos q0] at h
    exact h H Ext.refl
  rw [if_neg (by simpa using q0)]
  rw [if_neg q0] at h
  refine ⟨rfl, g.cm, ?_⟩
  unfold ssetV newSorted
  dsimp only
  rw [met_chars]
  refine ⟨?_, h64, fun ss l hp hs hl ml => ?_⟩
  · have : t.cps.size = t.length := rfl
    show t.cps.size + 1 < scanBound
    rw [this, show scanBound = 4096 from rfl]
    omega
  rw [g.mod] at ml ⊢
  have x1 : Ext Γ.mod H (upd H l (.lst (ss.map V.str))) := Ext.upd hl ml
  unfold mthV
  dsimp only
  rw [rd_upd (by intro _ _ z; cases z)]
  dsimp only
  rw [allM_strs]
  have one : ∀ x ∈ ss, x.length ≤ 1 := fun x hx => by
    rcases (dd_mem _ _ _).mp (hp.mem_iff.mp hx) with h1 | h1
    · simp at h1
    · obtain ⟨c, hc, rfl⟩ := List.mem_map.mp h1
      exact Nat.le_refl _
  have hl64 : ss.length < 64 := by rw [hp.length_eq]; exact h64
  refine ⟨joinOk _ _ 1 one (by rw [show (Str.ofString "").length = 0 from rfl]; omega), _, rfl, ?_⟩
  generalize upd H l (.lst (ss.map V.str)) = H1 at x1 ⊢
  by_cases q1 : t = ""
  · rw [if_pos (decide_eq_true q1), if_pos (by first | rfl | trivial), g.ex]
    rw [if_pos q1] at h
    exact ⟨g.cm, fun d hd md => h _ d _ (x1.trans (Ext.upd hd md)) upd_same⟩
  rw [if_neg (by simpa using q1)]
  rw [if_neg q1] at h
  rw [v_nes, rise_join hp hs]
  refine ⟨_, rfl, ?_⟩
  by_cases q2 : rising (cps t) = true
  · rw [if_neg (by rw [q2]; decide), g.le]
    dsimp only
    rw [g.mo.2]
    refine ⟨⟨g.cm, g.mo.1⟩, t, letters, rfl, small_640 ht, fun H2 x2 => ?_⟩
    dsimp only
    rw [t_bl]
    by_cases q3 : madeOf t letters = true
    · rw [if_neg (by rw [q3]; decide)]
      rw [if_pos ⟨q2, q3⟩] at h
      exact h H2 (x1.trans x2)
    · have q3' : (!madeOf t letters) = true := by simpa using q3
      rw [if_pos q3', g.ex]
      rw [if_neg (fun z => q3 z.2)] at h
      exact ⟨g.cm, fun d hd md => h _ d _ ((x1.trans x2).trans (Ext.upd hd md)) upd_same⟩
  · have q2' : (!rising (cps t)) = true := by simpa using q2
    rw [if_pos q2', if_pos (by first | rfl | trivial), g.ex]
    rw [if_neg (fun z => q2 z.1)] at h
    exact ⟨g.cm, fun d hd md => h _ d _ (x1.trans (Ext.upd hd md)) upd_same⟩
end Wd
namespace Wd
open PySem PySem.Spec PyProof.Rows L2 Sw
variable {M : Mo}
theorem OffM.ext {H H' : Hp} (o : OffM M H) (x : Ext M H H') : OffM M H' := fun a h => x.off a h (o a h)
structure Side where
  g : Str
  n : Int
  m : Str
noncomputable def Side.vs (s : Side) : List V := [.str s.g, .int s.n, .str s.m]
noncomputable def sideIn (a b d : Str) : Option Side := if isGroup a = true then (match numIn b 1 99 with | some n => (match marksIn d with | some m => some ⟨a, n, m⟩ | none => none) | none => none) else none
noncomputable def SideOk (a b d : Str) : Prop := b.length ≤ 640 ∧ d.length ≤ 640 ∧ ((chars d).foldl PySem.Sg.putIn []).length < 64
noncomputable def GivesS (c : Addr) (M : Mo) (o : Option Side) (H : Hp) (Q : VK) (E : XK) : Prop := match o with
  | some s => ∀ H' q, Ext M H H' → M q = none → H' q = some (.tup s.vs) → Q (.ref q) H'
  | none => Refuses c M H E
noncomputable def spSideIn (M : Mo) (c : Addr) : Sp := fun vs H Q E => ∃ p a b d, vs = [.ref p] ∧ rd M H p = some (.lst [.str a, .str b, .str d]) ∧ OffM M H ∧ SideOk a b d ∧ GivesS c M (sideIn a b d) H Q E
structure G5 (Γ : Gam) (M : Mo) (c : Addr) : Prop extends G4 Γ M c where
  gi : Γ.has "group_in" = true ∧ Γ.fn "group_in" = spGroupIn M c
  mi : Γ.has "marks_in" = true ∧ Γ.fn "marks_in" = spMarksIn M c
theorem ok_side_in {Γ : Gam} {c : Addr} (g : G5 Γ M c) (vs : List V) (H : Hp) (Q : VK) (E : XK) (h : spSideIn M c vs H Q E) : spOf Γ N_side_in 1 b_side_in vs H Q E := by
  obtain ⟨p, a, b, d, rfl, hp, off, ⟨hb, hd, h64⟩, h⟩ := h
  refine ⟨rfl, ?_⟩
  obtain rfl := g.mod
  unfold b_side_in
  dsimp only [Sw.wSs, Sw.wS, Sw.wE, Sw.wT, Sw.wEs, Sw.wTs, Sw.wI, Sw.wP, Sw.vars, L2.start, Sw.r_get0, Sw.r_getS, Sw.r_set0, Sw.r_setS, Sw.r_map0, Sw.r_mapS, Sw.r_app0, Sw.r_appS, Sw.r_len0, Sw.r_lenS, Sw.r_rep0, Sw.r_repS, Sw.r_join, Nat.reduceAdd, Nat.reduceSub]
  rw [i_ref, hp]
  dsimp only
  rw [show atI [V.str a, V.str b, V.str d] 0 = some (.str a) from rfl]
  dsimp only
  rw [g.gi.2, g.ms]
  refine ⟨⟨g.cm, g.gi.1⟩, a, rfl, off, ?_⟩
  unfold sideIn at h
  by_cases q0 : isGroup a = true
  case neg =>
    rw [if_neg q0] at h ⊢
    exact h
  rw [if_pos q0] at h ⊢
  intro H1 x1
  dsimp only
  rw [i_ref, x1.rd hp]
  dsimp only
  rw [show atI [V.str a, V.str b, V.str d] 1 = some (.str b) from rfl]
  dsimp only
  rw [g.nw.2]
  refine ⟨⟨g.cm, g.nw.1⟩, b, 1, 99, rfl, hb, ?_⟩
  cases q1 : numIn b 1 99 with
  | none =>
    rw [q1] at h
    exact Refuses.ext h x1
  | some n =>
  rw [q1] at h
  dsimp only at h
  intro H2 x2
  skip
  rw [i_ref, x2.rd (x1.rd hp)]
  dsimp only
  rw [show atI [V.str a, V.str b, V.str d] 2 = some (.str d) from rfl]
  dsimp only
  rw [g.mi.2]
  refine ⟨⟨g.cm, g.mi.1⟩, d, rfl, hd, h64, ?_⟩
  cases q2 : marksIn d with
  | none =>
    rw [q2] at h
    exact Refuses.ext h (x1.trans x2)
  | some m =>
  rw [q2] at h
  intro H3 x3
  refine ⟨by decide, fun q hq mq => ?_⟩
  exact h _ q (((x1.trans x2).trans x3).trans (Ext.upd hq mq)) mq upd_same
structure Cpl where
  name : Str
  need : Int
  rank : Int
  gv : Side
  tk : Side
noncomputable def coupleIn : List Str → Option Cpl
  | [a, b, c, d, e, f, s, h, i, j] => if s = ">" then (match numIn b 1 1000000 with
    | some need => if isNameZ a = true then (match rankIn c with
      | some rank => (match sideIn d e f with
        | some gv => (match sideIn h i j with
          | some tk => some ⟨a, need, rank, gv, tk⟩
          | none => none)
        | none => none)
      | none => none) else none
    | none => none) else none
  | _ => none
noncomputable def CplAt (H : Hp) (q : Addr) (k : Cpl) : Prop := ∃ q1 q2, H q = some (.tup [.str k.name, .int k.need, .int k.rank, .ref q1, .ref q2]) ∧ H q1 = some (.tup k.gv.vs) ∧ H q2 = some (.tup k.tk.vs)
noncomputable def GivesC (c : Addr) (M : Mo) (o : Option Cpl) (H : Hp) (Q : VK) (E : XK) : Prop := match o with
  | some k => ∀ H' q, Ext M H H' → M q = none → CplAt H' q k → Q (.ref q) H'
  | none => Refuses c M H E
noncomputable def PieceOk (t : Str) : Prop := t.length ≤ 640 ∧ ((chars t).foldl PySem.Sg.putIn []).length < 64
noncomputable def spCoupleIn (M : Mo) (c : Addr) : Sp := fun vs H Q E => ∃ p ps, vs = [.ref p] ∧ rd M H p = some (.lst (ps.map V.str)) ∧ OffM M H ∧ (∀ t ∈ ps, PieceOk t) ∧ GivesC c M (coupleIn ps) H Q E
structure G6 (Γ : Gam) (M : Mo) (c : Addr) : Prop extends G5 Γ M c where
  ni : Γ.has "name_in" = true ∧ Γ.fn "name_in" = spNameIn M c
  ri : Γ.has "rank_in" = true ∧ Γ.fn "rank_in" = spRankIn M c
  si : Γ.has "side_in" = true ∧ Γ.fn "side_in" = spSideIn M c
theorem ix_at {H : Hp} {p : Addr} {xs : List V} (hp : rd M H p = some (.lst xs)) {k : Int} {v : V} (e : atI xs k = some v) {Q : VK} (q : Q v H) : idxV M (.ref p) (.int k) H Q := by
  rw [i_ref, hp]
  dsimp only
  rw [e]
  exact q
theorem sl_at {H : Hp} {p : Addr} {xs ys : List V} {lo hi : Option Int} (hp : rd M H p = some (.lst xs)) (e : cutV xs lo hi = ys) {Q : VK} (q : ∀ l, H l = none → M l = none → Q (.ref l) (upd H l (.lst ys))) : slcV M (.ref p) lo hi H Q := by
  rw [s_ref, hp]
  dsimp only
  rw [e]
  exact q
theorem len10 {ps : List Str} (h : ps.length = 10) : ∃ a b c d e f s g i j, ps = [a, b, c, d, e, f, s, g, i, j] := by
  match ps, h with
  | [a, b, c, d, e, f, s, g, i, j], _ => exact ⟨a, b, c, d, e, f, s, g, i, j, rfl⟩
theorem ok_couple_in {Γ : Gam} {c : Addr} (g : G6 Γ M c) (vs : List V) (H : Hp) (Q : VK) (E : XK) (h : spCoupleIn M c vs H Q E) : spOf Γ N_couple_in 1 b_couple_in vs H Q E := by
  obtain ⟨p, ps, rfl, hp, off, ok, h⟩ := h
  refine ⟨rfl, ?_⟩
  obtain rfl := g.mod
  unfold b_couple_in
  dsimp only [Sw.wSs, Sw.wS, Sw.wE, Sw.wT, Sw.wEs, Sw.wTs, Sw.wI, Sw.wP, Sw.vars, L2.start, Sw.r_get0, Sw.r_getS, Sw.r_set0, Sw.r_setS, Sw.r_map0, Sw.r_mapS, Sw.r_app0, Sw.r_appS, Sw.r_len0, Sw.r_lenS, Sw.r_rep0, Sw.r_repS, Sw.r_join, Nat.reduceAdd, Nat.reduceSub]
  rw [b_lenr, hp]
  dsimp only
  refine ⟨g.cm, ?_⟩
  rw [g.pc]
  dsimp only
  rw [v_nei, List.length_map]
  refine ⟨_, rfl, ?_⟩
  by_cases q0 : ps.length = 10
  case neg =>
    have e : coupleIn ps = none := by
      unfold coupleIn
      split
      · exact absurd rfl q0
      · rfl
    rw [e] at h
    have q0' : (!decide ((ps.length : Int) = 10)) = true := by
      simp only [Bool.not_eq_true', decide_eq_false_iff_not]; omega
    rw [if_pos q0', if_pos (by first | rfl | trivial), g.ex]
    exact ⟨g.cm, fun d hd md => h _ d _ (Ext.upd hd md) upd_same⟩
  obtain ⟨a, b, r, d, e, f, s, m, i, j, rfl⟩ := len10 q0
  rw [if_neg (show ¬ (!decide ((([a, b, r, d, e, f, s, m, i, j] : List Str).length : Int) = 10)) = true from by simp)]
  simp only [List.map_cons, List.map_nil] at hp ⊢
  rw [i_ref, hp]
  dsimp only
  rw [show atI [V.str a, V.str b, V.str r, V.str d, V.str e, V.str f, V.str s, V.str m, V.str i, V.str j] 6 = some (.str s) from rfl]
  dsimp only
  rw [v_nes]
  refine ⟨_, rfl, ?_⟩
  have oka := ok a (by simp)
  have okb := ok b (by simp)
  have okr := ok r (by simp)
  have oke := ok e (by simp)
  have okf := ok f (by simp)
  have oki := ok i (by simp)
  have okj := ok j (by simp)
  unfold coupleIn at h
  dsimp only at h
  by_cases q1 : s = ">"
  case neg =>
    rw [if_neg q1] at h
    have q1' : (!decide (s = Str.ofString ">")) = true := by simpa using q1
    rw [if_pos q1', g.ex]
    exact ⟨g.cm, fun d hd md => h _ d _ (Ext.upd hd md) upd_same⟩
  rw [if_pos q1] at h
  have q1' : ¬ (!decide (s = Str.ofString ">")) = true := by simpa using q1
  rw [if_neg q1']
  refine ⟨⟨g.cm, g.nw.1⟩, ix_at hp (v := .str b) rfl ?_⟩
  rw [g.mn, g.nw.2]
  dsimp only
  refine ⟨b, 1, 1000000, rfl, okb.1, ?_⟩
  cases q2 : numIn b 1 1000000 with
  | none =>
    rw [q2] at h
    exact h
  | some need =>
  rw [q2] at h
  dsimp only at h
  intro H1 x1
  have hp1 := x1.rd hp
  refine ⟨⟨g.cm, g.ni.1⟩, ix_at hp1 (v := .str a) rfl ?_⟩
  rw [g.ni.2]
  refine ⟨a, rfl, oka.1, ?_⟩
  by_cases q3 : isNameZ a = true
  case neg =>
    rw [if_neg q3] at h ⊢
    exact Refuses.ext h x1
  rw [if_pos q3] at h ⊢
  intro H2 x2
  have x2 := x1.trans x2
  refine ⟨⟨g.cm, g.ri.1⟩, ix_at (x2.rd hp) (v := .str r) rfl ?_⟩
  rw [g.ri.2]
  refine ⟨r, rfl, okr.1, ?_⟩
  cases q4 : rankIn r with
  | none =>
    rw [q4] at h
    exact Refuses.ext h x2
  | some rank =>
  rw [q4] at h
  dsimp only at h
  intro H3 x3
  have x3 := x2.trans x3
  refine ⟨⟨g.cm, g.si.1⟩, sl_at (x3.rd hp) (ys := [.str d, .str e, .str f]) rfl fun l1 hl1 ml1 => ?_⟩
  have x4 := x3.trans (Ext.upd (o := .lst [.str d, .str e, .str f]) hl1 ml1)
  rw [g.si.2]
  refine ⟨l1, d, e, f, rfl, rd_upd (by intro _ _ z; cases z), OffM.ext off x4, ⟨oke.1, okf⟩, ?_⟩
  cases q5 : sideIn d e f with
  | none =>
    rw [q5] at h
    exact Refuses.ext h x4
  | some gv =>
  rw [q5] at h
  dsimp only at h
  intro H5 s1 x5 ms1 hs1
  have x5 := x4.trans x5
  refine ⟨⟨g.cm, g.si.1⟩, sl_at (x5.rd hp) (ys := [.str m, .str i, .str j]) rfl fun l2 hl2 ml2 => ?_⟩
  have x5' := (Ext.upd (o := .lst [.str m, .str i, .str j]) hl2 ml2)
  have x6 := x5.trans x5'
  refine ⟨l2, m, i, j, rfl, rd_upd (by intro _ _ z; cases z), OffM.ext off x6, ⟨oki.1, okj⟩, ?_⟩
  cases q6 : sideIn m i j with
  | none =>
    rw [q6] at h
    exact Refuses.ext h x6
  | some tk =>
  rw [q6] at h
  dsimp only at h
  intro H7 s2 x7 ms2 hs2
  refine ⟨by decide, fun q hq mq => ?_⟩
  have x8 := Ext.upd (o := .tup [.str a, .int need, .int rank, .ref s1, .ref s2]) hq mq
  refine h _ q ((x6.trans x7).trans x8) mq ⟨s1, s2, upd_same, x8.same _ _ (x7.same _ _ (x5'.same _ _ hs1)), x8.same _ _ hs2⟩
end Wd
namespace Wd
open PySem PySem.Spec PyProof.Rows L2 Sw
variable {M : Mo}
theorem cut_eq {c : Nat} {a b r s : List Nat} (ha : c ∉ a) (hb : c ∉ b) (hr : r = [] ∨ ∃ r', r = c :: r') (hs : s = [] ∨ ∃ s', s = c :: s') (h : a ++ r = b ++ s) : a = b ∧ r = s := by
  induction a generalizing b with
  | nil =>
    cases b with
    | nil => exact ⟨rfl, h⟩
    | cons y b =>
      rcases hr with rfl | ⟨r', rfl⟩
      · simp at h
      · simp at h
        exact absurd (h.1 ▸ List.mem_cons_self) hb
  | cons x a ih =>
    cases b with
    | nil =>
      rcases hs with rfl | ⟨s', rfl⟩
      · simp at h
      · simp at h
        exact absurd (h.1 ▸ List.mem_cons_self) ha
    | cons y b =>
      simp only [List.cons_append, List.cons.injEq] at h
      obtain ⟨rfl, h⟩ := h
      obtain ⟨rfl, h2⟩ := ih (fun z => ha (List.mem_cons_of_mem _ z)) (fun z => hb (List.mem_cons_of_mem _ z)) h
      exact ⟨rfl, h2⟩
theorem tail_form (c : Nat) : ∀ r : List Str, (r.map fun p => [c] ++ cps p).flatten = [] ∨ ∃ r', (r.map fun p => [c] ++ cps p).flatten = c :: r'
  | [] => .inl rfl
  | x :: r => .inr ⟨_, rfl⟩
theorem tails_eq {c : Nat} : ∀ {ps qs : List Str}, (∀ p ∈ ps, c ∉ cps p) → (∀ q ∈ qs, c ∉ cps q) → (ps.map fun p => [c] ++ cps p).flatten = (qs.map fun p => [c] ++ cps p).flatten → ps = qs
  | [], [], _, _, _ => rfl
  | [], _ :: _, _, _, h => by simp at h
  | _ :: _, [], _, _, h => by simp at h
  | p :: ps, q :: qs, hp, hq, h => by
    simp only [List.map_cons, List.flatten_cons, List.cons_append, List.nil_append, List.cons.injEq, true_and] at h
    obtain ⟨e, h⟩ := cut_eq (hp p List.mem_cons_self) (hq q List.mem_cons_self) (tail_form c ps) (tail_form c qs) h
    rw [str_ext e, tails_eq (fun x hx => hp x (List.mem_cons_of_mem _ hx)) (fun x hx => hq x (List.mem_cons_of_mem _ hx)) h]
theorem pieces_eq {c : Nat} {ps qs : List Str} (np : ps ≠ []) (nq : qs ≠ []) (hp : ∀ p ∈ ps, c ∉ cps p) (hq : ∀ q ∈ qs, c ∉ cps q) (h : joinL [c] ps = joinL [c] qs) : ps = qs := by
  cases ps with
  | nil => exact absurd rfl np
  | cons p ps =>
    cases qs with
    | nil => exact absurd rfl nq
    | cons q qs =>
      obtain ⟨e, h⟩ := cut_eq (hp p List.mem_cons_self) (hq q List.mem_cons_self) (tail_form c ps) (tail_form c qs) h
      rw [str_ext e, tails_eq (fun x hx => hp x (List.mem_cons_of_mem _ hx)) (fun x hx => hq x (List.mem_cons_of_mem _ hx)) h]
theorem count_tail (c : Nat) : ∀ ps : List Str, List.count c ((ps.map fun p => [c] ++ cps p).flatten) = ps.length + (ps.map fun p => List.count c (cps p)).sum
  | [] => rfl
  | p :: ps => by
    have ih := count_tail c ps
    rw [List.map_cons, List.flatten_cons, List.count_append, ih, List.map_cons, List.sum_cons, List.length_cons, List.count_append]
    have e : List.count c [c] = 1 := by simp
    omega
theorem cnt_count (c : Nat) : ∀ l : List Nat, cnt c l = (List.count c l : Int)
  | [] => rfl
  | x :: r => by
    rw [cnt_cons, cnt_count c r, List.count_cons]
    by_cases h : x = c
    · subst h; simp; omega
    · simp [h]
theorem sum_zero : ∀ {l : List Nat}, l.sum = 0 → ∀ n ∈ l, n = 0
  | [], _, n, h => by simp at h
  | x :: r, h, n, hn => by
    rw [List.sum_cons] at h
    rcases List.mem_cons.mp hn with rfl | hn
    · omega
    · exact sum_zero (by omega) n hn
theorem split_joins (x : Str) (c : Nat) : cps x = joinL [c] (Txt.split x ⟨#[c]⟩) := by
  have hj := StrLaws.join_split x ⟨#[c]⟩
  rw [← StrLaws.glued_eq_join] at hj
  have z := cps_join ⟨#[c]⟩ (Txt.split x ⟨#[c]⟩)
  rw [show cps (⟨#[c]⟩ : Str) = [c] from rfl] at z
  rw [← z]
  exact congrArg cps hj.symm
theorem split_some (x : Str) (c : Nat) : Txt.split x ⟨#[c]⟩ ≠ [] := fun z => by
  have hl := split_len x c
  rw [z, cnt_count] at hl
  simp at hl
  omega
theorem split_free {x : Str} {c : Nat} : ∀ p ∈ Txt.split x ⟨#[c]⟩, c ∉ cps p := by
  have hl := split_len x c
  have hc := split_joins x c
  have hn := split_some x c
  rw [cnt_count, show x.cps.toList = cps x from rfl, hc] at hl
  generalize Txt.split x ⟨#[c]⟩ = ps at hl hn
  cases ps with
  | nil => exact absurd rfl hn
  | cons p ps =>
    unfold joinL at hl
    rw [List.count_append, count_tail] at hl
    simp only [List.length_cons] at hl
    have h1 : List.count c (cps p) = 0 := by omega
    have h2 : (ps.map fun p => List.count c (cps p)).sum = 0 := by omega
    intro q hq
    rcases List.mem_cons.mp hq with rfl | hq
    · exact List.count_eq_zero.mp h1
    · exact List.count_eq_zero.mp (sum_zero h2 _ (List.mem_map.mpr ⟨q, hq, rfl⟩))
theorem split_back {x : Str} {c : Nat} {qs : List Str} (nq : qs ≠ []) (hq : ∀ q ∈ qs, c ∉ cps q) (h : cps x = joinL [c] qs) : Txt.split x ⟨#[c]⟩ = qs :=
  pieces_eq (split_some x c) nq split_free hq ((split_joins x c).symm.trans h)
end Wd
namespace Wd
open PySem PySem.Spec PyProof.Rows L2 Sw
variable {M : Mo}
theorem cps_app (x y : Str) : cps (x ++ y) = cps x ++ cps y := by
  show (x.cps ++ y.cps).toList = _
  simp [cps]
theorem slice_last (x : Str) (c : Nat) : Txt.slice (x ++ ⟨#[c]⟩) none (some (-1)) = x := by
  have hl : (x ++ ⟨#[c]⟩ : Str).length = x.length + 1 := by rw [len_app]; rfl
  rw [slice_to_neg (by decide), hl]
  have e : max 0 (((x.length + 1 : Nat) : Int) + -1) = (x.length : Int) := by omega
  rw [e]
  have h := slice_closes_to (x := x ++ ⟨#[c]⟩) (j := (x.length : Int)) ⟨by omega, by
    have : (x ++ ⟨#[c]⟩ : Str).cps.toList.length = (x ++ ⟨#[c]⟩ : Str).length := by simp [Str.length]
    rw [this, hl]; omega⟩
  have h := eq_of_beq h
  rw [h]
  refine str_ext ?_
  show List.take _ (List.drop _ (cps (x ++ ⟨#[c]⟩))) = cps x
  rw [cps_app]
  simp [len_cps]
theorem ends_last (x : Str) (c : Nat) : Txt.endswith (x ++ ⟨#[c]⟩) ⟨#[c]⟩ = true := by
  have hl : (x ++ ⟨#[c]⟩ : Str).length = x.length + 1 := by rw [len_app]; rfl
  unfold Txt.endswith
  rw [hl, StrLaws.subAt_eq]
  have e : ((x ++ ⟨#[c]⟩ : Str).cps.toList) = cps x ++ [c] := cps_app x ⟨#[c]⟩
  rw [e, show (⟨#[c]⟩ : Str).length = 1 from rfl]
  simp [len_cps]
noncomputable def mkT (m : Str) : Str := if m = "" then "-" else m
noncomputable def showSide (s : Side) : Str := Txt.join " " [s.g, toString s.n, mkT s.m]
noncomputable def headC (k : Cpl) : Str := Txt.join " " [k.name, toString k.need, toString k.rank]
noncomputable def showC (k : Cpl) : Str := headC k ++ ": " ++ showSide k.gv ++ " > " ++ showSide k.tk
structure Side.Ok (s : Side) : Prop where
  g : isGroup s.g = true
  n : 1 ≤ s.n ∧ s.n ≤ 99
  m : s.m = "" ∨ (rising (cps s.m) = true ∧ madeOf s.m letters = true)
structure Cpl.Ok (k : Cpl) : Prop where
  name : isNameZ k.name = true
  need : 1 ≤ k.need ∧ k.need ≤ 1000000
  rank : 0 ≤ k.rank ∧ k.rank ≤ 1000000
  gv : k.gv.Ok
  tk : k.tk.Ok
noncomputable def pieces (k : Cpl) : List Str := [k.name, toString k.need, toString k.rank ++ ":", k.gv.g, toString k.gv.n, mkT k.gv.m, ">", k.tk.g, toString k.tk.n, mkT k.tk.m]
theorem blank : (Str.ofString " ") = ⟨#[32]⟩ := by decide +kernel
theorem colon : (Str.ofString ":") = ⟨#[58]⟩ := by decide +kernel
theorem cps_show (k : Cpl) : cps (showC k) = joinL [32] (pieces k) := by
  have e1 : cps (Str.ofString ": ") = [58, 32] := by decide +kernel
  have e2 : cps (Str.ofString " > ") = [32, 62, 32] := by decide +kernel
  have e3 : cps (Str.ofString " ") = [32] := by decide +kernel
  have e4 : cps (Str.ofString ":") = [58] := by decide +kernel
  have e5 : cps (Str.ofString ">") = [62] := by decide +kernel
  unfold showC headC showSide pieces
  simp only [cps_app, cps_join, e1, e2, e3, joinL, List.map_cons, List.map_nil, List.flatten_cons, List.flatten_nil, e4, e5, List.append_nil, List.append_assoc, List.cons_append, List.nil_append]
theorem numIn_back {n a b : Int} (h0 : 0 ≤ n) (h1 : n < 10 ^ 10) (ha : a ≤ n) (hb : n ≤ b) : numIn (Str.ofString (toString n)) a b = some n := by
  unfold numIn
  rw [if_pos (toString_writes n h0 (by omega)).1, PySem.W.KIN.num_reads h0 h1]
  exact if_pos ⟨ha, hb⟩
theorem marks_back {m : Str} (h : m = "" ∨ (rising (cps m) = true ∧ madeOf m letters = true)) : marksIn (mkT m) = some m := by
  by_cases q : m = ""
  · unfold mkT
    rw [if_pos q]
    unfold marksIn
    rw [if_pos rfl, q]
  · unfold mkT
    rw [if_neg q]
    have h := h.resolve_left q
    unfold marksIn
    have q2 : m ≠ "-" := fun z => by
      rw [z] at h
      exact absurd h.2 (by decide +kernel)
    rw [if_neg q2, if_neg q, if_pos h]
theorem side_back {s : Side} (h : s.Ok) : sideIn s.g (toString s.n) (mkT s.m) = some s := by
  unfold sideIn
  rw [if_pos h.g]
  rw [numIn_back (by have := h.n; omega) (by have := h.n; omega) h.n.1 h.n.2]
  dsimp only
  rw [marks_back h.m]
theorem rank_back {n : Int} (h : 0 ≤ n ∧ n ≤ 1000000) : rankIn (toString n ++ ":") = some n := by
  unfold rankIn
  rw [colon, if_pos (ends_last _ _), slice_last]
  exact numIn_back h.1 (by omega) h.1 h.2
theorem couple_back {k : Cpl} (h : k.Ok) : coupleIn (pieces k) = some k := by
  unfold pieces coupleIn
  dsimp only
  rw [if_pos rfl, numIn_back (by have := h.need; omega) (by have := h.need; omega) h.need.1 h.need.2]
  dsimp only
  rw [if_pos h.name, rank_back h.rank]
  dsimp only
  rw [side_back h.gv]
  dsimp only
  rw [side_back h.tk]
end Wd
namespace Wd
open PySem PySem.Spec PyProof.Rows L2 Sw
variable {M : Mo}
theorem name_facts {t : Str} (h : isNameZ t = true) : 32 ∉ cps t ∧ t.length ≤ 8 := by
  unfold isNameZ at h
  simp only [Bool.and_eq_true, decide_eq_true_eq] at h
  refine ⟨fun z => ?_, by rw [len_cps]; omega⟩
  have := List.all_eq_true.mp h.1 32 z
  exact absurd this (by decide)
theorem num_facts {n : Int} (h0 : 0 ≤ n) (h1 : n < 10 ^ 12) : 32 ∉ cps (Str.ofString (toString n)) ∧ (Str.ofString (toString n)).length ≤ 12 := by
  refine ⟨fun z => ?_, (toString_writes n h0 h1).2⟩
  rw [num_cps n h0] at z
  exact absurd (digits_range z) (by decide)
theorem group_facts {t : Str} (h : isGroup t = true) : 32 ∉ cps t ∧ t.length ≤ 2 := by
  have z : t = "O" ∨ t = "A" ∨ t = "B" ∨ t = "AB" := by
    unfold isGroup groups inV at h
    have f : ∀ a b : Str, eqV (V.str a) (V.str b) = true → b = a := fun a b h => (eq_of_beq (show (a == b) = true from h)).symm
    simp only [List.any_cons, List.any_nil, Bool.or_false, Bool.or_eq_true] at h
    rcases h with h | h | h | h
    · exact .inl (f _ _ h)
    · exact .inr (.inl (f _ _ h))
    · exact .inr (.inr (.inl (f _ _ h)))
    · exact .inr (.inr (.inr (f _ _ h)))
  rcases z with rfl | rfl | rfl | rfl <;> decide +kernel
theorem rise_len {l : List Nat} (h : l.Pairwise (· < ·)) (ha : ∀ c ∈ l, inRange 97 122 c = true) : l.length ≤ 26 := by
  have nd : l.Nodup := h.imp fun h => Nat.ne_of_lt h
  have sub : ∀ c ∈ l, c ∈ (List.range 26).map (· + 97) := fun c hc => by
    have := ha c hc
    simp only [inRange, Bool.and_eq_true, decide_eq_true_eq] at this
    exact List.mem_map.mpr ⟨c - 97, by simp; omega, by omega⟩
  have := List.Nodup.length_le_of_subset nd sub
  simpa using this
theorem marks_facts {m : Str} (h : m = "" ∨ (rising (cps m) = true ∧ madeOf m letters = true)) : 32 ∉ cps (mkT m) ∧ (mkT m).length ≤ 26 := by
  unfold mkT
  by_cases q : m = ""
  · rw [if_pos q]; decide +kernel
  · rw [if_neg q]
    have h := h.resolve_left q
    rw [madeOf_letters] at h
    refine ⟨fun z => ?_, ?_⟩
    · exact absurd (List.all_eq_true.mp h.2 32 z) (by decide)
    · rw [len_cps]
      exact rise_len (of_decide_eq_true h.1) fun c hc => List.all_eq_true.mp h.2 c hc
theorem piece_facts {k : Cpl} (h : k.Ok) : ∀ t ∈ pieces k, 32 ∉ cps t ∧ t.length ≤ 26 := by
  have a := name_facts h.name
  have b := num_facts (n := k.need) (by have := h.need; omega) (by have := h.need; omega)
  have c := num_facts (n := k.rank) (by have := h.rank; omega) (by have := h.rank; omega)
  have d := group_facts h.gv.g
  have e := num_facts (n := k.gv.n) (by have := h.gv.n; omega) (by have := h.gv.n; omega)
  have f := marks_facts h.gv.m
  have d' := group_facts h.tk.g
  have e' := num_facts (n := k.tk.n) (by have := h.tk.n; omega) (by have := h.tk.n; omega)
  have f' := marks_facts h.tk.m
  intro t ht
  unfold pieces at ht
  simp only [List.mem_cons, List.not_mem_nil, or_false] at ht
  rcases ht with rfl | rfl | rfl | rfl | rfl | rfl | rfl | rfl | rfl | rfl
  · exact ⟨a.1, by omega⟩
  · exact ⟨b.1, by omega⟩
  · refine ⟨fun z => ?_, ?_⟩
    · rw [cps_app, colon] at z
      rcases List.mem_append.mp z with z | z
      · exact c.1 z
      · exact absurd z (by decide)
    · rw [len_app, colon]
      have : (⟨#[58]⟩ : Str).length = 1 := rfl
      omega
  · exact ⟨d.1, by omega⟩
  · exact ⟨e.1, by omega⟩
  · exact f
  · decide +kernel
  · exact ⟨d'.1, by omega⟩
  · exact ⟨e'.1, by omega⟩
  · exact f'
theorem split_show {k : Cpl} (h : k.Ok) : Txt.split (showC k) " " = pieces k := by
  show Txt.split (showC k) (Str.ofString " ") = _
  rw [blank]
  exact split_back (by unfold pieces; simp) (fun t ht => (piece_facts h t ht).1) (cps_show k)
structure G7 (Γ : Gam) (M : Mo) (c : Addr) : Prop where
  cm : Γ.cm = true
  mod : Γ.mod = M
  ci : Γ.has "couple_in" = true ∧ Γ.fn "couple_in" = spCoupleIn M c
  cat : Γ.cat "NoRow" = true
end Wd
namespace Wd
open PySem PySem.Spec PyProof.Rows L2 Sw
variable {M : Mo}
theorem ix_tup {H : Hp} {p : Addr} {xs : List V} (hp : rd M H p = some (.tup xs)) {k : Int} {v : V} (e : atI xs k = some v) {Q : VK} (q : Q v H) : idxV M (.ref p) (.int k) H Q := by
  rw [i_ref, hp]
  dsimp only
  rw [e]
  exact q
theorem join_at {H : Hp} {p : Addr} {sep : Str} {ts : List Str} {Q : VK} (hp : rd M H p = some (.lst (ts.map V.str))) (ok : JoinOk sep ts = true) (q : Q (.str (Txt.join sep ts)) H) : mthV M .join (.str sep) [.ref p] H Q := by
  rw [m_join, hp]
  dsimp only
  rw [allM_strs]
  exact ⟨ok, q⟩
theorem rd_of {H : Hp} {p : Addr} {xs : List V} (h : H p = some (.tup xs)) : rd M H p = some (.tup xs) := by unfold rd; rw [h]
theorem log_ok {n : Int} (h0 : 0 ≤ n) (h1 : n ≤ 1000001) : n.natAbs.log2 < 1920 := by
  have : n.natAbs.log2 ≤ n.natAbs := Nat.log2_le_self _
  by_cases h : n.natAbs = 0
  · rw [h]; decide
  · rw [Nat.log2_lt h]
    exact Nat.lt_of_le_of_lt (show n.natAbs ≤ 1000001 by omega) (Nat.lt_of_lt_of_le (show 1000001 < 2 ^ 20 by decide) (Nat.pow_le_pow_right (by decide) (by decide)))
theorem joinOk3 {a b c : Str} (ha : a.length ≤ 100) (hb : b.length ≤ 100) (hc : c.length ≤ 100) : JoinOk (Str.ofString " ") [a, b, c] = true := by
  refine joinOk _ _ 100 (fun x hx => ?_) (by rw [show (Str.ofString " ").length = 1 from rfl]; simp)
  simp only [List.mem_cons, List.not_mem_nil, or_false] at hx
  rcases hx with rfl | rfl | rfl <;> assumption
theorem len_join3 (a b c : Str) : (Txt.join (Str.ofString " ") [a, b, c]).length = a.length + b.length + c.length + 2 := by
  rw [len_cps, cps_join, show cps (Str.ofString " ") = [32] from by decide +kernel]
  simp only [joinL, List.map_cons, List.map_nil, List.flatten_cons, List.flatten_nil, List.append_nil, List.length_append, len_cps, List.length_cons, List.length_nil]
  omega
noncomputable def spShowSide (M : Mo) : Sp := fun vs H Q _ => ∃ (p : Addr) (s : Side), vs = [.ref p] ∧ s.Ok ∧ H p = some (.tup s.vs) ∧ ∀ H', Ext M H H' → Q (.str (showSide s)) H'
structure GS (Γ : Gam) (M : Mo) : Prop where
  cm : Γ.cm = true
  mod : Γ.mod = M
  nm : Γ.con "NO_MARKS" = some (.str "-")
structure GC (Γ : Gam) (M : Mo) : Prop where
  cm : Γ.cm = true
  mod : Γ.mod = M
  ss : Γ.has "show_side" = true ∧ Γ.fn "show_side" = spShowSide M
end Wd
namespace Wd
open PySem PySem.Spec PyProof.Rows L2 Sw
variable {M : Mo}
theorem val_snoc (l : List Nat) (d : Nat) : PySem.NumText.digitsVal (l ++ [d]) = PySem.NumText.digitsVal l * 10 + (d - 48) := by
  unfold PySem.NumText.digitsVal
  rw [List.foldl_append]
  rfl
theorem snoc_ind {P : List Nat → Prop} (h0 : P []) (h1 : ∀ l d, P l → P (l ++ [d])) (l : List Nat) : P l := by
  rw [← List.reverse_reverse l]
  induction l.reverse with
  | nil => exact h0
  | cons d r ih => rw [List.reverse_cons]; exact h1 _ _ ih
theorem val_pos : ∀ (l : List Nat) (c : Nat), l[0]? = some c → 49 ≤ c → c ≤ 57 → 0 < PySem.NumText.digitsVal l := by
  intro l
  refine snoc_ind (P := fun l => ∀ c, l[0]? = some c → 49 ≤ c → c ≤ 57 → 0 < PySem.NumText.digitsVal l) ?_ ?_ l
  · intro c h; simp at h
  · intro l d ih c h h1 h2
    rw [val_snoc]
    cases l with
    | nil =>
      have : d = c := by simpa using h
      subst this
      simp [PySem.NumText.digitsVal]
      omega
    | cons a r =>
      have := ih c (by simpa using h) h1 h2
      omega
theorem digits_val : ∀ (l : List Nat), (∀ c ∈ l, inRange 48 57 c = true) → l ≠ [] → (l[0]? = some 48 → l = [48]) → (Nat.toDigits 10 (PySem.NumText.digitsVal l)).map Char.toNat = l := by
  intro l
  refine snoc_ind (P := fun l => (∀ c ∈ l, inRange 48 57 c = true) → l ≠ [] → (l[0]? = some 48 → l = [48]) → (Nat.toDigits 10 (PySem.NumText.digitsVal l)).map Char.toNat = l) ?_ ?_ l
  · intro _ h; exact absurd rfl h
  · intro l d ih h1 _ h2
    have hd := h1 d (by simp)
    simp only [inRange, Bool.and_eq_true, decide_eq_true_eq] at hd
    have dig : ∀ k, k < 10 → (Nat.digitChar k).toNat = 48 + k := by decide
    rw [val_snoc]
    cases l with
    | nil =>
      have e : PySem.NumText.digitsVal [] = 0 := rfl
      rw [e, Nat.zero_mul, Nat.zero_add, Nat.toDigits_of_lt_base (by omega), List.map_singleton, dig _ (by omega)]
      rw [List.nil_append]
      congr 1
      omega
    | cons a r =>
      have ha := h1 a (by simp)
      simp only [inRange, Bool.and_eq_true, decide_eq_true_eq] at ha
      have ha48 : a ≠ 48 := fun z => by
        have := h2 (by simp [z])
        simp at this
      have hp := val_pos (a :: r) a rfl (by omega) ha.2
      rw [Nat.toDigits_of_base_le (by decide) (by omega)]
      have e1 : (PySem.NumText.digitsVal (a :: r) * 10 + (d - 48)) / 10 = PySem.NumText.digitsVal (a :: r) := by omega
      have e2 : (PySem.NumText.digitsVal (a :: r) * 10 + (d - 48)) % 10 = d - 48 := by omega
      rw [e1, e2, List.map_append, ih (fun c hc => h1 c (List.mem_append_left _ hc)) (by simp) (fun z => by
        have : a = 48 := by simpa using z
        exact absurd this ha48), List.map_singleton, dig _ (by omega)]
      congr 2
      omega
theorem num_canon {t : Str} {n : Int} (h : writesZ t = true) (e : PySem.intText? t = some n) : 0 ≤ n ∧ t = Str.ofString (toString n) := by
  unfold writesZ at h
  simp only [Bool.and_eq_true, decide_eq_true_eq, Bool.or_eq_true, Bool.not_eq_true', decide_eq_false_iff_not] at h
  obtain ⟨h1, ⟨h2, h3⟩, h4⟩ := h
  have h1 := List.all_eq_true.mp h1
  have ne : cps t ≠ [] := fun z => by rw [z] at h2; simp at h2
  have ed := PySem.intText_digits (x := t) (fun c hc => by simpa [inRange] using h1 c hc) ne (by rw [len_cps]; omega)
  rw [ed] at e
  have e := Option.some.inj e
  subst e
  refine ⟨by omega, str_ext ?_⟩
  rw [num_cps _ (by omega), Int.toNat_natCast]
  exact (digits_val _ h1 ne fun z => by
    rcases h4 with h4 | h4
    · exact absurd z h4
    · exact h4).symm
theorem numIn_canon {t : Str} {a b n : Int} (h : numIn t a b = some n) : 0 ≤ n ∧ t = Str.ofString (toString n) ∧ a ≤ n ∧ n ≤ b := by
  unfold numIn at h
  split at h
  · rename_i hw
    split at h
    · rename_i m hm
      split at h
      · rename_i hr
        obtain rfl := Option.some.inj h
        obtain ⟨h0, h1⟩ := num_canon hw hm
        exact ⟨h0, h1, hr.1, hr.2⟩
      · cases h
    · cases h
  · cases h
theorem ends_form {t : Str} {c : Nat} (h : Txt.endswith t ⟨#[c]⟩ = true) : ∃ x : Str, t = x ++ ⟨#[c]⟩ := by
  unfold Txt.endswith at h
  rw [StrLaws.subAt_eq] at h
  simp only [Bool.and_eq_true, decide_eq_true_eq, beq_iff_eq] at h
  obtain ⟨h1, h2⟩ := h
  have hl : (⟨#[c]⟩ : Str).length = 1 := rfl
  rw [hl] at h1 h2
  refine ⟨⟨((cps t).take (t.length - 1)).toArray⟩, str_ext ?_⟩
  rw [cps_app]
  have e : cps ⟨((cps t).take (t.length - 1)).toArray⟩ = (cps t).take (t.length - 1) := by simp [cps]
  have e2 : (cps t).drop (t.length - 1) = [c] := by
    have hle : ((cps t).drop (t.length - 1)).length ≤ 1 := by rw [List.length_drop, ← len_cps]; omega
    rw [List.take_of_length_le hle] at h2
    exact h2
  rw [e]
  show cps t = _ ++ [c]
  rw [← e2, List.take_append_drop]
theorem marks_canon {t m : Str} (h : marksIn t = some m) : (m = "" ∨ (rising (cps m) = true ∧ madeOf m letters = true)) ∧ t = mkT m := by
  unfold marksIn at h
  split at h
  · rename_i e
    obtain rfl := Option.some.inj h
    exact ⟨.inl rfl, by rw [e]; rfl⟩
  · split at h
    · cases h
    · split at h
      · rename_i h1 h2 h3
        obtain rfl := Option.some.inj h
        exact ⟨.inr h3, by unfold mkT; rw [if_neg h2]⟩
      · cases h
theorem side_canon {a b d : Str} {s : Side} (h : sideIn a b d = some s) : s.Ok ∧ a = s.g ∧ b = Str.ofString (toString s.n) ∧ d = mkT s.m := by
  unfold sideIn at h
  split at h
  · rename_i hg
    split at h
    · rename_i n hn
      split at h
      · rename_i m hm
        obtain rfl := Option.some.inj h
        obtain ⟨h0, h1, h2, h3⟩ := numIn_canon hn
        obtain ⟨h4, h5⟩ := marks_canon hm
        exact ⟨⟨hg, ⟨h2, h3⟩, h4⟩, rfl, h1, h5⟩
      · cases h
    · cases h
  · cases h
theorem rank_canon {t : Str} {n : Int} (h : rankIn t = some n) : (0 ≤ n ∧ n ≤ 1000000) ∧ t = toString n ++ ":" := by
  unfold rankIn at h
  split at h
  · rename_i he
    rw [colon] at he
    obtain ⟨x, rfl⟩ := ends_form he
    rw [slice_last] at h
    obtain ⟨h0, h1, h2, h3⟩ := numIn_canon h
    refine ⟨⟨h2, h3⟩, ?_⟩
    rw [h1]
    show _ = Str.ofString (toString n) ++ Str.ofString ":"
    rw [colon]
  · cases h
theorem couple_canon {ps : List Str} {k : Cpl} (h : coupleIn ps = some k) : k.Ok ∧ ps = pieces k := by
  unfold coupleIn at h
  split at h
  · rename_i a b c d e f s g i j
    split at h
    · rename_i hs
      split at h
      · rename_i need hneed
        split at h
        · rename_i hname
          split at h
          · rename_i rank hrank
            split at h
            · rename_i gv hgv
              split at h
              · rename_i tk htk
                obtain rfl := Option.some.inj h
                obtain ⟨_, n1, n2, n3⟩ := numIn_canon hneed
                obtain ⟨r1, r2⟩ := rank_canon hrank
                obtain ⟨s1, s2, s3, s4⟩ := side_canon hgv
                obtain ⟨t1, t2, t3, t4⟩ := side_canon htk
                refine ⟨⟨hname, ⟨n2, n3⟩, r1, s1, t1⟩, ?_⟩
                unfold pieces
                rw [hs, n1, r2, s2, s3, s4, t2, t3, t4]
              · cases h
            · cases h
          · cases h
        · cases h
      · cases h
    · cases h
  · cases h
noncomputable def readC (t : Str) : Option Cpl := coupleIn (Txt.split t " ")
theorem read_show {k : Cpl} (h : k.Ok) : readC (showC k) = some k := by
  unfold readC
  rw [split_show h, couple_back h]
theorem show_read {t : Str} {k : Cpl} (h : readC t = some k) : k.Ok ∧ t = showC k := by
  obtain ⟨h1, h2⟩ := couple_canon h
  refine ⟨h1, str_ext ?_⟩
  have h2 : Txt.split t (Str.ofString " ") = pieces k := h2
  rw [blank] at h2
  rw [split_joins t 32, h2, cps_show]
noncomputable def spReadC (M : Mo) (c : Addr) : Sp := fun vs H Q E => ∃ t, vs = [.str t] ∧ OffM M H ∧ t.length ≤ 640 ∧ (∀ p ∈ Txt.split t " ", PieceOk p) ∧ match readC t with
  | some k => ∀ H' q, Ext M H H' → M q = none → CplAt H' q k → Q (.ref q) H'
  | none => ∀ H' d, Ext M H H' → H' d = some (.xd [(("row" : Str), .str t)]) → E (rawInt c) (some d) H'
structure G8 (Γ : Gam) (M : Mo) (c : Addr) : Prop extends G7 Γ M c where
  ex : Γ.exc "NoRow" = some (c, [("row" : Str)])
  su : Γ.sub c "NoRow" = some true
theorem ok_readC {Γ : Gam} {c : Addr} (g : G8 Γ M c) (vs : List V) (H : Hp) (Q : VK) (E : XK) (h : spReadC M c vs H Q E) : spOf Γ N_read_couple 1 b_read_couple vs H Q E := by
  obtain ⟨t, rfl, off, hl, ok, h⟩ := h
  refine ⟨rfl, ?_⟩
  obtain rfl := g.mod
  unfold b_read_couple
  dsimp only [Sw.wSs, Sw.wS, Sw.wE, Sw.wT, Sw.wEs, Sw.wTs, Sw.wI, Sw.wP, Sw.vars, L2.start, Sw.r_get0, Sw.r_getS, Sw.r_set0, Sw.r_setS, Sw.r_map0, Sw.r_mapS, Sw.r_app0, Sw.r_appS, Sw.r_len0, Sw.r_lenS, Sw.r_rep0, Sw.r_repS, Sw.r_join, Nat.reduceAdd, Nat.reduceSub]
  refine ⟨rfl, ?_⟩
  rw [m_split]
  refine ⟨rfl, by omega, fun l hl' ml => ?_⟩
  have x1 := Ext.upd (o := .lst ((Txt.split t (Str.ofString " ")).map V.str)) hl' ml
  rw [g.ci.2]
  refine ⟨g.cm, g.cat, ⟨g.cm, g.ci.1⟩, l, Txt.split t " ", rfl, rd_upd (by intro _ _ z; cases z), OffM.ext off x1, ok, ?_⟩
  have e : coupleIn (Txt.split t " ") = readC t := rfl
  rw [e]
  cases q : readC t with
  | some k =>
    rw [q] at h
    intro H' q x mq hq
    exact h H' q (x1.trans x) mq hq
  | none =>
    rw [q] at h
    intro H' d r x hd
    show handW _ _ _ _ _ (.ref c) (some d) _ H'
    unfold handW
    dsimp only
    rw [if_pos (by rw [g.su]; rfl)]
    unfold Gam.grip
    dsimp only
    rw [g.ex]
    refine ⟨rfl, fun d' hd' md' => ?_⟩
    exact h _ d' ((x1.trans x).trans (Ext.upd hd' md')) upd_same
end Wd
namespace Wd
open PySem PySem.Spec PyProof.Rows L2 Sw
variable {M : Mo}
structure _root_.Wd.Side.Near (s : Side) : Prop where
  g : isGroup s.g = true
  n : 0 ≤ s.n ∧ s.n ≤ 100
  m : s.m = "" ∨ (rising (cps s.m) = true ∧ madeOf s.m letters = true)
structure _root_.Wd.Cpl.Near (k : Cpl) : Prop where
  name : isNameZ k.name = true
  need : 0 ≤ k.need ∧ k.need ≤ 1000001
  rank : 0 ≤ k.rank ∧ k.rank ≤ 1000001
  gv : k.gv.Near
  tk : k.tk.Near
theorem _root_.Wd.Side.Ok.near {s : Side} (h : s.Ok) : s.Near := ⟨h.g, by have := h.n; omega, h.m⟩
theorem _root_.Wd.Cpl.Ok.near {k : Cpl} (h : k.Ok) : k.Near := ⟨h.name, by have := h.need; omega, by have := h.rank; omega, h.gv.near, h.tk.near⟩
theorem near_bound {s : Side} (h : s.Near) : s.g.length ≤ 100 ∧ (Str.ofString (toString s.n)).length ≤ 100 ∧ (mkT s.m).length ≤ 100 := by
  have d := group_facts h.g
  have e := num_facts (n := s.n) (by have := h.n; omega) (by have := h.n; omega)
  have f := marks_facts h.m
  exact ⟨by omega, by omega, by omega⟩
theorem near_len {k : Cpl} (h : k.Near) : (showC k).length ≤ 130 ∧ (headC k).length ≤ 40 ∧ (showSide k.gv).length ≤ 45 ∧ (showSide k.tk).length ≤ 45 := by
  have a := name_facts h.name
  have b := num_facts (n := k.need) (by have := h.need; omega) (by have := h.need; omega)
  have c := num_facts (n := k.rank) (by have := h.rank; omega) (by have := h.rank; omega)
  have d := group_facts h.gv.g
  have e := num_facts (n := k.gv.n) (by have := h.gv.n; omega) (by have := h.gv.n; omega)
  have f := marks_facts h.gv.m
  have d' := group_facts h.tk.g
  have e' := num_facts (n := k.tk.n) (by have := h.tk.n; omega) (by have := h.tk.n; omega)
  have f' := marks_facts h.tk.m
  have h1 : (headC k).length ≤ 34 := by unfold headC; rw [len_join3]; omega
  have h2 : (showSide k.gv).length ≤ 42 := by unfold showSide; rw [len_join3]; omega
  have h3 : (showSide k.tk).length ≤ 42 := by unfold showSide; rw [len_join3]; omega
  refine ⟨?_, by omega, by omega, by omega⟩
  unfold showC
  rw [len_app, len_app, len_app, len_app, show (Str.ofString ": ").length = 2 from rfl, show (Str.ofString " > ").length = 3 from rfl]
  omega
noncomputable def signs0 : Str := "abcdefghijklmnopqrstuvwxyz0123456789:>-OAB "
noncomputable def L0 : List Nat := cps signs0
theorem L0_len : L0.length = 43 := by decide +kernel
theorem L0_letter {c : Nat} (h : inRange 97 122 c = true) : c ∈ L0 := by
  have e : L0 = (List.range 26).map (· + 97) ++ ((List.range 10).map (· + 48) ++ [58, 62, 45, 79, 65, 66, 32]) := by decide +kernel
  rw [e]
  simp only [inRange, Bool.and_eq_true, decide_eq_true_eq] at h
  exact List.mem_append_left _ (List.mem_map.mpr ⟨c - 97, by simp; omega, by omega⟩)
theorem L0_figure {c : Nat} (h : inRange 48 57 c = true) : c ∈ L0 := by
  have e : L0 = (List.range 26).map (· + 97) ++ ((List.range 10).map (· + 48) ++ [58, 62, 45, 79, 65, 66, 32]) := by decide +kernel
  rw [e]
  simp only [inRange, Bool.and_eq_true, decide_eq_true_eq] at h
  exact List.mem_append_right _ (List.mem_append_left _ (List.mem_map.mpr ⟨c - 48, by simp; omega, by omega⟩))
noncomputable def In0 (t : Str) : Prop := ∀ c ∈ cps t, c ∈ L0
theorem In0.app {x y : Str} (h1 : In0 x) (h2 : In0 y) : In0 (x ++ y) := fun c hc => by
  rw [cps_app] at hc
  rcases List.mem_append.mp hc with z | z
  · exact h1 c z
  · exact h2 c z
theorem name_in0 {t : Str} (h : isNameZ t = true) : In0 t := fun c hc => by
  unfold isNameZ at h
  simp only [Bool.and_eq_true] at h
  exact L0_letter (List.all_eq_true.mp h.1 c hc)
theorem num_in0 {n : Int} (h0 : 0 ≤ n) : In0 (Str.ofString (toString n)) := fun c hc => by
  rw [num_cps n h0] at hc
  exact L0_figure (digits_range hc)
theorem group_in0 {t : Str} (h : isGroup t = true) : In0 t := by
  have z : t = "O" ∨ t = "A" ∨ t = "B" ∨ t = "AB" := by
    unfold isGroup groups inV at h
    have f : ∀ a b : Str, eqV (V.str a) (V.str b) = true → b = a := fun a b h => (eq_of_beq (show (a == b) = true from h)).symm
    simp only [List.any_cons, List.any_nil, Bool.or_false, Bool.or_eq_true] at h
    rcases h with h | h | h | h
    · exact .inl (f _ _ h)
    · exact .inr (.inl (f _ _ h))
    · exact .inr (.inr (.inl (f _ _ h)))
    · exact .inr (.inr (.inr (f _ _ h)))
  unfold In0
  rcases z with rfl | rfl | rfl | rfl <;> decide +kernel
theorem marks_in0 {m : Str} (h : m = "" ∨ (rising (cps m) = true ∧ madeOf m letters = true)) : In0 (mkT m) := by
  unfold mkT
  by_cases q : m = ""
  · rw [if_pos q]; unfold In0; decide +kernel
  · rw [if_neg q]
    have h := (h.resolve_left q).2
    rw [madeOf_letters] at h
    exact fun c hc => L0_letter (List.all_eq_true.mp h c hc)
theorem near_pieces {k : Cpl} (h : k.Near) : ∀ t ∈ pieces k, In0 t ∧ 32 ∉ cps t := by
  have a := name_facts h.name
  have b := num_facts (n := k.need) (by have := h.need; omega) (by have := h.need; omega)
  have c := num_facts (n := k.rank) (by have := h.rank; omega) (by have := h.rank; omega)
  have d := group_facts h.gv.g
  have e := num_facts (n := k.gv.n) (by have := h.gv.n; omega) (by have := h.gv.n; omega)
  have f := marks_facts h.gv.m
  have d' := group_facts h.tk.g
  have e' := num_facts (n := k.tk.n) (by have := h.tk.n; omega) (by have := h.tk.n; omega)
  have f' := marks_facts h.tk.m
  intro t ht
  unfold pieces at ht
  simp only [List.mem_cons, List.not_mem_nil, or_false] at ht
  rcases ht with rfl | rfl | rfl | rfl | rfl | rfl | rfl | rfl | rfl | rfl
  · exact ⟨name_in0 h.name, a.1⟩
  · exact ⟨num_in0 h.need.1, b.1⟩
  · refine ⟨In0.app (num_in0 h.rank.1) (by unfold In0; decide +kernel), fun z => ?_⟩
    rw [cps_app, colon] at z
    rcases List.mem_append.mp z with z | z
    · exact c.1 z
    · exact absurd z (by decide)
  · exact ⟨group_in0 h.gv.g, d.1⟩
  · exact ⟨num_in0 h.gv.n.1, e.1⟩
  · exact ⟨marks_in0 h.gv.m, f.1⟩
  · unfold In0; decide +kernel
  · exact ⟨group_in0 h.tk.g, d'.1⟩
  · exact ⟨num_in0 h.tk.n.1, e'.1⟩
  · exact ⟨marks_in0 h.tk.m, f'.1⟩
theorem mem_joinL {g : List Nat} : ∀ {ps : List Str} {c : Nat}, c ∈ joinL g ps → c ∈ g ∨ ∃ p ∈ ps, c ∈ cps p
  | [], c, h => by simp [joinL] at h
  | p :: r, c, h => by
    rw [joinL] at h
    rcases List.mem_append.mp h with z | z
    · exact .inr ⟨p, by simp, z⟩
    · obtain ⟨l, hl, hc⟩ := List.mem_flatten.mp z
      obtain ⟨q, hq, rfl⟩ := List.mem_map.mp hl
      rcases List.mem_append.mp hc with z | z
      · exact .inl z
      · exact .inr ⟨q, by simp [hq], z⟩
theorem joinL_mem {g : List Nat} : ∀ {ps : List Str} {p : Str}, p ∈ ps → (∀ c ∈ cps p, c ∈ joinL g ps) ∧ (cps p).length ≤ (joinL g ps).length
  | [], p, h => by simp at h
  | q :: r, p, h => by
    rw [joinL]
    rcases List.mem_cons.mp h with rfl | z
    · exact ⟨fun c hc => List.mem_append_left _ hc, by rw [List.length_append]; omega⟩
    · have hm : g ++ cps p ∈ r.map fun p => g ++ cps p := List.mem_map.mpr ⟨p, z, rfl⟩
      refine ⟨fun c hc => List.mem_append_right _ (List.mem_flatten.mpr ⟨_, hm, List.mem_append_right _ hc⟩), ?_⟩
      have : (g ++ cps p).length ≤ ((r.map fun p => g ++ cps p).flatten).length := (List.sublist_flatten_of_mem hm).length_le
      rw [List.length_append] at this ⊢
      omega
theorem near_in0 {k : Cpl} (h : k.Near) : In0 (showC k) := fun c hc => by
  rw [cps_show] at hc
  rcases mem_joinL hc with z | ⟨p, hp, z⟩
  · rw [List.mem_singleton.mp z]; decide +kernel
  · exact (near_pieces h p hp).1 c z
theorem toString_inj {m n : Int} (h0 : 0 ≤ m) (h1 : m < 10 ^ 10) (h2 : 0 ≤ n) (h3 : n < 10 ^ 10) (h : Str.ofString (toString m) = Str.ofString (toString n)) : m = n := by
  have a := PySem.W.KIN.num_reads h0 h1
  rw [h, PySem.W.KIN.num_reads h2 h3] at a
  exact (Option.some.inj a).symm
theorem mkT_inj {a b : Str} (ha : a = "" ∨ (rising (cps a) = true ∧ madeOf a letters = true)) (hb : b = "" ∨ (rising (cps b) = true ∧ madeOf b letters = true)) (h : mkT a = mkT b) : a = b := by
  have z := marks_back ha
  rw [h, marks_back hb] at z
  exact (Option.some.inj z).symm
theorem app_inj {x y : Str} {c : Nat} (h : x ++ ⟨#[c]⟩ = y ++ ⟨#[c]⟩) : x = y := by
  have := congrArg cps h
  rw [cps_app, cps_app] at this
  exact str_ext (List.append_cancel_right this)
theorem near_none {k : Cpl} (n : k.Near) (bad : ¬ k.Ok) : readC (showC k) = none := by
  cases q : readC (showC k) with
  | none => rfl
  | some k' =>
    obtain ⟨ok, e⟩ := show_read q
    have n' := ok.near
    have e := congrArg cps e
    rw [cps_show, cps_show] at e
    have ep := pieces_eq (c := 32) (ps := pieces k) (qs := pieces k') (by unfold pieces; simp) (by unfold pieces; simp) (fun p hp => (near_pieces n p hp).2) (fun p hp => (near_pieces n' p hp).2) e
    unfold pieces at ep
    simp only [List.cons.injEq, and_true, true_and] at ep
    obtain ⟨e1, e2, e3, e4, e5, e6, e7, e8, e9⟩ := ep
    have a2 := toString_inj n.need.1 (by have := n.need; omega) n'.need.1 (by have := n'.need; omega) e2
    have e3 : Str.ofString (toString k.rank) ++ Str.ofString ":" = Str.ofString (toString k'.rank) ++ Str.ofString ":" := e3
    rw [colon] at e3
    have a3 := toString_inj n.rank.1 (by have := n.rank; omega) n'.rank.1 (by have := n'.rank; omega) (app_inj e3)
    have a5 := toString_inj n.gv.n.1 (by have := n.gv.n; omega) n'.gv.n.1 (by have := n'.gv.n; omega) e5
    have a8 := toString_inj n.tk.n.1 (by have := n.tk.n; omega) n'.tk.n.1 (by have := n'.tk.n; omega) e8
    have a6 := mkT_inj n.gv.m n'.gv.m e6
    have a9 := mkT_inj n.tk.m n'.tk.m e9
    obtain ⟨x1, x2, x3, ⟨g1, g2, g3⟩, ⟨t1, t2, t3⟩⟩ := k
    obtain ⟨y1, y2, y3, ⟨h1, h2, h3⟩, ⟨u1, u2, u3⟩⟩ := k'
    simp only at e1 a2 a3 e4 a5 a6 e7 a8 a9
    subst e1 a2 a3 e4 a5 a6 e7 a8 a9
    exact absurd ok bad
theorem split_ok {t : Str} {c : Nat} (hl : t.length ≤ 640) (h : ∀ x ∈ cps t, x ∈ c :: L0) : ∀ p ∈ Txt.split t " ", PieceOk p := by
  intro p hp
  have hp : p ∈ Txt.split t (Str.ofString " ") := hp
  rw [blank] at hp
  have e := split_joins t 32
  obtain ⟨h1, h2⟩ := joinL_mem (g := [32]) hp
  rw [← e] at h1 h2
  refine ⟨by rw [len_cps]; rw [len_cps] at hl; omega, ?_⟩
  have := met_len (t := p) (l := c :: L0) (k := 44) (fun x hx => h x (h1 x hx)) (by rw [List.length_cons, L0_len]; decide)
  omega
noncomputable def spShowSideN (M : Mo) : Sp := fun vs H Q _ => ∃ (p : Addr) (s : Side), vs = [.ref p] ∧ s.Near ∧ H p = some (.tup s.vs) ∧ ∀ H', Ext M H H' → Q (.str (showSide s)) H'
noncomputable def spShowN (M : Mo) : Sp := fun vs H Q _ => ∃ (p : Addr) (k : Cpl), vs = [.ref p] ∧ k.Near ∧ CplAt H p k ∧ ∀ H', Ext M H H' → Q (.str (showC k)) H'
end Wd
namespace K3
open PySem PySem.Spec PyProof.Rows L2 Sw
noncomputable def top (i : Nat) : Stmt := PySem.Challenge.pw_swapward_k03_couples_refused.main.body.getD i (.Pass ⟨0, 0, 0, 0⟩)
@[reducible] noncomputable def st_made_of : Stmt := top 9
@[reducible] noncomputable def N_made_of : List Str := ["text", "signs"]
@[reducible] noncomputable def P_made_of : List Str := ["text", "signs"]
noncomputable def b_made_of : Sxs := (.cons (.ret (.blt .all (.cons (.comp "sign" [("signs", 1)] (.ex (.var 0)) (.cmp .In (.var 0) (.var 1)) .nil) .nil)))
 .nil)
theorem m_made_of : mSs (defScope st_made_of) N_made_of b_made_of (defBody st_made_of) := ⟨by kernel_rfl, by kernel_rfl⟩
theorem sc_made_of : FnScope N_made_of P_made_of (defScope st_made_of) := ⟨rfl, rfl, rfl, by decide +kernel, rfl, by decide +kernel, by decide +kernel⟩
@[reducible] noncomputable def st_is_name : Stmt := top 10
@[reducible] noncomputable def N_is_name : List Str := ["thing"]
@[reducible] noncomputable def P_is_name : List Str := ["thing"]
noncomputable def b_is_name : Sxs := (.cons (.ret (.and (.isin (.var 0) .str) (.and (.cmp2 .LtE .LtE (.con (.int 1)) (.blt .len (.cons (.var 0) .nil)) (.glob "MOST_LETTERS")) (.call "made_of" (.cons (.var 0) (.cons (.glob "LETTERS") .nil))))))
 .nil)
theorem m_is_name : mSs (defScope st_is_name) N_is_name b_is_name (defBody st_is_name) := ⟨by kernel_rfl, by kernel_rfl⟩
theorem sc_is_name : FnScope N_is_name P_is_name (defScope st_is_name) := ⟨rfl, rfl, rfl, by decide +kernel, rfl, by decide +kernel, by decide +kernel⟩
@[reducible] noncomputable def st_writes_number : Stmt := top 11
@[reducible] noncomputable def N_writes_number : List Str := ["text"]
@[reducible] noncomputable def P_writes_number : List Str := ["text"]
noncomputable def b_writes_number : Sxs := (.cons (.iff (.mth .startswith (.var 0) (.cons (.con (.str "0")) .nil)) (.cons (.ret (.cmp .Eq (.var 0) (.con (.str "0"))))
  .nil) .nil)
 (.cons (.ret (.and (.cmp2 .LtE .LtE (.con (.int 1)) (.blt .len (.cons (.var 0) .nil)) (.glob "MOST_FIGURES")) (.call "made_of" (.cons (.var 0) (.cons (.glob "FIGURES") .nil)))))
 .nil))
theorem m_writes_number : mSs (defScope st_writes_number) N_writes_number b_writes_number (defBody st_writes_number) := ⟨by kernel_rfl, by kernel_rfl⟩
theorem sc_writes_number : FnScope N_writes_number P_writes_number (defScope st_writes_number) := ⟨rfl, rfl, rfl, by decide +kernel, rfl, by decide +kernel, by decide +kernel⟩
@[reducible] noncomputable def st_number_of : Stmt := top 12
@[reducible] noncomputable def N_number_of : List Str := ["text"]
@[reducible] noncomputable def P_number_of : List Str := ["text"]
noncomputable def b_number_of : Sxs := (.cons (.iff (.not (.call "writes_number" (.cons (.var 0) .nil))) (.cons (.rais "NoRow" (.cons (.var 0) .nil))
  .nil) .nil)
 (.cons (.ret (.blt .int (.cons (.var 0) .nil)))
 .nil))
theorem m_number_of : mSs (defScope st_number_of) N_number_of b_number_of (defBody st_number_of) := ⟨by kernel_rfl, by kernel_rfl⟩
theorem sc_number_of : FnScope N_number_of P_number_of (defScope st_number_of) := ⟨rfl, rfl, rfl, by decide +kernel, rfl, by decide +kernel, by decide +kernel⟩
@[reducible] noncomputable def st_number_within : Stmt := top 13
@[reducible] noncomputable def N_number_within : List Str := ["text", "least", "greatest", "number"]
@[reducible] noncomputable def P_number_within : List Str := ["text", "least", "greatest"]
noncomputable def b_number_within : Sxs := (.cons (.asg 3 (.call "number_of" (.cons (.var 0) .nil)))
 (.cons (.iff (.not (.cmp2 .LtE .LtE (.var 1) (.var 3) (.var 2))) (.cons (.rais "NoRow" (.cons (.var 0) .nil))
  .nil) .nil)
 (.cons (.ret (.var 3))
 .nil)))
theorem m_number_within : mSs (defScope st_number_within) N_number_within b_number_within (defBody st_number_within) := ⟨by kernel_rfl, by kernel_rfl⟩
theorem sc_number_within : FnScope N_number_within P_number_within (defScope st_number_within) := ⟨rfl, rfl, rfl, by decide +kernel, rfl, by decide +kernel, by decide +kernel⟩
@[reducible] noncomputable def st_name_in : Stmt := top 21
@[reducible] noncomputable def N_name_in : List Str := ["piece"]
@[reducible] noncomputable def P_name_in : List Str := ["piece"]
noncomputable def b_name_in : Sxs := (.cons (.iff (.not (.call "is_name" (.cons (.var 0) .nil))) (.cons (.rais "NoRow" (.cons (.var 0) .nil))
  .nil) .nil)
 (.cons (.ret (.var 0))
 .nil))
theorem m_name_in : mSs (defScope st_name_in) N_name_in b_name_in (defBody st_name_in) := ⟨by kernel_rfl, by kernel_rfl⟩
theorem sc_name_in : FnScope N_name_in P_name_in (defScope st_name_in) := ⟨rfl, rfl, rfl, by decide +kernel, rfl, by decide +kernel, by decide +kernel⟩
@[reducible] noncomputable def st_rank_in : Stmt := top 22
@[reducible] noncomputable def N_rank_in : List Str := ["piece"]
@[reducible] noncomputable def P_rank_in : List Str := ["piece"]
noncomputable def b_rank_in : Sxs := (.cons (.iff (.not (.mth .endswith (.var 0) (.cons (.con (.str ":")) .nil))) (.cons (.rais "NoRow" (.cons (.var 0) .nil))
  .nil) .nil)
 (.cons (.ret (.call "number_within" (.cons (.slc (.var 0) .nil (.cons (.neg (.con (.int 1))) .nil)) (.cons (.con (.int 0)) (.cons (.glob "MOST_RANK") .nil)))))
 .nil))
theorem m_rank_in : mSs (defScope st_rank_in) N_rank_in b_rank_in (defBody st_rank_in) := ⟨by kernel_rfl, by kernel_rfl⟩
theorem sc_rank_in : FnScope N_rank_in P_rank_in (defScope st_rank_in) := ⟨rfl, rfl, rfl, by decide +kernel, rfl, by decide +kernel, by decide +kernel⟩
@[reducible] noncomputable def st_group_in : Stmt := top 23
@[reducible] noncomputable def N_group_in : List Str := ["piece"]
@[reducible] noncomputable def P_group_in : List Str := ["piece"]
noncomputable def b_group_in : Sxs := (.cons (.iff (.cmp .NotIn (.var 0) (.glob "SIDE_GROUPS")) (.cons (.rais "NoRow" (.cons (.var 0) .nil))
  .nil) .nil)
 (.cons (.ret (.var 0))
 .nil))
theorem m_group_in : mSs (defScope st_group_in) N_group_in b_group_in (defBody st_group_in) := ⟨by kernel_rfl, by kernel_rfl⟩
theorem sc_group_in : FnScope N_group_in P_group_in (defScope st_group_in) := ⟨rfl, rfl, rfl, by decide +kernel, rfl, by decide +kernel, by decide +kernel⟩
@[reducible] noncomputable def st_marks_in : Stmt := top 24
@[reducible] noncomputable def N_marks_in : List Str := ["piece", "rising"]
@[reducible] noncomputable def P_marks_in : List Str := ["piece"]
noncomputable def b_marks_in : Sxs := (.cons (.iff (.cmp .Eq (.var 0) (.glob "NO_MARKS")) (.cons (.ret (.con (.str "")))
  .nil) .nil)
 (.cons (.asg 1 (.mth .join (.con (.str "")) (.cons (.sset (.var 0)) .nil)))
 (.cons (.iff (.or (.cmp .Eq (.var 0) (.con (.str ""))) (.or (.cmp .NotEq (.var 0) (.var 1)) (.not (.call "made_of" (.cons (.var 0) (.cons (.glob "LETTERS") .nil)))))) (.cons (.rais "NoRow" (.cons (.var 0) .nil))
  .nil) .nil)
 (.cons (.ret (.var 0))
 .nil))))
theorem m_marks_in : mSs (defScope st_marks_in) N_marks_in b_marks_in (defBody st_marks_in) := ⟨by kernel_rfl, by kernel_rfl⟩
theorem sc_marks_in : FnScope N_marks_in P_marks_in (defScope st_marks_in) := ⟨rfl, rfl, rfl, by decide +kernel, rfl, by decide +kernel, by decide +kernel⟩
@[reducible] noncomputable def st_side_in : Stmt := top 25
@[reducible] noncomputable def N_side_in : List Str := ["pieces"]
@[reducible] noncomputable def P_side_in : List Str := ["pieces"]
noncomputable def b_side_in : Sxs := (.cons (.ret (.tup (.cons (.call "group_in" (.cons (.idx (.var 0) (.con (.int 0))) .nil)) (.cons (.call "number_within" (.cons (.idx (.var 0) (.con (.int 1))) (.cons (.con (.int 1)) (.cons (.glob "MOST_SIZE") .nil)))) (.cons (.call "marks_in" (.cons (.idx (.var 0) (.con (.int 2))) .nil)) .nil)))))
 .nil)
theorem m_side_in : mSs (defScope st_side_in) N_side_in b_side_in (defBody st_side_in) := ⟨by kernel_rfl, by kernel_rfl⟩
theorem sc_side_in : FnScope N_side_in P_side_in (defScope st_side_in) := ⟨rfl, rfl, rfl, by decide +kernel, rfl, by decide +kernel, by decide +kernel⟩
@[reducible] noncomputable def st_couple_in : Stmt := top 26
@[reducible] noncomputable def N_couple_in : List Str := ["pieces", "need"]
@[reducible] noncomputable def P_couple_in : List Str := ["pieces"]
noncomputable def b_couple_in : Sxs := (.cons (.iff (.or (.cmp .NotEq (.blt .len (.cons (.var 0) .nil)) (.glob "PIECES")) (.cmp .NotEq (.idx (.var 0) (.con (.int 6))) (.con (.str ">")))) (.cons (.rais "NoRow" (.cons (.var 0) .nil))
  .nil) .nil)
 (.cons (.asg 1 (.call "number_within" (.cons (.idx (.var 0) (.con (.int 1))) (.cons (.con (.int 1)) (.cons (.glob "MOST_NEED") .nil)))))
 (.cons (.ret (.tup (.cons (.call "name_in" (.cons (.idx (.var 0) (.con (.int 0))) .nil)) (.cons (.var 1) (.cons (.call "rank_in" (.cons (.idx (.var 0) (.con (.int 2))) .nil)) (.cons (.call "side_in" (.cons (.slc (.var 0) (.cons (.con (.int 3)) .nil) (.cons (.con (.int 6)) .nil)) .nil)) (.cons (.call "side_in" (.cons (.slc (.var 0) (.cons (.con (.int 7)) .nil) .nil) .nil)) .nil)))))))
 .nil)))
theorem m_couple_in : mSs (defScope st_couple_in) N_couple_in b_couple_in (defBody st_couple_in) := ⟨by kernel_rfl, by kernel_rfl⟩
theorem sc_couple_in : FnScope N_couple_in P_couple_in (defScope st_couple_in) := ⟨rfl, rfl, rfl, by decide +kernel, rfl, by decide +kernel, by decide +kernel⟩
@[reducible] noncomputable def st_read_couple : Stmt := top 27
@[reducible] noncomputable def N_read_couple : List Str := ["text", "pieces"]
@[reducible] noncomputable def P_read_couple : List Str := ["text"]
noncomputable def b_read_couple : Sxs := (.cons (.asg 1 (.mth .split (.var 0) (.cons (.con (.str " ")) .nil)))
 (.cons (.tryx (.cons (.ret (.call "couple_in" (.cons (.var 1) .nil)))
  .nil) "NoRow" none (.cons (.raisF "NoRow" (.cons (.var 0) .nil))
  .nil))
 .nil))
theorem m_read_couple : mSs (defScope st_read_couple) N_read_couple b_read_couple (defBody st_read_couple) := ⟨by kernel_rfl, by kernel_rfl⟩
theorem sc_read_couple : FnScope N_read_couple P_read_couple (defScope st_read_couple) := ⟨rfl, rfl, rfl, by decide +kernel, rfl, by decide +kernel, by decide +kernel⟩
@[reducible] noncomputable def st__law_cell : Stmt := top 29
@[reducible] noncomputable def N__law_cell : List Str := ["_law_script", "_law_k"]
@[reducible] noncomputable def P__law_cell : List Str := ["_law_script", "_law_k"]
noncomputable def b__law_cell : Sxs := (.cons (.iff (.cmp .Lt (.var 1) (.blt .len (.cons (.var 0) .nil))) (.cons (.ret (.idx (.var 0) (.var 1)))
  .nil) .nil)
 (.cons (.ret (.con (.int 0)))
 .nil))
theorem m__law_cell : mSs (defScope st__law_cell) N__law_cell b__law_cell (defBody st__law_cell) := ⟨by kernel_rfl, by kernel_rfl⟩
theorem sc__law_cell : FnScope N__law_cell P__law_cell (defScope st__law_cell) := ⟨rfl, rfl, rfl, by decide +kernel, rfl, by decide +kernel, by decide +kernel⟩
@[reducible] noncomputable def st__law_mix : Stmt := top 30
@[reducible] noncomputable def N__law_mix : List Str := ["_law_cell_here", "_law_k", "_law_number_here"]
@[reducible] noncomputable def P__law_mix : List Str := ["_law_cell_here", "_law_k"]
noncomputable def b__law_mix : Sxs := (.cons (.asg 2 (.bin .Mod (.bin .Add (.bin .Add (.bin .Mod (.var 0) (.con (.int 2147483629))) (.bin .Mult (.con (.int 7919)) (.var 1))) (.con (.int 12345))) (.con (.int 2147483629))))
 (.cons (.asg 2 (.bin .Mod (.bin .Add (.bin .Mult (.var 2) (.var 2)) (.bin .Mult (.con (.int 104729)) (.var 1))) (.con (.int 2147483629))))
 (.cons (.ret (.bin .Mod (.bin .Mult (.bin .Add (.var 2) (.var 1)) (.bin .Add (.var 2) (.var 1))) (.con (.int 2147483587))))
 .nil)))
theorem m__law_mix : mSs (defScope st__law_mix) N__law_mix b__law_mix (defBody st__law_mix) := ⟨by kernel_rfl, by kernel_rfl⟩
theorem sc__law_mix : FnScope N__law_mix P__law_mix (defScope st__law_mix) := ⟨rfl, rfl, rfl, by decide +kernel, rfl, by decide +kernel, by decide +kernel⟩
@[reducible] noncomputable def st__law_marks : Stmt := top 31
@[reducible] noncomputable def N__law_marks : List Str := ["_law_number_here", "_law_letters", "_law_way"]
@[reducible] noncomputable def P__law_marks : List Str := ["_law_number_here"]
noncomputable def b__law_marks : Sxs := (.cons (.asg 1 (.con (.str "abcdefghijklmnopqrstuvwxyz")))
 (.cons (.asg 2 (.bin .Mod (.var 0) (.con (.int 3))))
 (.cons (.iff (.cmp .Eq (.var 2) (.con (.int 0))) (.cons (.ret (.con (.str "")))
  .nil) .nil)
 (.cons (.iff (.cmp .Eq (.var 2) (.con (.int 1))) (.cons (.ret (.idx (.var 1) (.bin .Mod (.bin .FloorDiv (.var 0) (.con (.int 3))) (.con (.int 26)))))
  .nil) .nil)
 (.cons (.ret (.mth .join (.con (.str "")) (.cons (.comp "_law_k" [("_law_letters", 1), ("_law_number_here", 0)] (.rng1 (.con (.int 26))) (.idx (.var 1) (.var 0)) (.cons (.cmp .Eq (.bin .Mod (.bin .FloorDiv (.bin .FloorDiv (.var 2) (.con (.int 3))) (.bin .Add (.var 0) (.con (.int 1)))) (.con (.int 3))) (.con (.int 0))) .nil)) .nil)))
 .nil)))))
theorem m__law_marks : mSs (defScope st__law_marks) N__law_marks b__law_marks (defBody st__law_marks) := ⟨by kernel_rfl, by kernel_rfl⟩
theorem sc__law_marks : FnScope N__law_marks P__law_marks (defScope st__law_marks) := ⟨rfl, rfl, rfl, by decide +kernel, rfl, by decide +kernel, by decide +kernel⟩
@[reducible] noncomputable def st__law_side : Stmt := top 32
@[reducible] noncomputable def N__law_side : List Str := ["_law_cell_here", "_law_k", "_law_number_here"]
@[reducible] noncomputable def P__law_side : List Str := ["_law_cell_here", "_law_k"]
noncomputable def b__law_side : Sxs := (.cons (.asg 2 (.call "_law_mix" (.cons (.var 0) (.cons (.var 1) .nil))))
 (.cons (.ret (.tup (.cons (.idx (.lst (.cons (.con (.str "O")) (.cons (.con (.str "A")) (.cons (.con (.str "B")) (.cons (.con (.str "AB")) .nil))))) (.bin .Mod (.var 2) (.con (.int 4)))) (.cons (.bin .Add (.con (.int 1)) (.bin .Mod (.bin .FloorDiv (.var 2) (.con (.int 4))) (.con (.int 99)))) (.cons (.call "_law_marks" (.cons (.bin .FloorDiv (.var 2) (.con (.int 400))) .nil)) .nil)))))
 .nil))
theorem m__law_side : mSs (defScope st__law_side) N__law_side b__law_side (defBody st__law_side) := ⟨by kernel_rfl, by kernel_rfl⟩
theorem sc__law_side : FnScope N__law_side P__law_side (defScope st__law_side) := ⟨rfl, rfl, rfl, by decide +kernel, rfl, by decide +kernel, by decide +kernel⟩
@[reducible] noncomputable def st__law_name : Stmt := top 33
@[reducible] noncomputable def N__law_name : List Str := ["_law_cell_here", "_law_letters"]
@[reducible] noncomputable def P__law_name : List Str := ["_law_cell_here"]
noncomputable def b__law_name : Sxs := (.cons (.asg 1 (.con (.str "abcdefghijklmnopqrstuvwxyz")))
 (.cons (.ret (.mth .join (.con (.str "")) (.cons (.comp "_law_k" [("_law_letters", 1), ("_law_cell_here", 0)] (.rng1 (.bin .Add (.con (.int 1)) (.bin .Mod (.call "_law_mix" (.cons (.var 0) (.cons (.con (.int 39)) .nil))) (.con (.int 8))))) (.idx (.var 1) (.bin .Mod (.call "_law_mix" (.cons (.var 2) (.cons (.bin .Add (.con (.int 40)) (.var 0)) .nil))) (.con (.int 26)))) .nil) .nil)))
 .nil))
theorem m__law_name : mSs (defScope st__law_name) N__law_name b__law_name (defBody st__law_name) := ⟨by kernel_rfl, by kernel_rfl⟩
theorem sc__law_name : FnScope N__law_name P__law_name (defScope st__law_name) := ⟨rfl, rfl, rfl, by decide +kernel, rfl, by decide +kernel, by decide +kernel⟩
@[reducible] noncomputable def st__law_couple : Stmt := top 34
@[reducible] noncomputable def N__law_couple : List Str := ["_law_cell_here", "_law_need", "_law_rank"]
@[reducible] noncomputable def P__law_couple : List Str := ["_law_cell_here"]
noncomputable def b__law_couple : Sxs := (.cons (.asg 1 (.bin .Add (.con (.int 1)) (.idx (.lst (.cons (.bin .Mod (.call "_law_mix" (.cons (.var 0) (.cons (.con (.int 1)) .nil))) (.con (.int 200))) (.cons (.bin .Mod (.call "_law_mix" (.cons (.var 0) (.cons (.con (.int 1)) .nil))) (.bin .Pow (.con (.int 10)) (.con (.int 6)))) .nil))) (.bin .Mod (.call "_law_mix" (.cons (.var 0) (.cons (.con (.int 2)) .nil))) (.con (.int 2))))))
 (.cons (.asg 2 (.idx (.lst (.cons (.bin .Mod (.call "_law_mix" (.cons (.var 0) (.cons (.con (.int 3)) .nil))) (.con (.int 4))) (.cons (.bin .Mod (.call "_law_mix" (.cons (.var 0) (.cons (.con (.int 3)) .nil))) (.bin .Add (.bin .Pow (.con (.int 10)) (.con (.int 6))) (.con (.int 1)))) .nil))) (.bin .Mod (.call "_law_mix" (.cons (.var 0) (.cons (.con (.int 4)) .nil))) (.con (.int 2)))))
 (.cons (.ret (.tup (.cons (.call "_law_name" (.cons (.var 0) .nil)) (.cons (.var 1) (.cons (.var 2) (.cons (.call "_law_side" (.cons (.var 0) (.cons (.con (.int 5)) .nil))) (.cons (.call "_law_side" (.cons (.var 0) (.cons (.con (.int 6)) .nil))) .nil)))))))
 .nil)))
theorem m__law_couple : mSs (defScope st__law_couple) N__law_couple b__law_couple (defBody st__law_couple) := ⟨by kernel_rfl, by kernel_rfl⟩
theorem sc__law_couple : FnScope N__law_couple P__law_couple (defScope st__law_couple) := ⟨rfl, rfl, rfl, by decide +kernel, rfl, by decide +kernel, by decide +kernel⟩
@[reducible] noncomputable def st__law_shown_side : Stmt := top 35
@[reducible] noncomputable def N__law_shown_side : List Str := ["_law_side_here", "_law_words"]
@[reducible] noncomputable def P__law_shown_side : List Str := ["_law_side_here"]
noncomputable def b__law_shown_side : Sxs := (.cons (.asg 1 (.lst (.cons (.idx (.var 0) (.con (.int 0))) (.cons (.blt .str (.cons (.idx (.var 0) (.con (.int 1))) .nil)) (.cons (.idx (.var 0) (.con (.int 2))) .nil)))))
 (.cons (.iff (.cmp .Eq (.idx (.var 0) (.con (.int 2))) (.con (.str ""))) (.cons (.sto (.var 1) (.con (.int 2)) (.con (.str "-")))
  .nil) .nil)
 (.cons (.ret (.mth .join (.con (.str " ")) (.cons (.var 1) .nil)))
 .nil)))
theorem m__law_shown_side : mSs (defScope st__law_shown_side) N__law_shown_side b__law_shown_side (defBody st__law_shown_side) := ⟨by kernel_rfl, by kernel_rfl⟩
theorem sc__law_shown_side : FnScope N__law_shown_side P__law_shown_side (defScope st__law_shown_side) := ⟨rfl, rfl, rfl, by decide +kernel, rfl, by decide +kernel, by decide +kernel⟩
@[reducible] noncomputable def st__law_shown : Stmt := top 36
@[reducible] noncomputable def N__law_shown : List Str := ["_law_couple_here", "_law_head"]
@[reducible] noncomputable def P__law_shown : List Str := ["_law_couple_here"]
noncomputable def b__law_shown : Sxs := (.cons (.asg 1 (.mth .join (.con (.str " ")) (.cons (.lst (.cons (.idx (.var 0) (.con (.int 0))) (.cons (.blt .str (.cons (.idx (.var 0) (.con (.int 1))) .nil)) (.cons (.blt .str (.cons (.idx (.var 0) (.con (.int 2))) .nil)) .nil)))) .nil)))
 (.cons (.ret (.bin .Add (.bin .Add (.bin .Add (.bin .Add (.var 1) (.con (.str ": "))) (.call "_law_shown_side" (.cons (.idx (.var 0) (.con (.int 3))) .nil))) (.con (.str " > "))) (.call "_law_shown_side" (.cons (.idx (.var 0) (.con (.int 4))) .nil))))
 .nil))
theorem m__law_shown : mSs (defScope st__law_shown) N__law_shown b__law_shown (defBody st__law_shown) := ⟨by kernel_rfl, by kernel_rfl⟩
theorem sc__law_shown : FnScope N__law_shown P__law_shown (defScope st__law_shown) := ⟨rfl, rfl, rfl, by decide +kernel, rfl, by decide +kernel, by decide +kernel⟩
@[reducible] noncomputable def st__law_sign : Stmt := top 37
@[reducible] noncomputable def N__law_sign : List Str := ["_law_cell_here", "_law_signs"]
@[reducible] noncomputable def P__law_sign : List Str := ["_law_cell_here"]
noncomputable def b__law_sign : Sxs := (.cons (.asg 1 (.con (.str " !\"#$&'()*+,-./0123456789:;<=>?@ABCDEFGHIJKLMNOPQRSTUVWXYZ[\\]^_`")))
 (.cons (.asg 1 (.bin .Add (.var 1) (.con (.str "abcdefghijklmnopqrstuvwxyz{|}~"))))
 (.cons (.iff (.cmp .Eq (.bin .Mod (.var 0) (.con (.int 2))) (.con (.int 0))) (.cons (.asg 1 (.con (.str "0123456789: >-abAB")))
  .nil) .nil)
 (.cons (.ret (.idx (.var 1) (.bin .Mod (.bin .FloorDiv (.var 0) (.con (.int 2))) (.blt .len (.cons (.var 1) .nil)))))
 .nil))))
theorem m__law_sign : mSs (defScope st__law_sign) N__law_sign b__law_sign (defBody st__law_sign) := ⟨by kernel_rfl, by kernel_rfl⟩
theorem sc__law_sign : FnScope N__law_sign P__law_sign (defScope st__law_sign) := ⟨rfl, rfl, rfl, by decide +kernel, rfl, by decide +kernel, by decide +kernel⟩
@[reducible] noncomputable def st__law_odd_word : Stmt := top 38
@[reducible] noncomputable def N__law_odd_word : List Str := ["_law_cell_here", "_law_some"]
@[reducible] noncomputable def P__law_odd_word : List Str := ["_law_cell_here"]
noncomputable def b__law_odd_word : Sxs := (.cons (.asg 1 (.lst (.cons (.con (.str "0")) (.cons (.con (.str "1000000")) (.cons (.con (.str "1000001")) (.cons (.con (.str "00")) (.cons (.con (.str "01")) (.cons (.con (.str "99")) (.cons (.con (.str "100")) (.cons (.con (.str "1000000000000")) (.cons (.con (.str "-")) (.cons (.con (.str "")) (.cons (.con (.str "O")) (.cons (.con (.str "AB")) (.cons (.con (.str "BA")) (.cons (.con (.str "ABO")) (.cons (.con (.str "o")) .nil)))))))))))))))))
 (.cons (.asg 1 (.bin .Add (.var 1) (.lst (.cons (.con (.str "ba")) (.cons (.con (.str "aa")) (.cons (.con (.str "az")) (.cons (.con (.str "za")) (.cons (.con (.str "abcdefghijklmnopqrstuvwxyz")) (.cons (.con (.str "a-")) (.cons (.con (.str "--")) (.cons (.con (.str ">")) (.cons (.con (.str ":")) (.cons (.con (.str "0:")) (.cons (.con (.str "fox")) (.cons (.con (.str "abcdefghi")) .nil)))))))))))))))
 (.cons (.ret (.idx (.var 1) (.bin .Mod (.var 0) (.blt .len (.cons (.var 1) .nil)))))
 .nil)))
theorem m__law_odd_word : mSs (defScope st__law_odd_word) N__law_odd_word b__law_odd_word (defBody st__law_odd_word) := ⟨by kernel_rfl, by kernel_rfl⟩
theorem sc__law_odd_word : FnScope N__law_odd_word P__law_odd_word (defScope st__law_odd_word) := ⟨rfl, rfl, rfl, by decide +kernel, rfl, by decide +kernel, by decide +kernel⟩
@[reducible] noncomputable def st__law_spoilt : Stmt := top 39
@[reducible] noncomputable def N__law_spoilt : List Str := ["_law_text", "_law_cell_here", "_law_other", "_law_way", "_law_at", "_law_words", "_law_place", "_law_to", "_law_kept"]
@[reducible] noncomputable def P__law_spoilt : List Str := ["_law_text", "_law_cell_here", "_law_other"]
noncomputable def b__law_spoilt : Sxs := (.cons (.asg 3 (.bin .Mod (.var 1) (.con (.int 9))))
 (.cons (.asg 4 (.bin .Mod (.bin .FloorDiv (.var 1) (.con (.int 9))) (.bin .Add (.blt .len (.cons (.var 0) .nil)) (.con (.int 1)))))
 (.cons (.asg 5 (.mth .split (.var 0) (.cons (.con (.str " ")) .nil)))
 (.cons (.asg 6 (.bin .Mod (.bin .FloorDiv (.var 1) (.con (.int 9))) (.blt .len (.cons (.var 5) .nil))))
 (.cons (.asg 7 (.bin .Mod (.var 2) (.blt .len (.cons (.var 5) .nil))))
 (.cons (.iff (.cmp .Eq (.var 3) (.con (.int 0))) (.cons (.ret (.bin .Add (.bin .Add (.slc (.var 0) .nil (.cons (.var 4) .nil)) (.call "_law_sign" (.cons (.var 2) .nil))) (.slc (.var 0) (.cons (.var 4) .nil) .nil)))
  .nil) .nil)
 (.cons (.iff (.cmp .Eq (.var 3) (.con (.int 1))) (.cons (.ret (.bin .Add (.slc (.var 0) .nil (.cons (.var 4) .nil)) (.slc (.var 0) (.cons (.bin .Add (.var 4) (.con (.int 1))) .nil) .nil)))
  .nil) .nil)
 (.cons (.iff (.cmp .Eq (.var 3) (.con (.int 2))) (.cons (.ret (.bin .Add (.bin .Add (.slc (.var 0) .nil (.cons (.var 4) .nil)) (.call "_law_sign" (.cons (.var 2) .nil))) (.slc (.var 0) (.cons (.bin .Add (.var 4) (.con (.int 1))) .nil) .nil)))
  .nil) .nil)
 (.cons (.iff (.cmp .Eq (.var 3) (.con (.int 3))) (.cons (.asg 8 (.idx (.var 5) (.var 6)))
  (.cons (.sto (.var 5) (.var 6) (.idx (.var 5) (.var 7)))
  (.cons (.sto (.var 5) (.var 7) (.var 8))
  .nil))) .nil)
 (.cons (.iff (.cmp .Eq (.var 3) (.con (.int 4))) (.cons (.asg 5 (.bin .Add (.slc (.var 5) .nil (.cons (.var 6) .nil)) (.slc (.var 5) (.cons (.bin .Add (.var 6) (.con (.int 1))) .nil) .nil)))
  .nil) .nil)
 (.cons (.iff (.cmp .Eq (.var 3) (.con (.int 5))) (.cons (.asg 5 (.bin .Add (.bin .Add (.slc (.var 5) .nil (.cons (.var 6) .nil)) (.lst (.cons (.idx (.var 5) (.var 7)) .nil))) (.slc (.var 5) (.cons (.var 6) .nil) .nil)))
  .nil) .nil)
 (.cons (.iff (.cmp .Eq (.var 3) (.con (.int 6))) (.cons (.sto (.var 5) (.var 6) (.bin .Add (.call "_law_odd_word" (.cons (.var 2) .nil)) (.bin .Mult (.con (.str ":")) (.blt .int (.cons (.and (.cmp .Eq (.var 6) (.con (.int 2))) (.cmp .Eq (.bin .Mod (.bin .FloorDiv (.var 2) (.con (.int 40))) (.con (.int 2))) (.con (.int 0)))) .nil)))))
  .nil) .nil)
 (.cons (.iff (.cmp .Eq (.var 3) (.con (.int 7))) (.cons (.ret (.idx (.lst (.cons (.slc (.var 0) .nil (.cons (.var 4) .nil)) (.cons (.slc (.var 0) (.cons (.var 4) .nil) .nil) .nil))) (.bin .Mod (.var 2) (.con (.int 2)))))
  .nil) .nil)
 (.cons (.ret (.mth .join (.con (.str " ")) (.cons (.var 5) .nil)))
 .nil))))))))))))))
theorem m__law_spoilt : mSs (defScope st__law_spoilt) N__law_spoilt b__law_spoilt (defBody st__law_spoilt) := ⟨by kernel_rfl, by kernel_rfl⟩
theorem sc__law_spoilt : FnScope N__law_spoilt P__law_spoilt (defScope st__law_spoilt) := ⟨rfl, rfl, rfl, by decide +kernel, rfl, by decide +kernel, by decide +kernel⟩
@[reducible] noncomputable def st__law_number : Stmt := top 40
@[reducible] noncomputable def N__law_number : List Str := ["_law_text", "_law_low", "_law_high", "_law_sign_here"]
@[reducible] noncomputable def P__law_number : List Str := ["_law_text", "_law_low", "_law_high"]
noncomputable def b__law_number : Sxs := (.cons (.fr 3 (.ex (.var 0)) (.cons (.iff (.not (.cmp2 .LtE .LtE (.con (.str "0")) (.var 3) (.con (.str "9")))) (.cons (.ret (.con .non))
   .nil) .nil)
  .nil))
 (.cons (.iff (.or (.not (.cmp2 .LtE .LtE (.con (.int 1)) (.blt .len (.cons (.var 0) .nil)) (.con (.int 12)))) (.not (.cmp2 .LtE .LtE (.var 1) (.blt .int (.cons (.var 0) .nil)) (.var 2)))) (.cons (.ret (.con .non))
  .nil) .nil)
 (.cons (.ret (.blt .int (.cons (.var 0) .nil)))
 .nil)))
theorem m__law_number : mSs (defScope st__law_number) N__law_number b__law_number (defBody st__law_number) := ⟨by kernel_rfl, by kernel_rfl⟩
theorem sc__law_number : FnScope N__law_number P__law_number (defScope st__law_number) := ⟨rfl, rfl, rfl, by decide +kernel, rfl, by decide +kernel, by decide +kernel⟩
@[reducible] noncomputable def st__law_rising : Stmt := top 41
@[reducible] noncomputable def N__law_rising : List Str := ["_law_text", "_law_letters"]
@[reducible] noncomputable def P__law_rising : List Str := ["_law_text"]
noncomputable def b__law_rising : Sxs := (.cons (.asg 1 (.comp "_law_sign_here" [] (.ex (.var 0)) (.var 0) (.cons (.cmp2 .LtE .LtE (.con (.str "a")) (.var 0) (.con (.str "z"))) .nil)))
 (.cons (.ret (.and (.cmp .Eq (.blt .len (.cons (.var 1) .nil)) (.blt .len (.cons (.var 0) .nil))) (.cmp .Eq (.var 1) (.sset (.var 1)))))
 .nil))
theorem m__law_rising : mSs (defScope st__law_rising) N__law_rising b__law_rising (defBody st__law_rising) := ⟨by kernel_rfl, by kernel_rfl⟩
theorem sc__law_rising : FnScope N__law_rising P__law_rising (defScope st__law_rising) := ⟨rfl, rfl, rfl, by decide +kernel, rfl, by decide +kernel, by decide +kernel⟩
@[reducible] noncomputable def st__law_side_of : Stmt := top 42
@[reducible] noncomputable def N__law_side_of : List Str := ["_law_words", "_law_marks_here", "_law_size"]
@[reducible] noncomputable def P__law_side_of : List Str := ["_law_words"]
noncomputable def b__law_side_of : Sxs := (.cons (.iff (.or (.cmp .NotEq (.blt .len (.cons (.var 0) .nil)) (.con (.int 3))) (.cmp .NotIn (.idx (.var 0) (.con (.int 0))) (.lst (.cons (.con (.str "O")) (.cons (.con (.str "A")) (.cons (.con (.str "B")) (.cons (.con (.str "AB")) .nil))))))) (.cons (.ret (.con .non))
  .nil) .nil)
 (.cons (.asg 1 (.idx (.var 0) (.con (.int 2))))
 (.cons (.iff (.cmp .Eq (.var 1) (.con (.str "-"))) (.cons (.asg 1 (.con (.str "")))
  .nil) .nil)
 (.cons (.asg 2 (.call "_law_number" (.cons (.idx (.var 0) (.con (.int 1))) (.cons (.con (.int 1)) (.cons (.con (.int 99)) .nil)))))
 (.cons (.iff (.or (.cmp .Is (.var 2) (.con .non)) (.not (.call "_law_rising" (.cons (.var 1) .nil)))) (.cons (.ret (.con .non))
  .nil) .nil)
 (.cons (.ret (.tup (.cons (.idx (.var 0) (.con (.int 0))) (.cons (.var 2) (.cons (.var 1) .nil)))))
 .nil))))))
theorem m__law_side_of : mSs (defScope st__law_side_of) N__law_side_of b__law_side_of (defBody st__law_side_of) := ⟨by kernel_rfl, by kernel_rfl⟩
theorem sc__law_side_of : FnScope N__law_side_of P__law_side_of (defScope st__law_side_of) := ⟨rfl, rfl, rfl, by decide +kernel, rfl, by decide +kernel, by decide +kernel⟩
@[reducible] noncomputable def st__law_read : Stmt := top 43
@[reducible] noncomputable def N__law_read : List Str := ["_law_text", "_law_words", "_law_sign_here", "_law_sides", "_law_need", "_law_rank", "_law_couple_here"]
@[reducible] noncomputable def P__law_read : List Str := ["_law_text"]
noncomputable def b__law_read : Sxs := (.cons (.asg 1 (.mth .split (.var 0) (.cons (.con (.str " ")) .nil)))
 (.cons (.iff (.or (.cmp .NotEq (.blt .len (.cons (.var 1) .nil)) (.con (.int 10))) (.not (.cmp2 .LtE .LtE (.con (.int 1)) (.blt .len (.cons (.idx (.var 1) (.con (.int 0))) .nil)) (.con (.int 8))))) (.cons (.ret (.con .non))
  .nil) .nil)
 (.cons (.fr 2 (.ex (.idx (.var 1) (.con (.int 0)))) (.cons (.iff (.not (.cmp2 .LtE .LtE (.con (.str "a")) (.var 2) (.con (.str "z")))) (.cons (.ret (.con .non))
   .nil) .nil)
  .nil))
 (.cons (.asg 3 (.lst (.cons (.call "_law_side_of" (.cons (.slc (.var 1) (.cons (.con (.int 3)) .nil) (.cons (.con (.int 6)) .nil)) .nil)) (.cons (.call "_law_side_of" (.cons (.slc (.var 1) (.cons (.con (.int 7)) .nil) .nil) .nil)) .nil))))
 (.cons (.asg 4 (.call "_law_number" (.cons (.idx (.var 1) (.con (.int 1))) (.cons (.con (.int 1)) (.cons (.bin .Pow (.con (.int 10)) (.con (.int 6))) .nil)))))
 (.cons (.asg 5 (.call "_law_number" (.cons (.slc (.idx (.var 1) (.con (.int 2))) .nil (.cons (.neg (.con (.int 1))) .nil)) (.cons (.con (.int 0)) (.cons (.bin .Pow (.con (.int 10)) (.con (.int 6))) .nil)))))
 (.cons (.iff (.or (.cmp .Is (.idx (.var 3) (.con (.int 0))) (.con .non)) (.or (.cmp .Is (.idx (.var 3) (.con (.int 1))) (.con .non)) (.or (.cmp .Is (.var 4) (.con .non)) (.cmp .Is (.var 5) (.con .non))))) (.cons (.ret (.con .non))
  .nil) .nil)
 (.cons (.asg 6 (.tup (.cons (.idx (.var 1) (.con (.int 0))) (.cons (.var 4) (.cons (.var 5) (.cons (.idx (.var 3) (.con (.int 0))) (.cons (.idx (.var 3) (.con (.int 1))) .nil)))))))
 (.cons (.iff (.cmp .NotEq (.call "_law_shown" (.cons (.var 6) .nil)) (.var 0)) (.cons (.ret (.con .non))
  .nil) .nil)
 (.cons (.ret (.var 6))
 .nil))))))))))
theorem m__law_read : mSs (defScope st__law_read) N__law_read b__law_read (defBody st__law_read) := ⟨by kernel_rfl, by kernel_rfl⟩
theorem sc__law_read : FnScope N__law_read P__law_read (defScope st__law_read) := ⟨rfl, rfl, rfl, by decide +kernel, rfl, by decide +kernel, by decide +kernel⟩
@[reducible] noncomputable def st__law_ends : Stmt := top 44
@[reducible] noncomputable def N__law_ends : List Str := ["_law_couple_here", "_law_cell_here", "_law_name_here", "_law_need", "_law_rank", "_law_giver", "_law_taker"]
@[reducible] noncomputable def P__law_ends : List Str := ["_law_couple_here", "_law_cell_here"]
noncomputable def b__law_ends : Sxs := (.cons (.asgT [2, 3, 4, 5, 6] (.var 0))
 (.cons (.iff (.cmp .Eq (.bin .Mod (.var 1) (.con (.int 3))) (.con (.int 1))) (.cons (.asg 3 (.idx (.lst (.cons (.con (.int 1)) (.cons (.bin .Pow (.con (.int 10)) (.con (.int 6))) .nil))) (.bin .Mod (.bin .FloorDiv (.var 1) (.con (.int 3))) (.con (.int 2)))))
  (.cons (.asg 4 (.idx (.lst (.cons (.con (.int 0)) (.cons (.bin .Pow (.con (.int 10)) (.con (.int 6))) .nil))) (.bin .Mod (.bin .FloorDiv (.var 1) (.con (.int 6))) (.con (.int 2)))))
  (.cons (.asg 5 (.tup (.cons (.idx (.var 5) (.con (.int 0))) (.cons (.idx (.lst (.cons (.con (.int 1)) (.cons (.con (.int 99)) .nil))) (.bin .Mod (.bin .FloorDiv (.var 1) (.con (.int 12))) (.con (.int 2)))) (.cons (.idx (.var 5) (.con (.int 2))) .nil)))))
  .nil))) .nil)
 (.cons (.ret (.tup (.cons (.var 2) (.cons (.var 3) (.cons (.var 4) (.cons (.var 5) (.cons (.var 6) .nil)))))))
 .nil)))
theorem m__law_ends : mSs (defScope st__law_ends) N__law_ends b__law_ends (defBody st__law_ends) := ⟨by kernel_rfl, by kernel_rfl⟩
theorem sc__law_ends : FnScope N__law_ends P__law_ends (defScope st__law_ends) := ⟨rfl, rfl, rfl, by decide +kernel, rfl, by decide +kernel, by decide +kernel⟩
@[reducible] noncomputable def st__law_told : Stmt := top 45
@[reducible] noncomputable def N__law_told : List Str := ["_law_text", "_law_found", "_law_told_here", "e"]
@[reducible] noncomputable def P__law_told : List Str := ["_law_text"]
noncomputable def b__law_told : Sxs := (.cons (.asg 1 (.con .non))
 (.cons (.asg 2 (.con .non))
 (.cons (.tryx (.cons (.asg 1 (.call "read_couple" (.cons (.var 0) .nil)))
  .nil) "NoRow" (some 3) (.cons (.asg 2 (.tup (.cons (.fld (.var 3) "row") (.cons (.isin (.var 3) (.own "SwapError")) (.cons (.isin (.var 3) (.own "ValueError")) (.cons (.isin (.var 3) (.own "NoSwap")) .nil))))))
  .nil))
 (.cons (.ret (.tup (.cons (.var 1) (.cons (.var 2) .nil))))
 .nil))))
theorem m__law_told : mSs (defScope st__law_told) N__law_told b__law_told (defBody st__law_told) := ⟨by kernel_rfl, by kernel_rfl⟩
theorem sc__law_told : FnScope N__law_told P__law_told (defScope st__law_told) := ⟨rfl, rfl, rfl, by decide +kernel, rfl, by decide +kernel, by decide +kernel⟩
@[reducible] noncomputable def st__law_beyond : Stmt := top 46
@[reducible] noncomputable def N__law_beyond : List Str := ["_law_couple_here", "_law_name_here", "_law_need", "_law_rank", "_law_giver", "_law_taker", "_law_some", "_law_size"]
@[reducible] noncomputable def P__law_beyond : List Str := ["_law_couple_here"]
noncomputable def b__law_beyond : Sxs := (.cons (.asgT [1, 2, 3, 4, 5] (.var 0))
 (.cons (.asg 6 (.lst (.cons (.tup (.cons (.var 1) (.cons (.con (.int 0)) (.cons (.var 3) (.cons (.var 4) (.cons (.var 5) .nil)))))) (.cons (.tup (.cons (.var 1) (.cons (.bin .Add (.bin .Pow (.con (.int 10)) (.con (.int 6))) (.con (.int 1))) (.cons (.var 3) (.cons (.var 4) (.cons (.var 5) .nil)))))) .nil))))
 (.cons (.exp (.mth .append (.var 6) (.cons (.tup (.cons (.var 1) (.cons (.var 2) (.cons (.bin .Add (.bin .Pow (.con (.int 10)) (.con (.int 6))) (.con (.int 1))) (.cons (.var 4) (.cons (.var 5) .nil)))))) .nil)))
 (.cons (.fr 7 (.ex (.lst (.cons (.con (.int 0)) (.cons (.con (.int 100)) .nil)))) (.cons (.exp (.mth .append (.var 6) (.cons (.tup (.cons (.var 1) (.cons (.var 2) (.cons (.var 3) (.cons (.tup (.cons (.idx (.var 4) (.con (.int 0))) (.cons (.var 7) (.cons (.idx (.var 4) (.con (.int 2))) .nil)))) (.cons (.var 5) .nil)))))) .nil)))
  (.cons (.exp (.mth .append (.var 6) (.cons (.tup (.cons (.var 1) (.cons (.var 2) (.cons (.var 3) (.cons (.var 4) (.cons (.tup (.cons (.idx (.var 5) (.con (.int 0))) (.cons (.var 7) (.cons (.idx (.var 5) (.con (.int 2))) .nil)))) .nil)))))) .nil)))
  .nil)))
 (.cons (.ret (.comp "_law_one" [] (.ex (.var 6)) (.call "_law_shown" (.cons (.var 0) .nil)) .nil))
 .nil)))))
theorem m__law_beyond : mSs (defScope st__law_beyond) N__law_beyond b__law_beyond (defBody st__law_beyond) := ⟨by kernel_rfl, by kernel_rfl⟩
theorem sc__law_beyond : FnScope N__law_beyond P__law_beyond (defScope st__law_beyond) := ⟨rfl, rfl, rfl, by decide +kernel, rfl, by decide +kernel, by decide +kernel⟩
@[reducible] noncomputable def st_law : Stmt := top 47
@[reducible] noncomputable def N_law : List Str := ["_law_script", "_law_couple_here", "_law_text", "_law_due", "_law_found", "_law_told_here"]
@[reducible] noncomputable def P_law : List Str := ["_law_script"]
noncomputable def b_law : Sxs := (.cons (.asg 1 (.call "_law_ends" (.cons (.call "_law_couple" (.cons (.call "_law_cell" (.cons (.var 0) (.cons (.con (.int 0)) .nil))) .nil)) (.cons (.call "_law_cell" (.cons (.var 0) (.cons (.con (.int 3)) .nil))) .nil))))
 (.cons (.fr 2 (.ex (.call "_law_beyond" (.cons (.var 1) .nil))) (.cons (.iff (.cmp .NotEq (.call "_law_told" (.cons (.var 2) .nil)) (.tup (.cons (.con .non) (.cons (.tup (.cons (.var 2) (.cons (.con (.bl true)) (.cons (.con (.bl true)) (.cons (.con (.bl false)) .nil))))) .nil)))) (.cons (.ret (.con (.bl false)))
   .nil) .nil)
  .nil))
 (.cons (.asg 2 (.call "_law_spoilt" (.cons (.call "_law_shown" (.cons (.var 1) .nil)) (.cons (.call "_law_cell" (.cons (.var 0) (.cons (.con (.int 1)) .nil))) (.cons (.call "_law_cell" (.cons (.var 0) (.cons (.con (.int 2)) .nil))) .nil)))))
 (.cons (.asg 3 (.call "_law_read" (.cons (.var 2) .nil)))
 (.cons (.asgT [4, 5] (.call "_law_told" (.cons (.var 2) .nil)))
 (.cons (.iff (.cmp .Is (.var 3) (.con .non)) (.cons (.ret (.cmp .Eq (.var 5) (.tup (.cons (.var 2) (.cons (.con (.bl true)) (.cons (.con (.bl true)) (.cons (.con (.bl false)) .nil)))))))
  .nil) .nil)
 (.cons (.ret (.and (.cmp .Is (.var 5) (.con .non)) (.cmp .Eq (.var 4) (.var 3))))
 .nil)))))))
theorem m_law : mSs (defScope st_law) N_law b_law (defBody st_law) := ⟨by kernel_rfl, by kernel_rfl⟩
theorem sc_law : FnScope N_law P_law (defScope st_law) := ⟨rfl, rfl, rfl, by decide +kernel, rfl, by decide +kernel, by decide +kernel⟩
end K3
namespace Sw
open PySem PySem.Spec PyProof.Rows L2
theorem comp_filt {te : TE} {tt : TT} {fvs : L2.St} {D : Addr} {stay : Hp → Prop} {H0 : Hp} {k : Hp → Prop} (f : V → V) (p : V → Bool) : ∀ (xs acc : List V), (∀ v ∈ xs, ∀ H Q, Q (p v) H → tt (some v :: fvs) H Q) → (∀ v ∈ xs, ∀ H Q, Q (f v) H → te (some v :: fvs) H Q) →
    (∀ l, stay (upd H0 D (.lst l))) → acc.length + xs.length ≤ sizeLine → k (upd H0 D (.lst (acc ++ (xs.filter p).map f))) → compW te tt fvs D stay xs acc (upd H0 D (.lst acc)) k := by
  intro xs
  induction xs with
  | nil =>
    intro acc h0 h1 h2 h3 h4
    exact ⟨h2 _, upd_same, by simpa using h4⟩
  | cons v r ih =>
    intro acc h0 h1 h2 h3 h4
    refine ⟨h2 _, h0 v List.mem_cons_self _ _ ?_⟩
    cases q : p v with
    | true =>
      rw [if_pos rfl]
      refine h1 v List.mem_cons_self _ _ ⟨upd_same, by rw [List.length_cons] at h3; omega, ?_⟩
      rw [upd_upd]
      refine ih (acc ++ [f v]) (fun v hv => h0 v (List.mem_cons_of_mem _ hv)) (fun v hv => h1 v (List.mem_cons_of_mem _ hv)) h2 (by rw [List.length_append]; simp at h3 ⊢; omega) ?_
      rw [List.filter_cons_of_pos q] at h4
      simpa using h4
    | false =>
      rw [if_neg (by decide)]
      refine ih acc (fun v hv => h0 v (List.mem_cons_of_mem _ hv)) (fun v hv => h1 v (List.mem_cons_of_mem _ hv)) h2 (by simp at h3 ⊢; omega) ?_
      rw [List.filter_cons_of_neg (by rw [q]; decide)] at h4
      exact h4
end Sw
namespace K3
open PySem PySem.Spec PyProof.Rows L2 Sw Wd
variable {M : Mo}
noncomputable def mixZ (c k : Int) : Int :=
  let n := (c % 2147483629 + 7919 * k + 12345) % 2147483629
  let n := (n * n + 104729 * k) % 2147483629
  (n + k) * (n + k) % 2147483587
theorem mix_range (c k : Int) : 0 ≤ mixZ c k ∧ mixZ c k < 2147483587 := ⟨Int.emod_nonneg _ (by decide), Int.emod_lt_of_pos _ (by decide)⟩
theorem bnd_of {i : Int} (h0 : -4294967296 ≤ i) (h1 : i ≤ 4294967296) : bnd i = true := by
  unfold bnd
  simp only [Bool.and_eq_true, decide_eq_true_eq]
  omega
noncomputable def spMix : Sp := fun vs H Q _ => ∃ c k, vs = [.int c, .int k] ∧ 0 ≤ k ∧ k ≤ 100 ∧ Q (.int (mixZ c k)) H
theorem ok_mix {Γ : Gam} (vs : List V) (H : Hp) (Q : VK) (E : XK) (h : spMix vs H Q E) : spOf Γ N__law_mix 2 b__law_mix vs H Q E := by
  obtain ⟨c, k, rfl, h0, h1, h⟩ := h
  refine ⟨rfl, ?_⟩
  unfold b__law_mix
  dsimp only [Sw.wSs, Sw.wS, Sw.wE, Sw.wT, Sw.wEs, Sw.wTs, Sw.wI, Sw.wP, Sw.vars, L2.start, Sw.r_get0, Sw.r_getS, Sw.r_set0, Sw.r_setS, Sw.r_map0, Sw.r_mapS, Sw.r_app0, Sw.r_appS, Sw.r_len0, Sw.r_lenS, Sw.r_rep0, Sw.r_repS, Sw.r_join, Nat.reduceAdd, Nat.reduceSub]
  simp (config := { maxSteps := 10000000, failIfUnchanged := false }) only [Sw.v_add, Sw.v_adds, Sw.v_mul, Sw.v_div, Sw.v_mod, Sw.v_pow, Sw.v_lt, Sw.v_le, Sw.v_les, Sw.v_ins, Sw.v_eqi, Sw.v_nei, Sw.v_eqs, Sw.v_nes, Sw.v_neb, Sw.v_eqb, Sw.v_is, Sw.t_bl, Sw.t_non, Sw.t_int, Sw.b_lens, Sw.b_lenr, Sw.b_str, Sw.b_int, Sw.i_str, Sw.i_ref, Sw.s_str, Sw.s_ref, Sw.m_sw, Sw.m_ew]
  have r1 : ∀ x : Int, 0 ≤ x % 2147483629 ∧ x % 2147483629 < 2147483629 := fun x => ⟨Int.emod_nonneg _ (by decide), Int.emod_lt_of_pos _ (by decide)⟩
  have b1 : ∀ x : Int, bnd (x % 2147483629) = true := fun x => bnd_of (by have := r1 x; omega) (by have := r1 x; omega)
  have b2 : ∀ x : Int, bnd (x % 2147483629 + k) = true := fun x => bnd_of (by have := r1 x; omega) (by have := r1 x; omega)
  have bk : bnd k = true := bnd_of (by omega) (by omega)
  refine ⟨by decide, by rw [bk]; simp, by decide, by rw [b1]; simp, by rw [bk]; simp, by decide, by rw [b2]; simp, by decide, ?_⟩
  unfold mixZ at h
  dsimp only at h
  exact h
noncomputable def MarksOk (m : Str) : Prop := m = "" ∨ (rising (cps m) = true ∧ madeOf m letters = true)
noncomputable def spMarks (M : Mo) : Sp := fun vs H Q _ => ∃ n, vs = [.int n] ∧ 0 ≤ n ∧ ∀ m H', Ext M H H' → MarksOk m → Q (.str m) H'
theorem marks_codes {l : List Nat} (h : l.Pairwise (· < ·)) (ha : ∀ c ∈ l, inRange 97 122 c = true) : MarksOk ⟨l.toArray⟩ := by
  have e : cps ⟨l.toArray⟩ = l := by unfold cps; simp
  refine .inr ⟨?_, ?_⟩
  · unfold rising
    rw [e]
    exact decide_eq_true h
  · rw [madeOf_letters, e]
    exact List.all_eq_true.mpr ha
theorem letters_at {i : Int} (h0 : 0 ≤ i) (h1 : i < 26) : atI (cps letters) i = some (97 + i.toNat) := by
  have e : cps letters = (List.range 26).map (97 + ·) := by decide +kernel
  unfold atI ixN
  rw [e, if_pos h0, List.length_map, List.length_range, if_pos (by omega), Option.bind_some, List.getElem?_map, List.getElem?_range (by omega)]
  rfl
theorem ok_marks {Γ : Gam} (hc : Γ.cm = true) (hM : Γ.mod = M) (vs : List V) (H : Hp) (Q : VK) (E : XK) (h : spMarks M vs H Q E) : spOf Γ N__law_marks 1 b__law_marks vs H Q E := by
  obtain ⟨n, rfl, h0, h⟩ := h
  refine ⟨rfl, ?_⟩
  subst hM
  unfold b__law_marks
  refine seq ?_
  dsimp only [Sw.wS, Sw.wE, Sw.wT, Sw.wEs, Sw.wTs, Sw.wI, Sw.wP, Sw.vars, L2.start, Sw.r_get0, Sw.r_getS, Sw.r_set0, Sw.r_setS, Sw.r_map0, Sw.r_mapS, Sw.r_app0, Sw.r_appS, Sw.r_len0, Sw.r_lenS, Sw.r_rep0, Sw.r_repS, Sw.r_join, Nat.reduceAdd, Nat.reduceSub]
  refine seq ?_
  dsimp only [Sw.wS, Sw.wE, Sw.wT, Sw.wEs, Sw.wTs, Sw.wI, Sw.wP, Sw.vars, L2.start, Sw.r_get0, Sw.r_getS, Sw.r_set0, Sw.r_setS, Sw.r_map0, Sw.r_mapS, Sw.r_app0, Sw.r_appS, Sw.r_len0, Sw.r_lenS, Sw.r_rep0, Sw.r_repS, Sw.r_join, Nat.reduceAdd, Nat.reduceSub]
  rw [Sw.v_mod]
  refine ⟨by decide, ?_⟩
  refine seq ?_
  dsimp only [Sw.wS, Sw.wE, Sw.wT, Sw.wEs, Sw.wTs, Sw.wI, Sw.wP, Sw.vars, L2.start, Sw.r_get0, Sw.r_getS, Sw.r_set0, Sw.r_setS, Sw.r_map0, Sw.r_mapS, Sw.r_app0, Sw.r_appS, Sw.r_len0, Sw.r_lenS, Sw.r_rep0, Sw.r_repS, Sw.r_join, Nat.reduceAdd, Nat.reduceSub]
  rw [Sw.v_eqi]
  refine ⟨_, rfl, ?_⟩
  by_cases q0 : n % 3 = 0
  · rw [if_pos (decide_eq_true q0)]
    dsimp only [Sw.wSs, Sw.wS, Sw.wE, Sw.wT, Sw.wEs, Sw.wTs, Sw.wI, Sw.wP, Sw.vars, L2.start, Sw.r_get0, Sw.r_getS, Sw.r_set0, Sw.r_setS, Sw.r_map0, Sw.r_mapS, Sw.r_app0, Sw.r_appS, Sw.r_len0, Sw.r_lenS, Sw.r_rep0, Sw.r_repS, Sw.r_join, Nat.reduceAdd, Nat.reduceSub]
    exact h _ H Ext.refl (.inl rfl)
  rw [if_neg (by simpa using q0)]
  dsimp only [Sw.wSs, Sw.wS, Sw.wE, Sw.wT, Sw.wEs, Sw.wTs, Sw.wI, Sw.wP, Sw.vars, L2.start, Sw.r_get0, Sw.r_getS, Sw.r_set0, Sw.r_setS, Sw.r_map0, Sw.r_mapS, Sw.r_app0, Sw.r_appS, Sw.r_len0, Sw.r_lenS, Sw.r_rep0, Sw.r_repS, Sw.r_join, Nat.reduceAdd, Nat.reduceSub]
  rw [Sw.v_eqi]
  refine ⟨_, rfl, ?_⟩
  have el : (Str.ofString "abcdefghijklmnopqrstuvwxyz").cps.toList = cps letters := rfl
  by_cases q1 : n % 3 = 1
  · rw [if_pos (decide_eq_true q1), Sw.v_div]
    refine ⟨by decide, by decide, ?_⟩
    rw [Sw.v_mod]
    refine ⟨by decide, ?_⟩
    rw [i_str]
    have r0 : 0 ≤ n / 3 % 26 := Int.emod_nonneg _ (by decide)
    have r1 : n / 3 % 26 < 26 := Int.emod_lt_of_pos _ (by decide)
    refine ⟨by decide +kernel, ?_⟩
    rw [el, letters_at r0 r1]
    refine h _ H Ext.refl (marks_codes (l := [97 + (n / 3 % 26).toNat]) (by simp) fun c hc => ?_)
    rw [List.mem_singleton.mp hc]
    simp only [inRange, Bool.and_eq_true, decide_eq_true_eq]
    omega
  rw [if_neg (by simpa using q1)]
  refine ⟨rfl, hc, by decide, by decide, fun D hD mD => ?_⟩
  refine comp_filt (fun v => match v with | .int i => .str ⟨#[97 + i.toNat]⟩ | v => v) (fun v => match v with | .int i => decide (n / 3 / (i + 1) % 3 = 0) | _ => false) _ [] ?_ ?_ (fun _ => trivial) (by rw [sizeLine_eq]; simp) ?_
  · intro v hv H1 Q1 q
    obtain ⟨i, hi, rfl⟩ := List.mem_map.mp hv
    have hi : i < 26 := by simpa using hi
    show binV Γ.mod Operator.FloorDiv (V.int n) (V.int 3) H1 _
    rw [Sw.v_div]
    refine ⟨by decide, by decide, ?_⟩
    show binV Γ.mod Operator.Add (V.int i) (V.int 1) H1 _
    rw [Sw.v_add, Sw.v_div]
    refine ⟨by omega, by omega, ?_⟩
    rw [Sw.v_mod]
    refine ⟨by decide, ?_⟩
    rw [Sw.v_eqi]
    exact ⟨_, rfl, q⟩
  · intro v hv H1 Q1 q
    obtain ⟨i, hi, rfl⟩ := List.mem_map.mp hv
    have hi : i < 26 := by simpa using hi
    show idxV Γ.mod (V.str (Str.ofString "abcdefghijklmnopqrstuvwxyz")) (V.int i) H1 Q1
    rw [i_str]
    refine ⟨by decide +kernel, ?_⟩
    rw [el, letters_at (by omega) (by omega)]
    exact q
  · generalize hl : (List.filter (fun v => match v with | V.int i => decide (n / 3 / (i + 1) % 3 = 0) | _ => false) (List.map (fun i : Nat => V.int (i : Int)) (List.range (Int.toNat 26)))) = fl
    have e : ∃ ks : List Nat, fl = ks.map (fun i : Nat => V.int (i : Int)) ∧ ks.Pairwise (· < ·) ∧ ∀ k ∈ ks, k < 26 := by
      rw [List.filter_map] at hl
      refine ⟨_, hl.symm, ?_, ?_⟩
      · exact List.Pairwise.filter _ List.pairwise_lt_range
      · intro k hk
        have := (List.mem_filter.mp hk).1
        simpa using this
    obtain ⟨ks, rfl, pw, lt⟩ := e
    have e2 : List.map (fun v => match v with | V.int i => V.str ⟨#[97 + i.toNat]⟩ | v => v) (List.map (fun i : Nat => V.int (i : Int)) ks) = ((ks.map (97 + ·)).map Wd.single).map V.str := by
      rw [List.map_map, List.map_map, List.map_map]
      exact List.map_congr_left fun k _ => rfl
    rw [List.nil_append, e2]
    have kl : ks.length ≤ 26 := by
      have nd : ks.Nodup := pw.imp fun h => Nat.ne_of_lt h
      have := List.Nodup.length_le_of_subset nd (l₂ := List.range 26) fun k hk => List.mem_range.mpr (lt k hk)
      simpa using this
    refine join_at (rd_upd (by intro _ _ z; cases z)) (joinOk _ _ 1 (fun x hx => ?_) ?_) (h _ _ (Ext.upd hD mD) ?_)
    · obtain ⟨c, _, rfl⟩ := List.mem_map.mp hx
      exact Nat.le_refl _
    · rw [show (Str.ofString "").length = 0 from rfl, List.length_map, List.length_map]
      omega
    · have ej : Txt.join (Str.ofString "") ((ks.map (97 + ·)).map Wd.single) = ⟨(ks.map (97 + ·)).toArray⟩ := by
        refine str_ext ?_
        rw [cps_join, show cps (Str.ofString "") = [] from rfl, joinL_nil, List.map_map]
        exact flat_single _
      rw [ej]
      refine marks_codes ?_ ?_
      · exact List.Pairwise.map _ (fun a b h => Nat.add_lt_add_left h 97) pw
      · intro c hc
        obtain ⟨k, hk, rfl⟩ := List.mem_map.mp hc
        have := lt k hk
        simp only [inRange, Bool.and_eq_true, decide_eq_true_eq]
        omega
noncomputable def spSide (M : Mo) : Sp := fun vs H Q _ => ∃ c k, vs = [.int c, .int k] ∧ 0 ≤ k ∧ k ≤ 100 ∧ ∀ (s : Side) H' q, s.Ok → Ext M H H' → M q = none → H' q = some (.tup s.vs) → Q (.ref q) H'
structure L1 (Γ : Gam) (M : Mo) : Prop where
  cm : Γ.cm = true
  mod : Γ.mod = M
  mx : Γ.has "_law_mix" = true ∧ Γ.fn "_law_mix" = spMix
  ma : Γ.has "_law_marks" = true ∧ Γ.fn "_law_marks" = spMarks M
theorem ok_side {Γ : Gam} (g : L1 Γ M) (vs : List V) (H : Hp) (Q : VK) (E : XK) (h : spSide M vs H Q E) : spOf Γ N__law_side 2 b__law_side vs H Q E := by
  obtain ⟨c, k, rfl, h0, h1, h⟩ := h
  refine ⟨rfl, ?_⟩
  obtain rfl := g.mod
  unfold b__law_side
  refine seq ?_
  dsimp only [Sw.wS, Sw.wE, Sw.wT, Sw.wEs, Sw.wTs, Sw.wI, Sw.wP, Sw.vars, L2.start, Sw.r_get0, Sw.r_getS, Sw.r_set0, Sw.r_setS, Sw.r_map0, Sw.r_mapS, Sw.r_app0, Sw.r_appS, Sw.r_len0, Sw.r_lenS, Sw.r_rep0, Sw.r_repS, Sw.r_join, Nat.reduceAdd, Nat.reduceSub]
  rw [g.mx.2]
  refine ⟨⟨g.cm, g.mx.1⟩, c, k, rfl, h0, h1, ?_⟩
  obtain ⟨n0, n1⟩ := mix_range c k
  generalize mixZ c k = n at n0 n1 ⊢
  dsimp only [Sw.wSs, Sw.wS, Sw.wE, Sw.wT, Sw.wEs, Sw.wTs, Sw.wI, Sw.wP, Sw.vars, L2.start, Sw.r_get0, Sw.r_getS, Sw.r_set0, Sw.r_setS, Sw.r_map0, Sw.r_mapS, Sw.r_app0, Sw.r_appS, Sw.r_len0, Sw.r_lenS, Sw.r_rep0, Sw.r_repS, Sw.r_join, Nat.reduceAdd, Nat.reduceSub]
  refine ⟨by decide, fun p hp mp => ?_⟩
  rw [Sw.v_mod]
  refine ⟨by decide, ?_⟩
  have x1 := Ext.upd (o := .lst [V.str (Str.ofString "O"), V.str (Str.ofString "A"), V.str (Str.ofString "B"), V.str (Str.ofString "AB")]) hp mp
  have r0 : 0 ≤ n % 4 := Int.emod_nonneg _ (by decide)
  have r1 : n % 4 < 4 := Int.emod_lt_of_pos _ (by decide)
  have gr : ∃ t, atI [V.str (Str.ofString "O"), V.str (Str.ofString "A"), V.str (Str.ofString "B"), V.str (Str.ofString "AB")] (n % 4) = some (.str t) ∧ isGroup t = true := by
    generalize n % 4 = r at r0 r1
    have : r = 0 ∨ r = 1 ∨ r = 2 ∨ r = 3 := by omega
    rcases this with rfl | rfl | rfl | rfl
    · exact ⟨Str.ofString "O", rfl, by decide +kernel⟩
    · exact ⟨Str.ofString "A", rfl, by decide +kernel⟩
    · exact ⟨Str.ofString "B", rfl, by decide +kernel⟩
    · exact ⟨Str.ofString "AB", rfl, by decide +kernel⟩
  obtain ⟨t, et, gt⟩ := gr
  refine ix_at (rd_upd (by intro _ _ z; cases z)) et ?_
  rw [Sw.v_div]
  refine ⟨by decide, by decide, ?_⟩
  rw [Sw.v_mod]
  refine ⟨by decide, ?_⟩
  rw [Sw.v_add]
  refine ⟨⟨g.cm, g.ma.1⟩, ?_⟩
  rw [Sw.v_div]
  refine ⟨by decide, by decide, ?_⟩
  rw [g.ma.2]
  refine ⟨_, rfl, Int.ediv_nonneg n0 (by decide), fun m H2 x2 hm => ⟨by decide, fun q hq mq => ?_⟩⟩
  have s0 : 0 ≤ n / 4 % 99 := Int.emod_nonneg _ (by decide)
  have s1 : n / 4 % 99 < 99 := Int.emod_lt_of_pos _ (by decide)
  exact h ⟨t, 1 + n / 4 % 99, m⟩ _ q ⟨gt, ⟨by show 1 ≤ 1 + n / 4 % 99; omega, by show 1 + n / 4 % 99 ≤ 99; omega⟩, hm⟩ ((x1.trans x2).trans (Ext.upd hq mq)) mq upd_same
noncomputable def spName (M : Mo) : Sp := fun vs H Q _ => ∃ c, vs = [.int c] ∧ ∀ (t : Str) H', isNameZ t = true → Ext M H H' → Q (.str t) H'
theorem ok_name {Γ : Gam} (g : L1 Γ M) (vs : List V) (H : Hp) (Q : VK) (E : XK) (h : spName M vs H Q E) : spOf Γ N__law_name 1 b__law_name vs H Q E := by
  obtain ⟨c, rfl, h⟩ := h
  refine ⟨rfl, ?_⟩
  obtain rfl := g.mod
  unfold b__law_name
  refine seq ?_
  dsimp only [Sw.wS, Sw.wE, Sw.wT, Sw.wEs, Sw.wTs, Sw.wI, Sw.wP, Sw.vars, L2.start, Sw.r_get0, Sw.r_getS, Sw.r_set0, Sw.r_setS, Sw.r_map0, Sw.r_mapS, Sw.r_app0, Sw.r_appS, Sw.r_len0, Sw.r_lenS, Sw.r_rep0, Sw.r_repS, Sw.r_join, Nat.reduceAdd, Nat.reduceSub]
  dsimp only [Sw.wSs, Sw.wS, Sw.wE, Sw.wT, Sw.wEs, Sw.wTs, Sw.wI, Sw.wP, Sw.vars, L2.start, Sw.r_get0, Sw.r_getS, Sw.r_set0, Sw.r_setS, Sw.r_map0, Sw.r_mapS, Sw.r_app0, Sw.r_appS, Sw.r_len0, Sw.r_lenS, Sw.r_rep0, Sw.r_repS, Sw.r_join, Nat.reduceAdd, Nat.reduceSub]
  refine ⟨rfl, g.cm, ⟨g.cm, g.mx.1⟩, ?_⟩
  rw [g.mx.2]
  refine ⟨c, 39, rfl, by decide, by decide, ?_⟩
  have r0 : 0 ≤ mixZ c 39 % 8 := Int.emod_nonneg _ (by decide)
  have r1 : mixZ c 39 % 8 < 8 := Int.emod_lt_of_pos _ (by decide)
  dsimp only
  rw [Sw.v_mod]
  refine ⟨by decide, ?_⟩
  rw [Sw.v_add]
  dsimp only
  generalize mixZ c 39 % 8 = r at r0 r1 ⊢
  refine ⟨by omega, by omega, fun D hD mD => ?_⟩
  have el : (Str.ofString "abcdefghijklmnopqrstuvwxyz").cps.toList = cps letters := rfl
  have m0 : ∀ k, 0 ≤ mixZ c k % 26 := fun k => Int.emod_nonneg _ (by decide)
  have m1 : ∀ k, mixZ c k % 26 < 26 := fun k => Int.emod_lt_of_pos _ (by decide)
  refine comp_pure (fun v => match v with | .int i => .str (Wd.single (97 + (mixZ c (40 + i) % 26).toNat)) | v => v) _ [] ?_ (fun _ => trivial) (by rw [sizeLine_eq]; simp; omega) ?_
  · intro v hv H1 Q1 q
    obtain ⟨i, hi, rfl⟩ := List.mem_map.mp hv
    have hi : i < (1 + r).toNat := by simpa using hi
    show (Γ.cm = true ∧ Γ.has (Str.ofString "_law_mix") = true) ∧ binV Γ.mod Operator.Add (V.int 40) (V.int i) H1 _
    rw [Sw.v_add]
    refine ⟨⟨g.cm, g.mx.1⟩, c, 40 + i, rfl, by omega, by omega, ?_⟩
    show binV Γ.mod Operator.Mod (V.int (mixZ c (40 + i))) (V.int 26) H1 _
    rw [Sw.v_mod]
    refine ⟨by decide, ?_⟩
    rw [i_str]
    refine ⟨by decide +kernel, ?_⟩
    rw [el, letters_at (m0 _) (m1 _)]
    exact q
  · rw [List.nil_append]
    have e2 : List.map (fun v => match v with | V.int i => V.str (Wd.single (97 + (mixZ c (40 + i) % 26).toNat)) | v => v) (List.map (fun i : Nat => V.int (i : Int)) (List.range (1 + r).toNat)) = (((List.range (1 + r).toNat).map fun i : Nat => 97 + (mixZ c (40 + i) % 26).toNat).map Wd.single).map V.str := by
      rw [List.map_map, List.map_map, List.map_map]
      exact List.map_congr_left fun k _ => rfl
    rw [e2]
    have ln : ((List.range (1 + r).toNat).map fun i : Nat => 97 + (mixZ c (40 + i) % 26).toNat).length = (1 + r).toNat := by simp
    have al : ∀ c' ∈ ((List.range (1 + r).toNat).map fun i : Nat => 97 + (mixZ c (40 + i) % 26).toNat), inRange 97 122 c' = true := by
      intro c' hc'
      obtain ⟨k, hk, rfl⟩ := List.mem_map.mp hc'
      have := m0 (40 + k)
      have := m1 (40 + k)
      simp only [inRange, Bool.and_eq_true, decide_eq_true_eq]
      omega
    generalize ((List.range (1 + r).toNat).map fun i : Nat => 97 + (mixZ c (40 + i) % 26).toNat) = ls at ln al
    refine join_at (rd_upd (by intro _ _ z; cases z)) (joinOk _ _ 1 (fun x hx => ?_) ?_) (h _ _ ?_ (Ext.upd hD mD))
    · obtain ⟨c, _, rfl⟩ := List.mem_map.mp hx
      exact Nat.le_refl _
    · rw [show (Str.ofString "").length = 0 from rfl, List.length_map]
      omega
    · have ej : cps (Txt.join (Str.ofString "") (ls.map Wd.single)) = ls := by
        rw [cps_join, show cps (Str.ofString "") = [] from rfl, joinL_nil, List.map_map]
        exact flat_single _
      unfold isNameZ
      rw [ej, ln, List.all_eq_true.mpr al, decide_eq_true (show 1 ≤ (1 + r).toNat by omega), decide_eq_true (show (1 + r).toNat ≤ 8 by omega)]
      rfl
noncomputable def spCouple (M : Mo) : Sp := fun vs H Q _ => ∃ c, vs = [.int c] ∧ ∀ (k : Cpl) H' q, k.Ok → Ext M H H' → M q = none → CplAt H' q k → Q (.ref q) H'
structure L2' (Γ : Gam) (M : Mo) : Prop extends L1 Γ M where
  na : Γ.has "_law_name" = true ∧ Γ.fn "_law_name" = spName M
  si : Γ.has "_law_side" = true ∧ Γ.fn "_law_side" = spSide M
theorem two_at {a b r : Int} (h0 : 0 ≤ r) (h1 : r < 2) : atI [V.int a, V.int b] r = some (.int (if r = 0 then a else b)) := by
  have : r = 0 ∨ r = 1 := by omega
  rcases this with rfl | rfl
  · rfl
  · rfl
theorem ok_couple {Γ : Gam} (g : L2' Γ M) (vs : List V) (H : Hp) (Q : VK) (E : XK) (h : spCouple M vs H Q E) : spOf Γ N__law_couple 1 b__law_couple vs H Q E := by
  obtain ⟨c, rfl, h⟩ := h
  refine ⟨rfl, ?_⟩
  have em : ∀ a b : Int, 0 < b → 0 ≤ a % b ∧ a % b < b := fun a b hb => ⟨Int.emod_nonneg _ (by omega), Int.emod_lt_of_pos _ hb⟩
  unfold b__law_couple
  refine seq ?_
  dsimp only [Sw.wS, Sw.wE, Sw.wT, Sw.wEs, Sw.wTs, Sw.wI, Sw.wP, Sw.vars, L2.start, Sw.r_get0, Sw.r_getS, Sw.r_set0, Sw.r_setS, Sw.r_map0, Sw.r_mapS, Sw.r_app0, Sw.r_appS, Sw.r_len0, Sw.r_lenS, Sw.r_rep0, Sw.r_repS, Sw.r_join, Nat.reduceAdd, Nat.reduceSub]
  rw [g.mod, g.mx.2]
  refine ⟨⟨g.cm, g.mx.1⟩, c, 1, rfl, by decide, by decide, ?_⟩
  dsimp only
  rw [Sw.v_mod]
  refine ⟨by decide, ⟨g.cm, g.mx.1⟩, c, 1, rfl, by decide, by decide, ?_⟩
  dsimp only
  rw [Sw.v_pow]
  refine ⟨by unfold CPow; decide, ?_⟩
  rw [Sw.v_mod]
  refine ⟨by decide, by decide, fun p hp mp => ⟨⟨g.cm, g.mx.1⟩, c, 2, rfl, by decide, by decide, ?_⟩⟩
  dsimp only
  rw [Sw.v_mod]
  refine ⟨by decide, ix_at (rd_upd (by intro _ _ z; cases z)) (two_at (em _ 2 (by decide)).1 (em _ 2 (by decide)).2) ?_⟩
  rw [Sw.v_add]
  have x1 := Ext.upd (o := .lst [V.int (mixZ c 1 % 200), V.int (mixZ c 1 % 10 ^ Int.toNat 6)]) hp mp
  have need : ∃ n, (1 + if mixZ c 2 % 2 = 0 then mixZ c 1 % 200 else mixZ c 1 % 10 ^ Int.toNat 6) = n ∧ 1 ≤ n ∧ n ≤ 1000000 := by
    have a := em (mixZ c 1) 200 (by decide)
    have b := em (mixZ c 1) (10 ^ Int.toNat 6) (by decide)
    have e : (10 : Int) ^ Int.toNat 6 = 1000000 := by decide
    rw [e] at b ⊢
    refine ⟨_, rfl, ?_⟩
    split <;> omega
  obtain ⟨nd, en, hnd⟩ := need
  rw [en]
  generalize upd H p (.lst [V.int (mixZ c 1 % 200), V.int (mixZ c 1 % 10 ^ Int.toNat 6)]) = H1 at x1 ⊢
  refine seq ?_
  dsimp only [Sw.wS, Sw.wE, Sw.wT, Sw.wEs, Sw.wTs, Sw.wI, Sw.wP, Sw.vars, L2.start, Sw.r_get0, Sw.r_getS, Sw.r_set0, Sw.r_setS, Sw.r_map0, Sw.r_mapS, Sw.r_app0, Sw.r_appS, Sw.r_len0, Sw.r_lenS, Sw.r_rep0, Sw.r_repS, Sw.r_join, Nat.reduceAdd, Nat.reduceSub]
  rw [g.mod, g.mx.2]
  refine ⟨⟨g.cm, g.mx.1⟩, c, 3, rfl, by decide, by decide, ?_⟩
  dsimp only
  rw [Sw.v_mod]
  refine ⟨by decide, ⟨g.cm, g.mx.1⟩, c, 3, rfl, by decide, by decide, ?_⟩
  dsimp only
  rw [Sw.v_pow]
  refine ⟨by unfold CPow; decide, ?_⟩
  rw [Sw.v_add, Sw.v_mod]
  refine ⟨by decide, by decide, fun p2 hp2 mp2 => ⟨⟨g.cm, g.mx.1⟩, c, 4, rfl, by decide, by decide, ?_⟩⟩
  dsimp only
  rw [Sw.v_mod]
  refine ⟨by decide, ix_at (rd_upd (by intro _ _ z; cases z)) (two_at (em _ 2 (by decide)).1 (em _ 2 (by decide)).2) ?_⟩
  have x2 := x1.trans (Ext.upd (o := .lst [V.int (mixZ c 3 % 4), V.int (mixZ c 3 % (10 ^ Int.toNat 6 + 1))]) hp2 mp2)
  have rank : ∃ n, (if mixZ c 4 % 2 = 0 then mixZ c 3 % 4 else mixZ c 3 % (10 ^ Int.toNat 6 + 1)) = n ∧ 0 ≤ n ∧ n ≤ 1000000 := by
    have a := em (mixZ c 3) 4 (by decide)
    have b := em (mixZ c 3) (10 ^ Int.toNat 6 + 1) (by decide)
    have e : (10 : Int) ^ Int.toNat 6 = 1000000 := by decide
    rw [e] at b ⊢
    refine ⟨_, rfl, ?_⟩
    split <;> omega
  obtain ⟨rk, er, hrk⟩ := rank
  rw [er]
  generalize upd H1 p2 (.lst [V.int (mixZ c 3 % 4), V.int (mixZ c 3 % (10 ^ Int.toNat 6 + 1))]) = H2 at x2 ⊢
  dsimp only [Sw.wSs, Sw.wS, Sw.wE, Sw.wT, Sw.wEs, Sw.wTs, Sw.wI, Sw.wP, Sw.vars, L2.start, Sw.r_get0, Sw.r_getS, Sw.r_set0, Sw.r_setS, Sw.r_map0, Sw.r_mapS, Sw.r_app0, Sw.r_appS, Sw.r_len0, Sw.r_lenS, Sw.r_rep0, Sw.r_repS, Sw.r_join, Nat.reduceAdd, Nat.reduceSub]
  rw [g.mod, g.na.2, g.si.2]
  refine ⟨⟨g.cm, g.na.1⟩, c, rfl, fun t H3 ht x3 => ⟨⟨g.cm, g.si.1⟩, c, 5, rfl, by decide, by decide, fun s1 H4 q1 ok1 x4 mq1 hq1 => ⟨⟨g.cm, g.si.1⟩, c, 6, rfl, by decide, by decide, fun s2 H5 q2 ok2 x5 mq2 hq2 => ⟨by decide, fun q hq mq => ?_⟩⟩⟩⟩
  have x6 := Ext.upd (o := .tup [.str t, .int nd, .int rk, .ref q1, .ref q2]) hq mq
  exact h ⟨t, nd, rk, s1, s2⟩ _ q ⟨ht, hnd, hrk, ok1, ok2⟩ ((((x2.trans x3).trans x4).trans x5).trans x6) mq ⟨q1, q2, upd_same, x6.same _ _ (x5.same _ _ hq1), x6.same _ _ hq2⟩
theorem ok_shown_side {Γ : Gam} (hc : Γ.cm = true) (hM : Γ.mod = M) (vs : List V) (H : Hp) (Q : VK) (E : XK) (h : spShowSideN M vs H Q E) : spOf Γ N__law_shown_side 1 b__law_shown_side vs H Q E := by
  obtain ⟨p, s, rfl, ok, hp, h⟩ := h
  refine ⟨rfl, ?_⟩
  subst hM
  have hr := rd_of (M := Γ.mod) hp
  obtain ⟨l1, l2, l3⟩ := near_bound ok
  unfold b__law_shown_side
  refine seq ?_
  dsimp only [Sw.wS, Sw.wE, Sw.wT, Sw.wEs, Sw.wTs, Sw.wI, Sw.wP, Sw.vars, L2.start, Sw.r_get0, Sw.r_getS, Sw.r_set0, Sw.r_setS, Sw.r_map0, Sw.r_mapS, Sw.r_app0, Sw.r_appS, Sw.r_len0, Sw.r_lenS, Sw.r_rep0, Sw.r_repS, Sw.r_join, Nat.reduceAdd, Nat.reduceSub]
  refine ix_tup hr (v := .str s.g) rfl ⟨hc, ix_tup hr (v := .int s.n) rfl ?_⟩
  rw [b_str]
  refine ⟨log_ok (by have := ok.n; omega) (by have := ok.n; omega), ix_tup hr (v := .str s.m) rfl ⟨by decide, fun q hq mq => ?_⟩⟩
  have x1 := Ext.upd (o := .lst [.str s.g, .str (Str.ofString (toString s.n)), .str s.m]) hq mq
  refine seq ?_
  dsimp only [Sw.wS, Sw.wE, Sw.wT, Sw.wEs, Sw.wTs, Sw.wI, Sw.wP, Sw.vars, L2.start, Sw.r_get0, Sw.r_getS, Sw.r_set0, Sw.r_setS, Sw.r_map0, Sw.r_mapS, Sw.r_app0, Sw.r_appS, Sw.r_len0, Sw.r_lenS, Sw.r_rep0, Sw.r_repS, Sw.r_join, Nat.reduceAdd, Nat.reduceSub]
  refine ix_tup (x1.rd hr) (v := .str s.m) rfl ?_
  rw [Sw.v_eqs]
  refine ⟨_, rfl, ?_⟩
  by_cases q0 : s.m = ""
  · rw [if_pos (decide_eq_true q0)]
    dsimp only [Sw.wSs, Sw.wS, Sw.wE, Sw.wT, Sw.wEs, Sw.wTs, Sw.wI, Sw.wP, Sw.vars, L2.start, Sw.r_get0, Sw.r_getS, Sw.r_set0, Sw.r_setS, Sw.r_map0, Sw.r_mapS, Sw.r_app0, Sw.r_appS, Sw.r_len0, Sw.r_lenS, Sw.r_rep0, Sw.r_repS, Sw.r_join, Nat.reduceAdd, Nat.reduceSub]
    unfold stoV
    dsimp only
    rw [upd_same]
    dsimp only
    rw [show ixN [V.str s.g, V.str (Str.ofString (toString s.n)), V.str s.m].length 2 = some 2 from rfl]
    dsimp only
    rw [upd_upd]
    refine ⟨rfl, ?_⟩
    have e : mkT s.m = Str.ofString "-" := by unfold mkT; rw [if_pos q0]
    rw [e] at l3
    have h := h _ (Ext.upd (o := .lst [.str s.g, .str (Str.ofString (toString s.n)), .str (Str.ofString "-")]) hq mq)
    unfold showSide at h
    rw [e] at h
    exact join_at (ts := [s.g, Str.ofString (toString s.n), Str.ofString "-"]) (rd_upd (by intro _ _ z; cases z)) (joinOk3 l1 l2 l3) h
  · rw [if_neg (by simpa using q0)]
    dsimp only [Sw.wSs, Sw.wS, Sw.wE, Sw.wT, Sw.wEs, Sw.wTs, Sw.wI, Sw.wP, Sw.vars, L2.start, Sw.r_get0, Sw.r_getS, Sw.r_set0, Sw.r_setS, Sw.r_map0, Sw.r_mapS, Sw.r_app0, Sw.r_appS, Sw.r_len0, Sw.r_lenS, Sw.r_rep0, Sw.r_repS, Sw.r_join, Nat.reduceAdd, Nat.reduceSub]
    refine ⟨rfl, ?_⟩
    have e : mkT s.m = s.m := by unfold mkT; rw [if_neg q0]
    rw [e] at l3
    have h := h _ x1
    unfold showSide at h
    rw [e] at h
    exact join_at (ts := [s.g, Str.ofString (toString s.n), s.m]) (rd_upd (by intro _ _ z; cases z)) (joinOk3 l1 l2 l3) h
structure L3 (Γ : Gam) (M : Mo) : Prop where
  cm : Γ.cm = true
  mod : Γ.mod = M
  ss : Γ.has "_law_shown_side" = true ∧ Γ.fn "_law_shown_side" = spShowSideN M
theorem ok_shown {Γ : Gam} (g : L3 Γ M) (vs : List V) (H : Hp) (Q : VK) (E : XK) (h : spShowN M vs H Q E) : spOf Γ N__law_shown 1 b__law_shown vs H Q E := by
  obtain ⟨p, k, rfl, ok, ⟨q1, q2, hp, hq1, hq2⟩, h⟩ := h
  refine ⟨rfl, ?_⟩
  obtain rfl := g.mod
  obtain ⟨s0, s1, s2, s3⟩ := near_len ok
  have l1 := (name_facts ok.name).2
  have l2 := (num_facts (n := k.need) (by have := ok.need; omega) (by have := ok.need; omega)).2
  have l3 := (num_facts (n := k.rank) (by have := ok.rank; omega) (by have := ok.rank; omega)).2
  have hr := rd_of (M := Γ.mod) hp
  unfold b__law_shown
  dsimp only [Sw.wSs, Sw.wS, Sw.wE, Sw.wT, Sw.wEs, Sw.wTs, Sw.wI, Sw.wP, Sw.vars, L2.start, Sw.r_get0, Sw.r_getS, Sw.r_set0, Sw.r_setS, Sw.r_map0, Sw.r_mapS, Sw.r_app0, Sw.r_appS, Sw.r_len0, Sw.r_lenS, Sw.r_rep0, Sw.r_repS, Sw.r_join, Nat.reduceAdd, Nat.reduceSub]
  refine ⟨rfl, ?_⟩
  refine ix_tup hr (v := .str k.name) rfl ⟨g.cm, ix_tup hr (v := .int k.need) rfl ?_⟩
  rw [b_str]
  refine ⟨log_ok (by have := ok.need; omega) (by have := ok.need; omega), g.cm, ix_tup hr (v := .int k.rank) rfl ?_⟩
  rw [b_str]
  refine ⟨log_ok ok.rank.1 (by have := ok.rank; omega), by decide, fun q hq mq => ?_⟩
  have x1 := Ext.upd (o := .lst [.str k.name, .str (Str.ofString (toString k.need)), .str (Str.ofString (toString k.rank))]) hq mq
  refine join_at (ts := [k.name, Str.ofString (toString k.need), Str.ofString (toString k.rank)]) (rd_upd (by intro _ _ z; cases z)) (joinOk3 (by omega) (by omega) (by omega)) ?_
  rw [show Txt.join (Str.ofString " ") [k.name, Str.ofString (toString k.need), Str.ofString (toString k.rank)] = headC k from rfl]
  have c1 : (Str.ofString ": ").length = 2 := rfl
  have c2 : (Str.ofString " > ").length = 3 := rfl
  rw [Sw.v_adds, g.ss.2]
  refine ⟨by rw [sizeLine_eq]; omega, ⟨g.cm, g.ss.1⟩, ix_tup (x1.rd hr) (v := .ref q1) rfl ?_⟩
  refine ⟨q1, k.gv, rfl, ok.gv, x1.same _ _ hq1, fun H2 x2 => ?_⟩
  have x2 := x1.trans x2
  dsimp only
  rw [Sw.v_adds]
  refine ⟨by rw [sizeLine_eq, len_app]; omega, ?_⟩
  rw [Sw.v_adds]
  refine ⟨by rw [sizeLine_eq, len_app, len_app]; omega, ⟨g.cm, g.ss.1⟩, ix_tup (x2.rd hr) (v := .ref q2) rfl ?_⟩
  refine ⟨q2, k.tk, rfl, ok.tk, x2.same _ _ hq2, fun H3 x3 => ?_⟩
  dsimp only
  rw [Sw.v_adds]
  refine ⟨by rw [sizeLine_eq, len_app, len_app, len_app]; omega, ?_⟩
  exact h H3 (x2.trans x3)
end K3
namespace K3
open PySem PySem.Spec PyProof.Rows L2 Sw Wd
variable {M : Mo}
theorem slice_mem {x : Str} {l u : Option Int} {c : Nat} (h : c ∈ cps (Txt.slice x l u)) : c ∈ cps x := by
  unfold Txt.slice at h
  split at h
  · exact h
  · have h : c ∈ List.filterMap (fun y => x.cps[y]?) (Builtin.Str.strSliceIndices l u 1 x.length) := h
    obtain ⟨i, _, hi⟩ := List.mem_filterMap.mp h
    exact Array.mem_toList_iff.mpr (Array.mem_of_getElem? hi)
noncomputable def spSign : Sp := fun vs H Q _ => ∃ i, vs = [.int i] ∧ ∀ c, Q (.str ⟨#[c]⟩) H
theorem ok_sign {Γ : Gam} (hc : Γ.cm = true) (vs : List V) (H : Hp) (Q : VK) (E : XK) (h : spSign vs H Q E) : spOf Γ N__law_sign 1 b__law_sign vs H Q E := by
  obtain ⟨i, rfl, h⟩ := h
  refine ⟨rfl, ?_⟩
  unfold b__law_sign
  refine seq ?_
  dsimp only [Sw.wS, Sw.wE, Sw.wT, Sw.wEs, Sw.wTs, Sw.wI, Sw.wP, Sw.vars, L2.start, Sw.r_get0, Sw.r_getS, Sw.r_set0, Sw.r_setS, Sw.r_map0, Sw.r_mapS, Sw.r_app0, Sw.r_appS, Sw.r_len0, Sw.r_lenS, Sw.r_rep0, Sw.r_repS, Sw.r_join, Nat.reduceAdd, Nat.reduceSub]
  refine seq ?_
  dsimp only [Sw.wS, Sw.wE, Sw.wT, Sw.wEs, Sw.wTs, Sw.wI, Sw.wP, Sw.vars, L2.start, Sw.r_get0, Sw.r_getS, Sw.r_set0, Sw.r_setS, Sw.r_map0, Sw.r_mapS, Sw.r_app0, Sw.r_appS, Sw.r_len0, Sw.r_lenS, Sw.r_rep0, Sw.r_repS, Sw.r_join, Nat.reduceAdd, Nat.reduceSub]
  rw [Sw.v_adds]
  refine ⟨by decide +kernel, ?_⟩
  refine seq ?_
  dsimp only [Sw.wS, Sw.wE, Sw.wT, Sw.wEs, Sw.wTs, Sw.wI, Sw.wP, Sw.vars, L2.start, Sw.r_get0, Sw.r_getS, Sw.r_set0, Sw.r_setS, Sw.r_map0, Sw.r_mapS, Sw.r_app0, Sw.r_appS, Sw.r_len0, Sw.r_lenS, Sw.r_rep0, Sw.r_repS, Sw.r_join, Nat.reduceAdd, Nat.reduceSub]
  rw [Sw.v_mod]
  refine ⟨by decide, ?_⟩
  rw [Sw.v_eqi]
  refine ⟨_, rfl, ?_⟩
  by_cases q : i % 2 = 0
  · rw [if_pos (decide_eq_true q)]
    dsimp only [Sw.wSs, Sw.wS, Sw.wE, Sw.wT, Sw.wEs, Sw.wTs, Sw.wI, Sw.wP, Sw.vars, L2.start, Sw.r_get0, Sw.r_getS, Sw.r_set0, Sw.r_setS, Sw.r_map0, Sw.r_mapS, Sw.r_app0, Sw.r_appS, Sw.r_len0, Sw.r_lenS, Sw.r_rep0, Sw.r_repS, Sw.r_join, Nat.reduceAdd, Nat.reduceSub]
    rw [Sw.v_div]
    refine ⟨by decide, by decide, hc, ?_⟩
    rw [b_lens]
    refine ⟨by decide +kernel, ?_⟩
    have hl : (Str.ofString "0123456789: >-abAB").length = 18 := by decide +kernel
    rw [hl, Sw.v_mod]
    refine ⟨by decide, ?_⟩
    rw [i_str]
    obtain ⟨x, e, _⟩ := atI_some (xs := (Str.ofString "0123456789: >-abAB").cps.toList) (i := i / 2 % (18 : Nat)) (Int.emod_nonneg _ (by decide)) (by rw [← len_cps, hl]; exact Int.emod_lt_of_pos _ (by decide))
    rw [e]
    exact ⟨by decide +kernel, h x⟩
  · rw [if_neg (by simpa using q)]
    dsimp only [Sw.wSs, Sw.wS, Sw.wE, Sw.wT, Sw.wEs, Sw.wTs, Sw.wI, Sw.wP, Sw.vars, L2.start, Sw.r_get0, Sw.r_getS, Sw.r_set0, Sw.r_setS, Sw.r_map0, Sw.r_mapS, Sw.r_app0, Sw.r_appS, Sw.r_len0, Sw.r_lenS, Sw.r_rep0, Sw.r_repS, Sw.r_join, Nat.reduceAdd, Nat.reduceSub]
    rw [Sw.v_div]
    refine ⟨by decide, by decide, hc, ?_⟩
    rw [b_lens]
    refine ⟨by decide +kernel, ?_⟩
    have hl : (Str.ofString " !\"#$&'()*+,-./0123456789:;<=>?@ABCDEFGHIJKLMNOPQRSTUVWXYZ[\\]^_`" ++ Str.ofString "abcdefghijklmnopqrstuvwxyz{|}~").length = 94 := by decide +kernel
    rw [hl, Sw.v_mod]
    refine ⟨by decide, ?_⟩
    rw [i_str]
    obtain ⟨x, e, _⟩ := atI_some (xs := (Str.ofString " !\"#$&'()*+,-./0123456789:;<=>?@ABCDEFGHIJKLMNOPQRSTUVWXYZ[\\]^_`" ++ Str.ofString "abcdefghijklmnopqrstuvwxyz{|}~").cps.toList) (i := i / 2 % (94 : Nat)) (Int.emod_nonneg _ (by decide)) (by rw [← len_cps, hl]; exact Int.emod_lt_of_pos _ (by decide))
    rw [e]
    exact ⟨by decide +kernel, h x⟩
noncomputable def odds1 : List Str := ["0", "1000000", "1000001", "00", "01", "99", "100", "1000000000000", "-", "", "O", "AB", "BA", "ABO", "o"]
noncomputable def odds2 : List Str := ["ba", "aa", "az", "za", "abcdefghijklmnopqrstuvwxyz", "a-", "--", ">", ":", "0:", "fox", "abcdefghi"]
theorem odds_in : ∀ t ∈ odds1 ++ odds2, (∀ c ∈ cps t, c ∈ L0) ∧ t.length ≤ 30 := by decide +kernel
noncomputable def spOdd (M : Mo) : Sp := fun vs H Q _ => ∃ i, vs = [.int i] ∧ ∀ t H', In0 t → t.length ≤ 30 → Ext M H H' → Q (.str t) H'
theorem ok_odd {Γ : Gam} (hc : Γ.cm = true) (hM : Γ.mod = M) (vs : List V) (H : Hp) (Q : VK) (E : XK) (h : spOdd M vs H Q E) : spOf Γ N__law_odd_word 1 b__law_odd_word vs H Q E := by
  obtain ⟨i, rfl, h⟩ := h
  refine ⟨rfl, ?_⟩
  unfold b__law_odd_word
  refine seq ?_
  dsimp only [Sw.wS, Sw.wE, Sw.wT, Sw.wEs, Sw.wTs, Sw.wI, Sw.wP, Sw.vars, L2.start, Sw.r_get0, Sw.r_getS, Sw.r_set0, Sw.r_setS, Sw.r_map0, Sw.r_mapS, Sw.r_app0, Sw.r_appS, Sw.r_len0, Sw.r_lenS, Sw.r_rep0, Sw.r_repS, Sw.r_join, Nat.reduceAdd, Nat.reduceSub]
  rw [hM]
  refine ⟨by decide, fun p hp mp => ?_⟩
  rw [show [V.str (Str.ofString "0"), V.str (Str.ofString "1000000"), V.str (Str.ofString "1000001"), V.str (Str.ofString "00"), V.str (Str.ofString "01"), V.str (Str.ofString "99"), V.str (Str.ofString "100"), V.str (Str.ofString "1000000000000"), V.str (Str.ofString "-"), V.str (Str.ofString ""), V.str (Str.ofString "O"), V.str (Str.ofString "AB"), V.str (Str.ofString "BA"), V.str (Str.ofString "ABO"), V.str (Str.ofString "o")] = odds1.map V.str from rfl]
  have x1 := Ext.upd (o := .lst (odds1.map V.str)) hp mp
  refine seq ?_
  dsimp only [Sw.wS, Sw.wE, Sw.wT, Sw.wEs, Sw.wTs, Sw.wI, Sw.wP, Sw.vars, L2.start, Sw.r_get0, Sw.r_getS, Sw.r_set0, Sw.r_setS, Sw.r_map0, Sw.r_mapS, Sw.r_app0, Sw.r_appS, Sw.r_len0, Sw.r_lenS, Sw.r_rep0, Sw.r_repS, Sw.r_join, Nat.reduceAdd, Nat.reduceSub]
  rw [hM]
  refine ⟨by decide, fun p2 hp2 mp2 => ?_⟩
  rw [show [V.str (Str.ofString "ba"), V.str (Str.ofString "aa"), V.str (Str.ofString "az"), V.str (Str.ofString "za"), V.str (Str.ofString "abcdefghijklmnopqrstuvwxyz"), V.str (Str.ofString "a-"), V.str (Str.ofString "--"), V.str (Str.ofString ">"), V.str (Str.ofString ":"), V.str (Str.ofString "0:"), V.str (Str.ofString "fox"), V.str (Str.ofString "abcdefghi")] = odds2.map V.str from rfl]
  have x2 := Ext.upd (o := .lst (odds2.map V.str)) hp2 mp2
  rw [Sw.v_cat, x2.rd (rd_upd (by intro _ _ z; cases z)), rd_upd (by intro _ _ z; cases z)]
  dsimp only
  refine ⟨by decide, fun p3 hp3 mp3 => ?_⟩
  rw [← List.map_append]
  have x3 := Ext.upd (o := .lst ((odds1 ++ odds2).map V.str)) hp3 mp3
  have hr : rd M (upd (upd (upd H p (.lst (odds1.map V.str))) p2 (.lst (odds2.map V.str))) p3 (.lst ((odds1 ++ odds2).map V.str))) p3 = some (.lst ((odds1 ++ odds2).map V.str)) := rd_upd (by intro _ _ z; cases z)
  have x := (x1.trans x2).trans x3
  generalize upd (upd (upd H p (.lst (odds1.map V.str))) p2 (.lst (odds2.map V.str))) p3 (.lst ((odds1 ++ odds2).map V.str)) = H3 at hr x ⊢
  dsimp only [Sw.wSs, Sw.wS, Sw.wE, Sw.wT, Sw.wEs, Sw.wTs, Sw.wI, Sw.wP, Sw.vars, L2.start, Sw.r_get0, Sw.r_getS, Sw.r_set0, Sw.r_setS, Sw.r_map0, Sw.r_mapS, Sw.r_app0, Sw.r_appS, Sw.r_len0, Sw.r_lenS, Sw.r_rep0, Sw.r_repS, Sw.r_join, Nat.reduceAdd, Nat.reduceSub]
  rw [hM, b_lenr, hr]
  dsimp only
  refine ⟨hc, ?_⟩
  rw [Sw.v_mod, List.length_map]
  refine ⟨by decide, ?_⟩
  have hl : (odds1 ++ odds2).length = 27 := rfl
  obtain ⟨v, e, e2⟩ := atI_some (xs := (odds1 ++ odds2).map V.str) (i := i % ((odds1 ++ odds2).length : Nat)) (Int.emod_nonneg _ (by rw [hl]; decide)) (by rw [List.length_map]; exact Int.emod_lt_of_pos _ (by rw [hl]; decide))
  rw [List.getElem?_map] at e2
  obtain ⟨t, ht, rfl⟩ := Option.map_eq_some_iff.mp e2
  have ok := odds_in t (List.mem_of_getElem? ht)
  exact ix_at hr e (h t H3 ok.1 ok.2 x)
end K3
namespace K3
open PySem PySem.Spec PyProof.Rows L2 Sw Wd
variable {M : Mo}
theorem cut_strs (ws : List Str) (lo hi : Option Int) : ∃ us : List Str, cutV (ws.map V.str) lo hi = us.map V.str ∧ (∀ u ∈ us, u ∈ ws) ∧ us.length ≤ ws.length := by
  unfold cutV
  rw [← List.map_drop, ← List.map_take]
  refine ⟨_, rfl, fun u hu => List.mem_of_mem_drop (List.mem_of_mem_take hu), ?_⟩
  rw [List.length_take, List.length_drop]
  omega
theorem joinL_len {g : List Nat} {B : Nat} : ∀ {ps : List Str}, (∀ p ∈ ps, p.length ≤ B) → (joinL g ps).length ≤ ps.length * (B + g.length)
  | [], _ => by simp [joinL]
  | p :: r, h => by
    rw [joinL, List.length_append]
    have h1 := h p (by simp)
    rw [len_cps] at h1
    have h2 : ∀ l : List Str, (∀ p ∈ l, p.length ≤ B) → ((l.map fun p => g ++ cps p).flatten).length ≤ l.length * (B + g.length) := by
      intro l
      induction l with
      | nil => intro _; simp
      | cons q l ih =>
        intro hl
        have := ih fun p hp => hl p (by simp [hp])
        have hq := hl q (by simp)
        rw [len_cps] at hq
        rw [List.map_cons, List.flatten_cons, List.length_append, List.length_append, List.length_cons, Nat.add_mul]
        omega
    have := h2 r fun p hp => h p (by simp [hp])
    rw [List.length_cons, Nat.add_mul]
    omega
noncomputable def Good (t : Str) : Prop := (∃ c, ∀ x ∈ cps t, x ∈ c :: L0) ∧ t.length ≤ 640
theorem In0.good {t : Str} (h : In0 t) (hl : t.length ≤ 640) : Good t := ⟨⟨0, fun x hx => List.mem_cons_of_mem _ (h x hx)⟩, hl⟩
theorem In0.slice {t : Str} {l u : Option Int} (h : In0 t) : In0 (Txt.slice t l u) := fun c hc => h c (slice_mem hc)
theorem join_good {ws : List Str} {B : Nat} (h : ∀ w ∈ ws, In0 w ∧ w.length ≤ B) (hb : ws.length * (B + 1) ≤ 640) : Good (Txt.join (Str.ofString " ") ws) := by
  have e : cps (Str.ofString " ") = [32] := by decide +kernel
  refine In0.good (fun c hc => ?_) ?_
  · rw [cps_join, e] at hc
    rcases mem_joinL hc with z | ⟨p, hp, z⟩
    · rw [List.mem_singleton.mp z]; decide +kernel
    · exact (h p hp).1 c z
  · rw [len_cps, cps_join, e]
    exact Nat.le_trans (joinL_len (B := B) fun p hp => (h p hp).2) hb
noncomputable def spSpoilt (M : Mo) : Sp := fun vs H Q _ => ∃ (k : Cpl) (a b : Int), k.Ok ∧ vs = [.str (showC k), .int a, .int b] ∧ ∀ t H', Good t → Ext M H H' → Q (.str t) H'
structure L7 (Γ : Gam) (M : Mo) : Prop where
  cm : Γ.cm = true
  mod : Γ.mod = M
  sg : Γ.has "_law_sign" = true ∧ Γ.fn "_law_sign" = spSign
  ow : Γ.has "_law_odd_word" = true ∧ Γ.fn "_law_odd_word" = spOdd M
theorem ixN_of {n : Nat} {j : Int} (h0 : 0 ≤ j) (h1 : j < n) : ixN n j = some j.toNat := by
  unfold ixN
  rw [if_pos h0, if_pos h1]
theorem word_at {ws : List Str} {j : Int} (h0 : 0 ≤ j) (h1 : j < ws.length) : ∃ w, atI (ws.map V.str) j = some (.str w) ∧ w ∈ ws := by
  obtain ⟨v, e, e2⟩ := atI_some (xs := ws.map V.str) (i := j) h0 (by rw [List.length_map]; exact h1)
  rw [List.getElem?_map] at e2
  obtain ⟨t, ht, rfl⟩ := Option.map_eq_some_iff.mp e2
  exact ⟨t, e, List.mem_of_getElem? ht⟩
theorem set_strs (ws : List Str) (n : Nat) (w : Str) : (ws.map V.str).set n (.str w) = (ws.set n w).map V.str := by
  rw [List.map_set]
theorem ok_spoilt {Γ : Gam} (g : L7 Γ M) (vs : List V) (H : Hp) (Q : VK) (E : XK) (h : spSpoilt M vs H Q E) : spOf Γ N__law_spoilt 3 b__law_spoilt vs H Q E := by
  obtain ⟨k, a, b, ok, rfl, h⟩ := h
  refine ⟨rfl, ?_⟩
  obtain rfl := g.mod
  have i0 : In0 (showC k) := near_in0 ok.near
  have ln : (showC k).length ≤ 130 := (near_len ok.near).1
  have lz : (showC k).length ≤ sizeLine := Nat.le_trans ln (by decide)
  have es : Txt.split (showC k) (Str.ofString " ") = pieces k := split_show ok
  have wk : ∀ w ∈ pieces k, In0 w ∧ w.length ≤ 26 := fun w hw => ⟨(near_pieces ok.near w hw).1, (piece_facts ok w hw).2⟩
  have wl : (pieces k).length = 10 := rfl
  generalize pieces k = ws at es wk wl
  generalize showC k = T at i0 ln lz es
  unfold b__law_spoilt
  refine seq ?_
  dsimp only [Sw.wS, Sw.wE, Sw.wT, Sw.wEs, Sw.wTs, Sw.wI, Sw.wP, Sw.vars, L2.start, Sw.r_get0, Sw.r_getS, Sw.r_set0, Sw.r_setS, Sw.r_map0, Sw.r_mapS, Sw.r_app0, Sw.r_appS, Sw.r_len0, Sw.r_lenS, Sw.r_rep0, Sw.r_repS, Sw.r_join, Nat.reduceAdd, Nat.reduceSub]
  rw [Sw.v_mod]
  refine ⟨by decide, ?_⟩
  refine seq ?_
  dsimp only [Sw.wS, Sw.wE, Sw.wT, Sw.wEs, Sw.wTs, Sw.wI, Sw.wP, Sw.vars, L2.start, Sw.r_get0, Sw.r_getS, Sw.r_set0, Sw.r_setS, Sw.r_map0, Sw.r_mapS, Sw.r_app0, Sw.r_appS, Sw.r_len0, Sw.r_lenS, Sw.r_rep0, Sw.r_repS, Sw.r_join, Nat.reduceAdd, Nat.reduceSub]
  rw [Sw.v_div]
  refine ⟨by decide, by decide, g.cm, ?_⟩
  rw [b_lens]
  refine ⟨lz, ?_⟩
  rw [Sw.v_add, Sw.v_mod]
  refine ⟨by omega, ?_⟩
  generalize a / 9 % ((T.length : Int) + 1) = at'
  refine seq ?_
  dsimp only [Sw.wS, Sw.wE, Sw.wT, Sw.wEs, Sw.wTs, Sw.wI, Sw.wP, Sw.vars, L2.start, Sw.r_get0, Sw.r_getS, Sw.r_set0, Sw.r_setS, Sw.r_map0, Sw.r_mapS, Sw.r_app0, Sw.r_appS, Sw.r_len0, Sw.r_lenS, Sw.r_rep0, Sw.r_repS, Sw.r_join, Nat.reduceAdd, Nat.reduceSub]
  refine ⟨rfl, ?_⟩
  rw [m_split]
  refine ⟨rfl, by omega, fun l hl ml => ?_⟩
  rw [es]
  have x1 := Ext.upd (o := .lst (ws.map V.str)) hl ml
  have hr1 : upd H l (.lst (ws.map V.str)) l = some (.lst (ws.map V.str)) := upd_same
  have xs : ∀ H2 o', Ext Γ.mod (upd H l (.lst (ws.map V.str))) H2 → Ext Γ.mod H (upd H2 l o') := fun H2 o' x => Ext.upd2 hl ml x
  generalize upd H l (.lst (ws.map V.str)) = H1 at x1 hr1 xs ⊢
  have hr : rd Γ.mod H1 l = some (.lst (ws.map V.str)) := by unfold rd; rw [hr1]
  have len10 : ((ws.map V.str).length : Int) = 10 := by rw [List.length_map, wl]; rfl
  refine seq ?_
  dsimp only [Sw.wS, Sw.wE, Sw.wT, Sw.wEs, Sw.wTs, Sw.wI, Sw.wP, Sw.vars, L2.start, Sw.r_get0, Sw.r_getS, Sw.r_set0, Sw.r_setS, Sw.r_map0, Sw.r_mapS, Sw.r_app0, Sw.r_appS, Sw.r_len0, Sw.r_lenS, Sw.r_rep0, Sw.r_repS, Sw.r_join, Nat.reduceAdd, Nat.reduceSub]
  rw [Sw.v_div]
  refine ⟨by decide, by decide, g.cm, ?_⟩
  rw [b_lenr, hr]
  dsimp only
  rw [len10, Sw.v_mod]
  refine ⟨by decide, ?_⟩
  refine seq ?_
  dsimp only [Sw.wS, Sw.wE, Sw.wT, Sw.wEs, Sw.wTs, Sw.wI, Sw.wP, Sw.vars, L2.start, Sw.r_get0, Sw.r_getS, Sw.r_set0, Sw.r_setS, Sw.r_map0, Sw.r_mapS, Sw.r_app0, Sw.r_appS, Sw.r_len0, Sw.r_lenS, Sw.r_rep0, Sw.r_repS, Sw.r_join, Nat.reduceAdd, Nat.reduceSub]
  rw [b_lenr, hr]
  dsimp only
  refine ⟨g.cm, ?_⟩
  rw [len10, Sw.v_mod]
  refine ⟨by decide, ?_⟩
  have p0 : 0 ≤ a / 9 % 10 := Int.emod_nonneg _ (by decide)
  have p1 : a / 9 % 10 < 10 := Int.emod_lt_of_pos _ (by decide)
  have t0 : 0 ≤ b % 10 := Int.emod_nonneg _ (by decide)
  have t1 : b % 10 < 10 := Int.emod_lt_of_pos _ (by decide)
  have r0 : 0 ≤ a % 9 := Int.emod_nonneg _ (by decide)
  have r1 : a % 9 < 9 := Int.emod_lt_of_pos _ (by decide)
  generalize a / 9 % 10 = pl at p0 p1 ⊢
  generalize b % 10 = to at t0 t1 ⊢
  generalize a % 9 = r at r0 r1 ⊢
  have sl : ∀ lo hi, (Txt.slice T lo hi).length ≤ 130 := fun lo hi => Nat.le_trans (Txt.slice_le _ _ _) ln
  have jo : ∀ (us : List Str) (B : Nat) (H' : Hp) (p : Addr) (Q' : VK), (∀ w ∈ us, In0 w ∧ w.length ≤ B) → us.length * (B + 1) ≤ 640 → rd Γ.mod H' p = some (.lst (us.map V.str)) → (∀ t, Good t → Q' (.str t) H') → mthV Γ.mod .join (.str (Str.ofString " ")) [.ref p] H' Q' := by
    intro us B H' p Q' hw hb hp hq
    exact join_at hp (joinOk _ _ B (fun x hx => (hw x hx).2) (by rw [show (Str.ofString " ").length = 1 from rfl]; omega)) (hq _ (join_good hw hb))
  have cases9 : r = 0 ∨ r = 1 ∨ r = 2 ∨ r = 3 ∨ r = 4 ∨ r = 5 ∨ r = 6 ∨ r = 7 ∨ r = 8 := by omega
  rcases cases9 with rfl | rfl | rfl | rfl | rfl | rfl | rfl | rfl | rfl
  · (refine seq ?_; dsimp only [Sw.wS, Sw.wE, Sw.wT, Sw.wEs, Sw.wTs, Sw.wI, Sw.wP, Sw.vars, L2.start, Sw.r_get0, Sw.r_getS, Sw.r_set0, Sw.r_setS, Sw.r_map0, Sw.r_mapS, Sw.r_app0, Sw.r_appS, Sw.r_len0, Sw.r_lenS, Sw.r_rep0, Sw.r_repS, Sw.r_join, Nat.reduceAdd, Nat.reduceSub]; rw [Sw.v_eqi]; refine ⟨_, rfl, ?_⟩; rw [if_pos (by decide)])
    dsimp only [Sw.wSs, Sw.wS, Sw.wE, Sw.wT, Sw.wEs, Sw.wTs, Sw.wI, Sw.wP, Sw.vars, L2.start, Sw.r_get0, Sw.r_getS, Sw.r_set0, Sw.r_setS, Sw.r_map0, Sw.r_mapS, Sw.r_app0, Sw.r_appS, Sw.r_len0, Sw.r_lenS, Sw.r_rep0, Sw.r_repS, Sw.r_join, Nat.reduceAdd, Nat.reduceSub]
    rw [s_str]
    refine ⟨lz, ⟨g.cm, g.sg.1⟩, ?_⟩
    rw [g.sg.2]
    refine ⟨b, rfl, fun c => ?_⟩
    dsimp only
    rw [Sw.v_adds]
    have l1 := sl none (some at')
    have l2 := sl (some at') none
    have lc : (⟨#[c]⟩ : Str).length = 1 := rfl
    refine ⟨by rw [sizeLine_eq]; omega, ?_⟩
    rw [s_str]
    refine ⟨lz, ?_⟩
    rw [Sw.v_adds]
    refine ⟨by rw [sizeLine_eq, len_app]; omega, h _ H1 ⟨⟨c, fun x hx => ?_⟩, by rw [len_app, len_app]; omega⟩ x1⟩
    rw [cps_app, cps_app] at hx
    rcases List.mem_append.mp hx with hx | hx
    · rcases List.mem_append.mp hx with hx | hx
      · exact List.mem_cons_of_mem _ (i0 x (slice_mem hx))
      · exact List.mem_cons.mpr (.inl (List.mem_singleton.mp hx))
    · exact List.mem_cons_of_mem _ (i0 x (slice_mem hx))
  · (refine seq ?_; dsimp only [Sw.wS, Sw.wE, Sw.wT, Sw.wEs, Sw.wTs, Sw.wI, Sw.wP, Sw.vars, L2.start, Sw.r_get0, Sw.r_getS, Sw.r_set0, Sw.r_setS, Sw.r_map0, Sw.r_mapS, Sw.r_app0, Sw.r_appS, Sw.r_len0, Sw.r_lenS, Sw.r_rep0, Sw.r_repS, Sw.r_join, Nat.reduceAdd, Nat.reduceSub]; rw [Sw.v_eqi]; refine ⟨_, rfl, ?_⟩; rw [if_neg (by decide)]; refine seq0 ?_)
    (refine seq ?_; dsimp only [Sw.wS, Sw.wE, Sw.wT, Sw.wEs, Sw.wTs, Sw.wI, Sw.wP, Sw.vars, L2.start, Sw.r_get0, Sw.r_getS, Sw.r_set0, Sw.r_setS, Sw.r_map0, Sw.r_mapS, Sw.r_app0, Sw.r_appS, Sw.r_len0, Sw.r_lenS, Sw.r_rep0, Sw.r_repS, Sw.r_join, Nat.reduceAdd, Nat.reduceSub]; rw [Sw.v_eqi]; refine ⟨_, rfl, ?_⟩; rw [if_pos (by decide)])
    dsimp only [Sw.wSs, Sw.wS, Sw.wE, Sw.wT, Sw.wEs, Sw.wTs, Sw.wI, Sw.wP, Sw.vars, L2.start, Sw.r_get0, Sw.r_getS, Sw.r_set0, Sw.r_setS, Sw.r_map0, Sw.r_mapS, Sw.r_app0, Sw.r_appS, Sw.r_len0, Sw.r_lenS, Sw.r_rep0, Sw.r_repS, Sw.r_join, Nat.reduceAdd, Nat.reduceSub]
    rw [s_str]
    refine ⟨lz, ?_⟩
    rw [Sw.v_add]
    dsimp only
    rw [s_str]
    refine ⟨lz, ?_⟩
    rw [Sw.v_adds]
    have l1 := sl none (some at')
    have l2 := sl (some (at' + 1)) none
    refine ⟨by rw [sizeLine_eq]; omega, h _ H1 (In0.good (In0.app (In0.slice i0) (In0.slice i0)) (by rw [len_app]; omega)) x1⟩
  · (refine seq ?_; dsimp only [Sw.wS, Sw.wE, Sw.wT, Sw.wEs, Sw.wTs, Sw.wI, Sw.wP, Sw.vars, L2.start, Sw.r_get0, Sw.r_getS, Sw.r_set0, Sw.r_setS, Sw.r_map0, Sw.r_mapS, Sw.r_app0, Sw.r_appS, Sw.r_len0, Sw.r_lenS, Sw.r_rep0, Sw.r_repS, Sw.r_join, Nat.reduceAdd, Nat.reduceSub]; rw [Sw.v_eqi]; refine ⟨_, rfl, ?_⟩; rw [if_neg (by decide)]; refine seq0 ?_)
    (refine seq ?_; dsimp only [Sw.wS, Sw.wE, Sw.wT, Sw.wEs, Sw.wTs, Sw.wI, Sw.wP, Sw.vars, L2.start, Sw.r_get0, Sw.r_getS, Sw.r_set0, Sw.r_setS, Sw.r_map0, Sw.r_mapS, Sw.r_app0, Sw.r_appS, Sw.r_len0, Sw.r_lenS, Sw.r_rep0, Sw.r_repS, Sw.r_join, Nat.reduceAdd, Nat.reduceSub]; rw [Sw.v_eqi]; refine ⟨_, rfl, ?_⟩; rw [if_neg (by decide)]; refine seq0 ?_)
    (refine seq ?_; dsimp only [Sw.wS, Sw.wE, Sw.wT, Sw.wEs, Sw.wTs, Sw.wI, Sw.wP, Sw.vars, L2.start, Sw.r_get0, Sw.r_getS, Sw.r_set0, Sw.r_setS, Sw.r_map0, Sw.r_mapS, Sw.r_app0, Sw.r_appS, Sw.r_len0, Sw.r_lenS, Sw.r_rep0, Sw.r_repS, Sw.r_join, Nat.reduceAdd, Nat.reduceSub]; rw [Sw.v_eqi]; refine ⟨_, rfl, ?_⟩; rw [if_pos (by decide)])
    dsimp only [Sw.wSs, Sw.wS, Sw.wE, Sw.wT, Sw.wEs, Sw.wTs, Sw.wI, Sw.wP, Sw.vars, L2.start, Sw.r_get0, Sw.r_getS, Sw.r_set0, Sw.r_setS, Sw.r_map0, Sw.r_mapS, Sw.r_app0, Sw.r_appS, Sw.r_len0, Sw.r_lenS, Sw.r_rep0, Sw.r_repS, Sw.r_join, Nat.reduceAdd, Nat.reduceSub]
    rw [s_str]
    refine ⟨lz, ⟨g.cm, g.sg.1⟩, ?_⟩
    rw [g.sg.2]
    refine ⟨b, rfl, fun c => ?_⟩
    dsimp only
    rw [Sw.v_adds]
    have l1 := sl none (some at')
    have l2 := sl (some (at' + 1)) none
    have lc : (⟨#[c]⟩ : Str).length = 1 := rfl
    refine ⟨by rw [sizeLine_eq]; omega, ?_⟩
    rw [Sw.v_add]
    dsimp only
    rw [s_str]
    refine ⟨lz, ?_⟩
    rw [Sw.v_adds]
    refine ⟨by rw [sizeLine_eq, len_app]; omega, h _ H1 ⟨⟨c, fun x hx => ?_⟩, by rw [len_app, len_app]; omega⟩ x1⟩
    rw [cps_app, cps_app] at hx
    rcases List.mem_append.mp hx with hx | hx
    · rcases List.mem_append.mp hx with hx | hx
      · exact List.mem_cons_of_mem _ (i0 x (slice_mem hx))
      · exact List.mem_cons.mpr (.inl (List.mem_singleton.mp hx))
    · exact List.mem_cons_of_mem _ (i0 x (slice_mem hx))
  · (refine seq ?_; dsimp only [Sw.wS, Sw.wE, Sw.wT, Sw.wEs, Sw.wTs, Sw.wI, Sw.wP, Sw.vars, L2.start, Sw.r_get0, Sw.r_getS, Sw.r_set0, Sw.r_setS, Sw.r_map0, Sw.r_mapS, Sw.r_app0, Sw.r_appS, Sw.r_len0, Sw.r_lenS, Sw.r_rep0, Sw.r_repS, Sw.r_join, Nat.reduceAdd, Nat.reduceSub]; rw [Sw.v_eqi]; refine ⟨_, rfl, ?_⟩; rw [if_neg (by decide)]; refine seq0 ?_)
    (refine seq ?_; dsimp only [Sw.wS, Sw.wE, Sw.wT, Sw.wEs, Sw.wTs, Sw.wI, Sw.wP, Sw.vars, L2.start, Sw.r_get0, Sw.r_getS, Sw.r_set0, Sw.r_setS, Sw.r_map0, Sw.r_mapS, Sw.r_app0, Sw.r_appS, Sw.r_len0, Sw.r_lenS, Sw.r_rep0, Sw.r_repS, Sw.r_join, Nat.reduceAdd, Nat.reduceSub]; rw [Sw.v_eqi]; refine ⟨_, rfl, ?_⟩; rw [if_neg (by decide)]; refine seq0 ?_)
    (refine seq ?_; dsimp only [Sw.wS, Sw.wE, Sw.wT, Sw.wEs, Sw.wTs, Sw.wI, Sw.wP, Sw.vars, L2.start, Sw.r_get0, Sw.r_getS, Sw.r_set0, Sw.r_setS, Sw.r_map0, Sw.r_mapS, Sw.r_app0, Sw.r_appS, Sw.r_len0, Sw.r_lenS, Sw.r_rep0, Sw.r_repS, Sw.r_join, Nat.reduceAdd, Nat.reduceSub]; rw [Sw.v_eqi]; refine ⟨_, rfl, ?_⟩; rw [if_neg (by decide)]; refine seq0 ?_)
    (refine seq ?_; dsimp only [Sw.wS, Sw.wE, Sw.wT, Sw.wEs, Sw.wTs, Sw.wI, Sw.wP, Sw.vars, L2.start, Sw.r_get0, Sw.r_getS, Sw.r_set0, Sw.r_setS, Sw.r_map0, Sw.r_mapS, Sw.r_app0, Sw.r_appS, Sw.r_len0, Sw.r_lenS, Sw.r_rep0, Sw.r_repS, Sw.r_join, Nat.reduceAdd, Nat.reduceSub]; rw [Sw.v_eqi]; refine ⟨_, rfl, ?_⟩; rw [if_pos (by decide)])
    obtain ⟨w1, e1, m1⟩ := word_at (ws := ws) p0 (by rw [wl]; exact p1)
    obtain ⟨w2, e2, m2⟩ := word_at (ws := ws) t0 (by rw [wl]; exact t1)
    refine seq ?_
    dsimp only [Sw.wS, Sw.wE, Sw.wT, Sw.wEs, Sw.wTs, Sw.wI, Sw.wP, Sw.vars, L2.start, Sw.r_get0, Sw.r_getS, Sw.r_set0, Sw.r_setS, Sw.r_map0, Sw.r_mapS, Sw.r_app0, Sw.r_appS, Sw.r_len0, Sw.r_lenS, Sw.r_rep0, Sw.r_repS, Sw.r_join, Nat.reduceAdd, Nat.reduceSub]
    refine ix_at hr e1 ?_
    refine seq ?_
    dsimp only [Sw.wS, Sw.wE, Sw.wT, Sw.wEs, Sw.wTs, Sw.wI, Sw.wP, Sw.vars, L2.start, Sw.r_get0, Sw.r_getS, Sw.r_set0, Sw.r_setS, Sw.r_map0, Sw.r_mapS, Sw.r_app0, Sw.r_appS, Sw.r_len0, Sw.r_lenS, Sw.r_rep0, Sw.r_repS, Sw.r_join, Nat.reduceAdd, Nat.reduceSub]
    refine ix_at hr e2 ?_
    unfold stoV
    dsimp only
    rw [hr1]
    dsimp only
    rw [ixN_of p0 (by rw [List.length_map, wl]; exact p1)]
    dsimp only
    rw [set_strs]
    refine seq ?_
    dsimp only [Sw.wS, Sw.wE, Sw.wT, Sw.wEs, Sw.wTs, Sw.wI, Sw.wP, Sw.vars, L2.start, Sw.r_get0, Sw.r_getS, Sw.r_set0, Sw.r_setS, Sw.r_map0, Sw.r_mapS, Sw.r_app0, Sw.r_appS, Sw.r_len0, Sw.r_lenS, Sw.r_rep0, Sw.r_repS, Sw.r_join, Nat.reduceAdd, Nat.reduceSub]
    unfold stoV
    dsimp only
    rw [upd_same]
    dsimp only
    rw [ixN_of t0 (by rw [List.length_map, List.length_set, wl]; exact t1)]
    dsimp only
    rw [set_strs, upd_upd]
    refine seq0 ?_
    (refine seq ?_; dsimp only [Sw.wS, Sw.wE, Sw.wT, Sw.wEs, Sw.wTs, Sw.wI, Sw.wP, Sw.vars, L2.start, Sw.r_get0, Sw.r_getS, Sw.r_set0, Sw.r_setS, Sw.r_map0, Sw.r_mapS, Sw.r_app0, Sw.r_appS, Sw.r_len0, Sw.r_lenS, Sw.r_rep0, Sw.r_repS, Sw.r_join, Nat.reduceAdd, Nat.reduceSub]; rw [Sw.v_eqi]; refine ⟨_, rfl, ?_⟩; rw [if_neg (by decide)]; refine seq0 ?_)
    (refine seq ?_; dsimp only [Sw.wS, Sw.wE, Sw.wT, Sw.wEs, Sw.wTs, Sw.wI, Sw.wP, Sw.vars, L2.start, Sw.r_get0, Sw.r_getS, Sw.r_set0, Sw.r_setS, Sw.r_map0, Sw.r_mapS, Sw.r_app0, Sw.r_appS, Sw.r_len0, Sw.r_lenS, Sw.r_rep0, Sw.r_repS, Sw.r_join, Nat.reduceAdd, Nat.reduceSub]; rw [Sw.v_eqi]; refine ⟨_, rfl, ?_⟩; rw [if_neg (by decide)]; refine seq0 ?_)
    (refine seq ?_; dsimp only [Sw.wS, Sw.wE, Sw.wT, Sw.wEs, Sw.wTs, Sw.wI, Sw.wP, Sw.vars, L2.start, Sw.r_get0, Sw.r_getS, Sw.r_set0, Sw.r_setS, Sw.r_map0, Sw.r_mapS, Sw.r_app0, Sw.r_appS, Sw.r_len0, Sw.r_lenS, Sw.r_rep0, Sw.r_repS, Sw.r_join, Nat.reduceAdd, Nat.reduceSub]; rw [Sw.v_eqi]; refine ⟨_, rfl, ?_⟩; rw [if_neg (by decide)]; refine seq0 ?_)
    (refine seq ?_; dsimp only [Sw.wS, Sw.wE, Sw.wT, Sw.wEs, Sw.wTs, Sw.wI, Sw.wP, Sw.vars, L2.start, Sw.r_get0, Sw.r_getS, Sw.r_set0, Sw.r_setS, Sw.r_map0, Sw.r_mapS, Sw.r_app0, Sw.r_appS, Sw.r_len0, Sw.r_lenS, Sw.r_rep0, Sw.r_repS, Sw.r_join, Nat.reduceAdd, Nat.reduceSub]; rw [Sw.v_eqi]; refine ⟨_, rfl, ?_⟩; rw [if_neg (by decide)]; refine seq0 ?_)
    dsimp only [Sw.wSs, Sw.wS, Sw.wE, Sw.wT, Sw.wEs, Sw.wTs, Sw.wI, Sw.wP, Sw.vars, L2.start, Sw.r_get0, Sw.r_getS, Sw.r_set0, Sw.r_setS, Sw.r_map0, Sw.r_mapS, Sw.r_app0, Sw.r_appS, Sw.r_len0, Sw.r_lenS, Sw.r_rep0, Sw.r_repS, Sw.r_join, Nat.reduceAdd, Nat.reduceSub]
    refine ⟨rfl, jo ((ws.set pl.toNat w2).set to.toNat w1) 26 _ l _ (fun w hw => ?_) (by rw [List.length_set, List.length_set, wl]; decide) (rd_upd (by intro _ _ z; cases z)) fun t gt => h t _ gt ?_⟩
    · rcases List.mem_or_eq_of_mem_set hw with hw | rfl
      · rcases List.mem_or_eq_of_mem_set hw with hw | rfl
        · exact wk w hw
        · exact wk _ m2
      · exact wk _ m1
    · exact xs H1 _ Ext.refl
  · (refine seq ?_; dsimp only [Sw.wS, Sw.wE, Sw.wT, Sw.wEs, Sw.wTs, Sw.wI, Sw.wP, Sw.vars, L2.start, Sw.r_get0, Sw.r_getS, Sw.r_set0, Sw.r_setS, Sw.r_map0, Sw.r_mapS, Sw.r_app0, Sw.r_appS, Sw.r_len0, Sw.r_lenS, Sw.r_rep0, Sw.r_repS, Sw.r_join, Nat.reduceAdd, Nat.reduceSub]; rw [Sw.v_eqi]; refine ⟨_, rfl, ?_⟩; rw [if_neg (by decide)]; refine seq0 ?_)
    (refine seq ?_; dsimp only [Sw.wS, Sw.wE, Sw.wT, Sw.wEs, Sw.wTs, Sw.wI, Sw.wP, Sw.vars, L2.start, Sw.r_get0, Sw.r_getS, Sw.r_set0, Sw.r_setS, Sw.r_map0, Sw.r_mapS, Sw.r_app0, Sw.r_appS, Sw.r_len0, Sw.r_lenS, Sw.r_rep0, Sw.r_repS, Sw.r_join, Nat.reduceAdd, Nat.reduceSub]; rw [Sw.v_eqi]; refine ⟨_, rfl, ?_⟩; rw [if_neg (by decide)]; refine seq0 ?_)
    (refine seq ?_; dsimp only [Sw.wS, Sw.wE, Sw.wT, Sw.wEs, Sw.wTs, Sw.wI, Sw.wP, Sw.vars, L2.start, Sw.r_get0, Sw.r_getS, Sw.r_set0, Sw.r_setS, Sw.r_map0, Sw.r_mapS, Sw.r_app0, Sw.r_appS, Sw.r_len0, Sw.r_lenS, Sw.r_rep0, Sw.r_repS, Sw.r_join, Nat.reduceAdd, Nat.reduceSub]; rw [Sw.v_eqi]; refine ⟨_, rfl, ?_⟩; rw [if_neg (by decide)]; refine seq0 ?_)
    (refine seq ?_; dsimp only [Sw.wS, Sw.wE, Sw.wT, Sw.wEs, Sw.wTs, Sw.wI, Sw.wP, Sw.vars, L2.start, Sw.r_get0, Sw.r_getS, Sw.r_set0, Sw.r_setS, Sw.r_map0, Sw.r_mapS, Sw.r_app0, Sw.r_appS, Sw.r_len0, Sw.r_lenS, Sw.r_rep0, Sw.r_repS, Sw.r_join, Nat.reduceAdd, Nat.reduceSub]; rw [Sw.v_eqi]; refine ⟨_, rfl, ?_⟩; rw [if_neg (by decide)]; refine seq0 ?_)
    (refine seq ?_; dsimp only [Sw.wS, Sw.wE, Sw.wT, Sw.wEs, Sw.wTs, Sw.wI, Sw.wP, Sw.vars, L2.start, Sw.r_get0, Sw.r_getS, Sw.r_set0, Sw.r_setS, Sw.r_map0, Sw.r_mapS, Sw.r_app0, Sw.r_appS, Sw.r_len0, Sw.r_lenS, Sw.r_rep0, Sw.r_repS, Sw.r_join, Nat.reduceAdd, Nat.reduceSub]; rw [Sw.v_eqi]; refine ⟨_, rfl, ?_⟩; rw [if_pos (by decide)])
    refine seq ?_
    dsimp only [Sw.wS, Sw.wE, Sw.wT, Sw.wEs, Sw.wTs, Sw.wI, Sw.wP, Sw.vars, L2.start, Sw.r_get0, Sw.r_getS, Sw.r_set0, Sw.r_setS, Sw.r_map0, Sw.r_mapS, Sw.r_app0, Sw.r_appS, Sw.r_len0, Sw.r_lenS, Sw.r_rep0, Sw.r_repS, Sw.r_join, Nat.reduceAdd, Nat.reduceSub]
    obtain ⟨u1, c1, m1, n1⟩ := cut_strs ws none (some pl)
    obtain ⟨u2, c2, m2, n2⟩ := cut_strs ws (some (pl + 1)) none
    refine sl_at hr c1 fun l1 hl1 ml1 => ?_
    have y1 := Ext.upd (o := .lst (u1.map V.str)) hl1 ml1
    rw [Sw.v_add]
    dsimp only
    refine sl_at (y1.rd hr) c2 fun l2 hl2 ml2 => ?_
    have y2 := Ext.upd (o := .lst (u2.map V.str)) hl2 ml2
    rw [Sw.v_cat, y2.rd (rd_upd (by intro _ _ z; cases z)), rd_upd (by intro _ _ z; cases z)]
    dsimp only
    refine ⟨by rw [sizeLine_eq, List.length_map, List.length_map]; omega, fun l3 hl3 ml3 => ?_⟩
    rw [← List.map_append]
    have y3 := Ext.upd (o := .lst ((u1 ++ u2).map V.str)) hl3 ml3
    refine seq0 ?_
    (refine seq ?_; dsimp only [Sw.wS, Sw.wE, Sw.wT, Sw.wEs, Sw.wTs, Sw.wI, Sw.wP, Sw.vars, L2.start, Sw.r_get0, Sw.r_getS, Sw.r_set0, Sw.r_setS, Sw.r_map0, Sw.r_mapS, Sw.r_app0, Sw.r_appS, Sw.r_len0, Sw.r_lenS, Sw.r_rep0, Sw.r_repS, Sw.r_join, Nat.reduceAdd, Nat.reduceSub]; rw [Sw.v_eqi]; refine ⟨_, rfl, ?_⟩; rw [if_neg (by decide)]; refine seq0 ?_)
    (refine seq ?_; dsimp only [Sw.wS, Sw.wE, Sw.wT, Sw.wEs, Sw.wTs, Sw.wI, Sw.wP, Sw.vars, L2.start, Sw.r_get0, Sw.r_getS, Sw.r_set0, Sw.r_setS, Sw.r_map0, Sw.r_mapS, Sw.r_app0, Sw.r_appS, Sw.r_len0, Sw.r_lenS, Sw.r_rep0, Sw.r_repS, Sw.r_join, Nat.reduceAdd, Nat.reduceSub]; rw [Sw.v_eqi]; refine ⟨_, rfl, ?_⟩; rw [if_neg (by decide)]; refine seq0 ?_)
    (refine seq ?_; dsimp only [Sw.wS, Sw.wE, Sw.wT, Sw.wEs, Sw.wTs, Sw.wI, Sw.wP, Sw.vars, L2.start, Sw.r_get0, Sw.r_getS, Sw.r_set0, Sw.r_setS, Sw.r_map0, Sw.r_mapS, Sw.r_app0, Sw.r_appS, Sw.r_len0, Sw.r_lenS, Sw.r_rep0, Sw.r_repS, Sw.r_join, Nat.reduceAdd, Nat.reduceSub]; rw [Sw.v_eqi]; refine ⟨_, rfl, ?_⟩; rw [if_neg (by decide)]; refine seq0 ?_)
    dsimp only [Sw.wSs, Sw.wS, Sw.wE, Sw.wT, Sw.wEs, Sw.wTs, Sw.wI, Sw.wP, Sw.vars, L2.start, Sw.r_get0, Sw.r_getS, Sw.r_set0, Sw.r_setS, Sw.r_map0, Sw.r_mapS, Sw.r_app0, Sw.r_appS, Sw.r_len0, Sw.r_lenS, Sw.r_rep0, Sw.r_repS, Sw.r_join, Nat.reduceAdd, Nat.reduceSub]
    refine ⟨rfl, jo (u1 ++ u2) 26 _ l3 _ (fun w hw => ?_) (by rw [List.length_append]; omega) (rd_upd (by intro _ _ z; cases z)) fun t gt => h t _ gt (x1.trans ((y1.trans y2).trans y3))⟩
    rcases List.mem_append.mp hw with hw | hw
    · exact wk w (m1 w hw)
    · exact wk w (m2 w hw)
  · (refine seq ?_; dsimp only [Sw.wS, Sw.wE, Sw.wT, Sw.wEs, Sw.wTs, Sw.wI, Sw.wP, Sw.vars, L2.start, Sw.r_get0, Sw.r_getS, Sw.r_set0, Sw.r_setS, Sw.r_map0, Sw.r_mapS, Sw.r_app0, Sw.r_appS, Sw.r_len0, Sw.r_lenS, Sw.r_rep0, Sw.r_repS, Sw.r_join, Nat.reduceAdd, Nat.reduceSub]; rw [Sw.v_eqi]; refine ⟨_, rfl, ?_⟩; rw [if_neg (by decide)]; refine seq0 ?_)
    (refine seq ?_; dsimp only [Sw.wS, Sw.wE, Sw.wT, Sw.wEs, Sw.wTs, Sw.wI, Sw.wP, Sw.vars, L2.start, Sw.r_get0, Sw.r_getS, Sw.r_set0, Sw.r_setS, Sw.r_map0, Sw.r_mapS, Sw.r_app0, Sw.r_appS, Sw.r_len0, Sw.r_lenS, Sw.r_rep0, Sw.r_repS, Sw.r_join, Nat.reduceAdd, Nat.reduceSub]; rw [Sw.v_eqi]; refine ⟨_, rfl, ?_⟩; rw [if_neg (by decide)]; refine seq0 ?_)
    (refine seq ?_; dsimp only [Sw.wS, Sw.wE, Sw.wT, Sw.wEs, Sw.wTs, Sw.wI, Sw.wP, Sw.vars, L2.start, Sw.r_get0, Sw.r_getS, Sw.r_set0, Sw.r_setS, Sw.r_map0, Sw.r_mapS, Sw.r_app0, Sw.r_appS, Sw.r_len0, Sw.r_lenS, Sw.r_rep0, Sw.r_repS, Sw.r_join, Nat.reduceAdd, Nat.reduceSub]; rw [Sw.v_eqi]; refine ⟨_, rfl, ?_⟩; rw [if_neg (by decide)]; refine seq0 ?_)
    (refine seq ?_; dsimp only [Sw.wS, Sw.wE, Sw.wT, Sw.wEs, Sw.wTs, Sw.wI, Sw.wP, Sw.vars, L2.start, Sw.r_get0, Sw.r_getS, Sw.r_set0, Sw.r_setS, Sw.r_map0, Sw.r_mapS, Sw.r_app0, Sw.r_appS, Sw.r_len0, Sw.r_lenS, Sw.r_rep0, Sw.r_repS, Sw.r_join, Nat.reduceAdd, Nat.reduceSub]; rw [Sw.v_eqi]; refine ⟨_, rfl, ?_⟩; rw [if_neg (by decide)]; refine seq0 ?_)
    (refine seq ?_; dsimp only [Sw.wS, Sw.wE, Sw.wT, Sw.wEs, Sw.wTs, Sw.wI, Sw.wP, Sw.vars, L2.start, Sw.r_get0, Sw.r_getS, Sw.r_set0, Sw.r_setS, Sw.r_map0, Sw.r_mapS, Sw.r_app0, Sw.r_appS, Sw.r_len0, Sw.r_lenS, Sw.r_rep0, Sw.r_repS, Sw.r_join, Nat.reduceAdd, Nat.reduceSub]; rw [Sw.v_eqi]; refine ⟨_, rfl, ?_⟩; rw [if_neg (by decide)]; refine seq0 ?_)
    (refine seq ?_; dsimp only [Sw.wS, Sw.wE, Sw.wT, Sw.wEs, Sw.wTs, Sw.wI, Sw.wP, Sw.vars, L2.start, Sw.r_get0, Sw.r_getS, Sw.r_set0, Sw.r_setS, Sw.r_map0, Sw.r_mapS, Sw.r_app0, Sw.r_appS, Sw.r_len0, Sw.r_lenS, Sw.r_rep0, Sw.r_repS, Sw.r_join, Nat.reduceAdd, Nat.reduceSub]; rw [Sw.v_eqi]; refine ⟨_, rfl, ?_⟩; rw [if_pos (by decide)])
    refine seq ?_
    dsimp only [Sw.wS, Sw.wE, Sw.wT, Sw.wEs, Sw.wTs, Sw.wI, Sw.wP, Sw.vars, L2.start, Sw.r_get0, Sw.r_getS, Sw.r_set0, Sw.r_setS, Sw.r_map0, Sw.r_mapS, Sw.r_app0, Sw.r_appS, Sw.r_len0, Sw.r_lenS, Sw.r_rep0, Sw.r_repS, Sw.r_join, Nat.reduceAdd, Nat.reduceSub]
    obtain ⟨u1, c1, m1, n1⟩ := cut_strs ws none (some pl)
    obtain ⟨u2, c2, m2, n2⟩ := cut_strs ws (some pl) none
    obtain ⟨w2, e2, m3⟩ := word_at (ws := ws) t0 (by rw [wl]; exact t1)
    refine sl_at hr c1 fun l1 hl1 ml1 => ?_
    have y1 := Ext.upd (o := .lst (u1.map V.str)) hl1 ml1
    refine ix_at (y1.rd hr) e2 ⟨by decide, fun l4 hl4 ml4 => ?_⟩
    have y4 := Ext.upd (o := .lst [V.str w2]) hl4 ml4
    rw [Sw.v_cat, y4.rd (rd_upd (by intro _ _ z; cases z)), rd_upd (by intro _ _ z; cases z)]
    dsimp only
    refine ⟨by rw [sizeLine_eq, List.length_map, List.length_singleton]; omega, fun l5 hl5 ml5 => ?_⟩
    rw [show u1.map V.str ++ [V.str w2] = (u1 ++ [w2]).map V.str by rw [List.map_append]; rfl]
    have y5 := Ext.upd (o := .lst ((u1 ++ [w2]).map V.str)) hl5 ml5
    refine sl_at (y5.rd (y4.rd (y1.rd hr))) c2 fun l2 hl2 ml2 => ?_
    have y2 := Ext.upd (o := .lst (u2.map V.str)) hl2 ml2
    rw [Sw.v_cat, y2.rd (rd_upd (by intro _ _ z; cases z)), rd_upd (by intro _ _ z; cases z)]
    dsimp only
    refine ⟨by rw [sizeLine_eq, List.length_map, List.length_map, List.length_append, List.length_singleton]; omega, fun l3 hl3 ml3 => ?_⟩
    rw [← List.map_append]
    have y3 := Ext.upd (o := .lst ((u1 ++ [w2] ++ u2).map V.str)) hl3 ml3
    refine seq0 ?_
    (refine seq ?_; dsimp only [Sw.wS, Sw.wE, Sw.wT, Sw.wEs, Sw.wTs, Sw.wI, Sw.wP, Sw.vars, L2.start, Sw.r_get0, Sw.r_getS, Sw.r_set0, Sw.r_setS, Sw.r_map0, Sw.r_mapS, Sw.r_app0, Sw.r_appS, Sw.r_len0, Sw.r_lenS, Sw.r_rep0, Sw.r_repS, Sw.r_join, Nat.reduceAdd, Nat.reduceSub]; rw [Sw.v_eqi]; refine ⟨_, rfl, ?_⟩; rw [if_neg (by decide)]; refine seq0 ?_)
    (refine seq ?_; dsimp only [Sw.wS, Sw.wE, Sw.wT, Sw.wEs, Sw.wTs, Sw.wI, Sw.wP, Sw.vars, L2.start, Sw.r_get0, Sw.r_getS, Sw.r_set0, Sw.r_setS, Sw.r_map0, Sw.r_mapS, Sw.r_app0, Sw.r_appS, Sw.r_len0, Sw.r_lenS, Sw.r_rep0, Sw.r_repS, Sw.r_join, Nat.reduceAdd, Nat.reduceSub]; rw [Sw.v_eqi]; refine ⟨_, rfl, ?_⟩; rw [if_neg (by decide)]; refine seq0 ?_)
    dsimp only [Sw.wSs, Sw.wS, Sw.wE, Sw.wT, Sw.wEs, Sw.wTs, Sw.wI, Sw.wP, Sw.vars, L2.start, Sw.r_get0, Sw.r_getS, Sw.r_set0, Sw.r_setS, Sw.r_map0, Sw.r_mapS, Sw.r_app0, Sw.r_appS, Sw.r_len0, Sw.r_lenS, Sw.r_rep0, Sw.r_repS, Sw.r_join, Nat.reduceAdd, Nat.reduceSub]
    refine ⟨rfl, jo (u1 ++ [w2] ++ u2) 26 _ l3 _ (fun w hw => ?_) (by rw [List.length_append, List.length_append, List.length_singleton]; omega) (rd_upd (by intro _ _ z; cases z)) fun t gt => h t _ gt (x1.trans ((((y1.trans y4).trans y5).trans y2).trans y3))⟩
    rcases List.mem_append.mp hw with hw | hw
    · rcases List.mem_append.mp hw with hw | hw
      · exact wk w (m1 w hw)
      · rw [List.mem_singleton.mp hw]; exact wk _ m3
    · exact wk w (m2 w hw)
  · (refine seq ?_; dsimp only [Sw.wS, Sw.wE, Sw.wT, Sw.wEs, Sw.wTs, Sw.wI, Sw.wP, Sw.vars, L2.start, Sw.r_get0, Sw.r_getS, Sw.r_set0, Sw.r_setS, Sw.r_map0, Sw.r_mapS, Sw.r_app0, Sw.r_appS, Sw.r_len0, Sw.r_lenS, Sw.r_rep0, Sw.r_repS, Sw.r_join, Nat.reduceAdd, Nat.reduceSub]; rw [Sw.v_eqi]; refine ⟨_, rfl, ?_⟩; rw [if_neg (by decide)]; refine seq0 ?_)
    (refine seq ?_; dsimp only [Sw.wS, Sw.wE, Sw.wT, Sw.wEs, Sw.wTs, Sw.wI, Sw.wP, Sw.vars, L2.start, Sw.r_get0, Sw.r_getS, Sw.r_set0, Sw.r_setS, Sw.r_map0, Sw.r_mapS, Sw.r_app0, Sw.r_appS, Sw.r_len0, Sw.r_lenS, Sw.r_rep0, Sw.r_repS, Sw.r_join, Nat.reduceAdd, Nat.reduceSub]; rw [Sw.v_eqi]; refine ⟨_, rfl, ?_⟩; rw [if_neg (by decide)]; refine seq0 ?_)
    (refine seq ?_; dsimp only [Sw.wS, Sw.wE, Sw.wT, Sw.wEs, Sw.wTs, Sw.wI, Sw.wP, Sw.vars, L2.start, Sw.r_get0, Sw.r_getS, Sw.r_set0, Sw.r_setS, Sw.r_map0, Sw.r_mapS, Sw.r_app0, Sw.r_appS, Sw.r_len0, Sw.r_lenS, Sw.r_rep0, Sw.r_repS, Sw.r_join, Nat.reduceAdd, Nat.reduceSub]; rw [Sw.v_eqi]; refine ⟨_, rfl, ?_⟩; rw [if_neg (by decide)]; refine seq0 ?_)
    (refine seq ?_; dsimp only [Sw.wS, Sw.wE, Sw.wT, Sw.wEs, Sw.wTs, Sw.wI, Sw.wP, Sw.vars, L2.start, Sw.r_get0, Sw.r_getS, Sw.r_set0, Sw.r_setS, Sw.r_map0, Sw.r_mapS, Sw.r_app0, Sw.r_appS, Sw.r_len0, Sw.r_lenS, Sw.r_rep0, Sw.r_repS, Sw.r_join, Nat.reduceAdd, Nat.reduceSub]; rw [Sw.v_eqi]; refine ⟨_, rfl, ?_⟩; rw [if_neg (by decide)]; refine seq0 ?_)
    (refine seq ?_; dsimp only [Sw.wS, Sw.wE, Sw.wT, Sw.wEs, Sw.wTs, Sw.wI, Sw.wP, Sw.vars, L2.start, Sw.r_get0, Sw.r_getS, Sw.r_set0, Sw.r_setS, Sw.r_map0, Sw.r_mapS, Sw.r_app0, Sw.r_appS, Sw.r_len0, Sw.r_lenS, Sw.r_rep0, Sw.r_repS, Sw.r_join, Nat.reduceAdd, Nat.reduceSub]; rw [Sw.v_eqi]; refine ⟨_, rfl, ?_⟩; rw [if_neg (by decide)]; refine seq0 ?_)
    (refine seq ?_; dsimp only [Sw.wS, Sw.wE, Sw.wT, Sw.wEs, Sw.wTs, Sw.wI, Sw.wP, Sw.vars, L2.start, Sw.r_get0, Sw.r_getS, Sw.r_set0, Sw.r_setS, Sw.r_map0, Sw.r_mapS, Sw.r_app0, Sw.r_appS, Sw.r_len0, Sw.r_lenS, Sw.r_rep0, Sw.r_repS, Sw.r_join, Nat.reduceAdd, Nat.reduceSub]; rw [Sw.v_eqi]; refine ⟨_, rfl, ?_⟩; rw [if_neg (by decide)]; refine seq0 ?_)
    (refine seq ?_; dsimp only [Sw.wS, Sw.wE, Sw.wT, Sw.wEs, Sw.wTs, Sw.wI, Sw.wP, Sw.vars, L2.start, Sw.r_get0, Sw.r_getS, Sw.r_set0, Sw.r_setS, Sw.r_map0, Sw.r_mapS, Sw.r_app0, Sw.r_appS, Sw.r_len0, Sw.r_lenS, Sw.r_rep0, Sw.r_repS, Sw.r_join, Nat.reduceAdd, Nat.reduceSub]; rw [Sw.v_eqi]; refine ⟨_, rfl, ?_⟩; rw [if_pos (by decide)])
    refine seq ?_
    dsimp only [Sw.wS, Sw.wE, Sw.wT, Sw.wEs, Sw.wTs, Sw.wI, Sw.wP, Sw.vars, L2.start, Sw.r_get0, Sw.r_getS, Sw.r_set0, Sw.r_setS, Sw.r_map0, Sw.r_mapS, Sw.r_app0, Sw.r_appS, Sw.r_len0, Sw.r_lenS, Sw.r_rep0, Sw.r_repS, Sw.r_join, Nat.reduceAdd, Nat.reduceSub]
    rw [g.ow.2]
    refine ⟨⟨g.cm, g.ow.1⟩, b, rfl, fun t H2 ht hl2 y2 => ?_⟩
    dsimp only
    refine ⟨g.cm, ?_⟩
    have hr2 : H2 l = some (.lst (ws.map V.str)) := y2.same _ _ hr1
    have fin : ∀ (K : Hp → Prop), (∀ w : Str, In0 w → w.length ≤ 31 → K (upd H2 l (.lst ((ws.set pl.toNat w).map V.str)))) → ∀ bb : Bool, bltV Γ.mod .int [.bl bb] H2 (fun y H3 => binV Γ.mod .Mult (.str (Str.ofString ":")) y H3 fun y H4 => binV Γ.mod .Add (.str t) y H4 fun v H5 => stoV (.ref l) (.int pl) v H5 K) := by
      intro K hK bb
      have go : ∀ u : Str, In0 u → u.length ≤ 1 → binV Γ.mod .Add (.str t) (.str u) H2 fun v H5 => stoV (.ref l) (.int pl) v H5 K := by
        intro u hu hlu
        rw [Sw.v_adds]
        refine ⟨by rw [sizeLine_eq]; omega, ?_⟩
        unfold stoV
        dsimp only
        rw [hr2]
        dsimp only
        rw [ixN_of p0 (by rw [List.length_map, wl]; exact p1)]
        dsimp only
        rw [set_strs]
        exact hK _ (In0.app ht hu) (by rw [len_app]; omega)
      cases bb with
      | true =>
        unfold bltV
        simp only [if_true]
        rw [Sw.v_muls]
        exact ⟨by decide +kernel, go _ (by unfold In0; decide +kernel) (by decide +kernel)⟩
      | false =>
        unfold bltV
        simp only [Bool.false_eq_true, if_false]
        rw [Sw.v_muls]
        exact ⟨by decide +kernel, go _ (by unfold In0; decide +kernel) (by decide +kernel)⟩
    have last : ∀ w : Str, In0 w → w.length ≤ 31 → mthV Γ.mod .join (.str (Str.ofString " ")) [.ref l] (upd H2 l (.lst ((ws.set pl.toNat w).map V.str))) Q := by
      intro w hw hlw
      refine jo (ws.set pl.toNat w) 31 _ l _ (fun v hv => ?_) (by rw [List.length_set, wl]; decide) (rd_upd (by intro _ _ z; cases z)) fun t gt => h t _ gt (xs H2 _ y2)
      rcases List.mem_or_eq_of_mem_set hv with hv | rfl
      · have := wk v hv
        exact ⟨this.1, by omega⟩
      · exact ⟨hw, hlw⟩
    rw [Sw.v_eqi, t_bl]
    by_cases q : pl = 2
    · rw [if_pos (decide_eq_true q), Sw.v_div]
      refine ⟨by decide, by decide, ?_⟩
      rw [Sw.v_mod]
      refine ⟨by decide, ?_⟩
      rw [Sw.v_eqi]
      refine fin _ (fun w hw hlw => ?_) _
      refine seq0 ?_
      (refine seq ?_; dsimp only [Sw.wS, Sw.wE, Sw.wT, Sw.wEs, Sw.wTs, Sw.wI, Sw.wP, Sw.vars, L2.start, Sw.r_get0, Sw.r_getS, Sw.r_set0, Sw.r_setS, Sw.r_map0, Sw.r_mapS, Sw.r_app0, Sw.r_appS, Sw.r_len0, Sw.r_lenS, Sw.r_rep0, Sw.r_repS, Sw.r_join, Nat.reduceAdd, Nat.reduceSub]; rw [Sw.v_eqi]; refine ⟨_, rfl, ?_⟩; rw [if_neg (by decide)]; refine seq0 ?_)
      dsimp only [Sw.wSs, Sw.wS, Sw.wE, Sw.wT, Sw.wEs, Sw.wTs, Sw.wI, Sw.wP, Sw.vars, L2.start, Sw.r_get0, Sw.r_getS, Sw.r_set0, Sw.r_setS, Sw.r_map0, Sw.r_mapS, Sw.r_app0, Sw.r_appS, Sw.r_len0, Sw.r_lenS, Sw.r_rep0, Sw.r_repS, Sw.r_join, Nat.reduceAdd, Nat.reduceSub]
      exact ⟨rfl, last w hw hlw⟩
    · rw [if_neg (by simpa using q)]
      refine fin _ (fun w hw hlw => ?_) _
      refine seq0 ?_
      (refine seq ?_; dsimp only [Sw.wS, Sw.wE, Sw.wT, Sw.wEs, Sw.wTs, Sw.wI, Sw.wP, Sw.vars, L2.start, Sw.r_get0, Sw.r_getS, Sw.r_set0, Sw.r_setS, Sw.r_map0, Sw.r_mapS, Sw.r_app0, Sw.r_appS, Sw.r_len0, Sw.r_lenS, Sw.r_rep0, Sw.r_repS, Sw.r_join, Nat.reduceAdd, Nat.reduceSub]; rw [Sw.v_eqi]; refine ⟨_, rfl, ?_⟩; rw [if_neg (by decide)]; refine seq0 ?_)
      dsimp only [Sw.wSs, Sw.wS, Sw.wE, Sw.wT, Sw.wEs, Sw.wTs, Sw.wI, Sw.wP, Sw.vars, L2.start, Sw.r_get0, Sw.r_getS, Sw.r_set0, Sw.r_setS, Sw.r_map0, Sw.r_mapS, Sw.r_app0, Sw.r_appS, Sw.r_len0, Sw.r_lenS, Sw.r_rep0, Sw.r_repS, Sw.r_join, Nat.reduceAdd, Nat.reduceSub]
      exact ⟨rfl, last w hw hlw⟩
  · (refine seq ?_; dsimp only [Sw.wS, Sw.wE, Sw.wT, Sw.wEs, Sw.wTs, Sw.wI, Sw.wP, Sw.vars, L2.start, Sw.r_get0, Sw.r_getS, Sw.r_set0, Sw.r_setS, Sw.r_map0, Sw.r_mapS, Sw.r_app0, Sw.r_appS, Sw.r_len0, Sw.r_lenS, Sw.r_rep0, Sw.r_repS, Sw.r_join, Nat.reduceAdd, Nat.reduceSub]; rw [Sw.v_eqi]; refine ⟨_, rfl, ?_⟩; rw [if_neg (by decide)]; refine seq0 ?_)
    (refine seq ?_; dsimp only [Sw.wS, Sw.wE, Sw.wT, Sw.wEs, Sw.wTs, Sw.wI, Sw.wP, Sw.vars, L2.start, Sw.r_get0, Sw.r_getS, Sw.r_set0, Sw.r_setS, Sw.r_map0, Sw.r_mapS, Sw.r_app0, Sw.r_appS, Sw.r_len0, Sw.r_lenS, Sw.r_rep0, Sw.r_repS, Sw.r_join, Nat.reduceAdd, Nat.reduceSub]; rw [Sw.v_eqi]; refine ⟨_, rfl, ?_⟩; rw [if_neg (by decide)]; refine seq0 ?_)
    (refine seq ?_; dsimp only [Sw.wS, Sw.wE, Sw.wT, Sw.wEs, Sw.wTs, Sw.wI, Sw.wP, Sw.vars, L2.start, Sw.r_get0, Sw.r_getS, Sw.r_set0, Sw.r_setS, Sw.r_map0, Sw.r_mapS, Sw.r_app0, Sw.r_appS, Sw.r_len0, Sw.r_lenS, Sw.r_rep0, Sw.r_repS, Sw.r_join, Nat.reduceAdd, Nat.reduceSub]; rw [Sw.v_eqi]; refine ⟨_, rfl, ?_⟩; rw [if_neg (by decide)]; refine seq0 ?_)
    (refine seq ?_; dsimp only [Sw.wS, Sw.wE, Sw.wT, Sw.wEs, Sw.wTs, Sw.wI, Sw.wP, Sw.vars, L2.start, Sw.r_get0, Sw.r_getS, Sw.r_set0, Sw.r_setS, Sw.r_map0, Sw.r_mapS, Sw.r_app0, Sw.r_appS, Sw.r_len0, Sw.r_lenS, Sw.r_rep0, Sw.r_repS, Sw.r_join, Nat.reduceAdd, Nat.reduceSub]; rw [Sw.v_eqi]; refine ⟨_, rfl, ?_⟩; rw [if_neg (by decide)]; refine seq0 ?_)
    (refine seq ?_; dsimp only [Sw.wS, Sw.wE, Sw.wT, Sw.wEs, Sw.wTs, Sw.wI, Sw.wP, Sw.vars, L2.start, Sw.r_get0, Sw.r_getS, Sw.r_set0, Sw.r_setS, Sw.r_map0, Sw.r_mapS, Sw.r_app0, Sw.r_appS, Sw.r_len0, Sw.r_lenS, Sw.r_rep0, Sw.r_repS, Sw.r_join, Nat.reduceAdd, Nat.reduceSub]; rw [Sw.v_eqi]; refine ⟨_, rfl, ?_⟩; rw [if_neg (by decide)]; refine seq0 ?_)
    (refine seq ?_; dsimp only [Sw.wS, Sw.wE, Sw.wT, Sw.wEs, Sw.wTs, Sw.wI, Sw.wP, Sw.vars, L2.start, Sw.r_get0, Sw.r_getS, Sw.r_set0, Sw.r_setS, Sw.r_map0, Sw.r_mapS, Sw.r_app0, Sw.r_appS, Sw.r_len0, Sw.r_lenS, Sw.r_rep0, Sw.r_repS, Sw.r_join, Nat.reduceAdd, Nat.reduceSub]; rw [Sw.v_eqi]; refine ⟨_, rfl, ?_⟩; rw [if_neg (by decide)]; refine seq0 ?_)
    (refine seq ?_; dsimp only [Sw.wS, Sw.wE, Sw.wT, Sw.wEs, Sw.wTs, Sw.wI, Sw.wP, Sw.vars, L2.start, Sw.r_get0, Sw.r_getS, Sw.r_set0, Sw.r_setS, Sw.r_map0, Sw.r_mapS, Sw.r_app0, Sw.r_appS, Sw.r_len0, Sw.r_lenS, Sw.r_rep0, Sw.r_repS, Sw.r_join, Nat.reduceAdd, Nat.reduceSub]; rw [Sw.v_eqi]; refine ⟨_, rfl, ?_⟩; rw [if_neg (by decide)]; refine seq0 ?_)
    (refine seq ?_; dsimp only [Sw.wS, Sw.wE, Sw.wT, Sw.wEs, Sw.wTs, Sw.wI, Sw.wP, Sw.vars, L2.start, Sw.r_get0, Sw.r_getS, Sw.r_set0, Sw.r_setS, Sw.r_map0, Sw.r_mapS, Sw.r_app0, Sw.r_appS, Sw.r_len0, Sw.r_lenS, Sw.r_rep0, Sw.r_repS, Sw.r_join, Nat.reduceAdd, Nat.reduceSub]; rw [Sw.v_eqi]; refine ⟨_, rfl, ?_⟩; rw [if_pos (by decide)])
    dsimp only [Sw.wSs, Sw.wS, Sw.wE, Sw.wT, Sw.wEs, Sw.wTs, Sw.wI, Sw.wP, Sw.vars, L2.start, Sw.r_get0, Sw.r_getS, Sw.r_set0, Sw.r_setS, Sw.r_map0, Sw.r_mapS, Sw.r_app0, Sw.r_appS, Sw.r_len0, Sw.r_lenS, Sw.r_rep0, Sw.r_repS, Sw.r_join, Nat.reduceAdd, Nat.reduceSub]
    rw [s_str]
    refine ⟨lz, ?_⟩
    rw [s_str]
    refine ⟨lz, by decide, fun p hp mp => ?_⟩
    rw [Sw.v_mod]
    refine ⟨by decide, ?_⟩
    have y := Ext.upd (o := .lst [V.str (Txt.slice T none (some at')), V.str (Txt.slice T (some at') none)]) hp mp
    have b0 : 0 ≤ b % 2 := Int.emod_nonneg _ (by decide)
    have b1 : b % 2 < 2 := Int.emod_lt_of_pos _ (by decide)
    obtain ⟨w, e, m⟩ := word_at (ws := [Txt.slice T none (some at'), Txt.slice T (some at') none]) b0 b1
    refine ix_at (rd_upd (by intro _ _ z; cases z)) e (h _ _ ?_ (x1.trans y))
    simp only [List.mem_cons, List.not_mem_nil, or_false] at m
    rcases m with rfl | rfl
    · exact In0.good (In0.slice i0) (Nat.le_trans (sl _ _) (by decide))
    · exact In0.good (In0.slice i0) (Nat.le_trans (sl _ _) (by decide))
  · (refine seq ?_; dsimp only [Sw.wS, Sw.wE, Sw.wT, Sw.wEs, Sw.wTs, Sw.wI, Sw.wP, Sw.vars, L2.start, Sw.r_get0, Sw.r_getS, Sw.r_set0, Sw.r_setS, Sw.r_map0, Sw.r_mapS, Sw.r_app0, Sw.r_appS, Sw.r_len0, Sw.r_lenS, Sw.r_rep0, Sw.r_repS, Sw.r_join, Nat.reduceAdd, Nat.reduceSub]; rw [Sw.v_eqi]; refine ⟨_, rfl, ?_⟩; rw [if_neg (by decide)]; refine seq0 ?_)
    (refine seq ?_; dsimp only [Sw.wS, Sw.wE, Sw.wT, Sw.wEs, Sw.wTs, Sw.wI, Sw.wP, Sw.vars, L2.start, Sw.r_get0, Sw.r_getS, Sw.r_set0, Sw.r_setS, Sw.r_map0, Sw.r_mapS, Sw.r_app0, Sw.r_appS, Sw.r_len0, Sw.r_lenS, Sw.r_rep0, Sw.r_repS, Sw.r_join, Nat.reduceAdd, Nat.reduceSub]; rw [Sw.v_eqi]; refine ⟨_, rfl, ?_⟩; rw [if_neg (by decide)]; refine seq0 ?_)
    (refine seq ?_; dsimp only [Sw.wS, Sw.wE, Sw.wT, Sw.wEs, Sw.wTs, Sw.wI, Sw.wP, Sw.vars, L2.start, Sw.r_get0, Sw.r_getS, Sw.r_set0, Sw.r_setS, Sw.r_map0, Sw.r_mapS, Sw.r_app0, Sw.r_appS, Sw.r_len0, Sw.r_lenS, Sw.r_rep0, Sw.r_repS, Sw.r_join, Nat.reduceAdd, Nat.reduceSub]; rw [Sw.v_eqi]; refine ⟨_, rfl, ?_⟩; rw [if_neg (by decide)]; refine seq0 ?_)
    (refine seq ?_; dsimp only [Sw.wS, Sw.wE, Sw.wT, Sw.wEs, Sw.wTs, Sw.wI, Sw.wP, Sw.vars, L2.start, Sw.r_get0, Sw.r_getS, Sw.r_set0, Sw.r_setS, Sw.r_map0, Sw.r_mapS, Sw.r_app0, Sw.r_appS, Sw.r_len0, Sw.r_lenS, Sw.r_rep0, Sw.r_repS, Sw.r_join, Nat.reduceAdd, Nat.reduceSub]; rw [Sw.v_eqi]; refine ⟨_, rfl, ?_⟩; rw [if_neg (by decide)]; refine seq0 ?_)
    (refine seq ?_; dsimp only [Sw.wS, Sw.wE, Sw.wT, Sw.wEs, Sw.wTs, Sw.wI, Sw.wP, Sw.vars, L2.start, Sw.r_get0, Sw.r_getS, Sw.r_set0, Sw.r_setS, Sw.r_map0, Sw.r_mapS, Sw.r_app0, Sw.r_appS, Sw.r_len0, Sw.r_lenS, Sw.r_rep0, Sw.r_repS, Sw.r_join, Nat.reduceAdd, Nat.reduceSub]; rw [Sw.v_eqi]; refine ⟨_, rfl, ?_⟩; rw [if_neg (by decide)]; refine seq0 ?_)
    (refine seq ?_; dsimp only [Sw.wS, Sw.wE, Sw.wT, Sw.wEs, Sw.wTs, Sw.wI, Sw.wP, Sw.vars, L2.start, Sw.r_get0, Sw.r_getS, Sw.r_set0, Sw.r_setS, Sw.r_map0, Sw.r_mapS, Sw.r_app0, Sw.r_appS, Sw.r_len0, Sw.r_lenS, Sw.r_rep0, Sw.r_repS, Sw.r_join, Nat.reduceAdd, Nat.reduceSub]; rw [Sw.v_eqi]; refine ⟨_, rfl, ?_⟩; rw [if_neg (by decide)]; refine seq0 ?_)
    (refine seq ?_; dsimp only [Sw.wS, Sw.wE, Sw.wT, Sw.wEs, Sw.wTs, Sw.wI, Sw.wP, Sw.vars, L2.start, Sw.r_get0, Sw.r_getS, Sw.r_set0, Sw.r_setS, Sw.r_map0, Sw.r_mapS, Sw.r_app0, Sw.r_appS, Sw.r_len0, Sw.r_lenS, Sw.r_rep0, Sw.r_repS, Sw.r_join, Nat.reduceAdd, Nat.reduceSub]; rw [Sw.v_eqi]; refine ⟨_, rfl, ?_⟩; rw [if_neg (by decide)]; refine seq0 ?_)
    (refine seq ?_; dsimp only [Sw.wS, Sw.wE, Sw.wT, Sw.wEs, Sw.wTs, Sw.wI, Sw.wP, Sw.vars, L2.start, Sw.r_get0, Sw.r_getS, Sw.r_set0, Sw.r_setS, Sw.r_map0, Sw.r_mapS, Sw.r_app0, Sw.r_appS, Sw.r_len0, Sw.r_lenS, Sw.r_rep0, Sw.r_repS, Sw.r_join, Nat.reduceAdd, Nat.reduceSub]; rw [Sw.v_eqi]; refine ⟨_, rfl, ?_⟩; rw [if_neg (by decide)]; refine seq0 ?_)
    dsimp only [Sw.wSs, Sw.wS, Sw.wE, Sw.wT, Sw.wEs, Sw.wTs, Sw.wI, Sw.wP, Sw.vars, L2.start, Sw.r_get0, Sw.r_getS, Sw.r_set0, Sw.r_setS, Sw.r_map0, Sw.r_mapS, Sw.r_app0, Sw.r_appS, Sw.r_len0, Sw.r_lenS, Sw.r_rep0, Sw.r_repS, Sw.r_join, Nat.reduceAdd, Nat.reduceSub]
    exact ⟨rfl, jo ws 26 _ l _ wk (by rw [wl]; decide) hr fun t gt => h t _ gt x1⟩
end K3
namespace K3
open PySem PySem.Spec PyProof.Rows L2 Sw Wd
variable {M : Mo}
theorem a_codes : (Str.ofString "a").cps.toList = [97] := by decide +kernel
theorem z_codes : (Str.ofString "z").cps.toList = [122] := by decide +kernel
theorem le_chr (lo c : Nat) : (!decide ([c] < [lo])) = decide (lo ≤ c) := by
  rw [Bool.eq_iff_iff]
  simp [lt_one]
theorem sign_loop {Γ : Gam} {lo hi : Str} {l h : Nat} (hl : lo.cps.toList = [l]) (hh : hi.cps.toList = [h]) {t : Str} {D : Ends} {H : Hp} {stay : Hp → Prop} {i : Nat} {σ : L2.St} (hi' : i < σ.length) (hs : stay H)
    (h0 : ((cps t).all (inRange l h)) = false → D.rt .non H) (h1 : ((cps t).all (inRange l h)) = true → ∀ v, D.nx (σ.set i v) H) :
    forW i (wSs (.cons (.iff (.not (.cmp2 .LtE .LtE (.con (.str lo)) (.var i) (.con (.str hi)))) (.cons (.ret (.con .non)) .nil) .nil) .nil) Γ X0) stay ((cps t).map fun c => .str ⟨#[c]⟩) D σ H := by
  refine for_inv (fun n σ' H' => H' = H ∧ (∃ v, σ' = σ.set i v) ∧ ((cps t).take n).all (inRange l h) = true) (fun n σ H' p => p.1 ▸ hs) ?_ ?_ ⟨rfl, ⟨σ[i], by simp⟩, rfl⟩
  · rintro n v σ' H' D' hv ⟨rfl, ⟨w, rfl⟩, ha⟩ hn hct hrt hbk
    rw [List.getElem?_map] at hv
    obtain ⟨c, hc, rfl⟩ := Option.map_eq_some_iff.mp hv
    have hmem : c ∈ cps t := List.mem_of_getElem? hc
    have htk : (cps t).take (n + 1) = (cps t).take n ++ [c] := by
      rw [List.take_succ, hc]
      rfl
    rw [List.set_set]
    have hg : (σ.set i (some (V.str ⟨#[c]⟩)))[i]? = some (some (V.str ⟨#[c]⟩)) := by rw [List.getElem?_set_self hi']
    dsimp only [Sw.wSs, Sw.wS, Sw.wE, Sw.wT, Sw.wEs, Sw.wTs, Sw.wI, Sw.wP, Sw.vars, L2.start, Sw.r_get0, Sw.r_getS, Sw.r_set0, Sw.r_setS, Sw.r_map0, Sw.r_mapS, Sw.r_app0, Sw.r_appS, Sw.r_len0, Sw.r_lenS, Sw.r_rep0, Sw.r_repS, Sw.r_join, Nat.reduceAdd, Nat.reduceSub]
    simp only [hg]
    simp only [Sw.v_les, hl, hh, le_chr]
    refine ⟨_, rfl, ?_⟩
    by_cases q1 : l ≤ c
    · rw [if_pos (by simpa using q1)]
      refine ⟨_, rfl, ?_⟩
      by_cases q2 : c ≤ h
      · rw [if_neg (by simpa using q2)]
        refine hn _ _ ⟨rfl, ⟨_, rfl⟩, ?_⟩
        rw [htk, List.all_append, ha]
        simp [inRange, q1, q2]
      · rw [if_pos (by simpa using q2)]
        rw [hrt]
        refine h0 (List.all_eq_false.mpr ⟨c, hmem, ?_⟩)
        simp [inRange, q2]
    · rw [if_neg (by simpa using q1)]
      refine ⟨_, rfl, ?_⟩
      show D'.rt .non H'
      rw [hrt]
      refine h0 (List.all_eq_false.mpr ⟨c, hmem, ?_⟩)
      simp [inRange, q1]
  · rintro σ' H' ⟨rfl, ⟨v, rfl⟩, ha⟩
    rw [List.length_map, List.take_length] at ha
    exact h1 ha v
noncomputable def lawNum (t : Str) (lo hi : Int) : Option Int := if ((cps t).all (inRange 48 57) && (decide (1 ≤ (cps t).length) && decide ((cps t).length ≤ 12))) = true then (match PySem.intText? t with | some n => if lo ≤ n ∧ n ≤ hi then some n else none | none => none) else none
noncomputable def optI : Option Int → V
  | some n => .int n
  | none => .non
noncomputable def spLawNum : Sp := fun vs H Q _ => ∃ t lo hi, vs = [.str t, .int lo, .int hi] ∧ t.length ≤ 640 ∧ Q (optI (lawNum t lo hi)) H
theorem ok_lawNum {Γ : Gam} (hc : Γ.cm = true) (vs : List V) (H : Hp) (Q : VK) (E : XK) (h : spLawNum vs H Q E) : spOf Γ N__law_number 3 b__law_number vs H Q E := by
  obtain ⟨t, lo, hi, rfl, ht, h⟩ := h
  refine ⟨rfl, ?_⟩
  have hz : t.length ≤ sizeLine := small_640 ht
  unfold b__law_number
  refine seq ?_
  dsimp only [Sw.wS, Sw.wE, Sw.wT, Sw.wEs, Sw.wTs, Sw.wI, Sw.wP, Sw.vars, L2.start, Sw.r_get0, Sw.r_getS, Sw.r_set0, Sw.r_setS, Sw.r_map0, Sw.r_mapS, Sw.r_app0, Sw.r_appS, Sw.r_len0, Sw.r_lenS, Sw.r_rep0, Sw.r_repS, Sw.r_join, Nat.reduceAdd, Nat.reduceSub]
  refine ⟨hc, hz, ?_⟩
  refine sign_loop n0_codes n9_codes (by simp) trivial (fun q => ?_) fun q v => ?_
  · have e : lawNum t lo hi = none := by unfold lawNum; rw [q]; rfl
    rw [e] at h
    exact h
  · dsimp only [Sw.wSs, Sw.wS, Sw.wE, Sw.wT, Sw.wEs, Sw.wTs, Sw.wI, Sw.wP, Sw.vars, L2.start, Sw.r_get0, Sw.r_getS, Sw.r_set0, Sw.r_setS, Sw.r_map0, Sw.r_mapS, Sw.r_app0, Sw.r_appS, Sw.r_len0, Sw.r_lenS, Sw.r_rep0, Sw.r_repS, Sw.r_join, Nat.reduceAdd, Nat.reduceSub]
    simp only [hc, true_and, Sw.b_lens, Sw.b_int, hz]
    rw [Sw.v_le]
    refine ⟨_, rfl, ?_⟩
    by_cases q1 : 1 ≤ (cps t).length
    · rw [if_pos (by rw [len_i, decide_eq_true_eq]; omega), Sw.v_le]
      refine ⟨_, rfl, ?_⟩
      by_cases q2 : (cps t).length ≤ 12
      · rw [if_neg (by rw [len_i, decide_eq_true (by omega)]; decide)]
        have ne : cps t ≠ [] := fun z => by rw [z] at q1; simp at q1
        have ed := PySem.intText_digits (x := t) (fun c hc => by simpa [inRange] using List.all_eq_true.mp q c hc) ne (by omega)
        have e : lawNum t lo hi = if lo ≤ ((PySem.NumText.digitsVal (cps t) : Nat) : Int) ∧ ((PySem.NumText.digitsVal (cps t) : Nat) : Int) ≤ hi then some ((PySem.NumText.digitsVal (cps t) : Nat) : Int) else none := by
          unfold lawNum
          rw [q, decide_eq_true q1, decide_eq_true q2, if_pos (by rfl), ed]
        rw [e] at h
        rw [ed]
        dsimp only
        refine ⟨ht, ?_⟩
        generalize ((PySem.NumText.digitsVal (cps t) : Nat) : Int) = n at h
        rw [Sw.v_le]
        refine ⟨_, rfl, ?_⟩
        by_cases q3 : lo ≤ n
        · rw [if_pos (decide_eq_true q3), Sw.v_le]
          refine ⟨_, rfl, ?_⟩
          by_cases q4 : n ≤ hi
          · rw [if_neg (by simpa using q4)]
            rw [if_pos ⟨q3, q4⟩] at h
            exact ⟨ht, h⟩
          · rw [if_pos (by simpa using q4)]
            rw [if_neg (fun z => q4 z.2)] at h
            exact h
        · rw [if_neg (by simpa using q3)]
          refine ⟨_, rfl, ?_⟩
          rw [if_pos (by rfl)]
          rw [if_neg (fun z => q3 z.1)] at h
          exact h
      · rw [if_pos (by rw [len_i, decide_eq_false (by omega)]; rfl)]
        have e : lawNum t lo hi = none := by unfold lawNum; rw [q, decide_eq_false q2]; simp
        rw [e] at h
        exact h
    · rw [if_neg (by rw [len_i, decide_eq_true_eq]; omega)]
      refine ⟨_, rfl, ?_⟩
      rw [if_pos (by rfl)]
      have e : lawNum t lo hi = none := by unfold lawNum; rw [q, decide_eq_false q1]; simp
      rw [e] at h
      exact h
theorem lawNum_of {t : Str} {a b n : Int} (h : numIn t a b = some n) : lawNum t a b = some n := by
  unfold numIn at h
  split at h
  · rename_i hw
    unfold writesZ at hw
    simp only [Bool.and_eq_true] at hw
    unfold lawNum
    rw [if_pos (by simp only [Bool.and_eq_true]; exact ⟨hw.1, hw.2.1⟩)]
    exact h
  · cases h
theorem lawNum_range {t : Str} {a b n : Int} (h : lawNum t a b = some n) : a ≤ n ∧ n ≤ b := by
  unfold lawNum at h
  split at h
  · split at h
    · split at h
      · rename_i q
        cases h
        exact q
      · cases h
    · cases h
  · cases h
end K3
namespace K3
open PySem PySem.Spec PyProof.Rows L2 Sw Wd
variable {M : Mo}
theorem data_strs {H : Hp} {p : Addr} {ws : List Str} (n : Nat) (h : rd M H p = some (.lst (ws.map V.str))) : data M H (n + 1) (.ref p) = some (.list (ws.map PyData.str)) := by
  have e : ∀ l : List Str, allM (data M H n) (l.map V.str) = some (l.map PyData.str) := by
    intro l
    induction l with
    | nil => rfl
    | cons x r ih =>
      rw [List.map_cons, allM, ih]
      cases n <;> rfl
  unfold data
  rw [h]
  dsimp only
  rw [e]
  rfl
theorem eqv_strs : ∀ (a b : List Str), PyData.eqvAll (a.map PyData.str) (b.map PyData.str) = decide (a = b)
  | [], [] => rfl
  | [], _ :: _ => by simp [PyData.eqvAll]
  | _ :: _, [] => by simp [PyData.eqvAll]
  | x :: r, y :: s => by
    rw [List.map_cons, List.map_cons, PyData.eqvAll, eqv_strs r s, PyData.eqv, Bool.eq_iff_iff]
    simp
theorem met_list (ts : List Str) : PySem.Sg.metS (fun i => ts.getD i ⟨#[]⟩) ts.length = ts.foldl PySem.Sg.putIn [] := by
  unfold PySem.Sg.metS
  congr 1
  apply List.ext_getElem
  · simp
  · intro i h1 h2
    simp [h2]
theorem single_inj : ∀ {a b : List Nat}, a.map Wd.single = b.map Wd.single → a = b
  | [], [], _ => rfl
  | [], _ :: _, h => by simp at h
  | _ :: _, [], h => by simp at h
  | x :: r, y :: s, h => by
    rw [List.map_cons, List.map_cons, List.cons.injEq] at h
    have e : cps (Wd.single x) = cps (Wd.single y) := congrArg cps h.1
    have e : [x] = [y] := e
    rw [single_inj h.2]
    simpa using e
theorem rise_chars {t : Str} {ss : List Str} (hp : List.Perm ss ((chars t).foldl PySem.Sg.putIn [])) (hs : sortedS ss = true) : decide (chars t = ss) = rising (cps t) := by
  rw [← rise_join hp hs]
  have one : ∀ x ∈ ss, ∃ c, x = Wd.single c := fun x hx => by
    rcases (dd_mem _ _ _).mp (hp.mem_iff.mp hx) with z | z
    · simp at z
    · obtain ⟨c, _, rfl⟩ := List.mem_map.mp z
      exact ⟨c, rfl⟩
  have form : ∀ l : List Str, (∀ x ∈ l, ∃ c, x = Wd.single c) → ∃ k : List Nat, l = k.map Wd.single := by
    intro l
    induction l with
    | nil => intro _; exact ⟨[], rfl⟩
    | cons x r ih =>
      intro h
      obtain ⟨c, rfl⟩ := h x (by simp)
      obtain ⟨k, rfl⟩ := ih fun y hy => h y (by simp [hy])
      exact ⟨c :: k, rfl⟩
  obtain ⟨k, rfl⟩ := form ss one
  have ej : Txt.join (Str.ofString "") (k.map Wd.single) = ⟨k.toArray⟩ := by
    refine str_ext ?_
    rw [cps_join, show cps (Str.ofString "") = [] from rfl, joinL_nil, List.map_map]
    exact flat_single _
  rw [ej, Bool.eq_iff_iff]
  simp only [decide_eq_true_eq]
  refine ⟨fun z => str_ext ?_, fun z => ?_⟩
  · exact single_inj z
  · rw [z]; rfl
noncomputable def lawRise (t : Str) : Bool := (cps t).all (inRange 97 122) && rising (cps t)
noncomputable def spRising (M : Mo) : Sp := fun vs H Q _ => ∃ t, vs = [.str t] ∧ t.length ≤ 640 ∧ ∀ H', Ext M H H' → Q (.bl (lawRise t)) H'
theorem ok_rising {Γ : Gam} (hc : Γ.cm = true) (hM : Γ.mod = M) (vs : List V) (H : Hp) (Q : VK) (E : XK) (h : spRising M vs H Q E) : spOf Γ N__law_rising 1 b__law_rising vs H Q E := by
  obtain ⟨t, rfl, ht, h⟩ := h
  refine ⟨rfl, ?_⟩
  have hz : t.length ≤ sizeLine := small_640 ht
  subst hM
  unfold b__law_rising
  refine seq ?_
  dsimp only [Sw.wS, Sw.wE, Sw.wT, Sw.wEs, Sw.wTs, Sw.wI, Sw.wP, Sw.vars, L2.start, Sw.r_get0, Sw.r_getS, Sw.r_set0, Sw.r_setS, Sw.r_map0, Sw.r_mapS, Sw.r_app0, Sw.r_appS, Sw.r_len0, Sw.r_lenS, Sw.r_rep0, Sw.r_repS, Sw.r_join, Nat.reduceAdd, Nat.reduceSub]
  refine ⟨hc, hz, fun D hD mD => ?_⟩
  refine comp_filt (fun v => v) (fun v => match v with | .str x => inRange 97 122 (x.cps.getD 0 0) | _ => false) _ [] ?_ ?_ (fun _ => trivial) (by simpa [len_cps] using hz) ?_
  · intro v hv H1 Q1 q
    obtain ⟨c, hc, rfl⟩ := List.mem_map.mp hv
    show cmpV _ _ _ _ _ _
    simp only [Sw.v_les, a_codes, z_codes, le_chr]
    refine ⟨_, rfl, ?_⟩
    have q : Q1 (inRange 97 122 c) H1 := q
    by_cases q1 : 97 ≤ c
    · rw [if_pos (by simpa using q1)]
      refine ⟨_, rfl, ?_⟩
      have e : inRange 97 122 c = decide (c ≤ 122) := by unfold inRange; rw [decide_eq_true q1, Bool.true_and]
      rw [e] at q
      exact q
    · rw [if_neg (by simpa using q1)]
      refine ⟨_, rfl, ?_⟩
      have e : inRange 97 122 c = false := by unfold inRange; rw [decide_eq_false q1, Bool.false_and]
      rw [e] at q
      exact q
  · intro v hv H1 Q1 q
    exact q
  · have e1 : List.map (fun v => v) (List.filter (fun v => match v with | V.str x => inRange 97 122 (x.cps.getD 0 0) | _ => false) (List.map (fun c => V.str ⟨#[c]⟩) (cps t))) = (((cps t).filter (inRange 97 122)).map Wd.single).map V.str := by
      rw [List.filter_map, List.map_id', List.map_map]
      rfl
    rw [List.nil_append, e1]
    have x1 := Ext.upd (o := .lst ((((cps t).filter (inRange 97 122)).map Wd.single).map V.str)) hD mD
    have hr : rd Γ.mod (upd H D (.lst ((((cps t).filter (inRange 97 122)).map Wd.single).map V.str))) D = some (.lst ((((cps t).filter (inRange 97 122)).map Wd.single).map V.str)) := rd_upd (by intro _ _ z; cases z)
    generalize upd H D (.lst ((((cps t).filter (inRange 97 122)).map Wd.single).map V.str)) = H1 at x1 hr ⊢
    dsimp only [Sw.wSs, Sw.wS, Sw.wE, Sw.wT, Sw.wEs, Sw.wTs, Sw.wI, Sw.wP, Sw.vars, L2.start, Sw.r_get0, Sw.r_getS, Sw.r_set0, Sw.r_setS, Sw.r_map0, Sw.r_mapS, Sw.r_app0, Sw.r_appS, Sw.r_len0, Sw.r_lenS, Sw.r_rep0, Sw.r_repS, Sw.r_join, Nat.reduceAdd, Nat.reduceSub]
    rw [b_lenr, hr]
    dsimp only
    refine ⟨hc, hc, ?_⟩
    rw [b_lens]
    refine ⟨hz, ?_⟩
    rw [Sw.v_eqi, t_bl]
    by_cases q : (cps t).all (inRange 97 122) = true
    · have ef : (cps t).filter (inRange 97 122) = cps t := List.filter_eq_self.mpr fun c hc => List.all_eq_true.mp q c hc
      have ec : (cps t).map Wd.single = chars t := rfl
      rw [ef, ec] at hr ⊢
      have el : ((chars t).map V.str).length = t.length := by rw [List.length_map, len_cps]; unfold chars; rw [List.length_map]
      rw [if_pos (by rw [el]; simp)]
      refine ⟨hc, ?_⟩
      unfold ssetV
      dsimp only
      rw [hr]
      dsimp only
      rw [allM_strs]
      dsimp only
      have cl : (chars t).length = t.length := by rw [← el, List.length_map]
      have lt : ((chars t).foldl PySem.Sg.putIn []).length ≤ 26 := met_len (l := (List.range 26).map (· + 97)) (fun c hc => by
        have := List.all_eq_true.mp q c hc
        simp only [inRange, Bool.and_eq_true, decide_eq_true_eq] at this
        exact List.mem_map.mpr ⟨c - 97, by simp; omega, by omega⟩) (by simp)
      refine ⟨?_, ?_⟩
      · rw [cl]
        have : 641 < scanBound := by decide
        omega
      · rw [met_list]
        refine ⟨by omega, fun ss l hp hs hl ml => ?_⟩
        have x2 := Ext.upd (o := .lst (ss.map V.str)) hl ml
        have r1 := x2.rd hr
        have r2 : rd Γ.mod (upd H1 l (.lst (ss.map V.str))) l = some (.lst (ss.map V.str)) := rd_upd (by intro _ _ z; cases z)
        generalize upd H1 l (.lst (ss.map V.str)) = H2 at x2 r1 r2 ⊢
        unfold cmpV
        simp only [Sw.s_rr, Bool.false_eq_true, if_false]
        rw [data_strs 15 r1, data_strs 15 r2]
        dsimp only
        rw [PyData.eqv, eqv_strs, rise_chars hp hs]
        have := h H2 (x1.trans x2)
        unfold lawRise at this
        rw [q, Bool.true_and] at this
        exact this
    · have e : lawRise t = false := by unfold lawRise; rw [Bool.eq_false_iff.mpr q, Bool.false_and]
      rw [e] at h
      have ne : ((((cps t).filter (inRange 97 122)).map Wd.single).map V.str).length ≠ t.length := by
        rw [List.length_map, List.length_map, len_cps]
        intro z
        exact q (List.all_eq_true.mpr (List.filter_eq_self.mp (List.filter_sublist.eq_of_length z)))
      rw [if_neg (by rw [decide_eq_true_eq]; omega), decide_eq_false (by omega)]
      exact h H1 x1
noncomputable def lawSide : List Str → Option Side
  | [a, b, d] => if isGroup a = true then (match lawNum b 1 99 with | some n => if lawRise (if d = "-" then "" else d) = true then some ⟨a, n, if d = "-" then "" else d⟩ else none | none => none) else none
  | _ => none
noncomputable def GivesO (M : Mo) (o : Option Side) (H : Hp) (Q : VK) : Prop := match o with
  | some s => ∀ H' q, Ext M H H' → M q = none → H' q = some (.tup s.vs) → Q (.ref q) H'
  | none => ∀ H', Ext M H H' → Q .non H'
noncomputable def spSideOf (M : Mo) : Sp := fun vs H Q _ => ∃ (p : Addr) (ws : List Str), vs = [.ref p] ∧ rd M H p = some (.lst (ws.map V.str)) ∧ (∀ w ∈ ws, w.length ≤ 640) ∧ GivesO M (lawSide ws) H Q
structure L8 (Γ : Gam) (M : Mo) : Prop where
  cm : Γ.cm = true
  mod : Γ.mod = M
  nu : Γ.has "_law_number" = true ∧ Γ.fn "_law_number" = spLawNum
  ri : Γ.has "_law_rising" = true ∧ Γ.fn "_law_rising" = spRising M
theorem ok_side_of {Γ : Gam} (g : L8 Γ M) (vs : List V) (H : Hp) (Q : VK) (E : XK) (h : spSideOf M vs H Q E) : spOf Γ N__law_side_of 1 b__law_side_of vs H Q E := by
  obtain ⟨p, ws, rfl, hp, hw, h⟩ := h
  refine ⟨rfl, ?_⟩
  obtain rfl := g.mod
  unfold b__law_side_of
  refine seq ?_
  dsimp only [Sw.wS, Sw.wE, Sw.wT, Sw.wEs, Sw.wTs, Sw.wI, Sw.wP, Sw.vars, L2.start, Sw.r_get0, Sw.r_getS, Sw.r_set0, Sw.r_setS, Sw.r_map0, Sw.r_mapS, Sw.r_app0, Sw.r_appS, Sw.r_len0, Sw.r_lenS, Sw.r_rep0, Sw.r_repS, Sw.r_join, Nat.reduceAdd, Nat.reduceSub]
  rw [b_lenr, hp]
  dsimp only
  refine ⟨g.cm, ?_⟩
  rw [Sw.v_nei, List.length_map]
  refine ⟨_, rfl, ?_⟩
  by_cases q0 : ws.length = 3
  case neg =>
    have e : lawSide ws = none := by
      unfold lawSide
      split
      · exact absurd rfl q0
      · rfl
    rw [e] at h
    rw [if_pos (by simp; omega), if_pos (by first | rfl | trivial)]
    exact h H Ext.refl
  match ws, q0 with
  | [a, b, d], _ =>
  rw [if_neg (by simp)]
  simp only [List.map_cons, List.map_nil] at hp ⊢
  refine ix_at hp (v := .str a) rfl ⟨by decide, fun p1 hp1 mp1 => ?_⟩
  have x1 := Ext.upd (o := .lst [V.str (Str.ofString "O"), V.str (Str.ofString "A"), V.str (Str.ofString "B"), V.str (Str.ofString "AB")]) hp1 mp1
  have hr1 := x1.rd hp
  have hg : rd Γ.mod (upd H p1 (.lst [V.str (Str.ofString "O"), V.str (Str.ofString "A"), V.str (Str.ofString "B"), V.str (Str.ofString "AB")])) p1 = some (.lst groups) := rd_upd (by intro _ _ z; cases z)
  generalize upd H p1 (.lst [V.str (Str.ofString "O"), V.str (Str.ofString "A"), V.str (Str.ofString "B"), V.str (Str.ofString "AB")]) = H1 at x1 hr1 hg ⊢
  unfold cmpV
  dsimp only
  rw [hg]
  dsimp only
  refine ⟨rfl, rfl, _, rfl, ?_⟩
  have eg : inV (V.str a) groups = isGroup a := rfl
  rw [eg]
  unfold lawSide at h
  dsimp only at h
  by_cases q1 : isGroup a = true
  case neg =>
    rw [if_neg q1] at h
    rw [if_pos (by rw [Bool.eq_false_iff.mpr q1]; rfl)]
    exact h H1 x1
  rw [if_pos q1] at h
  rw [if_neg (by rw [q1]; decide)]
  refine seq0 ?_
  refine seq ?_
  dsimp only [Sw.wS, Sw.wE, Sw.wT, Sw.wEs, Sw.wTs, Sw.wI, Sw.wP, Sw.vars, L2.start, Sw.r_get0, Sw.r_getS, Sw.r_set0, Sw.r_setS, Sw.r_map0, Sw.r_mapS, Sw.r_app0, Sw.r_appS, Sw.r_len0, Sw.r_lenS, Sw.r_rep0, Sw.r_repS, Sw.r_join, Nat.reduceAdd, Nat.reduceSub]
  refine ix_at hr1 (v := .str d) rfl ?_
  refine seq ?_
  dsimp only [Sw.wS, Sw.wE, Sw.wT, Sw.wEs, Sw.wTs, Sw.wI, Sw.wP, Sw.vars, L2.start, Sw.r_get0, Sw.r_getS, Sw.r_set0, Sw.r_setS, Sw.r_map0, Sw.r_mapS, Sw.r_app0, Sw.r_appS, Sw.r_len0, Sw.r_lenS, Sw.r_rep0, Sw.r_repS, Sw.r_join, Nat.reduceAdd, Nat.reduceSub]
  rw [Sw.v_eqs]
  refine ⟨_, rfl, ?_⟩
  have rest : ∀ m : Str, m = (if d = ("-" : Str) then ("" : Str) else d) → wSs (.cons (.asg 2 (.call "_law_number" (.cons (.idx (.var 0) (.con (.int 1))) (.cons (.con (.int 1)) (.cons (.con (.int 99)) .nil)))))
     (.cons (.iff (.or (.cmp .Is (.var 2) (.con .non)) (.not (.call "_law_rising" (.cons (.var 1) .nil)))) (.cons (.ret (.con .non))
      .nil) .nil)
     (.cons (.ret (.tup (.cons (.idx (.var 0) (.con (.int 0))) (.cons (.var 2) (.cons (.var 1) .nil)))))
     .nil))) Γ (fun C d _ H' => E C d H') { nx := fun _ H' => Q .non H', rt := Q } [some (.ref p), some (.str m), none] H1 := by
    intro m em
    rw [← em] at h
    have hb : b.length ≤ 640 := hw b (by simp)
    have hm : m.length ≤ 640 := by
      rw [em]
      split
      · decide +kernel
      · exact hw d (by simp)
    refine seq ?_
    dsimp only [Sw.wS, Sw.wE, Sw.wT, Sw.wEs, Sw.wTs, Sw.wI, Sw.wP, Sw.vars, L2.start, Sw.r_get0, Sw.r_getS, Sw.r_set0, Sw.r_setS, Sw.r_map0, Sw.r_mapS, Sw.r_app0, Sw.r_appS, Sw.r_len0, Sw.r_lenS, Sw.r_rep0, Sw.r_repS, Sw.r_join, Nat.reduceAdd, Nat.reduceSub]
    refine ⟨⟨g.cm, g.nu.1⟩, ix_at hr1 (v := .str b) rfl ?_⟩
    rw [g.nu.2]
    refine ⟨b, 1, 99, rfl, hb, ?_⟩
    refine seq ?_
    dsimp only [Sw.wS, Sw.wE, Sw.wT, Sw.wEs, Sw.wTs, Sw.wI, Sw.wP, Sw.vars, L2.start, Sw.r_get0, Sw.r_getS, Sw.r_set0, Sw.r_setS, Sw.r_map0, Sw.r_mapS, Sw.r_app0, Sw.r_appS, Sw.r_len0, Sw.r_lenS, Sw.r_rep0, Sw.r_repS, Sw.r_join, Nat.reduceAdd, Nat.reduceSub]
    rw [Sw.v_is]
    refine ⟨_, rfl, ?_⟩
    cases qn : lawNum b 1 99 with
    | none =>
      rw [qn] at h
      rw [if_pos (by rfl), if_pos (by first | rfl | trivial)]
      exact h H1 x1
    | some n =>
      rw [qn] at h
      dsimp only at h
      rw [if_neg (show ¬ decide (optI (some n) = V.non) = true from by simp [optI]), g.ri.2]
      refine ⟨⟨g.cm, g.ri.1⟩, m, rfl, hm, fun H2 x2 => ?_⟩
      dsimp only
      rw [t_bl]
      by_cases qr : lawRise m = true
      · rw [if_pos qr] at h
        rw [if_neg (by rw [qr]; decide)]
        refine seq0 ?_
        dsimp only [Sw.wSs, Sw.wS, Sw.wE, Sw.wT, Sw.wEs, Sw.wTs, Sw.wI, Sw.wP, Sw.vars, L2.start, Sw.r_get0, Sw.r_getS, Sw.r_set0, Sw.r_setS, Sw.r_map0, Sw.r_mapS, Sw.r_app0, Sw.r_appS, Sw.r_len0, Sw.r_lenS, Sw.r_rep0, Sw.r_repS, Sw.r_join, Nat.reduceAdd, Nat.reduceSub]
        refine ix_at (x2.rd hr1) (v := .str a) rfl ⟨by decide, fun q hq mq => ?_⟩
        exact h _ q ((x1.trans x2).trans (Ext.upd hq mq)) mq upd_same
      · rw [if_neg qr] at h
        rw [if_pos (by rw [Bool.eq_false_iff.mpr qr]; rfl)]
        exact h H2 (x1.trans x2)
  by_cases q2 : d = "-"
  · rw [if_pos (decide_eq_true q2)]
    refine seq ?_
    dsimp only [Sw.wS, Sw.wE, Sw.wT, Sw.wEs, Sw.wTs, Sw.wI, Sw.wP, Sw.vars, L2.start, Sw.r_get0, Sw.r_getS, Sw.r_set0, Sw.r_setS, Sw.r_map0, Sw.r_mapS, Sw.r_app0, Sw.r_appS, Sw.r_len0, Sw.r_lenS, Sw.r_rep0, Sw.r_repS, Sw.r_join, Nat.reduceAdd, Nat.reduceSub]
    refine seq0 ?_
    exact rest _ (by rw [if_pos q2])
  · rw [if_neg (by simpa using q2)]
    refine seq0 ?_
    exact rest _ (by rw [if_neg q2])
end K3
namespace K3
open PySem PySem.Spec PyProof.Rows L2 Sw Wd
variable {M : Mo}
noncomputable def lawPre : List Str → Option Cpl
  | [a, b, r, d, e, f, _, m, i, j] => if 1 ≤ (cps a).length ∧ (cps a).length ≤ 8 then (if (cps a).all (inRange 97 122) = true then (match lawSide [d, e, f], lawSide [m, i, j], lawNum b 1 1000000, lawNum (Txt.slice r none (some (-1))) 0 1000000 with
    | some g, some t, some n, some k => some ⟨a, n, k, g, t⟩
    | _, _, _, _ => none) else none) else none
  | _ => none
theorem lawSide_ok {ws : List Str} {s : Side} (h : lawSide ws = some s) : s.Ok := by
  unfold lawSide at h
  split at h
  · rename_i a b d
    by_cases hg : isGroup a = true
    · rw [if_pos hg] at h
      cases hn : lawNum b 1 99 with
      | none => rw [hn] at h; cases h
      | some n =>
        rw [hn] at h
        dsimp only at h
        generalize (if d = ("-" : Str) then ("" : Str) else d) = m at h
        by_cases hr : lawRise m = true
        · rw [if_pos hr] at h
          cases h
          refine ⟨hg, lawNum_range hn, ?_⟩
          unfold lawRise at hr
          simp only [Bool.and_eq_true] at hr
          exact .inr ⟨hr.2, by rw [madeOf_letters]; exact hr.1⟩
        · rw [if_neg hr] at h; cases h
    · rw [if_neg hg] at h; cases h
  · cases h
theorem lawPre_ok {ws : List Str} {k : Cpl} (h : lawPre ws = some k) : k.Ok := by
  unfold lawPre at h
  split at h
  · split at h
    · rename_i hl
      split at h
      · rename_i ha
        split at h
        · rename_i g t n r h1 h2 h3 h4
          cases h
          refine ⟨?_, lawNum_range h3, lawNum_range h4, lawSide_ok h1, lawSide_ok h2⟩
          unfold isNameZ
          rw [ha, decide_eq_true hl.1, decide_eq_true hl.2]
          rfl
        · cases h
      · cases h
    · cases h
  · cases h
theorem side_pieces {s : Side} (h : s.Ok) : lawSide [s.g, Str.ofString (toString s.n), mkT s.m] = some s := by
  have e1 : lawNum (Str.ofString (toString s.n)) 1 99 = some s.n := lawNum_of (numIn_back (by have := h.n; omega) (by have := h.n; omega) h.n.1 h.n.2)
  have e2 : (if mkT s.m = ("-" : Str) then ("" : Str) else mkT s.m) = s.m := by
    unfold mkT
    by_cases q : s.m = ""
    · rw [if_pos q, if_pos rfl, q]
    · rw [if_neg q]
      have hm := h.m.resolve_left q
      rw [if_neg (fun z => by rw [z] at hm; exact absurd hm.2 (by decide +kernel))]
  have e3 : lawRise s.m = true := by
    rcases h.m with q | q
    · rw [q]; decide +kernel
    · unfold lawRise
      rw [q.1, Bool.and_true, ← madeOf_letters]
      exact q.2
  unfold lawSide
  dsimp only
  rw [if_pos h.g, e1]
  dsimp only
  rw [e2, if_pos e3]
theorem lawPre_pieces {k : Cpl} (h : k.Ok) : lawPre (pieces k) = some k := by
  have hn := h.name
  unfold isNameZ at hn
  simp only [Bool.and_eq_true, decide_eq_true_eq] at hn
  have e3 : lawNum (Str.ofString (toString k.need)) 1 1000000 = some k.need := lawNum_of (numIn_back (by have := h.need; omega) (by have := h.need; omega) h.need.1 h.need.2)
  have e4 : lawNum (Txt.slice (Str.ofString (toString k.rank) ++ Str.ofString ":") none (some (-1))) 0 1000000 = some k.rank := by
    rw [colon, slice_last]
    exact lawNum_of (numIn_back h.rank.1 (by have := h.rank; omega) h.rank.1 h.rank.2)
  unfold pieces lawPre
  dsimp only
  rw [if_pos hn.2, if_pos hn.1, side_pieces h.gv, side_pieces h.tk, e3, e4]
noncomputable def lawRead (t : Str) : Option Cpl := match lawPre (Txt.split t " ") with
  | some k => if showC k = t then some k else none
  | none => none
theorem lawRead_eq (t : Str) : lawRead t = readC t := by
  unfold lawRead
  cases q : readC t with
  | some k =>
    obtain ⟨ok, e⟩ := show_read q
    have es : Txt.split t " " = pieces k := by rw [e]; exact split_show ok
    rw [es, lawPre_pieces ok]
    dsimp only
    rw [if_pos e.symm]
  | none =>
    cases q2 : lawPre (Txt.split t " ") with
    | none => rfl
    | some k =>
      dsimp only
      rw [if_neg (fun z => by rw [← z, read_show (lawPre_ok q2)] at q; cases q)]
noncomputable def SideV (H : Hp) (o : Option Side) (v : V) : Prop := match o with
  | some s => ∃ q, v = .ref q ∧ H q = some (.tup s.vs)
  | none => v = .non
theorem gives_of {o : Option Side} {H : Hp} {Q : VK} (h : ∀ H' v, Ext M H H' → SideV H' o v → Q v H') : GivesO M o H Q := by
  unfold GivesO
  cases o with
  | none => exact fun H' x => h H' .non x rfl
  | some s => exact fun H' q x _ hq => h H' _ x ⟨q, rfl, hq⟩
theorem SideV.ext {H H' : Hp} {o : Option Side} {v : V} (h : SideV H o v) (x : Ext M H H') : SideV H' o v := by
  cases o with
  | none => exact h
  | some s =>
    obtain ⟨q, e, hq⟩ := h
    exact ⟨q, e, x.same _ _ hq⟩
noncomputable def GivesR (M : Mo) (o : Option Cpl) (H : Hp) (Q : VK) : Prop := match o with
  | some k => ∀ H' q, Ext M H H' → CplAt H' q k → Q (.ref q) H'
  | none => ∀ H', Ext M H H' → Q .non H'
noncomputable def spLawRead (M : Mo) : Sp := fun vs H Q _ => ∃ t, vs = [.str t] ∧ t.length ≤ 640 ∧ GivesR M (lawRead t) H Q
structure L9 (Γ : Gam) (M : Mo) : Prop where
  cm : Γ.cm = true
  mod : Γ.mod = M
  nu : Γ.has "_law_number" = true ∧ Γ.fn "_law_number" = spLawNum
  so : Γ.has "_law_side_of" = true ∧ Γ.fn "_law_side_of" = spSideOf M
  sh : Γ.has "_law_shown" = true ∧ Γ.fn "_law_shown" = spShowN M
theorem is_side {H : Hp} {o : Option Side} {v : V} (h : SideV H o v) : decide (v = .non) = o.isNone := by
  cases o with
  | none => rw [show v = .non from h]; rfl
  | some s => obtain ⟨q, rfl, _⟩ := h; rfl
theorem is_opt (o : Option Int) : decide (optI o = .non) = o.isNone := by
  cases o <;> rfl
theorem ok_lawRead {Γ : Gam} (g : L9 Γ M) (vs : List V) (H : Hp) (Q : VK) (E : XK) (h : spLawRead M vs H Q E) : spOf Γ N__law_read 1 b__law_read vs H Q E := by
  obtain ⟨t, rfl, ht, h⟩ := h
  refine ⟨rfl, ?_⟩
  obtain rfl := g.mod
  have hlen : ∀ p ∈ Txt.split t (Str.ofString " "), p.length ≤ 640 := fun p hp => by
    rw [blank] at hp
    have := (joinL_mem (g := [32]) hp).2
    rw [← split_joins t 32, ← len_cps, ← len_cps] at this
    omega
  have el : lawRead t = (match lawPre (Txt.split t (Str.ofString " ")) with | some k => if showC k = t then some k else none | none => none) := rfl
  rw [el] at h
  unfold b__law_read
  refine seq ?_
  dsimp only [Sw.wS, Sw.wE, Sw.wT, Sw.wEs, Sw.wTs, Sw.wI, Sw.wP, Sw.vars, L2.start, Sw.r_get0, Sw.r_getS, Sw.r_set0, Sw.r_setS, Sw.r_map0, Sw.r_mapS, Sw.r_app0, Sw.r_appS, Sw.r_len0, Sw.r_lenS, Sw.r_rep0, Sw.r_repS, Sw.r_join, Nat.reduceAdd, Nat.reduceSub]
  refine ⟨rfl, ?_⟩
  rw [m_split]
  refine ⟨rfl, by omega, fun l hl ml => ?_⟩
  generalize Txt.split t (Str.ofString " ") = ws at hlen h
  have x1 := Ext.upd (o := .lst (ws.map V.str)) hl ml
  have hr : rd Γ.mod (upd H l (.lst (ws.map V.str))) l = some (.lst (ws.map V.str)) := rd_upd (by intro _ _ z; cases z)
  generalize upd H l (.lst (ws.map V.str)) = H1 at x1 hr ⊢
  refine seq ?_
  dsimp only [Sw.wS, Sw.wE, Sw.wT, Sw.wEs, Sw.wTs, Sw.wI, Sw.wP, Sw.vars, L2.start, Sw.r_get0, Sw.r_getS, Sw.r_set0, Sw.r_setS, Sw.r_map0, Sw.r_mapS, Sw.r_app0, Sw.r_appS, Sw.r_len0, Sw.r_lenS, Sw.r_rep0, Sw.r_repS, Sw.r_join, Nat.reduceAdd, Nat.reduceSub]
  rw [b_lenr, hr]
  dsimp only
  refine ⟨g.cm, ?_⟩
  rw [Sw.v_nei, List.length_map]
  refine ⟨_, rfl, ?_⟩
  by_cases q0 : ws.length = 10
  case neg =>
    have e : lawPre ws = none := by
      unfold lawPre
      split
      · exact absurd rfl q0
      · rfl
    rw [e] at h
    rw [if_pos (by simp; omega), if_pos (by first | rfl | trivial)]
    exact h H1 x1
  obtain ⟨a, b, r, d, e, f, s, m, i, j, rfl⟩ := len10 q0
  rw [if_neg (by simp)]
  simp only [List.map_cons, List.map_nil] at hr ⊢
  have la := hlen a (by simp)
  have lb := hlen b (by simp)
  have lr := hlen r (by simp)
  refine ⟨g.cm, ix_at hr (v := .str a) rfl ?_⟩
  rw [b_lens]
  refine ⟨small_640 la, ?_⟩
  rw [Sw.v_le]
  refine ⟨_, rfl, ?_⟩
  unfold lawPre at h
  dsimp only at h
  by_cases q1 : 1 ≤ (cps a).length ∧ (cps a).length ≤ 8
  case neg =>
    rw [if_neg q1] at h
    by_cases q2 : 1 ≤ (cps a).length
    · rw [if_pos (by rw [len_i, decide_eq_true_eq]; omega), Sw.v_le]
      refine ⟨_, rfl, ?_⟩
      rw [if_pos (by rw [len_i, decide_eq_false (by omega)]; rfl)]
      exact h H1 x1
    · rw [if_neg (by rw [len_i, decide_eq_true_eq]; omega)]
      refine ⟨_, rfl, ?_⟩
      rw [if_pos (by rfl)]
      exact h H1 x1
  rw [if_pos q1] at h
  rw [if_pos (by rw [len_i, decide_eq_true_eq]; omega), Sw.v_le]
  refine ⟨_, rfl, ?_⟩
  rw [if_neg (by rw [len_i, decide_eq_true (by omega)]; decide)]
  refine seq0 ?_
  refine seq ?_
  dsimp only [Sw.wS, Sw.wE, Sw.wT, Sw.wEs, Sw.wTs, Sw.wI, Sw.wP, Sw.vars, L2.start, Sw.r_get0, Sw.r_getS, Sw.r_set0, Sw.r_setS, Sw.r_map0, Sw.r_mapS, Sw.r_app0, Sw.r_appS, Sw.r_len0, Sw.r_lenS, Sw.r_rep0, Sw.r_repS, Sw.r_join, Nat.reduceAdd, Nat.reduceSub]
  refine ⟨g.cm, ix_at hr (v := .str a) rfl ⟨small_640 la, ?_⟩⟩
  refine sign_loop a_codes z_codes (by simp) trivial (fun q => ?_) fun q v => ?_
  · rw [if_neg (by rw [q]; decide)] at h
    exact h H1 x1
  rw [if_pos q] at h
  simp only [List.set_cons_succ, List.set_cons_zero]
  refine seq ?_
  dsimp only [Sw.wS, Sw.wE, Sw.wT, Sw.wEs, Sw.wTs, Sw.wI, Sw.wP, Sw.vars, L2.start, Sw.r_get0, Sw.r_getS, Sw.r_set0, Sw.r_setS, Sw.r_map0, Sw.r_mapS, Sw.r_app0, Sw.r_appS, Sw.r_len0, Sw.r_lenS, Sw.r_rep0, Sw.r_repS, Sw.r_join, Nat.reduceAdd, Nat.reduceSub]
  rw [g.so.2]
  refine ⟨⟨g.cm, g.so.1⟩, sl_at hr (ys := [.str d, .str e, .str f]) rfl fun l1 hl1 ml1 => ?_⟩
  have y1 := Ext.upd (o := .lst [.str d, .str e, .str f]) hl1 ml1
  refine ⟨l1, [d, e, f], rfl, rd_upd (by intro _ _ z; cases z), fun w hw => hlen w (by
    simp only [List.mem_cons, List.not_mem_nil, or_false] at hw ⊢
    rcases hw with rfl | rfl | rfl <;> simp), gives_of fun H2 v1 y2 sv1 => ?_⟩
  have z2 := y1.trans y2
  refine ⟨⟨g.cm, g.so.1⟩, sl_at (z2.rd hr) (ys := [.str m, .str i, .str j]) rfl fun l2 hl2 ml2 => ?_⟩
  have y3 := Ext.upd (o := .lst [.str m, .str i, .str j]) hl2 ml2
  refine ⟨l2, [m, i, j], rfl, rd_upd (by intro _ _ z; cases z), fun w hw => hlen w (by
    simp only [List.mem_cons, List.not_mem_nil, or_false] at hw ⊢
    rcases hw with rfl | rfl | rfl <;> simp), gives_of fun H3 v2 y4 sv2 => ?_⟩
  have sv1 := (sv1.ext y3).ext y4
  have z4 := (z2.trans y3).trans y4
  refine ⟨by decide, fun l3 hl3 ml3 => ?_⟩
  have y5 := Ext.upd (o := .lst [v1, v2]) hl3 ml3
  have sv1 := sv1.ext y5
  have sv2 := sv2.ext y5
  have z5 := z4.trans y5
  have hs : rd Γ.mod (upd H3 l3 (.lst [v1, v2])) l3 = some (.lst [v1, v2]) := rd_upd (by intro _ _ z; cases z)
  have hr5 := z5.rd hr
  have x5 := x1.trans z5
  generalize upd H3 l3 (.lst [v1, v2]) = H5 at sv1 sv2 hs hr5 x5 ⊢
  refine seq ?_
  dsimp only [Sw.wS, Sw.wE, Sw.wT, Sw.wEs, Sw.wTs, Sw.wI, Sw.wP, Sw.vars, L2.start, Sw.r_get0, Sw.r_getS, Sw.r_set0, Sw.r_setS, Sw.r_map0, Sw.r_mapS, Sw.r_app0, Sw.r_appS, Sw.r_len0, Sw.r_lenS, Sw.r_rep0, Sw.r_repS, Sw.r_join, Nat.reduceAdd, Nat.reduceSub]
  rw [g.nu.2]
  refine ⟨⟨g.cm, g.nu.1⟩, ix_at hr5 (v := .str b) rfl ?_⟩
  rw [Sw.v_pow]
  refine ⟨by unfold CPow; decide, b, 1, _, rfl, lb, ?_⟩
  refine seq ?_
  dsimp only [Sw.wS, Sw.wE, Sw.wT, Sw.wEs, Sw.wTs, Sw.wI, Sw.wP, Sw.vars, L2.start, Sw.r_get0, Sw.r_getS, Sw.r_set0, Sw.r_setS, Sw.r_map0, Sw.r_mapS, Sw.r_app0, Sw.r_appS, Sw.r_len0, Sw.r_lenS, Sw.r_rep0, Sw.r_repS, Sw.r_join, Nat.reduceAdd, Nat.reduceSub]
  rw [g.nu.2]
  refine ⟨⟨g.cm, g.nu.1⟩, ix_at hr5 (v := .str r) rfl ?_⟩
  rw [s_str]
  refine ⟨small_640 lr, ?_⟩
  rw [Sw.v_pow]
  refine ⟨by unfold CPow; decide, _, 0, _, rfl, Nat.le_trans (Txt.slice_le _ _ _) lr, ?_⟩
  have e6 : (10 : Int) ^ (6 : Int).toNat = 1000000 := by decide
  rw [e6]
  refine seq ?_
  dsimp only [Sw.wS, Sw.wE, Sw.wT, Sw.wEs, Sw.wTs, Sw.wI, Sw.wP, Sw.vars, L2.start, Sw.r_get0, Sw.r_getS, Sw.r_set0, Sw.r_setS, Sw.r_map0, Sw.r_mapS, Sw.r_app0, Sw.r_appS, Sw.r_len0, Sw.r_lenS, Sw.r_rep0, Sw.r_repS, Sw.r_join, Nat.reduceAdd, Nat.reduceSub]
  refine ix_at hs (v := v1) rfl ?_
  rw [Sw.v_is, is_side sv1]
  refine ⟨_, rfl, ?_⟩
  cases o1 : lawSide [d, e, f] with
  | none =>
    rw [if_pos (by rfl), if_pos (by first | rfl | trivial)]
    rw [o1] at h
    exact h H5 x5
  | some s1 =>
  rw [if_neg (by exact Bool.false_ne_true)]
  refine ix_at hs (v := v2) rfl ?_
  rw [Sw.v_is, is_side sv2]
  refine ⟨_, rfl, ?_⟩
  cases o2 : lawSide [m, i, j] with
  | none =>
    rw [if_pos (by rfl), if_pos (by first | rfl | trivial)]
    rw [o1, o2] at h
    exact h H5 x5
  | some s2 =>
  rw [if_neg (by exact Bool.false_ne_true), Sw.v_is, is_opt]
  refine ⟨_, rfl, ?_⟩
  cases o3 : lawNum b 1 1000000 with
  | none =>
    rw [if_pos (by rfl), if_pos (by first | rfl | trivial)]
    rw [o1, o2, o3] at h
    exact h H5 x5
  | some n =>
  rw [if_neg (by exact Bool.false_ne_true), Sw.v_is, is_opt]
  refine ⟨_, rfl, ?_⟩
  cases o4 : lawNum (Txt.slice r none (some (-1))) 0 1000000 with
  | none =>
    rw [if_pos (by rfl)]
    rw [o1, o2, o3, o4] at h
    exact h H5 x5
  | some k =>
  rw [if_neg (by exact Bool.false_ne_true)]
  rw [o1, o2, o3, o4] at h
  rw [o1] at sv1
  rw [o2] at sv2
  obtain ⟨q1', rfl, hq1⟩ := sv1
  obtain ⟨q2', rfl, hq2⟩ := sv2
  have okk : (⟨a, n, k, s1, s2⟩ : Cpl).Ok := by
    refine ⟨?_, lawNum_range o3, lawNum_range o4, lawSide_ok o1, lawSide_ok o2⟩
    unfold isNameZ
    rw [q, decide_eq_true q1.1, decide_eq_true q1.2]
    rfl
  dsimp only at h
  refine seq0 ?_
  refine seq ?_
  dsimp only [Sw.wS, Sw.wE, Sw.wT, Sw.wEs, Sw.wTs, Sw.wI, Sw.wP, Sw.vars, L2.start, Sw.r_get0, Sw.r_getS, Sw.r_set0, Sw.r_setS, Sw.r_map0, Sw.r_mapS, Sw.r_app0, Sw.r_appS, Sw.r_len0, Sw.r_lenS, Sw.r_rep0, Sw.r_repS, Sw.r_join, Nat.reduceAdd, Nat.reduceSub]
  refine ix_at hr5 (v := .str a) rfl (ix_at hs (v := .ref q1') rfl (ix_at hs (v := .ref q2') rfl ⟨by decide, fun p hp mp => ?_⟩))
  have y6 := Ext.upd (o := .tup [.str a, .int n, .int k, .ref q1', .ref q2']) hp mp
  have cp : CplAt (upd H5 p (.tup [.str a, .int n, .int k, .ref q1', .ref q2'])) p ⟨a, n, k, s1, s2⟩ := ⟨q1', q2', upd_same, y6.same _ _ hq1, y6.same _ _ hq2⟩
  refine seq ?_
  dsimp only [Sw.wS, Sw.wE, Sw.wT, Sw.wEs, Sw.wTs, Sw.wI, Sw.wP, Sw.vars, L2.start, Sw.r_get0, Sw.r_getS, Sw.r_set0, Sw.r_setS, Sw.r_map0, Sw.r_mapS, Sw.r_app0, Sw.r_appS, Sw.r_len0, Sw.r_lenS, Sw.r_rep0, Sw.r_repS, Sw.r_join, Nat.reduceAdd, Nat.reduceSub]
  rw [g.sh.2]
  refine ⟨⟨g.cm, g.sh.1⟩, p, ⟨a, n, k, s1, s2⟩, rfl, okk.near, cp, fun H7 y7 => ?_⟩
  dsimp only
  rw [Sw.v_nes]
  refine ⟨_, rfl, ?_⟩
  by_cases qe : showC ⟨a, n, k, s1, s2⟩ = t
  · rw [if_pos qe] at h
    rw [if_neg (by rw [decide_eq_true qe]; decide)]
    refine seq0 ?_
    dsimp only [Sw.wSs, Sw.wS, Sw.wE, Sw.wT, Sw.wEs, Sw.wTs, Sw.wI, Sw.wP, Sw.vars, L2.start, Sw.r_get0, Sw.r_getS, Sw.r_set0, Sw.r_setS, Sw.r_map0, Sw.r_mapS, Sw.r_app0, Sw.r_appS, Sw.r_len0, Sw.r_lenS, Sw.r_rep0, Sw.r_repS, Sw.r_join, Nat.reduceAdd, Nat.reduceSub]
    obtain ⟨c1, c2, h1, h2, h3⟩ := cp
    exact h H7 p (x5.trans (y6.trans y7)) ⟨c1, c2, y7.same _ _ h1, y7.same _ _ h2, y7.same _ _ h3⟩
  · rw [if_neg qe] at h
    rw [if_pos (by rw [decide_eq_false qe]; rfl)]
    exact h H7 (x5.trans (y6.trans y7))
end K3
namespace K3
open PySem PySem.Spec PyProof.Rows L2 Sw Wd
variable {M : Mo}
noncomputable def spCell (M : Mo) : Sp := fun vs H Q _ => ∃ (a : Addr) (ns : List Int) (k : Int), vs = [.ref a, .int k] ∧ rd M H a = some (.lst (ns.map V.int)) ∧ 0 ≤ k ∧ ∀ i : Int, Q (.int i) H
theorem ok_cell {Γ : Gam} (hc : Γ.cm = true) (hM : Γ.mod = M) (vs : List V) (H : Hp) (Q : VK) (E : XK) (h : spCell M vs H Q E) : spOf Γ N__law_cell 2 b__law_cell vs H Q E := by
  subst hM
  obtain ⟨a, ns, k, rfl, ha, h0, h⟩ := h
  refine ⟨rfl, ?_⟩
  unfold b__law_cell
  dsimp only [Sw.wSs, Sw.wS, Sw.wE, Sw.wT, Sw.wEs, Sw.wTs, Sw.wI, Sw.wP, Sw.vars, L2.start, Sw.r_get0, Sw.r_getS, Sw.r_set0, Sw.r_setS, Sw.r_map0, Sw.r_mapS, Sw.r_app0, Sw.r_appS, Sw.r_len0, Sw.r_lenS, Sw.r_rep0, Sw.r_repS, Sw.r_join, Nat.reduceAdd, Nat.reduceSub]
  refine ⟨hc, ?_⟩
  simp only [Sw.b_lenr, ha, Sw.v_lt, List.length_map]
  refine ⟨_, rfl, ?_⟩
  by_cases hk : k < (ns.length : Int)
  · rw [if_pos (by simpa using hk)]
    simp only [idxV, ha]
    obtain ⟨v, e, e2⟩ := atI_some (xs := ns.map V.int) (i := k) h0 (by rw [List.length_map]; exact hk)
    rw [List.getElem?_map] at e2
    obtain ⟨i, _, rfl⟩ := Option.map_eq_some_iff.mp e2
    rw [e]
    exact h i
  · rw [if_neg (by simpa using hk)]
    exact h 0
noncomputable def spEnds (M : Mo) : Sp := fun vs H Q _ => ∃ (p : Addr) (k : Cpl) (c : Int), vs = [.ref p, .int c] ∧ k.Ok ∧ CplAt H p k ∧ ∀ (k' : Cpl) H' q, k'.Ok → Ext M H H' → CplAt H' q k' → Q (.ref q) H'
theorem pick2 {a b : Int} {i : Int} (h0 : 0 ≤ i) (h1 : i < 2) : ∃ n, atI [V.int a, V.int b] i = some (.int n) ∧ (n = a ∨ n = b) := by
  have : i = 0 ∨ i = 1 := by omega
  rcases this with rfl | rfl
  · exact ⟨a, rfl, .inl rfl⟩
  · exact ⟨b, rfl, .inr rfl⟩
theorem ok_ends {Γ : Gam} (hc : Γ.cm = true) (hM : Γ.mod = M) (vs : List V) (H : Hp) (Q : VK) (E : XK) (h : spEnds M vs H Q E) : spOf Γ N__law_ends 2 b__law_ends vs H Q E := by
  obtain ⟨p, k, c, rfl, ok, ⟨q1, q2, hp, hq1, hq2⟩, h⟩ := h
  refine ⟨rfl, ?_⟩
  subst hM
  have hr := rd_of (M := Γ.mod) hp
  unfold b__law_ends
  refine seq ?_
  dsimp only [Sw.wS, Sw.wE, Sw.wT, Sw.wEs, Sw.wTs, Sw.wI, Sw.wP, Sw.vars, L2.start, Sw.r_get0, Sw.r_getS, Sw.r_set0, Sw.r_setS, Sw.r_map0, Sw.r_mapS, Sw.r_app0, Sw.r_appS, Sw.r_len0, Sw.r_lenS, Sw.r_rep0, Sw.r_repS, Sw.r_join, Nat.reduceAdd, Nat.reduceSub]
  rw [hr]
  refine ⟨hc, rfl, ?_⟩
  simp only [setAll, List.set_cons_zero, List.set_cons_succ]
  refine seq ?_
  dsimp only [Sw.wS, Sw.wE, Sw.wT, Sw.wEs, Sw.wTs, Sw.wI, Sw.wP, Sw.vars, L2.start, Sw.r_get0, Sw.r_getS, Sw.r_set0, Sw.r_setS, Sw.r_map0, Sw.r_mapS, Sw.r_app0, Sw.r_appS, Sw.r_len0, Sw.r_lenS, Sw.r_rep0, Sw.r_repS, Sw.r_join, Nat.reduceAdd, Nat.reduceSub]
  rw [Sw.v_mod]
  refine ⟨by decide, ?_⟩
  rw [Sw.v_eqi]
  refine ⟨_, rfl, ?_⟩
  by_cases q : c % 3 = 1
  · rw [if_pos (decide_eq_true q)]
    refine seq ?_
    dsimp only [Sw.wS, Sw.wE, Sw.wT, Sw.wEs, Sw.wTs, Sw.wI, Sw.wP, Sw.vars, L2.start, Sw.r_get0, Sw.r_getS, Sw.r_set0, Sw.r_setS, Sw.r_map0, Sw.r_mapS, Sw.r_app0, Sw.r_appS, Sw.r_len0, Sw.r_lenS, Sw.r_rep0, Sw.r_repS, Sw.r_join, Nat.reduceAdd, Nat.reduceSub]
    rw [Sw.v_pow]
    refine ⟨by unfold CPow; decide, by decide, fun p1 hp1 mp1 => ?_⟩
    have e6 : (10 : Int) ^ (6 : Int).toNat = 1000000 := by decide
    rw [e6, Sw.v_div]
    refine ⟨by decide, by decide, ?_⟩
    rw [Sw.v_mod]
    refine ⟨by decide, ?_⟩
    have x1 := Ext.upd (o := .lst [V.int 1, V.int 1000000]) hp1 mp1
    obtain ⟨need, e1, hneed⟩ := pick2 (a := 1) (b := 1000000) (i := c / 3 % 2) (Int.emod_nonneg _ (by decide)) (Int.emod_lt_of_pos _ (by decide))
    refine ix_at (rd_upd (by intro _ _ z; cases z)) e1 ?_
    refine seq ?_
    dsimp only [Sw.wS, Sw.wE, Sw.wT, Sw.wEs, Sw.wTs, Sw.wI, Sw.wP, Sw.vars, L2.start, Sw.r_get0, Sw.r_getS, Sw.r_set0, Sw.r_setS, Sw.r_map0, Sw.r_mapS, Sw.r_app0, Sw.r_appS, Sw.r_len0, Sw.r_lenS, Sw.r_rep0, Sw.r_repS, Sw.r_join, Nat.reduceAdd, Nat.reduceSub]
    rw [Sw.v_pow]
    refine ⟨by unfold CPow; decide, by decide, fun p2 hp2 mp2 => ?_⟩
    rw [e6, Sw.v_div]
    refine ⟨by decide, by decide, ?_⟩
    rw [Sw.v_mod]
    refine ⟨by decide, ?_⟩
    have x2 := Ext.upd (o := .lst [V.int 0, V.int 1000000]) hp2 mp2
    obtain ⟨rank, e2, hrank⟩ := pick2 (a := 0) (b := 1000000) (i := c / 6 % 2) (Int.emod_nonneg _ (by decide)) (Int.emod_lt_of_pos _ (by decide))
    refine ix_at (rd_upd (by intro _ _ z; cases z)) e2 ?_
    have x2 := x1.trans x2
    have hg := x2.same _ _ hq1
    have ht := x2.same _ _ hq2
    generalize upd (upd H p1 (.lst [V.int 1, V.int 1000000])) p2 (.lst [V.int 0, V.int 1000000]) = H2 at x2 hg ht ⊢
    have hgr := rd_of (M := Γ.mod) hg
    refine seq ?_
    dsimp only [Sw.wS, Sw.wE, Sw.wT, Sw.wEs, Sw.wTs, Sw.wI, Sw.wP, Sw.vars, L2.start, Sw.r_get0, Sw.r_getS, Sw.r_set0, Sw.r_setS, Sw.r_map0, Sw.r_mapS, Sw.r_app0, Sw.r_appS, Sw.r_len0, Sw.r_lenS, Sw.r_rep0, Sw.r_repS, Sw.r_join, Nat.reduceAdd, Nat.reduceSub]
    refine ix_tup hgr (v := .str k.gv.g) rfl ⟨by decide, fun p3 hp3 mp3 => ?_⟩
    rw [Sw.v_div]
    refine ⟨by decide, by decide, ?_⟩
    rw [Sw.v_mod]
    refine ⟨by decide, ?_⟩
    have x3 := Ext.upd (o := .lst [V.int 1, V.int 99]) hp3 mp3
    obtain ⟨size, e3, hsize⟩ := pick2 (a := 1) (b := 99) (i := c / 12 % 2) (Int.emod_nonneg _ (by decide)) (Int.emod_lt_of_pos _ (by decide))
    refine ix_at (rd_upd (by intro _ _ z; cases z)) e3 ?_
    refine ix_tup (x3.rd hgr) (v := .str k.gv.m) rfl ⟨by decide, fun p4 hp4 mp4 => ?_⟩
    have x4 := Ext.upd (o := .tup [.str k.gv.g, .int size, .str k.gv.m]) hp4 mp4
    refine seq0 ?_
    dsimp only [Sw.wSs, Sw.wS, Sw.wE, Sw.wT, Sw.wEs, Sw.wTs, Sw.wI, Sw.wP, Sw.vars, L2.start, Sw.r_get0, Sw.r_getS, Sw.r_set0, Sw.r_setS, Sw.r_map0, Sw.r_mapS, Sw.r_app0, Sw.r_appS, Sw.r_len0, Sw.r_lenS, Sw.r_rep0, Sw.r_repS, Sw.r_join, Nat.reduceAdd, Nat.reduceSub]
    refine ⟨by decide, fun p5 hp5 mp5 => ?_⟩
    have x5 := Ext.upd (o := .tup [.str k.name, .int need, .int rank, .ref p4, .ref q2]) hp5 mp5
    refine h ⟨k.name, need, rank, ⟨k.gv.g, size, k.gv.m⟩, k.tk⟩ _ p5 ⟨ok.name, ?_, ?_, ⟨ok.gv.g, ?_, ok.gv.m⟩, ok.tk⟩ (((x2.trans x3).trans x4).trans x5) ⟨p4, q2, upd_same, x5.same _ _ upd_same, x5.same _ _ (x4.same _ _ (x3.same _ _ ht))⟩
    · show 1 ≤ need ∧ need ≤ 1000000
      omega
    · show 0 ≤ rank ∧ rank ≤ 1000000
      omega
    · show 1 ≤ size ∧ size ≤ 99
      omega
  · rw [if_neg (by simpa using q)]
    refine seq0 ?_
    dsimp only [Sw.wSs, Sw.wS, Sw.wE, Sw.wT, Sw.wEs, Sw.wTs, Sw.wI, Sw.wP, Sw.vars, L2.start, Sw.r_get0, Sw.r_getS, Sw.r_set0, Sw.r_setS, Sw.r_map0, Sw.r_mapS, Sw.r_app0, Sw.r_appS, Sw.r_len0, Sw.r_lenS, Sw.r_rep0, Sw.r_repS, Sw.r_join, Nat.reduceAdd, Nat.reduceSub]
    refine ⟨by decide, fun p5 hp5 mp5 => ?_⟩
    have x5 := Ext.upd (o := .tup [.str k.name, .int k.need, .int k.rank, .ref q1, .ref q2]) hp5 mp5
    exact h k _ p5 ok x5 ⟨q1, q2, upd_same, x5.same _ _ hq1, x5.same _ _ hq2⟩
noncomputable def GivesT (M : Mo) (t : Str) (o : Option Cpl) (H : Hp) (Q : VK) : Prop := match o with
  | some k => ∀ H' p q, Ext M H H' → H' p = some (.tup [.ref q, .non]) → CplAt H' q k → Q (.ref p) H'
  | none => ∀ H' p q, Ext M H H' → H' p = some (.tup [.non, .ref q]) → H' q = some (.tup [.str t, .bl true, .bl true, .bl false]) → Q (.ref p) H'
noncomputable def spTold (M : Mo) : Sp := fun vs H Q _ => ∃ t, vs = [.str t] ∧ OffM M H ∧ Good t ∧ GivesT M t (readC t) H Q
structure L10 (Γ : Gam) (M : Mo) (c : Addr) : Prop where
  cm : Γ.cm = true
  mod : Γ.mod = M
  rc : Γ.has "read_couple" = true ∧ Γ.fn "read_couple" = spReadC M c
  cat : Γ.cat "NoRow" = true
  s1 : Γ.sub c "NoRow" = some true
  s2 : Γ.sub c "SwapError" = some true
  s3 : Γ.sub c "ValueError" = some true
  s4 : Γ.sub c "NoSwap" = some false
  fo : Γ.fo c "row" = true
theorem ok_told {Γ : Gam} {c : Addr} (g : L10 Γ M c) (vs : List V) (H : Hp) (Q : VK) (E : XK) (h : spTold M vs H Q E) : spOf Γ N__law_told 1 b__law_told vs H Q E := by
  obtain ⟨t, rfl, off, ⟨⟨cc, hcc⟩, hl⟩, h⟩ := h
  refine ⟨rfl, ?_⟩
  obtain rfl := g.mod
  unfold b__law_told
  refine seq ?_
  dsimp only [Sw.wS, Sw.wE, Sw.wT, Sw.wEs, Sw.wTs, Sw.wI, Sw.wP, Sw.vars, L2.start, Sw.r_get0, Sw.r_getS, Sw.r_set0, Sw.r_setS, Sw.r_map0, Sw.r_mapS, Sw.r_app0, Sw.r_appS, Sw.r_len0, Sw.r_lenS, Sw.r_rep0, Sw.r_repS, Sw.r_join, Nat.reduceAdd, Nat.reduceSub]
  refine seq ?_
  dsimp only [Sw.wS, Sw.wE, Sw.wT, Sw.wEs, Sw.wTs, Sw.wI, Sw.wP, Sw.vars, L2.start, Sw.r_get0, Sw.r_getS, Sw.r_set0, Sw.r_setS, Sw.r_map0, Sw.r_mapS, Sw.r_app0, Sw.r_appS, Sw.r_len0, Sw.r_lenS, Sw.r_rep0, Sw.r_repS, Sw.r_join, Nat.reduceAdd, Nat.reduceSub]
  refine seq ?_
  dsimp only [Sw.wS, Sw.wE, Sw.wT, Sw.wEs, Sw.wTs, Sw.wI, Sw.wP, Sw.vars, L2.start, Sw.r_get0, Sw.r_getS, Sw.r_set0, Sw.r_setS, Sw.r_map0, Sw.r_mapS, Sw.r_app0, Sw.r_appS, Sw.r_len0, Sw.r_lenS, Sw.r_rep0, Sw.r_repS, Sw.r_join, Nat.reduceAdd, Nat.reduceSub]
  refine ⟨g.cm, g.cat, ?_⟩
  refine seq ?_
  dsimp only [Sw.wS, Sw.wE, Sw.wT, Sw.wEs, Sw.wTs, Sw.wI, Sw.wP, Sw.vars, L2.start, Sw.r_get0, Sw.r_getS, Sw.r_set0, Sw.r_setS, Sw.r_map0, Sw.r_mapS, Sw.r_app0, Sw.r_appS, Sw.r_len0, Sw.r_lenS, Sw.r_rep0, Sw.r_repS, Sw.r_join, Nat.reduceAdd, Nat.reduceSub]
  rw [g.rc.2]
  refine ⟨⟨g.cm, g.rc.1⟩, t, rfl, off, hl, split_ok hl hcc, ?_⟩
  cases q : readC t with
  | some k =>
    rw [q] at h
    intro H1 p x1 mp hp
    refine seq0 ?_
    dsimp only [Sw.wSs, Sw.wS, Sw.wE, Sw.wT, Sw.wEs, Sw.wTs, Sw.wI, Sw.wP, Sw.vars, L2.start, Sw.r_get0, Sw.r_getS, Sw.r_set0, Sw.r_setS, Sw.r_map0, Sw.r_mapS, Sw.r_app0, Sw.r_appS, Sw.r_len0, Sw.r_lenS, Sw.r_rep0, Sw.r_repS, Sw.r_join, Nat.reduceAdd, Nat.reduceSub]
    refine ⟨by decide, fun p2 hp2 mp2 => ?_⟩
    have x2 := Ext.upd (o := .tup [.ref p, .non]) hp2 mp2
    obtain ⟨c1, c2, h1, h2, h3⟩ := hp
    exact h _ p2 p (x1.trans x2) upd_same ⟨c1, c2, x2.same _ _ h1, x2.same _ _ h2, x2.same _ _ h3⟩
  | none =>
    rw [q] at h
    intro H' d x hd
    show handW _ _ _ _ _ (rawInt c) (some d) _ H'
    unfold handW rawInt
    dsimp only
    rw [Int.toNat_natCast, if_pos (by rw [g.s1]; rfl)]
    intro e he me
    have hde : d ≠ e := ne_of_none hd he
    have h1 : upd H' e (.exo c (some d)) e = some (.exo c (some d)) := upd_same
    have h2 : upd H' e (.exo c (some d)) d = some (.xd [(("row" : Str), .str t)]) := by rw [upd_ne hde]; exact hd
    have x2 : Ext Γ.mod H (upd H' e (.exo c (some d))) := x.trans (Ext.upd he me)
    generalize upd H' e (.exo c (some d)) = H2 at h1 h2 x2 ⊢
    have e1 : Γ.hush.fo c "row" = true := g.fo
    have e2 : Γ.hush.sub c "SwapError" = some true := g.s2
    have e3 : Γ.hush.sub c "ValueError" = some true := g.s3
    have e4 : Γ.hush.sub c "NoSwap" = some false := g.s4
    have e5 : Γ.hush.mod = Γ.mod := rfl
    have e6 : List.lookup (Str.ofString "row") [((Str.ofString "row"), V.str t)] = some (.str t) := by simp [List.lookup]
    have e7 : hasXd H2 (some d) = true := by unfold hasXd; dsimp only; rw [h2]
    dsimp only [Sw.wSs, Sw.wS, Sw.wE, Sw.wT, Sw.wEs, Sw.wTs, Sw.wI, Sw.wP, Sw.vars, L2.start, Sw.r_get0, Sw.r_getS, Sw.r_set0, Sw.r_setS, Sw.r_map0, Sw.r_mapS, Sw.r_app0, Sw.r_appS, Sw.r_len0, Sw.r_lenS, Sw.r_rep0, Sw.r_repS, Sw.r_join, Nat.reduceAdd, Nat.reduceSub]
    simp only [h1, h2, e1, e2, e3, e4, e5, e6, e7, true_and]
    refine ⟨by decide, fun p hp mp => ?_⟩
    have x3 := Ext.upd (o := .tup [.str t, .bl true, .bl true, .bl false]) hp mp
    unfold gone
    dsimp only [Sw.wSs, Sw.wS, Sw.wE, Sw.wT, Sw.wEs, Sw.wTs, Sw.wI, Sw.wP, Sw.vars, L2.start, Sw.r_get0, Sw.r_getS, Sw.r_set0, Sw.r_setS, Sw.r_map0, Sw.r_mapS, Sw.r_app0, Sw.r_appS, Sw.r_len0, Sw.r_lenS, Sw.r_rep0, Sw.r_repS, Sw.r_join, Nat.reduceAdd, Nat.reduceSub]
    refine ⟨by decide, fun p2 hp2 mp2 => ?_⟩
    have x4 := Ext.upd (o := .tup [.non, .ref p]) hp2 mp2
    exact h _ p2 p ((x2.trans x3).trans x4) upd_same (x4.same _ _ upd_same)
end K3
namespace K3
open PySem PySem.Spec PyProof.Rows L2 Sw Wd
variable {M : Mo}
theorem _root_.Wd.CplAt.ext {H H' : Hp} {q : Addr} {k : Cpl} (h : CplAt H q k) (x : Ext M H H') : CplAt H' q k := by
  obtain ⟨q1, q2, h1, h2, h3⟩ := h
  exact ⟨q1, q2, x.same _ _ h1, x.same _ _ h2, x.same _ _ h3⟩
theorem _root_.Wd.CplAt.set {H : Hp} {q L : Addr} {k : Cpl} {xs ys : List V} (h : CplAt H q k) (hL : H L = some (.lst xs)) : CplAt (upd H L (.lst ys)) q k := by
  obtain ⟨q1, q2, h1, h2, h3⟩ := h
  have ne : ∀ a zs, H a = some (.tup zs) → a ≠ L := fun a zs ha e => by rw [e, hL] at ha; cases ha
  exact ⟨q1, q2, by rw [upd_ne (ne _ _ h1)]; exact h1, by rw [upd_ne (ne _ _ h2)]; exact h2, by rw [upd_ne (ne _ _ h3)]; exact h3⟩
theorem _root_.Sw.Ext.set {H H' : Hp} {L : Addr} {o : HO} (x : Ext M H H') (h : H L = none) (m : M L = none) : Ext M H (upd H' L o) :=
  ⟨fun c u hc => by rw [upd_ne (fun e => by rw [e, h] at hc; cases hc)]; exact x.same c u hc, fun c hm hc => by rw [upd_ne (fun e => by rw [e] at hm; exact hm m)]; exact x.off c hm hc⟩
theorem comp_all {te : TE} {tt : TT} {fvs : L2.St} {D : Addr} {stay : Hp → Prop} {H0 : Hp} {k : Hp → Prop} (P : V → Prop) (htt : ∀ σ H Q, Q true H → tt σ H Q) (hD : H0 D = none) (mD : M D = none) : ∀ (xs acc : List V) (H : Hp), Ext M H0 H → H D = some (.lst acc) →
    (∀ v ∈ xs, ∀ H1 Q1, Ext M H0 H1 → (∀ y H2, Ext M H1 H2 → P y → Q1 y H2) → te (some v :: fvs) H1 Q1) → (∀ H1, Ext M H0 H1 → stay H1) → acc.length + xs.length ≤ sizeLine →
    (∀ ys H', Ext M H0 H' → H' D = some (.lst (acc ++ ys)) → (∀ y ∈ ys, P y) → k H') → compW te tt fvs D stay xs acc H k := by
  intro xs
  induction xs with
  | nil =>
    intro acc H x hDl _ hs _ hk
    exact ⟨hs H x, hDl, hk [] H x (by simpa using hDl) (by simp)⟩
  | cons v r ih =>
    intro acc H x hDl ht hs hlen hk
    refine ⟨hs H x, htt _ _ _ ?_⟩
    rw [if_pos rfl]
    refine ht v List.mem_cons_self H _ x fun y H2 x2 hy => ⟨x2.same _ _ hDl, by rw [List.length_cons] at hlen; omega, ?_⟩
    refine ih (acc ++ [y]) (upd H2 D (.lst (acc ++ [y]))) (Ext.set (x.trans x2) hD mD) upd_same (fun v hv => ht v (List.mem_cons_of_mem _ hv)) hs (by rw [List.length_append]; simp at hlen ⊢; omega) fun ys H' x' hD' hys => ?_
    refine hk (y :: ys) H' x' (by rw [hD']; simp) fun z hz => ?_
    rcases List.mem_cons.mp hz with rfl | hz
    · exact hy
    · exact hys z hz
noncomputable def Bad (k : Cpl) : Prop := k.Near ∧ ¬ k.Ok
noncomputable def AtL (M : Mo) (H0 : Hp) (L : Addr) (H : Hp) (xs : List V) : Prop := H L = some (.lst xs) ∧ Ext M H0 H ∧ ∀ v ∈ xs, ∃ r k, v = .ref r ∧ CplAt H r k ∧ Bad k
theorem AtL.grow {H0 H H' : Hp} {L : Addr} {xs : List V} (h : AtL M H0 L H xs) (x : Ext M H H') : AtL M H0 L H' xs :=
  ⟨x.same _ _ h.1, h.2.1.trans x, fun v hv => let ⟨r, k, e, c, b⟩ := h.2.2 v hv; ⟨r, k, e, c.ext x, b⟩⟩
theorem AtL.add {H0 H : Hp} {L r : Addr} {xs : List V} {k : Cpl} (h : AtL M H0 L H xs) (hL : H0 L = none) (mL : M L = none) (c : CplAt H r k) (b : Bad k) : AtL M H0 L (upd H L (.lst (xs ++ [.ref r]))) (xs ++ [.ref r]) := by
  refine ⟨upd_same, Ext.set h.2.1 hL mL, fun v hv => ?_⟩
  rcases List.mem_append.mp hv with hv | hv
  · obtain ⟨r', k', e, c', b'⟩ := h.2.2 v hv
    exact ⟨r', k', e, c'.set h.1, b'⟩
  · rw [List.mem_singleton.mp hv]
    exact ⟨r, k, rfl, c.set h.1, b⟩
noncomputable def spBeyond (M : Mo) : Sp := fun vs H Q _ => ∃ (p : Addr) (k : Cpl), vs = [.ref p] ∧ k.Ok ∧ CplAt H p k ∧ ∀ H' l (ts : List Str), Ext M H H' → H' l = some (.lst (ts.map V.str)) → (∀ t ∈ ts, Good t ∧ readC t = none) → Q (.ref l) H'
theorem strs_form : ∀ (ys : List V) (P : Str → Prop), (∀ y ∈ ys, ∃ t, y = V.str t ∧ P t) → ∃ ts : List Str, ys = ts.map V.str ∧ ∀ t ∈ ts, P t
  | [], _, _ => ⟨[], rfl, by simp⟩
  | y :: r, P, h => by
    obtain ⟨t, rfl, ht⟩ := h y (by simp)
    obtain ⟨ts, rfl, hts⟩ := strs_form r P fun z hz => h z (by simp [hz])
    refine ⟨t :: ts, rfl, fun z hz => ?_⟩
    rcases List.mem_cons.mp hz with rfl | hz
    · exact ht
    · exact hts z hz
structure L11 (Γ : Gam) (M : Mo) : Prop where
  cm : Γ.cm = true
  mod : Γ.mod = M
  sh : Γ.has "_law_shown" = true ∧ Γ.fn "_law_shown" = spShowN M
theorem ok_beyond {Γ : Gam} (g : L11 Γ M) (vs : List V) (H : Hp) (Q : VK) (E : XK) (h : spBeyond M vs H Q E) : spOf Γ N__law_beyond 1 b__law_beyond vs H Q E := by
  obtain ⟨p, k, rfl, ok, ⟨q1, q2, hp, hq1, hq2⟩, h⟩ := h
  refine ⟨rfl, ?_⟩
  obtain rfl := g.mod
  have nr := ok.near
  have hr := rd_of (M := Γ.mod) hp
  have bad1 : ∀ (n : Int), (n = 0 ∨ n = 1000001) → Bad ⟨k.name, n, k.rank, k.gv, k.tk⟩ := fun n hn => ⟨⟨nr.name, by show 0 ≤ n ∧ n ≤ 1000001; omega, nr.rank, nr.gv, nr.tk⟩, fun o => by
    have : 1 ≤ n ∧ n ≤ 1000000 := o.need
    omega⟩
  have bad2 : Bad ⟨k.name, k.need, 1000001, k.gv, k.tk⟩ := ⟨⟨nr.name, nr.need, by show (0 : Int) ≤ 1000001 ∧ (1000001 : Int) ≤ 1000001; omega, nr.gv, nr.tk⟩, fun o => by
    have : (0 : Int) ≤ 1000001 ∧ (1000001 : Int) ≤ 1000000 := o.rank
    omega⟩
  have bad3 : ∀ (n : Int), (n = 0 ∨ n = 100) → Bad ⟨k.name, k.need, k.rank, ⟨k.gv.g, n, k.gv.m⟩, k.tk⟩ := fun n hn => ⟨⟨nr.name, nr.need, nr.rank, ⟨nr.gv.g, by show 0 ≤ n ∧ n ≤ 100; omega, nr.gv.m⟩, nr.tk⟩, fun o => by
    have : 1 ≤ n ∧ n ≤ 99 := o.gv.n
    omega⟩
  have bad4 : ∀ (n : Int), (n = 0 ∨ n = 100) → Bad ⟨k.name, k.need, k.rank, k.gv, ⟨k.tk.g, n, k.tk.m⟩⟩ := fun n hn => ⟨⟨nr.name, nr.need, nr.rank, nr.gv, ⟨nr.tk.g, by show 0 ≤ n ∧ n ≤ 100; omega, nr.tk.m⟩⟩, fun o => by
    have : 1 ≤ n ∧ n ≤ 99 := o.tk.n
    omega⟩
  unfold b__law_beyond
  refine seq ?_
  dsimp only [Sw.wS, Sw.wE, Sw.wT, Sw.wEs, Sw.wTs, Sw.wI, Sw.wP, Sw.vars, L2.start, Sw.r_get0, Sw.r_getS, Sw.r_set0, Sw.r_setS, Sw.r_map0, Sw.r_mapS, Sw.r_app0, Sw.r_appS, Sw.r_len0, Sw.r_lenS, Sw.r_rep0, Sw.r_repS, Sw.r_join, Nat.reduceAdd, Nat.reduceSub]
  rw [hr]
  refine ⟨g.cm, rfl, ?_⟩
  simp only [setAll, List.set_cons_zero, List.set_cons_succ]
  have e6 : (10 : Int) ^ (6 : Int).toNat + 1 = 1000001 := by decide
  refine seq ?_
  dsimp only [Sw.wS, Sw.wE, Sw.wT, Sw.wEs, Sw.wTs, Sw.wI, Sw.wP, Sw.vars, L2.start, Sw.r_get0, Sw.r_getS, Sw.r_set0, Sw.r_setS, Sw.r_map0, Sw.r_mapS, Sw.r_app0, Sw.r_appS, Sw.r_len0, Sw.r_lenS, Sw.r_rep0, Sw.r_repS, Sw.r_join, Nat.reduceAdd, Nat.reduceSub]
  refine ⟨by decide, fun r1 hr1 mr1 => ?_⟩
  have x1 := Ext.upd (o := .tup [.str k.name, .int 0, .int k.rank, .ref q1, .ref q2]) hr1 mr1
  rw [Sw.v_pow]
  refine ⟨by unfold CPow; decide, ?_⟩
  rw [Sw.v_add, e6]
  refine ⟨by decide, fun r2 hr2 mr2 => ⟨by decide, fun L hL mL => ?_⟩⟩
  have x2 := Ext.upd (o := .tup [.str k.name, .int 1000001, .int k.rank, .ref q1, .ref q2]) hr2 mr2
  have x3 := Ext.upd (o := .lst [.ref r1, .ref r2]) hL mL
  have hL0 : H L = none := by
    cases z : H L with
    | none => rfl
    | some o => rw [(x1.trans x2).same _ _ z] at hL; cases hL
  have A0 : AtL Γ.mod H L (upd (upd (upd H r1 (.tup [.str k.name, .int 0, .int k.rank, .ref q1, .ref q2])) r2 (.tup [.str k.name, .int 1000001, .int k.rank, .ref q1, .ref q2])) L (.lst [.ref r1, .ref r2])) [.ref r1, .ref r2] := by
    refine ⟨upd_same, (x1.trans x2).trans x3, fun v hv => ?_⟩
    have x23 := x2.trans x3
    have x123 := x1.trans x23
    simp only [List.mem_cons, List.not_mem_nil, or_false] at hv
    rcases hv with rfl | rfl
    · exact ⟨r1, ⟨k.name, 0, k.rank, k.gv, k.tk⟩, rfl, ⟨q1, q2, x23.same _ _ upd_same, x123.same _ _ hq1, x123.same _ _ hq2⟩, bad1 0 (.inl rfl)⟩
    · exact ⟨r2, ⟨k.name, 1000001, k.rank, k.gv, k.tk⟩, rfl, ⟨q1, q2, x3.same _ _ upd_same, x123.same _ _ hq1, x123.same _ _ hq2⟩, bad1 1000001 (.inr rfl)⟩
  generalize upd (upd (upd H r1 (.tup [.str k.name, .int 0, .int k.rank, .ref q1, .ref q2])) r2 (.tup [.str k.name, .int 1000001, .int k.rank, .ref q1, .ref q2])) L (.lst [.ref r1, .ref r2]) = H3 at A0 ⊢
  have app : ∀ {H' : Hp} {xs : List V} {r : Addr} {k' : Cpl} {Q' : VK}, AtL Γ.mod H L H' xs → xs.length ≤ 20 → CplAt H' r k' → Bad k' → (∀ H'', AtL Γ.mod H L H'' (xs ++ [.ref r]) → (∀ a u, a ≠ L → H' a = some u → H'' a = some u) → Q' .non H'') → mthV Γ.mod .append (.ref L) [.ref r] H' Q' := by
    intro H' xs r k' Q' A hl c b q
    rw [m_append, A.1]
    exact ⟨by rw [sizeLine_eq]; omega, q _ (A.add hL0 mL c b) fun a u ha hu => by rw [upd_ne ha]; exact hu⟩
  have isl : ∀ {H' : Hp} {xs : List V}, AtL Γ.mod H L H' xs → mty Γ.mod .append (.ref L) H' = true := by
    intro H' xs A
    unfold mty
    dsimp only
    have : rd Γ.mod H' L = some (.lst xs) := by unfold rd; rw [A.1]
    rw [this]
  have old : ∀ {H' : Hp} {xs : List V}, AtL Γ.mod H L H' xs → rd Γ.mod H' q1 = some (.tup k.gv.vs) ∧ rd Γ.mod H' q2 = some (.tup k.tk.vs) ∧ H' q1 = some (.tup k.gv.vs) ∧ H' q2 = some (.tup k.tk.vs) := fun A =>
    ⟨rd_of (A.2.1.same _ _ hq1), rd_of (A.2.1.same _ _ hq2), A.2.1.same _ _ hq1, A.2.1.same _ _ hq2⟩
  refine seq ?_
  dsimp only [Sw.wS, Sw.wE, Sw.wT, Sw.wEs, Sw.wTs, Sw.wI, Sw.wP, Sw.vars, L2.start, Sw.r_get0, Sw.r_getS, Sw.r_set0, Sw.r_setS, Sw.r_map0, Sw.r_mapS, Sw.r_app0, Sw.r_appS, Sw.r_len0, Sw.r_lenS, Sw.r_rep0, Sw.r_repS, Sw.r_join, Nat.reduceAdd, Nat.reduceSub]
  refine ⟨isl A0, ?_⟩
  rw [Sw.v_pow]
  refine ⟨by unfold CPow; decide, ?_⟩
  rw [Sw.v_add, e6]
  refine ⟨by decide, fun r3 hr3 mr3 => ?_⟩
  have y3 := Ext.upd (o := .tup [.str k.name, .int k.need, .int 1000001, .ref q1, .ref q2]) hr3 mr3
  have A1 := A0.grow y3
  refine app A1 (by simp) (k' := ⟨k.name, k.need, 1000001, k.gv, k.tk⟩) ⟨q1, q2, upd_same, (old A1).2.2.1, (old A1).2.2.2⟩ bad2 fun H4 A2 _ => ?_
  clear A0 A1
  refine seq ?_
  dsimp only [Sw.wS, Sw.wE, Sw.wT, Sw.wEs, Sw.wTs, Sw.wI, Sw.wP, Sw.vars, L2.start, Sw.r_get0, Sw.r_getS, Sw.r_set0, Sw.r_setS, Sw.r_map0, Sw.r_mapS, Sw.r_app0, Sw.r_appS, Sw.r_len0, Sw.r_lenS, Sw.r_rep0, Sw.r_repS, Sw.r_join, Nat.reduceAdd, Nat.reduceSub]
  refine ⟨g.cm, by decide, fun l0 hl0 ml0 => ?_⟩
  have y5 := Ext.upd (o := .lst [V.int 0, V.int 100]) hl0 ml0
  have A3 := A2.grow y5
  have hl5 : rd Γ.mod (upd H4 l0 (.lst [V.int 0, V.int 100])) l0 = some (.lst [V.int 0, V.int 100]) := rd_upd (by intro _ _ z; cases z)
  have hl6 : upd H4 l0 (.lst [V.int 0, V.int 100]) l0 = some (.lst [V.int 0, V.int 100]) := upd_same
  have nL : l0 ≠ L := fun z => by rw [z, A2.1] at hl0; cases hl0
  generalize upd H4 l0 (.lst [V.int 0, V.int 100]) = H5 at A3 hl5 hl6 ⊢
  clear A2
  unfold iterV
  dsimp only
  rw [hl5]
  dsimp only
  refine for_inv (fun n σ H' => H' l0 = some (.lst [V.int 0, V.int 100]) ∧ (∃ xs, AtL Γ.mod H L H' xs ∧ xs.length ≤ 3 + 2 * n) ∧ ∃ v, σ = [some (V.ref p), some (V.str k.name), some (V.int k.need), some (V.int k.rank), some (V.ref q1), some (V.ref q2), some (V.ref L), v]) (fun n σ H' z => by unfold rd; rw [z.1]) ?_ ?_ ⟨hl6, ⟨_, A3, by simp⟩, _, rfl⟩
  · rintro n v σ H' D' hv ⟨hl', ⟨xs, A, hxs⟩, w, rfl⟩ hn hct hrt hbk
    have hn2 : n < 2 := (List.getElem?_eq_some_iff.mp hv).1
    obtain ⟨z, rfl, hz⟩ : ∃ z : Int, v = .int z ∧ (z = 0 ∨ z = 100) := by
      have : n = 0 ∨ n = 1 := by omega
      rcases this with rfl | rfl
      · exact ⟨0, by simpa using hv.symm, .inl rfl⟩
      · exact ⟨100, by simpa using hv.symm, .inr rfl⟩
    simp only [List.set_cons_succ, List.set_cons_zero]
    refine seq ?_
    dsimp only [Sw.wS, Sw.wE, Sw.wT, Sw.wEs, Sw.wTs, Sw.wI, Sw.wP, Sw.vars, L2.start, Sw.r_get0, Sw.r_getS, Sw.r_set0, Sw.r_setS, Sw.r_map0, Sw.r_mapS, Sw.r_app0, Sw.r_appS, Sw.r_len0, Sw.r_lenS, Sw.r_rep0, Sw.r_repS, Sw.r_join, Nat.reduceAdd, Nat.reduceSub]
    refine ⟨isl A, ix_tup (old A).1 (v := .str k.gv.g) rfl (ix_tup (old A).1 (v := .str k.gv.m) rfl ⟨by decide, fun t1 ht1 mt1 => ⟨by decide, fun t2 ht2 mt2 => ?_⟩⟩)⟩
    have u1 := Ext.upd (o := .tup [.str k.gv.g, .int z, .str k.gv.m]) ht1 mt1
    have u2 := Ext.upd (o := .tup [.str k.name, .int k.need, .int k.rank, .ref t1, .ref q2]) ht2 mt2
    have B := A.grow (u1.trans u2)
    have n1 : (upd (upd H' t1 (.tup [.str k.gv.g, .int z, .str k.gv.m])) t2 (.tup [.str k.name, .int k.need, .int k.rank, .ref t1, .ref q2])) l0 = some (.lst [V.int 0, V.int 100]) := (u1.trans u2).same _ _ hl'
    refine app B (by omega) (k' := ⟨k.name, k.need, k.rank, ⟨k.gv.g, z, k.gv.m⟩, k.tk⟩) ⟨t1, q2, upd_same, u2.same _ _ upd_same, (old B).2.2.2⟩ (bad3 z hz) fun H6 A6 k6 => ?_
    have n2 := k6 _ _ nL n1
    refine seq ?_
    dsimp only [Sw.wS, Sw.wE, Sw.wT, Sw.wEs, Sw.wTs, Sw.wI, Sw.wP, Sw.vars, L2.start, Sw.r_get0, Sw.r_getS, Sw.r_set0, Sw.r_setS, Sw.r_map0, Sw.r_mapS, Sw.r_app0, Sw.r_appS, Sw.r_len0, Sw.r_lenS, Sw.r_rep0, Sw.r_repS, Sw.r_join, Nat.reduceAdd, Nat.reduceSub]
    refine ⟨isl A6, ix_tup (old A6).2.1 (v := .str k.tk.g) rfl (ix_tup (old A6).2.1 (v := .str k.tk.m) rfl ⟨by decide, fun t3 ht3 mt3 => ⟨by decide, fun t4 ht4 mt4 => ?_⟩⟩)⟩
    have u3 := Ext.upd (o := .tup [.str k.tk.g, .int z, .str k.tk.m]) ht3 mt3
    have u4 := Ext.upd (o := .tup [.str k.name, .int k.need, .int k.rank, .ref q1, .ref t3]) ht4 mt4
    have B2 := A6.grow (u3.trans u4)
    have n3 := (u3.trans u4).same _ _ n2
    refine app B2 (by rw [List.length_append, List.length_singleton]; omega) (k' := ⟨k.name, k.need, k.rank, k.gv, ⟨k.tk.g, z, k.tk.m⟩⟩) ⟨q1, t3, upd_same, (old B2).2.2.1, u4.same _ _ upd_same⟩ (bad4 z hz) fun H7 A7 k7 => ?_
    refine seq0 ?_
    refine hn _ _ ⟨k7 _ _ nL n3, ⟨_, A7, ?_⟩, _, rfl⟩
    rw [List.length_append, List.length_append, List.length_singleton, List.length_singleton]
    omega
  · rintro σ H' ⟨hl', ⟨xs, A, hxs⟩, w, rfl⟩
    have hxs : xs.length ≤ 7 := by simpa using hxs
    dsimp only [Sw.wSs, Sw.wS, Sw.wE, Sw.wT, Sw.wEs, Sw.wTs, Sw.wI, Sw.wP, Sw.vars, L2.start, Sw.r_get0, Sw.r_getS, Sw.r_set0, Sw.r_setS, Sw.r_map0, Sw.r_mapS, Sw.r_app0, Sw.r_appS, Sw.r_len0, Sw.r_lenS, Sw.r_rep0, Sw.r_repS, Sw.r_join, Nat.reduceAdd, Nat.reduceSub]
    have hrL : rd Γ.mod H' L = some (.lst xs) := by unfold rd; rw [A.1]
    unfold iterV
    dsimp only
    rw [hrL]
    dsimp only
    refine ⟨g.cm, fun D hD mD => ?_⟩
    have y := Ext.upd (o := .lst []) hD mD
    refine comp_all (H0 := H') (fun y => ∃ t, y = V.str t ∧ (Good t ∧ readC t = none)) (fun σ H Q q => q) hD mD xs [] _ y upd_same ?_ (fun H1 x1 => x1.rd hrL) (by rw [sizeLine_eq]; simp; omega) ?_
    · intro v hv H1 Q1 x1 q
      obtain ⟨r, k', rfl, c, ⟨n', b'⟩⟩ := A.2.2 v hv
      rw [g.sh.2]
      refine ⟨⟨g.cm, g.sh.1⟩, r, k', rfl, n', c.ext x1, fun H2 x2 => q _ H2 x2 ⟨_, rfl, In0.good (near_in0 n') (Nat.le_trans (near_len n').1 (by decide)), near_none n' b'⟩⟩
    · intro ys H2 x2 hD2 hys
      obtain ⟨ts, rfl, hts⟩ := strs_form ys (fun t => Good t ∧ readC t = none) hys
      exact h H2 D ts (A.2.1.trans x2) hD2 hts
end K3
namespace K3
open PySem PySem.Spec PyProof.Rows L2 Sw Wd
variable {M : Mo}
noncomputable def spLaw0 (M : Mo) : Sp := fun vs H Q _ => ∃ (a : Addr) (ns : List Int), vs = [.ref a] ∧ ns.length ≤ 63 ∧ rd M H a = some (.lst (ns.map V.int)) ∧ OffM M H ∧ ∀ H', Q (.bl true) H'
structure L12 (Γ : Gam) (M : Mo) : Prop where
  cm : Γ.cm = true
  mod : Γ.mod = M
  ce : Γ.has "_law_cell" = true ∧ Γ.fn "_law_cell" = spCell M
  co : Γ.has "_law_couple" = true ∧ Γ.fn "_law_couple" = spCouple M
  en : Γ.has "_law_ends" = true ∧ Γ.fn "_law_ends" = spEnds M
  be : Γ.has "_law_beyond" = true ∧ Γ.fn "_law_beyond" = spBeyond M
  te : Γ.has "_law_told" = true ∧ Γ.fn "_law_told" = spTold M
  sp : Γ.has "_law_spoilt" = true ∧ Γ.fn "_law_spoilt" = spSpoilt M
  sh : Γ.has "_law_shown" = true ∧ Γ.fn "_law_shown" = spShowN M
  re : Γ.has "_law_read" = true ∧ Γ.fn "_law_read" = spLawRead M
theorem data_told {H : Hp} {q : Addr} {t : Str} (n : Nat) (h : H q = some (.tup [.str t, .bl true, .bl true, .bl false])) : data M H (n + 2) (.ref q) = some (.tuple [.str t, .bool true, .bool true, .bool false]) := by
  have hr := rd_of (M := M) h
  unfold data
  rw [hr]
  rfl
theorem eqv_told (t : Str) : PyData.eqv (.tuple [.str t, .bool true, .bool true, .bool false]) (.tuple [.str t, .bool true, .bool true, .bool false]) = true := by simp [PyData.eqv, PyData.eqvAll]
theorem data_side {H : Hp} {q : Addr} {s : Side} (n : Nat) (h : H q = some (.tup s.vs)) : data M H (n + 2) (.ref q) = some (.tuple [.str s.g, .int s.n, .str s.m]) := by
  have hr := rd_of (M := M) h
  unfold data
  rw [hr]
  rfl
theorem data_cpl {H : Hp} {q : Addr} {k : Cpl} (n : Nat) (h : CplAt H q k) : data M H (n + 3) (.ref q) = some (.tuple [.str k.name, .int k.need, .int k.rank, .tuple [.str k.gv.g, .int k.gv.n, .str k.gv.m], .tuple [.str k.tk.g, .int k.tk.n, .str k.tk.m]]) := by
  obtain ⟨q1, q2, h0, h1, h2⟩ := h
  have hr := rd_of (M := M) h0
  have e1 := data_side (M := M) n h1
  have e2 := data_side (M := M) n h2
  unfold data
  rw [hr]
  dsimp only
  simp only [allM, e1, e2]
  rfl
theorem eqv_cpl (k : Cpl) : PyData.eqv (.tuple [.str k.name, .int k.need, .int k.rank, .tuple [.str k.gv.g, .int k.gv.n, .str k.gv.m], .tuple [.str k.tk.g, .int k.tk.n, .str k.tk.m]]) (.tuple [.str k.name, .int k.need, .int k.rank, .tuple [.str k.gv.g, .int k.gv.n, .str k.gv.m], .tuple [.str k.tk.g, .int k.tk.n, .str k.tk.m]]) = true := by simp [PyData.eqv, PyData.eqvAll]
theorem ok_law {Γ : Gam} (g : L12 Γ M) (vs : List V) (H : Hp) (Q : VK) (E : XK) (h : spLaw0 M vs H Q E) : spOf Γ N_law 1 b_law vs H Q E := by
  obtain ⟨a, ns, rfl, hns, ha, off, h⟩ := h
  refine ⟨rfl, ?_⟩
  obtain rfl := g.mod
  unfold b_law
  refine seq ?_
  dsimp only [Sw.wS, Sw.wE, Sw.wT, Sw.wEs, Sw.wTs, Sw.wI, Sw.wP, Sw.vars, L2.start, Sw.r_get0, Sw.r_getS, Sw.r_set0, Sw.r_setS, Sw.r_map0, Sw.r_mapS, Sw.r_app0, Sw.r_appS, Sw.r_len0, Sw.r_lenS, Sw.r_rep0, Sw.r_repS, Sw.r_join, Nat.reduceAdd, Nat.reduceSub]
  rw [g.en.2, g.co.2, g.ce.2]
  refine ⟨⟨g.cm, g.en.1⟩, ⟨g.cm, g.co.1⟩, ⟨g.cm, g.ce.1⟩, a, ns, 0, rfl, ha, by decide, fun c0 => ?_⟩
  refine ⟨c0, rfl, fun k0 H1 p0 ok0 x1 m0 cp0 => ?_⟩
  refine ⟨⟨g.cm, g.ce.1⟩, a, ns, 3, rfl, x1.rd ha, by decide, fun c3 => ?_⟩
  refine ⟨p0, k0, c3, rfl, ok0, cp0, fun k H2 p ok x2 cp => ?_⟩
  have x2 := x1.trans x2
  have ha2 := x2.rd ha
  have off2 := OffM.ext off x2
  clear cp0 ok0 x1
  refine seq ?_
  dsimp only [Sw.wS, Sw.wE, Sw.wT, Sw.wEs, Sw.wTs, Sw.wI, Sw.wP, Sw.vars, L2.start, Sw.r_get0, Sw.r_getS, Sw.r_set0, Sw.r_setS, Sw.r_map0, Sw.r_mapS, Sw.r_app0, Sw.r_appS, Sw.r_len0, Sw.r_lenS, Sw.r_rep0, Sw.r_repS, Sw.r_join, Nat.reduceAdd, Nat.reduceSub]
  rw [g.be.2]
  refine ⟨g.cm, ⟨g.cm, g.be.1⟩, p, k, rfl, ok, cp, fun H3 l ts x3 hl hts => ?_⟩
  have hrl : rd Γ.mod H3 l = some (.lst (ts.map V.str)) := by unfold rd; rw [hl]
  unfold iterV
  dsimp only
  rw [hrl]
  dsimp only
  refine for_inv (fun n σ H' => rd Γ.mod H' l = some (.lst (ts.map V.str)) ∧ rd Γ.mod H' a = some (.lst (ns.map V.int)) ∧ OffM Γ.mod H' ∧ CplAt H' p k ∧ ∃ v, σ = [some (V.ref a), some (V.ref p), v, none, none, none]) (fun n σ H' z => z.1) ?_ ?_ ⟨hrl, x3.rd ha2, OffM.ext off2 x3, cp.ext x3, _, rfl⟩
  · rintro n v σ H' D' hv ⟨hr', ha', off', cp', w, rfl⟩ hn hct hrt hbk
    rw [List.getElem?_map] at hv
    obtain ⟨t, ht, rfl⟩ := Option.map_eq_some_iff.mp hv
    obtain ⟨gt, nt⟩ := hts t (List.mem_of_getElem? ht)
    simp only [List.set_cons_succ, List.set_cons_zero]
    refine seq ?_
    dsimp only [Sw.wS, Sw.wE, Sw.wT, Sw.wEs, Sw.wTs, Sw.wI, Sw.wP, Sw.vars, L2.start, Sw.r_get0, Sw.r_getS, Sw.r_set0, Sw.r_setS, Sw.r_map0, Sw.r_mapS, Sw.r_app0, Sw.r_appS, Sw.r_len0, Sw.r_lenS, Sw.r_rep0, Sw.r_repS, Sw.r_join, Nat.reduceAdd, Nat.reduceSub]
    rw [g.te.2]
    refine ⟨⟨g.cm, g.te.1⟩, t, rfl, off', gt, ?_⟩
    rw [nt]
    intro H4 p4 q4 x4 hp4 hq4
    refine ⟨by decide, fun p5 hp5 mp5 => ⟨by decide, fun p6 hp6 mp6 => ?_⟩⟩
    have x5 := Ext.upd (o := .tup [.str t, .bl true, .bl true, .bl false]) hp5 mp5
    have x6 := Ext.upd (o := .tup [.non, .ref p5]) hp6 mp6
    have x56 := x5.trans x6
    have f4 := x56.same _ _ hp4
    have fq := x56.same _ _ hq4
    have f5 := x6.same _ _ (show upd H4 p5 (.tup [.str t, .bl true, .bl true, .bl false]) p5 = _ from upd_same)
    have f6 : upd (upd H4 p5 (.tup [.str t, .bl true, .bl true, .bl false])) p6 (.tup [.non, .ref p5]) p6 = some (.tup [.non, .ref p5]) := upd_same
    generalize upd (upd H4 p5 (.tup [.str t, .bl true, .bl true, .bl false])) p6 (.tup [.non, .ref p5]) = H6 at f4 fq f5 f6 x56 ⊢
    have dd : ∀ x y, H6 x = some (.tup [.non, .ref y]) → H6 y = some (.tup [.str t, .bl true, .bl true, .bl false]) → data Γ.mod H6 16 (.ref x) = some (.tuple [.none, .tuple [.str t, .bool true, .bool true, .bool false]]) := fun x y hx hy => by
      have hr := rd_of (M := Γ.mod) hx
      have e1 := data_told (M := Γ.mod) 13 hy
      unfold data
      rw [hr]
      dsimp only
      simp only [allM, e1]
      rfl
    have e8 : PyData.eqv (.tuple [.none, .tuple [.str t, .bool true, .bool true, .bool false]]) (.tuple [.none, .tuple [.str t, .bool true, .bool true, .bool false]]) = true := by simp [PyData.eqv, PyData.eqvAll]
    unfold cmpV
    simp only [Sw.s_rr, dd _ _ f4 fq, dd _ _ f6 f5, e8, Bool.false_eq_true, if_false]
    refine ⟨_, rfl, ?_⟩
    rw [if_neg (by decide)]
    refine seq0 ?_
    have x := x4.trans x56
    exact hn _ _ ⟨x.rd hr', x.rd ha', OffM.ext off' x, cp'.ext x, _, rfl⟩
  · rintro σ H' ⟨hr', ha', off', cp', w, rfl⟩
    refine seq ?_
    dsimp only [Sw.wS, Sw.wE, Sw.wT, Sw.wEs, Sw.wTs, Sw.wI, Sw.wP, Sw.vars, L2.start, Sw.r_get0, Sw.r_getS, Sw.r_set0, Sw.r_setS, Sw.r_map0, Sw.r_mapS, Sw.r_app0, Sw.r_appS, Sw.r_len0, Sw.r_lenS, Sw.r_rep0, Sw.r_repS, Sw.r_join, Nat.reduceAdd, Nat.reduceSub]
    rw [g.sp.2, g.sh.2, g.ce.2]
    refine ⟨⟨g.cm, g.sp.1⟩, ⟨g.cm, g.sh.1⟩, p, k, rfl, ok.near, cp', fun H4 x4 => ?_⟩
    refine ⟨⟨g.cm, g.ce.1⟩, a, ns, 1, rfl, x4.rd ha', by decide, fun c1 => ?_⟩
    refine ⟨⟨g.cm, g.ce.1⟩, a, ns, 2, rfl, x4.rd ha', by decide, fun c2 => ?_⟩
    refine ⟨k, c1, c2, ok, rfl, fun t H5 gt x5 => ?_⟩
    have off5 := OffM.ext (OffM.ext off' x4) x5
    clear x4 x5 ha' hr'
    refine seq ?_
    dsimp only [Sw.wS, Sw.wE, Sw.wT, Sw.wEs, Sw.wTs, Sw.wI, Sw.wP, Sw.vars, L2.start, Sw.r_get0, Sw.r_getS, Sw.r_set0, Sw.r_setS, Sw.r_map0, Sw.r_mapS, Sw.r_app0, Sw.r_appS, Sw.r_len0, Sw.r_lenS, Sw.r_rep0, Sw.r_repS, Sw.r_join, Nat.reduceAdd, Nat.reduceSub]
    rw [g.re.2]
    refine ⟨⟨g.cm, g.re.1⟩, t, rfl, gt.2, ?_⟩
    rw [lawRead_eq]
    cases q : readC t with
    | none =>
      intro H6 x6
      refine seq ?_
      dsimp only [Sw.wS, Sw.wE, Sw.wT, Sw.wEs, Sw.wTs, Sw.wI, Sw.wP, Sw.vars, L2.start, Sw.r_get0, Sw.r_getS, Sw.r_set0, Sw.r_setS, Sw.r_map0, Sw.r_mapS, Sw.r_app0, Sw.r_appS, Sw.r_len0, Sw.r_lenS, Sw.r_rep0, Sw.r_repS, Sw.r_join, Nat.reduceAdd, Nat.reduceSub]
      rw [g.te.2]
      refine ⟨g.cm, ⟨g.cm, g.te.1⟩, t, rfl, OffM.ext off5 x6, gt, ?_⟩
      rw [q]
      intro H7 p7 q7 x7 hp7 hq7
      dsimp only
      rw [rd_of hp7]
      refine ⟨rfl, ?_⟩
      simp only [setAll, List.set_cons_zero, List.set_cons_succ]
      refine seq ?_
      dsimp only [Sw.wS, Sw.wE, Sw.wT, Sw.wEs, Sw.wTs, Sw.wI, Sw.wP, Sw.vars, L2.start, Sw.r_get0, Sw.r_getS, Sw.r_set0, Sw.r_setS, Sw.r_map0, Sw.r_mapS, Sw.r_app0, Sw.r_appS, Sw.r_len0, Sw.r_lenS, Sw.r_rep0, Sw.r_repS, Sw.r_join, Nat.reduceAdd, Nat.reduceSub]
      rw [Sw.v_is]
      refine ⟨_, rfl, ?_⟩
      rw [if_pos (by rfl)]
      dsimp only [Sw.wSs, Sw.wS, Sw.wE, Sw.wT, Sw.wEs, Sw.wTs, Sw.wI, Sw.wP, Sw.vars, L2.start, Sw.r_get0, Sw.r_getS, Sw.r_set0, Sw.r_setS, Sw.r_map0, Sw.r_mapS, Sw.r_app0, Sw.r_appS, Sw.r_len0, Sw.r_lenS, Sw.r_rep0, Sw.r_repS, Sw.r_join, Nat.reduceAdd, Nat.reduceSub]
      refine ⟨by decide, fun p8 hp8 mp8 => ?_⟩
      have x8 := Ext.upd (o := .tup [.str t, .bl true, .bl true, .bl false]) hp8 mp8
      have f7 := x8.same _ _ hq7
      have f8 : upd H7 p8 (.tup [.str t, .bl true, .bl true, .bl false]) p8 = some (.tup [.str t, .bl true, .bl true, .bl false]) := upd_same
      unfold cmpV
      simp only [Sw.s_rr, data_told (M := Γ.mod) 14 f7, data_told (M := Γ.mod) 14 f8, eqv_told, Bool.false_eq_true, if_false]
      exact h _
    | some k' =>
      intro H6 r6 x6 c6
      refine seq ?_
      dsimp only [Sw.wS, Sw.wE, Sw.wT, Sw.wEs, Sw.wTs, Sw.wI, Sw.wP, Sw.vars, L2.start, Sw.r_get0, Sw.r_getS, Sw.r_set0, Sw.r_setS, Sw.r_map0, Sw.r_mapS, Sw.r_app0, Sw.r_appS, Sw.r_len0, Sw.r_lenS, Sw.r_rep0, Sw.r_repS, Sw.r_join, Nat.reduceAdd, Nat.reduceSub]
      rw [g.te.2]
      refine ⟨g.cm, ⟨g.cm, g.te.1⟩, t, rfl, OffM.ext off5 x6, gt, ?_⟩
      rw [q]
      intro H7 p7 q7 x7 hp7 c7
      dsimp only
      rw [rd_of hp7]
      refine ⟨rfl, ?_⟩
      simp only [setAll, List.set_cons_zero, List.set_cons_succ]
      refine seq ?_
      dsimp only [Sw.wS, Sw.wE, Sw.wT, Sw.wEs, Sw.wTs, Sw.wI, Sw.wP, Sw.vars, L2.start, Sw.r_get0, Sw.r_getS, Sw.r_set0, Sw.r_setS, Sw.r_map0, Sw.r_mapS, Sw.r_app0, Sw.r_appS, Sw.r_len0, Sw.r_lenS, Sw.r_rep0, Sw.r_repS, Sw.r_join, Nat.reduceAdd, Nat.reduceSub]
      rw [Sw.v_is]
      refine ⟨_, rfl, ?_⟩
      rw [if_neg (by simp)]
      refine seq0 ?_
      dsimp only [Sw.wSs, Sw.wS, Sw.wE, Sw.wT, Sw.wEs, Sw.wTs, Sw.wI, Sw.wP, Sw.vars, L2.start, Sw.r_get0, Sw.r_getS, Sw.r_set0, Sw.r_setS, Sw.r_map0, Sw.r_mapS, Sw.r_app0, Sw.r_appS, Sw.r_len0, Sw.r_lenS, Sw.r_rep0, Sw.r_repS, Sw.r_join, Nat.reduceAdd, Nat.reduceSub]
      rw [Sw.v_is, t_bl, if_pos (by rfl)]
      unfold cmpV
      simp only [Sw.s_rr, data_cpl (M := Γ.mod) 13 c7, data_cpl (M := Γ.mod) 13 (c6.ext x7), eqv_cpl, Bool.false_eq_true, if_false]
      exact h _
end K3
namespace K3
open PySem PySem.Spec PyProof.Rows L2 Sw Wd
open PySem.W (Frag keepIn ktsIn mroIn kitOne nsIn findIn typeIn takerIn hasDictIn codeIn fnOf mg_of mg_none_of)
structure DefK (K : Frag) (x : Str) (st : Stmt) (f : Addr) : Prop where
  at_ : nsIn K mainGlobals x = some (some (.ref f))
  fn : ∃ fd, Fun K x x st f fd
theorem defK {K : Frag} {x : Str} {st : Stmt} {f : Addr} {oc : Value} {od an : Option Addr} {osl : Array (Option Value)} {kV doc pm cdv ct : Value} (a : nsIn K mainGlobals x = some (some (.ref f)))
    (l : K.lookup f = some ⟨oc, od, .func (fnOf x x (defArgs st) (defBody st) (defScope st) .none kV doc pm an cdv ct), osl⟩) (c : codeIn K cdv x = true) (k : keepIn K (.ref f) = true) : DefK K x st f := ⟨a, _, fun_mk l c k⟩
@[reducible] noncomputable def sInit : Stmt := inClass (top 2) 0
structure ExcK (K : Frag) (x f : Str) (c fI : Addr) (q : Str) (st : Stmt) : Prop where
  at_ : nsIn K mainGlobals x = some (some (.ref c))
  kp : keepIn K (.ref c) = true
  cls : XCls K c fI f
  ini : ∃ fd, Fun K "__init__" q st fI fd
  rd : XRead K c
  no : NoAttr K c f
  kt : ktsIn K c "BaseException" = true
structure Txt (K : Frag) (c fI p cSwapError cNoSwap : Addr) : Prop where
  ex : ExcK K "NoRow" "row" c fI "NoRow.__init__" sInit
  m1 : mroIn K c (.ref c) = some true
  kNoRow : kitOne K (.ref c) (.ref c) = some true
  aSwapError : nsIn K mainGlobals "SwapError" = some (some (.ref cSwapError))
  kSwapError : kitOne K (.ref c) (.ref cSwapError) = some true
  kValueError : kitOne K (.ref c) (.type "ValueError") = some true
  aNoSwap : nsIn K mainGlobals "NoSwap" = some (some (.ref cNoSwap))
  kNoSwap : kitOne K (.ref c) (.ref cNoSwap) = some false
  qLETTERS : ∃ t, nsIn K mainGlobals "LETTERS" = some (some (.str letters t))
  qFIGURES : ∃ t, nsIn K mainGlobals "FIGURES" = some (some (.str figures t))
  qMOST_LETTERS : ∃ t, nsIn K mainGlobals "MOST_LETTERS" = some (some (.int 8 t))
  qMOST_FIGURES : ∃ t, nsIn K mainGlobals "MOST_FIGURES" = some (some (.int 12 t))
  qMOST_NEED : ∃ t, nsIn K mainGlobals "MOST_NEED" = some (some (.int 1000000 t))
  qMOST_RANK : ∃ t, nsIn K mainGlobals "MOST_RANK" = some (some (.int 1000000 t))
  qMOST_SIZE : ∃ t, nsIn K mainGlobals "MOST_SIZE" = some (some (.int 99 t))
  qNO_MARKS : ∃ t, nsIn K mainGlobals "NO_MARKS" = some (some (.str "-" t))
  qPIECES : ∃ t, nsIn K mainGlobals "PIECES" = some (some (.int 10 t))
  sg : nsIn K mainGlobals "SIDE_GROUPS" = some (some (.ref p))
  gr : modK K p = some (.tup groups)
  no : ∀ x ∈ bltNames, nsIn K mainGlobals x = some none
noncomputable def G0 (K : Frag) (c p : Addr) : Gam where
  con := fun x => if x = "LETTERS" then some (.str letters) else if x = "FIGURES" then some (.str figures) else if x = "MOST_LETTERS" then some (.int 8) else if x = "MOST_FIGURES" then some (.int 12) else if x = "MOST_NEED" then some (.int 1000000) else if x = "MOST_RANK" then some (.int 1000000) else if x = "MOST_SIZE" then some (.int 99) else if x = "NO_MARKS" then some (.str "-") else if x = "PIECES" then some (.int 10) else if x = "SIDE_GROUPS" then some (.ref p) else none
  mod := modK K
  has := fun _ => false
  fn := fun _ _ _ _ _ => False
  exc := fun x => if x = "NoRow" then some (c, [("row" : Str)]) else none
  sub := fun a x => if a = c then (if x = "NoRow" then some true else if x = "SwapError" then some true else if x = "ValueError" then some true else if x = "NoSwap" then some false else none) else none
  cat := fun x => decide (x = "NoRow")
  fo := fun a f => decide (a = c) && decide (f = "row")
section
variable {P : Program} {w : World} {K : Frag} {mg : Str → Option Value} {base h : Heap} {c fI p cSwapError cNoSwap : Addr}
theorem sc_init : FnScope ["self", "row"] ["self", "row"] (defScope sInit) := ⟨rfl, rfl, rfl, by decide +kernel, rfl, by decide +kernel, by decide +kernel⟩
theorem init_ok {fd : FuncData} (X : XCls K c fI "row") (F : Fun K "__init__" "NoRow.__init__" sInit fI fd) : FnOkU P w K mg base (CXW P w) 1 fI fd ["self", "row"] (spX c "row") :=
  fn_xinit (k := 0) X F sc_init (p1 := _) (p2 := _) (p3 := _) (p4 := _) rfl (by decide +kernel) (by decide +kernel) (by decide +kernel)
theorem g0_ok (X : K.In h) (G : h.Ns mainGlobals mg) (T : Txt K c fI p cSwapError cNoSwap) : GOk P w K mg base (G0 K c p) 1 := by
  have blt : ∀ x ∈ bltNames, mg x = none := fun x hx => mg_none_of X G (T.no x hx)
  refine ⟨modK_ok K, fun x v h => ?_, fun f h => absurd (show false = true from h) Bool.false_ne_true, fun x c' fs h => ?_, blt, fun a x b h => ?_, fun x h => ?_, fun a f h => ?_⟩
  · dsimp only [G0] at h
    split at h
    · rename_i e; subst e; cases h
      obtain ⟨t, e⟩ := T.qLETTERS
      exact ⟨_, mg_of X G e, t, rfl⟩
    · skip
      split at h
      · rename_i e; subst e; cases h
        obtain ⟨t, e⟩ := T.qFIGURES
        exact ⟨_, mg_of X G e, t, rfl⟩
      · skip
        split at h
        · rename_i e; subst e; cases h
          obtain ⟨t, e⟩ := T.qMOST_LETTERS
          exact ⟨_, mg_of X G e, t, rfl⟩
        · skip
          split at h
          · rename_i e; subst e; cases h
            obtain ⟨t, e⟩ := T.qMOST_FIGURES
            exact ⟨_, mg_of X G e, t, rfl⟩
          · skip
            split at h
            · rename_i e; subst e; cases h
              obtain ⟨t, e⟩ := T.qMOST_NEED
              exact ⟨_, mg_of X G e, t, rfl⟩
            · skip
              split at h
              · rename_i e; subst e; cases h
                obtain ⟨t, e⟩ := T.qMOST_RANK
                exact ⟨_, mg_of X G e, t, rfl⟩
              · skip
                split at h
                · rename_i e; subst e; cases h
                  obtain ⟨t, e⟩ := T.qMOST_SIZE
                  exact ⟨_, mg_of X G e, t, rfl⟩
                · skip
                  split at h
                  · rename_i e; subst e; cases h
                    obtain ⟨t, e⟩ := T.qNO_MARKS
                    exact ⟨_, mg_of X G e, t, rfl⟩
                  · skip
                    split at h
                    · rename_i e; subst e; cases h
                      obtain ⟨t, e⟩ := T.qPIECES
                      exact ⟨_, mg_of X G e, t, rfl⟩
                    · skip
                      split at h
                      · rename_i e; subst e; cases h
                        exact ⟨_, mg_of X G T.sg, rfl⟩
                      · cases h
  · dsimp only [G0] at h
    split at h
    · rename_i e; subst e; cases h
      obtain ⟨fd, F⟩ := T.ex.ini
      exact ⟨fI, "row", fd, ["self", "row"], rfl, mg_of X G T.ex.at_, T.ex.kp, T.ex.cls, init_ok T.ex.cls F, binds_2 F fun _ _ => fun _ _ _ _ _ _ => rfl⟩
    · cases h
  · dsimp only [G0] at h
    split at h
    · rename_i e; subst e
      refine ⟨T.ex.rd, ?_⟩
      split at h
      · rename_i e; subst e; cases h
        exact ⟨_, .inl (mg_of X G T.ex.at_), T.kNoRow⟩
      · skip
        split at h
        · rename_i e; subst e; cases h
          exact ⟨_, .inl (mg_of X G T.aSwapError), T.kSwapError⟩
        · skip
          split at h
          · rename_i e; subst e; cases h
            exact ⟨_, .inr ⟨blt _ (by decide +kernel), by kernel_rfl⟩, T.kValueError⟩
          · skip
            split at h
            · rename_i e; subst e; cases h
              exact ⟨_, .inl (mg_of X G T.aNoSwap), T.kNoSwap⟩
            · skip
              cases h
    · cases h
  · dsimp only [G0] at h
    have e : x = "NoRow" := of_decide_eq_true h
    subst e
    refine ⟨c, mg_of X G T.ex.at_, T.ex.kt, fun a ha => ?_⟩
    dsimp only [G0] at ha
    split at ha
    · rename_i e; subst e; exact T.m1
    · cases ha
  · dsimp only [G0] at h
    simp only [Bool.and_eq_true, decide_eq_true_eq] at h
    obtain ⟨rfl, rfl⟩ := h
    exact ⟨T.ex.rd, T.ex.no⟩
theorem step {Γ : Gam} {k : Nat} {x : Str} {st : Stmt} {f : Addr} {N ps : List Str} {body : Sxs} {sp : Sp} (D : DefK K x st f) (S : FnScope N ps (defScope st)) (g : GOk P w K mg base Γ k) (hm : mSs (defScope st) N body (defBody st)) (hhd : Γ.hd = false)
    (h : ∀ vs H Q E, sp vs H Q E → spOf Γ N ps.length body vs H Q E) : ∃ fd, Fun K x x st f fd ∧ FnOk P w K mg base (CXW P w) (k + 2) f fd ps sp := by
  obtain ⟨fd, F⟩ := D.fn
  exact ⟨fd, F, (fn_spOf F S g hm hhd).imp h⟩
noncomputable def spLaw (K : Frag) : Sp := fun vs H Q _ => ∃ (a : Addr) (ns : List Int), vs = [.ref a] ∧ ns.length ≤ 63 ∧ SqL K H a (ns.map V.int) ∧ ∀ H', Q (.bl true) H'
structure Defs (K : Frag) (f1 f2 f3 f4 f5 f6 f7 f8 f9 f10 f11 f12 f13 f14 f15 f16 f17 f18 f19 f20 f21 f22 f23 f24 f25 f26 f27 f28 f29 f30 f31 : Addr) : Prop where
  d1 : DefK K "made_of" st_made_of f1
  d2 : DefK K "is_name" st_is_name f2
  d3 : DefK K "writes_number" st_writes_number f3
  d4 : DefK K "number_of" st_number_of f4
  d5 : DefK K "number_within" st_number_within f5
  d6 : DefK K "name_in" st_name_in f6
  d7 : DefK K "rank_in" st_rank_in f7
  d8 : DefK K "group_in" st_group_in f8
  d9 : DefK K "marks_in" st_marks_in f9
  d10 : DefK K "side_in" st_side_in f10
  d11 : DefK K "couple_in" st_couple_in f11
  d12 : DefK K "read_couple" st_read_couple f12
  d13 : DefK K "_law_cell" st__law_cell f13
  d14 : DefK K "_law_mix" st__law_mix f14
  d15 : DefK K "_law_marks" st__law_marks f15
  d16 : DefK K "_law_side" st__law_side f16
  d17 : DefK K "_law_name" st__law_name f17
  d18 : DefK K "_law_couple" st__law_couple f18
  d19 : DefK K "_law_shown_side" st__law_shown_side f19
  d20 : DefK K "_law_shown" st__law_shown f20
  d21 : DefK K "_law_sign" st__law_sign f21
  d22 : DefK K "_law_odd_word" st__law_odd_word f22
  d23 : DefK K "_law_spoilt" st__law_spoilt f23
  d24 : DefK K "_law_number" st__law_number f24
  d25 : DefK K "_law_rising" st__law_rising f25
  d26 : DefK K "_law_side_of" st__law_side_of f26
  d27 : DefK K "_law_read" st__law_read f27
  d28 : DefK K "_law_ends" st__law_ends f28
  d29 : DefK K "_law_told" st__law_told f29
  d30 : DefK K "_law_beyond" st__law_beyond f30
  d31 : DefK K "law" st_law f31
theorem law_ok {f1 f2 f3 f4 f5 f6 f7 f8 f9 f10 f11 f12 f13 f14 f15 f16 f17 f18 f19 f20 f21 f22 f23 f24 f25 f26 f27 f28 f29 f30 f31 : Addr} (X : K.In h) (G : h.Ns mainGlobals mg) (T : Txt K c fI p cSwapError cNoSwap) (D : Defs K f1 f2 f3 f4 f5 f6 f7 f8 f9 f10 f11 f12 f13 f14 f15 f16 f17 f18 f19 f20 f21 f22 f23 f24 f25 f26 f27 f28 f29 f30 f31) :
    ∃ fd, Fun K "law" "law" st_law f31 fd ∧ FnOk P w K mg base (CXW P w) 63 f31 fd ["_law_script"] (spLaw K) := by
  have g0 : GOk P w K mg base ((G0 K c p).wit []) 1 := (g0_ok X G T).wit0
  obtain ⟨e1, F1, o1⟩ := step (sp := spMadeOf (modK K)) D.d1 sc_made_of g0 m_made_of rfl (ok_made_of rfl rfl)
  have b1 : Binds K e1 P_made_of [] := binds_2 F1 fun _ _ => fun _ _ _ _ _ _ => rfl
  have g1 := GOk.wit1 (g0.mono (k := 3) (by decide)) (mg_of X G D.d1.at_) F1.kp o1 b1 (by decide)
  obtain ⟨e2, F2, o2⟩ := step (sp := spIsName (modK K)) D.d2 sc_is_name g1 m_is_name rfl (ok_is_name ⟨rfl, rfl, by exact ⟨by kernel_rfl, by kernel_rfl⟩, by kernel_rfl, by kernel_rfl, by kernel_rfl, by kernel_rfl⟩)
  have b2 : Binds K e2 P_is_name [] := binds_1 F2 fun _ => fun _ _ _ _ _ _ => rfl
  have g2 := GOk.wit1 (g1.mono (k := 5) (by decide)) (mg_of X G D.d2.at_) F2.kp o2 b2 (by decide)
  obtain ⟨e3, F3, o3⟩ := step (sp := spWrites (modK K)) D.d3 sc_writes_number g2 m_writes_number rfl (ok_writes ⟨rfl, rfl, by exact ⟨by kernel_rfl, by kernel_rfl⟩, by kernel_rfl, by kernel_rfl, by kernel_rfl, by kernel_rfl⟩)
  have b3 : Binds K e3 P_writes_number [] := binds_1 F3 fun _ => fun _ _ _ _ _ _ => rfl
  have g3 := GOk.wit1 (g2.mono (k := 7) (by decide)) (mg_of X G D.d3.at_) F3.kp o3 b3 (by decide)
  obtain ⟨e4, F4, o4⟩ := step (sp := spNumber (modK K) c) D.d4 sc_number_of g3 m_number_of rfl (ok_number ⟨⟨rfl, rfl, by exact ⟨by kernel_rfl, by kernel_rfl⟩, by kernel_rfl, by kernel_rfl, by kernel_rfl, by kernel_rfl⟩, by exact ⟨by kernel_rfl, by kernel_rfl⟩, by kernel_rfl⟩)
  have b4 : Binds K e4 P_number_of [] := binds_1 F4 fun _ => fun _ _ _ _ _ _ => rfl
  have g4 := GOk.wit1 (g3.mono (k := 9) (by decide)) (mg_of X G D.d4.at_) F4.kp o4 b4 (by decide)
  obtain ⟨e5, F5, o5⟩ := step (sp := spWithin (modK K) c) D.d5 sc_number_within g4 m_number_within rfl (ok_within ⟨⟨⟨rfl, rfl, by exact ⟨by kernel_rfl, by kernel_rfl⟩, by kernel_rfl, by kernel_rfl, by kernel_rfl, by kernel_rfl⟩, by exact ⟨by kernel_rfl, by kernel_rfl⟩, by kernel_rfl⟩, by exact ⟨by kernel_rfl, by kernel_rfl⟩⟩)
  have b5 : Binds K e5 P_number_within [] := binds_3 F5 fun _ _ _ => fun _ _ _ _ _ _ => rfl
  have g5 := GOk.wit1 (g4.mono (k := 11) (by decide)) (mg_of X G D.d5.at_) F5.kp o5 b5 (by decide)
  obtain ⟨e6, F6, o6⟩ := step (sp := spNameIn (modK K) c) D.d6 sc_name_in g5 m_name_in rfl (ok_name_in ⟨⟨⟨⟨rfl, rfl, by exact ⟨by kernel_rfl, by kernel_rfl⟩, by kernel_rfl, by kernel_rfl, by kernel_rfl, by kernel_rfl⟩, by exact ⟨by kernel_rfl, by kernel_rfl⟩, by kernel_rfl⟩, by exact ⟨by kernel_rfl, by kernel_rfl⟩⟩, by exact ⟨by kernel_rfl, by kernel_rfl⟩, by exact ⟨by kernel_rfl, by kernel_rfl⟩, by kernel_rfl, by kernel_rfl, by kernel_rfl, by kernel_rfl, by kernel_rfl, ⟨p, by kernel_rfl, T.gr⟩⟩)
  have b6 : Binds K e6 P_name_in [] := binds_1 F6 fun _ => fun _ _ _ _ _ _ => rfl
  have g6 := GOk.wit1 (g5.mono (k := 13) (by decide)) (mg_of X G D.d6.at_) F6.kp o6 b6 (by decide)
  obtain ⟨e7, F7, o7⟩ := step (sp := spRankIn (modK K) c) D.d7 sc_rank_in g6 m_rank_in rfl (ok_rank_in ⟨⟨⟨⟨rfl, rfl, by exact ⟨by kernel_rfl, by kernel_rfl⟩, by kernel_rfl, by kernel_rfl, by kernel_rfl, by kernel_rfl⟩, by exact ⟨by kernel_rfl, by kernel_rfl⟩, by kernel_rfl⟩, by exact ⟨by kernel_rfl, by kernel_rfl⟩⟩, by exact ⟨by kernel_rfl, by kernel_rfl⟩, by exact ⟨by kernel_rfl, by kernel_rfl⟩, by kernel_rfl, by kernel_rfl, by kernel_rfl, by kernel_rfl, by kernel_rfl, ⟨p, by kernel_rfl, T.gr⟩⟩)
  have b7 : Binds K e7 P_rank_in [] := binds_1 F7 fun _ => fun _ _ _ _ _ _ => rfl
  have g7 := GOk.wit1 (g6.mono (k := 15) (by decide)) (mg_of X G D.d7.at_) F7.kp o7 b7 (by decide)
  obtain ⟨e8, F8, o8⟩ := step (sp := spGroupIn (modK K) c) D.d8 sc_group_in g7 m_group_in rfl (ok_group_in ⟨⟨⟨⟨rfl, rfl, by exact ⟨by kernel_rfl, by kernel_rfl⟩, by kernel_rfl, by kernel_rfl, by kernel_rfl, by kernel_rfl⟩, by exact ⟨by kernel_rfl, by kernel_rfl⟩, by kernel_rfl⟩, by exact ⟨by kernel_rfl, by kernel_rfl⟩⟩, by exact ⟨by kernel_rfl, by kernel_rfl⟩, by exact ⟨by kernel_rfl, by kernel_rfl⟩, by kernel_rfl, by kernel_rfl, by kernel_rfl, by kernel_rfl, by kernel_rfl, ⟨p, by kernel_rfl, T.gr⟩⟩)
  have b8 : Binds K e8 P_group_in [] := binds_1 F8 fun _ => fun _ _ _ _ _ _ => rfl
  have g8 := GOk.wit1 (g7.mono (k := 17) (by decide)) (mg_of X G D.d8.at_) F8.kp o8 b8 (by decide)
  obtain ⟨e9, F9, o9⟩ := step (sp := spMarksIn (modK K) c) D.d9 sc_marks_in g8 m_marks_in rfl (ok_marks_in ⟨⟨⟨⟨rfl, rfl, by exact ⟨by kernel_rfl, by kernel_rfl⟩, by kernel_rfl, by kernel_rfl, by kernel_rfl, by kernel_rfl⟩, by exact ⟨by kernel_rfl, by kernel_rfl⟩, by kernel_rfl⟩, by exact ⟨by kernel_rfl, by kernel_rfl⟩⟩, by exact ⟨by kernel_rfl, by kernel_rfl⟩, by exact ⟨by kernel_rfl, by kernel_rfl⟩, by kernel_rfl, by kernel_rfl, by kernel_rfl, by kernel_rfl, by kernel_rfl, ⟨p, by kernel_rfl, T.gr⟩⟩)
  have b9 : Binds K e9 P_marks_in [] := binds_1 F9 fun _ => fun _ _ _ _ _ _ => rfl
  have g9 := GOk.wit1 (g8.mono (k := 19) (by decide)) (mg_of X G D.d9.at_) F9.kp o9 b9 (by decide)
  obtain ⟨e10, F10, o10⟩ := step (sp := spSideIn (modK K) c) D.d10 sc_side_in g9 m_side_in rfl (ok_side_in ⟨⟨⟨⟨⟨rfl, rfl, by exact ⟨by kernel_rfl, by kernel_rfl⟩, by kernel_rfl, by kernel_rfl, by kernel_rfl, by kernel_rfl⟩, by exact ⟨by kernel_rfl, by kernel_rfl⟩, by kernel_rfl⟩, by exact ⟨by kernel_rfl, by kernel_rfl⟩⟩, by exact ⟨by kernel_rfl, by kernel_rfl⟩, by exact ⟨by kernel_rfl, by kernel_rfl⟩, by kernel_rfl, by kernel_rfl, by kernel_rfl, by kernel_rfl, by kernel_rfl, ⟨p, by kernel_rfl, T.gr⟩⟩, by exact ⟨by kernel_rfl, by kernel_rfl⟩, by exact ⟨by kernel_rfl, by kernel_rfl⟩⟩)
  have b10 : Binds K e10 P_side_in [] := binds_1 F10 fun _ => fun _ _ _ _ _ _ => rfl
  have g10 := GOk.wit1 (g9.mono (k := 21) (by decide)) (mg_of X G D.d10.at_) F10.kp o10 b10 (by decide)
  obtain ⟨e11, F11, o11⟩ := step (sp := spCoupleIn (modK K) c) D.d11 sc_couple_in g10 m_couple_in rfl (ok_couple_in ⟨⟨⟨⟨⟨⟨rfl, rfl, by exact ⟨by kernel_rfl, by kernel_rfl⟩, by kernel_rfl, by kernel_rfl, by kernel_rfl, by kernel_rfl⟩, by exact ⟨by kernel_rfl, by kernel_rfl⟩, by kernel_rfl⟩, by exact ⟨by kernel_rfl, by kernel_rfl⟩⟩, by exact ⟨by kernel_rfl, by kernel_rfl⟩, by exact ⟨by kernel_rfl, by kernel_rfl⟩, by kernel_rfl, by kernel_rfl, by kernel_rfl, by kernel_rfl, by kernel_rfl, ⟨p, by kernel_rfl, T.gr⟩⟩, by exact ⟨by kernel_rfl, by kernel_rfl⟩, by exact ⟨by kernel_rfl, by kernel_rfl⟩⟩, by exact ⟨by kernel_rfl, by kernel_rfl⟩, by exact ⟨by kernel_rfl, by kernel_rfl⟩, by exact ⟨by kernel_rfl, by kernel_rfl⟩⟩)
  have b11 : Binds K e11 P_couple_in [] := binds_1 F11 fun _ => fun _ _ _ _ _ _ => rfl
  have g11 := GOk.wit1 (g10.mono (k := 23) (by decide)) (mg_of X G D.d11.at_) F11.kp o11 b11 (by decide)
  obtain ⟨e12, F12, o12⟩ := step (sp := spReadC (modK K) c) D.d12 sc_read_couple g11 m_read_couple rfl (ok_readC ⟨⟨rfl, rfl, by exact ⟨by kernel_rfl, by kernel_rfl⟩, by kernel_rfl⟩, by kernel_rfl, by dsimp only [Gam.wit, G0]; rw [if_pos rfl, if_pos rfl]⟩)
  have b12 : Binds K e12 P_read_couple [] := binds_1 F12 fun _ => fun _ _ _ _ _ _ => rfl
  have g12 := GOk.wit1 (g11.mono (k := 25) (by decide)) (mg_of X G D.d12.at_) F12.kp o12 b12 (by decide)
  obtain ⟨e13, F13, o13⟩ := step (sp := spCell (modK K)) D.d13 sc__law_cell g12 m__law_cell rfl (ok_cell rfl rfl)
  have b13 : Binds K e13 P__law_cell [] := binds_2 F13 fun _ _ => fun _ _ _ _ _ _ => rfl
  have g13 := GOk.wit1 (g12.mono (k := 27) (by decide)) (mg_of X G D.d13.at_) F13.kp o13 b13 (by decide)
  obtain ⟨e14, F14, o14⟩ := step (sp := spMix) D.d14 sc__law_mix g13 m__law_mix rfl (ok_mix)
  have b14 : Binds K e14 P__law_mix [] := binds_2 F14 fun _ _ => fun _ _ _ _ _ _ => rfl
  have g14 := GOk.wit1 (g13.mono (k := 29) (by decide)) (mg_of X G D.d14.at_) F14.kp o14 b14 (by decide)
  obtain ⟨e15, F15, o15⟩ := step (sp := spMarks (modK K)) D.d15 sc__law_marks g14 m__law_marks rfl (ok_marks rfl rfl)
  have b15 : Binds K e15 P__law_marks [] := binds_1 F15 fun _ => fun _ _ _ _ _ _ => rfl
  have g15 := GOk.wit1 (g14.mono (k := 31) (by decide)) (mg_of X G D.d15.at_) F15.kp o15 b15 (by decide)
  obtain ⟨e16, F16, o16⟩ := step (sp := spSide (modK K)) D.d16 sc__law_side g15 m__law_side rfl (ok_side ⟨rfl, rfl, by exact ⟨by kernel_rfl, by kernel_rfl⟩, by exact ⟨by kernel_rfl, by kernel_rfl⟩⟩)
  have b16 : Binds K e16 P__law_side [] := binds_2 F16 fun _ _ => fun _ _ _ _ _ _ => rfl
  have g16 := GOk.wit1 (g15.mono (k := 33) (by decide)) (mg_of X G D.d16.at_) F16.kp o16 b16 (by decide)
  obtain ⟨e17, F17, o17⟩ := step (sp := spName (modK K)) D.d17 sc__law_name g16 m__law_name rfl (ok_name ⟨rfl, rfl, by exact ⟨by kernel_rfl, by kernel_rfl⟩, by exact ⟨by kernel_rfl, by kernel_rfl⟩⟩)
  have b17 : Binds K e17 P__law_name [] := binds_1 F17 fun _ => fun _ _ _ _ _ _ => rfl
  have g17 := GOk.wit1 (g16.mono (k := 35) (by decide)) (mg_of X G D.d17.at_) F17.kp o17 b17 (by decide)
  obtain ⟨e18, F18, o18⟩ := step (sp := spCouple (modK K)) D.d18 sc__law_couple g17 m__law_couple rfl (ok_couple ⟨⟨rfl, rfl, by exact ⟨by kernel_rfl, by kernel_rfl⟩, by exact ⟨by kernel_rfl, by kernel_rfl⟩⟩, by exact ⟨by kernel_rfl, by kernel_rfl⟩, by exact ⟨by kernel_rfl, by kernel_rfl⟩⟩)
  have b18 : Binds K e18 P__law_couple [] := binds_1 F18 fun _ => fun _ _ _ _ _ _ => rfl
  have g18 := GOk.wit1 (g17.mono (k := 37) (by decide)) (mg_of X G D.d18.at_) F18.kp o18 b18 (by decide)
  obtain ⟨e19, F19, o19⟩ := step (sp := spShowSideN (modK K)) D.d19 sc__law_shown_side g18 m__law_shown_side rfl (ok_shown_side rfl rfl)
  have b19 : Binds K e19 P__law_shown_side [] := binds_1 F19 fun _ => fun _ _ _ _ _ _ => rfl
  have g19 := GOk.wit1 (g18.mono (k := 39) (by decide)) (mg_of X G D.d19.at_) F19.kp o19 b19 (by decide)
  obtain ⟨e20, F20, o20⟩ := step (sp := spShowN (modK K)) D.d20 sc__law_shown g19 m__law_shown rfl (ok_shown ⟨rfl, rfl, by exact ⟨by kernel_rfl, by kernel_rfl⟩⟩)
  have b20 : Binds K e20 P__law_shown [] := binds_1 F20 fun _ => fun _ _ _ _ _ _ => rfl
  have g20 := GOk.wit1 (g19.mono (k := 41) (by decide)) (mg_of X G D.d20.at_) F20.kp o20 b20 (by decide)
  obtain ⟨e21, F21, o21⟩ := step (sp := spSign) D.d21 sc__law_sign g20 m__law_sign rfl (ok_sign rfl)
  have b21 : Binds K e21 P__law_sign [] := binds_1 F21 fun _ => fun _ _ _ _ _ _ => rfl
  have g21 := GOk.wit1 (g20.mono (k := 43) (by decide)) (mg_of X G D.d21.at_) F21.kp o21 b21 (by decide)
  obtain ⟨e22, F22, o22⟩ := step (sp := spOdd (modK K)) D.d22 sc__law_odd_word g21 m__law_odd_word rfl (ok_odd rfl rfl)
  have b22 : Binds K e22 P__law_odd_word [] := binds_1 F22 fun _ => fun _ _ _ _ _ _ => rfl
  have g22 := GOk.wit1 (g21.mono (k := 45) (by decide)) (mg_of X G D.d22.at_) F22.kp o22 b22 (by decide)
  obtain ⟨e23, F23, o23⟩ := step (sp := spSpoilt (modK K)) D.d23 sc__law_spoilt g22 m__law_spoilt rfl (ok_spoilt ⟨rfl, rfl, by exact ⟨by kernel_rfl, by kernel_rfl⟩, by exact ⟨by kernel_rfl, by kernel_rfl⟩⟩)
  have b23 : Binds K e23 P__law_spoilt [] := binds_3 F23 fun _ _ _ => fun _ _ _ _ _ _ => rfl
  have g23 := GOk.wit1 (g22.mono (k := 47) (by decide)) (mg_of X G D.d23.at_) F23.kp o23 b23 (by decide)
  obtain ⟨e24, F24, o24⟩ := step (sp := spLawNum) D.d24 sc__law_number g23 m__law_number rfl (ok_lawNum rfl)
  have b24 : Binds K e24 P__law_number [] := binds_3 F24 fun _ _ _ => fun _ _ _ _ _ _ => rfl
  have g24 := GOk.wit1 (g23.mono (k := 49) (by decide)) (mg_of X G D.d24.at_) F24.kp o24 b24 (by decide)
  obtain ⟨e25, F25, o25⟩ := step (sp := spRising (modK K)) D.d25 sc__law_rising g24 m__law_rising rfl (ok_rising rfl rfl)
  have b25 : Binds K e25 P__law_rising [] := binds_1 F25 fun _ => fun _ _ _ _ _ _ => rfl
  have g25 := GOk.wit1 (g24.mono (k := 51) (by decide)) (mg_of X G D.d25.at_) F25.kp o25 b25 (by decide)
  obtain ⟨e26, F26, o26⟩ := step (sp := spSideOf (modK K)) D.d26 sc__law_side_of g25 m__law_side_of rfl (ok_side_of ⟨rfl, rfl, by exact ⟨by kernel_rfl, by kernel_rfl⟩, by exact ⟨by kernel_rfl, by kernel_rfl⟩⟩)
  have b26 : Binds K e26 P__law_side_of [] := binds_1 F26 fun _ => fun _ _ _ _ _ _ => rfl
  have g26 := GOk.wit1 (g25.mono (k := 53) (by decide)) (mg_of X G D.d26.at_) F26.kp o26 b26 (by decide)
  obtain ⟨e27, F27, o27⟩ := step (sp := spLawRead (modK K)) D.d27 sc__law_read g26 m__law_read rfl (ok_lawRead ⟨rfl, rfl, by exact ⟨by kernel_rfl, by kernel_rfl⟩, by exact ⟨by kernel_rfl, by kernel_rfl⟩, by exact ⟨by kernel_rfl, by kernel_rfl⟩⟩)
  have b27 : Binds K e27 P__law_read [] := binds_1 F27 fun _ => fun _ _ _ _ _ _ => rfl
  have g27 := GOk.wit1 (g26.mono (k := 55) (by decide)) (mg_of X G D.d27.at_) F27.kp o27 b27 (by decide)
  obtain ⟨e28, F28, o28⟩ := step (sp := spEnds (modK K)) D.d28 sc__law_ends g27 m__law_ends rfl (ok_ends rfl rfl)
  have b28 : Binds K e28 P__law_ends [] := binds_2 F28 fun _ _ => fun _ _ _ _ _ _ => rfl
  have g28 := GOk.wit1 (g27.mono (k := 57) (by decide)) (mg_of X G D.d28.at_) F28.kp o28 b28 (by decide)
  obtain ⟨e29, F29, o29⟩ := step (sp := spTold (modK K)) D.d29 sc__law_told g28 m__law_told rfl (ok_told (c := c) ⟨rfl, rfl, by exact ⟨by kernel_rfl, by kernel_rfl⟩, by kernel_rfl, by dsimp only [Gam.wit, G0]; rw [if_pos rfl, if_pos rfl], by dsimp only [Gam.wit, G0]; rw [if_pos rfl, if_neg (by decide +kernel), if_pos rfl], by dsimp only [Gam.wit, G0]; rw [if_pos rfl, if_neg (by decide +kernel), if_neg (by decide +kernel), if_pos rfl], by dsimp only [Gam.wit, G0]; rw [if_pos rfl, if_neg (by decide +kernel), if_neg (by decide +kernel), if_neg (by decide +kernel), if_pos rfl], by dsimp only [Gam.wit, G0]; simp⟩)
  have b29 : Binds K e29 P__law_told [] := binds_1 F29 fun _ => fun _ _ _ _ _ _ => rfl
  have g29 := GOk.wit1 (g28.mono (k := 59) (by decide)) (mg_of X G D.d29.at_) F29.kp o29 b29 (by decide)
  obtain ⟨e30, F30, o30⟩ := step (sp := spBeyond (modK K)) D.d30 sc__law_beyond g29 m__law_beyond rfl (ok_beyond ⟨rfl, rfl, by exact ⟨by kernel_rfl, by kernel_rfl⟩⟩)
  have b30 : Binds K e30 P__law_beyond [] := binds_1 F30 fun _ => fun _ _ _ _ _ _ => rfl
  have g30 := GOk.wit1 (g29.mono (k := 61) (by decide)) (mg_of X G D.d30.at_) F30.kp o30 b30 (by decide)
  obtain ⟨e31, F31, o31⟩ := step (sp := spLaw0 (modK K)) D.d31 sc_law g30 m_law rfl (ok_law ⟨rfl, rfl, by exact ⟨by kernel_rfl, by kernel_rfl⟩, by exact ⟨by kernel_rfl, by kernel_rfl⟩, by exact ⟨by kernel_rfl, by kernel_rfl⟩, by exact ⟨by kernel_rfl, by kernel_rfl⟩, by exact ⟨by kernel_rfl, by kernel_rfl⟩, by exact ⟨by kernel_rfl, by kernel_rfl⟩, by exact ⟨by kernel_rfl, by kernel_rfl⟩, by exact ⟨by kernel_rfl, by kernel_rfl⟩⟩)
  refine ⟨e31, F31, FnOk.off o31 (fun vs H Q E h => ?_) fun vs H Q E off h => ?_⟩
  · obtain ⟨a, ns, rfl, _⟩ := h; rfl
  · obtain ⟨a, ns, rfl, hl, hs, q⟩ := h
    exact ⟨a, ns, rfl, hl, script_rd off hs, fun a ha => (let ⟨o, e⟩ := (modK_ok K).look ha; off a o e), q⟩
end
end K3
namespace K3
open PySem PySem.Spec PyProof.Rows L2 Sw Wd
open PySem.W (Frag keepIn ktsIn mroIn kitOne nsIn findIn typeIn takerIn hasDictIn codeIn fnOf mg_of mg_none_of)
set_option maxHeartbeats 4000000 in
theorem all_mk {l : PySem.W.OpenLaw} {w : World} {K : Frag} {h : Heap} {mg : Str → Option Value} {fa : Addr} (X : K.In h) (G : h.Ns mainGlobals mg) (hfa : mg "law" = some (.ref fa))
    {c fI p cSwapError cNoSwap f1 f2 f3 f4 f5 f6 f7 f8 f9 f10 f11 f12 f13 f14 f15 f16 f17 f18 f19 f20 f21 f22 f23 f24 f25 f26 f27 f28 f29 f30 f31 : Addr}
    {od1 an1 od2 an2 od3 an3 od4 an4 od5 an5 od6 an6 od7 an7 od8 an8 od9 an9 od10 an10 od11 an11 od12 an12 od13 an13 od14 an14 od15 an15 od16 an16 od17 an17 od18 an18 od19 an19 od20 an20 od21 an21 od22 an22 od23 an23 od24 an24 od25 an25 od26 an26 od27 an27 od28 an28 od29 an29 od30 an30 od31 an31 od32 an32 : Option Addr}
    {sl1 sl2 sl3 sl4 sl5 sl6 sl7 sl8 sl9 sl10 sl11 sl12 sl13 sl14 sl15 sl16 sl17 sl18 sl19 sl20 sl21 sl22 sl23 sl24 sl25 sl26 sl27 sl28 sl29 sl30 sl31 sl32 : Array (Option Value)}
    {oc1 kV1 dc1 pm1 cd1 ct1 oc2 kV2 dc2 pm2 cd2 ct2 oc3 kV3 dc3 pm3 cd3 ct3 oc4 kV4 dc4 pm4 cd4 ct4 oc5 kV5 dc5 pm5 cd5 ct5 oc6 kV6 dc6 pm6 cd6 ct6 oc7 kV7 dc7 pm7 cd7 ct7 oc8 kV8 dc8 pm8 cd8 ct8 oc9 kV9 dc9 pm9 cd9 ct9 oc10 kV10 dc10 pm10 cd10 ct10 oc11 kV11 dc11 pm11 cd11 ct11 oc12 kV12 dc12 pm12 cd12 ct12 oc13 kV13 dc13 pm13 cd13 ct13 oc14 kV14 dc14 pm14 cd14 ct14 oc15 kV15 dc15 pm15 cd15 ct15 oc16 kV16 dc16 pm16 cd16 ct16 oc17 kV17 dc17 pm17 cd17 ct17 oc18 kV18 dc18 pm18 cd18 ct18 oc19 kV19 dc19 pm19 cd19 ct19 oc20 kV20 dc20 pm20 cd20 ct20 oc21 kV21 dc21 pm21 cd21 ct21 oc22 kV22 dc22 pm22 cd22 ct22 oc23 kV23 dc23 pm23 cd23 ct23 oc24 kV24 dc24 pm24 cd24 ct24 oc25 kV25 dc25 pm25 cd25 ct25 oc26 kV26 dc26 pm26 cd26 ct26 oc27 kV27 dc27 pm27 cd27 ct27 oc28 kV28 dc28 pm28 cd28 ct28 oc29 kV29 dc29 pm29 cd29 ct29 oc30 kV30 dc30 pm30 cd30 ct30 oc31 kV31 dc31 pm31 cd31 ct31 oc32 kV32 dc32 pm32 cd32 ct32 : Value}
    {t1 t2 t3 t4 t5 t6 t7 t8 t9 u1 u2 u3 u4 : Tok} {odp : Option Addr} {np : Nat} {slp : Array (Option Value)}
    (a1 : nsIn K mainGlobals "made_of" = some (some (.ref f1)))
    (l1 : K.lookup f1 = some ⟨oc1, od1, .func (fnOf "made_of" "made_of" (defArgs st_made_of) (defBody st_made_of) (defScope st_made_of) .none kV1 dc1 pm1 an1 cd1 ct1), sl1⟩)
    (c1 : codeIn K cd1 "made_of" = true)
    (k1 : keepIn K (.ref f1) = true)
    (a2 : nsIn K mainGlobals "is_name" = some (some (.ref f2)))
    (l2 : K.lookup f2 = some ⟨oc2, od2, .func (fnOf "is_name" "is_name" (defArgs st_is_name) (defBody st_is_name) (defScope st_is_name) .none kV2 dc2 pm2 an2 cd2 ct2), sl2⟩)
    (c2 : codeIn K cd2 "is_name" = true)
    (k2 : keepIn K (.ref f2) = true)
    (a3 : nsIn K mainGlobals "writes_number" = some (some (.ref f3)))
    (l3 : K.lookup f3 = some ⟨oc3, od3, .func (fnOf "writes_number" "writes_number" (defArgs st_writes_number) (defBody st_writes_number) (defScope st_writes_number) .none kV3 dc3 pm3 an3 cd3 ct3), sl3⟩)
    (c3 : codeIn K cd3 "writes_number" = true)
    (k3 : keepIn K (.ref f3) = true)
    (a4 : nsIn K mainGlobals "number_of" = some (some (.ref f4)))
    (l4 : K.lookup f4 = some ⟨oc4, od4, .func (fnOf "number_of" "number_of" (defArgs st_number_of) (defBody st_number_of) (defScope st_number_of) .none kV4 dc4 pm4 an4 cd4 ct4), sl4⟩)
    (c4 : codeIn K cd4 "number_of" = true)
    (k4 : keepIn K (.ref f4) = true)
    (a5 : nsIn K mainGlobals "number_within" = some (some (.ref f5)))
    (l5 : K.lookup f5 = some ⟨oc5, od5, .func (fnOf "number_within" "number_within" (defArgs st_number_within) (defBody st_number_within) (defScope st_number_within) .none kV5 dc5 pm5 an5 cd5 ct5), sl5⟩)
    (c5 : codeIn K cd5 "number_within" = true)
    (k5 : keepIn K (.ref f5) = true)
    (a6 : nsIn K mainGlobals "name_in" = some (some (.ref f6)))
    (l6 : K.lookup f6 = some ⟨oc6, od6, .func (fnOf "name_in" "name_in" (defArgs st_name_in) (defBody st_name_in) (defScope st_name_in) .none kV6 dc6 pm6 an6 cd6 ct6), sl6⟩)
    (c6 : codeIn K cd6 "name_in" = true)
    (k6 : keepIn K (.ref f6) = true)
    (a7 : nsIn K mainGlobals "rank_in" = some (some (.ref f7)))
    (l7 : K.lookup f7 = some ⟨oc7, od7, .func (fnOf "rank_in" "rank_in" (defArgs st_rank_in) (defBody st_rank_in) (defScope st_rank_in) .none kV7 dc7 pm7 an7 cd7 ct7), sl7⟩)
    (c7 : codeIn K cd7 "rank_in" = true)
    (k7 : keepIn K (.ref f7) = true)
    (a8 : nsIn K mainGlobals "group_in" = some (some (.ref f8)))
    (l8 : K.lookup f8 = some ⟨oc8, od8, .func (fnOf "group_in" "group_in" (defArgs st_group_in) (defBody st_group_in) (defScope st_group_in) .none kV8 dc8 pm8 an8 cd8 ct8), sl8⟩)
    (c8 : codeIn K cd8 "group_in" = true)
    (k8 : keepIn K (.ref f8) = true)
    (a9 : nsIn K mainGlobals "marks_in" = some (some (.ref f9)))
    (l9 : K.lookup f9 = some ⟨oc9, od9, .func (fnOf "marks_in" "marks_in" (defArgs st_marks_in) (defBody st_marks_in) (defScope st_marks_in) .none kV9 dc9 pm9 an9 cd9 ct9), sl9⟩)
    (c9 : codeIn K cd9 "marks_in" = true)
    (k9 : keepIn K (.ref f9) = true)
    (a10 : nsIn K mainGlobals "side_in" = some (some (.ref f10)))
    (l10 : K.lookup f10 = some ⟨oc10, od10, .func (fnOf "side_in" "side_in" (defArgs st_side_in) (defBody st_side_in) (defScope st_side_in) .none kV10 dc10 pm10 an10 cd10 ct10), sl10⟩)
    (c10 : codeIn K cd10 "side_in" = true)
    (k10 : keepIn K (.ref f10) = true)
    (a11 : nsIn K mainGlobals "couple_in" = some (some (.ref f11)))
    (l11 : K.lookup f11 = some ⟨oc11, od11, .func (fnOf "couple_in" "couple_in" (defArgs st_couple_in) (defBody st_couple_in) (defScope st_couple_in) .none kV11 dc11 pm11 an11 cd11 ct11), sl11⟩)
    (c11 : codeIn K cd11 "couple_in" = true)
    (k11 : keepIn K (.ref f11) = true)
    (a12 : nsIn K mainGlobals "read_couple" = some (some (.ref f12)))
    (l12 : K.lookup f12 = some ⟨oc12, od12, .func (fnOf "read_couple" "read_couple" (defArgs st_read_couple) (defBody st_read_couple) (defScope st_read_couple) .none kV12 dc12 pm12 an12 cd12 ct12), sl12⟩)
    (c12 : codeIn K cd12 "read_couple" = true)
    (k12 : keepIn K (.ref f12) = true)
    (a13 : nsIn K mainGlobals "_law_cell" = some (some (.ref f13)))
    (l13 : K.lookup f13 = some ⟨oc13, od13, .func (fnOf "_law_cell" "_law_cell" (defArgs st__law_cell) (defBody st__law_cell) (defScope st__law_cell) .none kV13 dc13 pm13 an13 cd13 ct13), sl13⟩)
    (c13 : codeIn K cd13 "_law_cell" = true)
    (k13 : keepIn K (.ref f13) = true)
    (a14 : nsIn K mainGlobals "_law_mix" = some (some (.ref f14)))
    (l14 : K.lookup f14 = some ⟨oc14, od14, .func (fnOf "_law_mix" "_law_mix" (defArgs st__law_mix) (defBody st__law_mix) (defScope st__law_mix) .none kV14 dc14 pm14 an14 cd14 ct14), sl14⟩)
    (c14 : codeIn K cd14 "_law_mix" = true)
    (k14 : keepIn K (.ref f14) = true)
    (a15 : nsIn K mainGlobals "_law_marks" = some (some (.ref f15)))
    (l15 : K.lookup f15 = some ⟨oc15, od15, .func (fnOf "_law_marks" "_law_marks" (defArgs st__law_marks) (defBody st__law_marks) (defScope st__law_marks) .none kV15 dc15 pm15 an15 cd15 ct15), sl15⟩)
    (c15 : codeIn K cd15 "_law_marks" = true)
    (k15 : keepIn K (.ref f15) = true)
    (a16 : nsIn K mainGlobals "_law_side" = some (some (.ref f16)))
    (l16 : K.lookup f16 = some ⟨oc16, od16, .func (fnOf "_law_side" "_law_side" (defArgs st__law_side) (defBody st__law_side) (defScope st__law_side) .none kV16 dc16 pm16 an16 cd16 ct16), sl16⟩)
    (c16 : codeIn K cd16 "_law_side" = true)
    (k16 : keepIn K (.ref f16) = true)
    (a17 : nsIn K mainGlobals "_law_name" = some (some (.ref f17)))
    (l17 : K.lookup f17 = some ⟨oc17, od17, .func (fnOf "_law_name" "_law_name" (defArgs st__law_name) (defBody st__law_name) (defScope st__law_name) .none kV17 dc17 pm17 an17 cd17 ct17), sl17⟩)
    (c17 : codeIn K cd17 "_law_name" = true)
    (k17 : keepIn K (.ref f17) = true)
    (a18 : nsIn K mainGlobals "_law_couple" = some (some (.ref f18)))
    (l18 : K.lookup f18 = some ⟨oc18, od18, .func (fnOf "_law_couple" "_law_couple" (defArgs st__law_couple) (defBody st__law_couple) (defScope st__law_couple) .none kV18 dc18 pm18 an18 cd18 ct18), sl18⟩)
    (c18 : codeIn K cd18 "_law_couple" = true)
    (k18 : keepIn K (.ref f18) = true)
    (a19 : nsIn K mainGlobals "_law_shown_side" = some (some (.ref f19)))
    (l19 : K.lookup f19 = some ⟨oc19, od19, .func (fnOf "_law_shown_side" "_law_shown_side" (defArgs st__law_shown_side) (defBody st__law_shown_side) (defScope st__law_shown_side) .none kV19 dc19 pm19 an19 cd19 ct19), sl19⟩)
    (c19 : codeIn K cd19 "_law_shown_side" = true)
    (k19 : keepIn K (.ref f19) = true)
    (a20 : nsIn K mainGlobals "_law_shown" = some (some (.ref f20)))
    (l20 : K.lookup f20 = some ⟨oc20, od20, .func (fnOf "_law_shown" "_law_shown" (defArgs st__law_shown) (defBody st__law_shown) (defScope st__law_shown) .none kV20 dc20 pm20 an20 cd20 ct20), sl20⟩)
    (c20 : codeIn K cd20 "_law_shown" = true)
    (k20 : keepIn K (.ref f20) = true)
    (a21 : nsIn K mainGlobals "_law_sign" = some (some (.ref f21)))
    (l21 : K.lookup f21 = some ⟨oc21, od21, .func (fnOf "_law_sign" "_law_sign" (defArgs st__law_sign) (defBody st__law_sign) (defScope st__law_sign) .none kV21 dc21 pm21 an21 cd21 ct21), sl21⟩)
    (c21 : codeIn K cd21 "_law_sign" = true)
    (k21 : keepIn K (.ref f21) = true)
    (a22 : nsIn K mainGlobals "_law_odd_word" = some (some (.ref f22)))
    (l22 : K.lookup f22 = some ⟨oc22, od22, .func (fnOf "_law_odd_word" "_law_odd_word" (defArgs st__law_odd_word) (defBody st__law_odd_word) (defScope st__law_odd_word) .none kV22 dc22 pm22 an22 cd22 ct22), sl22⟩)
    (c22 : codeIn K cd22 "_law_odd_word" = true)
    (k22 : keepIn K (.ref f22) = true)
    (a23 : nsIn K mainGlobals "_law_spoilt" = some (some (.ref f23)))
    (l23 : K.lookup f23 = some ⟨oc23, od23, .func (fnOf "_law_spoilt" "_law_spoilt" (defArgs st__law_spoilt) (defBody st__law_spoilt) (defScope st__law_spoilt) .none kV23 dc23 pm23 an23 cd23 ct23), sl23⟩)
    (c23 : codeIn K cd23 "_law_spoilt" = true)
    (k23 : keepIn K (.ref f23) = true)
    (a24 : nsIn K mainGlobals "_law_number" = some (some (.ref f24)))
    (l24 : K.lookup f24 = some ⟨oc24, od24, .func (fnOf "_law_number" "_law_number" (defArgs st__law_number) (defBody st__law_number) (defScope st__law_number) .none kV24 dc24 pm24 an24 cd24 ct24), sl24⟩)
    (c24 : codeIn K cd24 "_law_number" = true)
    (k24 : keepIn K (.ref f24) = true)
    (a25 : nsIn K mainGlobals "_law_rising" = some (some (.ref f25)))
    (l25 : K.lookup f25 = some ⟨oc25, od25, .func (fnOf "_law_rising" "_law_rising" (defArgs st__law_rising) (defBody st__law_rising) (defScope st__law_rising) .none kV25 dc25 pm25 an25 cd25 ct25), sl25⟩)
    (c25 : codeIn K cd25 "_law_rising" = true)
    (k25 : keepIn K (.ref f25) = true)
    (a26 : nsIn K mainGlobals "_law_side_of" = some (some (.ref f26)))
    (l26 : K.lookup f26 = some ⟨oc26, od26, .func (fnOf "_law_side_of" "_law_side_of" (defArgs st__law_side_of) (defBody st__law_side_of) (defScope st__law_side_of) .none kV26 dc26 pm26 an26 cd26 ct26), sl26⟩)
    (c26 : codeIn K cd26 "_law_side_of" = true)
    (k26 : keepIn K (.ref f26) = true)
    (a27 : nsIn K mainGlobals "_law_read" = some (some (.ref f27)))
    (l27 : K.lookup f27 = some ⟨oc27, od27, .func (fnOf "_law_read" "_law_read" (defArgs st__law_read) (defBody st__law_read) (defScope st__law_read) .none kV27 dc27 pm27 an27 cd27 ct27), sl27⟩)
    (c27 : codeIn K cd27 "_law_read" = true)
    (k27 : keepIn K (.ref f27) = true)
    (a28 : nsIn K mainGlobals "_law_ends" = some (some (.ref f28)))
    (l28 : K.lookup f28 = some ⟨oc28, od28, .func (fnOf "_law_ends" "_law_ends" (defArgs st__law_ends) (defBody st__law_ends) (defScope st__law_ends) .none kV28 dc28 pm28 an28 cd28 ct28), sl28⟩)
    (c28 : codeIn K cd28 "_law_ends" = true)
    (k28 : keepIn K (.ref f28) = true)
    (a29 : nsIn K mainGlobals "_law_told" = some (some (.ref f29)))
    (l29 : K.lookup f29 = some ⟨oc29, od29, .func (fnOf "_law_told" "_law_told" (defArgs st__law_told) (defBody st__law_told) (defScope st__law_told) .none kV29 dc29 pm29 an29 cd29 ct29), sl29⟩)
    (c29 : codeIn K cd29 "_law_told" = true)
    (k29 : keepIn K (.ref f29) = true)
    (a30 : nsIn K mainGlobals "_law_beyond" = some (some (.ref f30)))
    (l30 : K.lookup f30 = some ⟨oc30, od30, .func (fnOf "_law_beyond" "_law_beyond" (defArgs st__law_beyond) (defBody st__law_beyond) (defScope st__law_beyond) .none kV30 dc30 pm30 an30 cd30 ct30), sl30⟩)
    (c30 : codeIn K cd30 "_law_beyond" = true)
    (k30 : keepIn K (.ref f30) = true)
    (a31 : nsIn K mainGlobals "law" = some (some (.ref f31)))
    (l31 : K.lookup f31 = some ⟨oc31, od31, .func (fnOf "law" "law" (defArgs st_law) (defBody st_law) (defScope st_law) .none kV31 dc31 pm31 an31 cd31 ct31), sl31⟩)
    (c31 : codeIn K cd31 "law" = true)
    (k31 : keepIn K (.ref f31) = true)
    (xa : nsIn K mainGlobals "NoRow" = some (some (.ref c)))
    (xk : keepIn K (.ref c) = true)
    (xi : findIn K (.ref c) "__init__" = some (some (.ref fI)))
    (xl : K.lookup fI = some ⟨oc32, od32, .func (fnOf "__init__" "NoRow.__init__" (defArgs sInit) (defBody sInit) (defScope sInit) .none kV32 dc32 pm32 an32 cd32 ct32), sl32⟩)
    (xc : codeIn K cd32 "NoRow.__init__" = true)
    (xf : keepIn K (.ref fI) = true)
    (x1 : excInI K c fI = true)
    (x2 : typeIn K (.ref fI) = some (.type "function"))
    (x3 : findIn K (.ref c) "__setattr__" = some (some (.builtin "object.__setattr__")))
    (x4 : plainExc K c = true)
    (x5 : takerIn K c "row" = some none)
    (x6 : hasDictIn K c = true)
    (x7 : findIn K (.ref c) "__getattribute__" = some (some (.builtin "BaseException.__getattribute__")))
    (x8 : findIn K (.ref c) "__getattr__" = some none)
    (x9 : mroIn K c (.type "BaseException") = some true)
    (x10 : mroIn K c (.type "object") = some true)
    (x11 : classBy K c = true)
    (x12 : findIn K (.ref c) "row" = some none)
    (x13 : ktsIn K c "BaseException" = true)
    (m1 : mroIn K c (.ref c) = some true)
    (y0 : kitOne K (.ref c) (.ref c) = some true)
    (w1 : nsIn K mainGlobals "SwapError" = some (some (.ref cSwapError)))
    (y1 : kitOne K (.ref c) (.ref cSwapError) = some true)
    (y2 : kitOne K (.ref c) (.type "ValueError") = some true)
    (w3 : nsIn K mainGlobals "NoSwap" = some (some (.ref cNoSwap)))
    (y3 : kitOne K (.ref c) (.ref cNoSwap) = some false)
    (q1 : nsIn K mainGlobals "LETTERS" = some (some (.str "abcdefghijklmnopqrstuvwxyz" t1)))
    (q2 : nsIn K mainGlobals "FIGURES" = some (some (.str "0123456789" t2)))
    (q3 : nsIn K mainGlobals "MOST_LETTERS" = some (some (.int 8 t3)))
    (q4 : nsIn K mainGlobals "MOST_FIGURES" = some (some (.int 12 t4)))
    (q5 : nsIn K mainGlobals "MOST_NEED" = some (some (.int 1000000 t5)))
    (q6 : nsIn K mainGlobals "MOST_RANK" = some (some (.int 1000000 t6)))
    (q7 : nsIn K mainGlobals "MOST_SIZE" = some (some (.int 99 t7)))
    (q8 : nsIn K mainGlobals "NO_MARKS" = some (some (.str "-" t8)))
    (q9 : nsIn K mainGlobals "PIECES" = some (some (.int 10 t9)))
    (sg : nsIn K mainGlobals "SIDE_GROUPS" = some (some (.ref p)))
    (pl : K.lookup p = some ⟨.type "tuple", odp, .seq #[.str "O" u1, .str "A" u2, .str "B" u3, .str "AB" u4] np, slp⟩)
    (z0 : nsIn K mainGlobals "len" = some none)
    (z1 : nsIn K mainGlobals "all" = some none)
    (z2 : nsIn K mainGlobals "any" = some none)
    (z3 : nsIn K mainGlobals "str" = some none)
    (z4 : nsIn K mainGlobals "int" = some none)
    (z5 : nsIn K mainGlobals "abs" = some none)
    (z6 : nsIn K mainGlobals "sorted" = some none)
    (z7 : nsIn K mainGlobals "list" = some none)
    (z8 : nsIn K mainGlobals "tuple" = some none)
    (z9 : nsIn K mainGlobals "max" = some none)
    (z10 : nsIn K mainGlobals "min" = some none)
    (z11 : nsIn K mainGlobals "sum" = some none)
    (z12 : nsIn K mainGlobals "isinstance" = some none)
    (z13 : nsIn K mainGlobals "range" = some none)
    (z14 : nsIn K mainGlobals "bool" = some none)
    (z15 : nsIn K mainGlobals "dict" = some none)
    (z16 : nsIn K mainGlobals "set" = some none)
    (z17 : nsIn K mainGlobals "ValueError" = some none) :
    ∃ fd : FuncData, (∀ (s : Shared) (v : Value), BindsTo s fd ⟨[v], []⟩ [("_law_script", v)]) ∧ ∀ base : Heap, K.In base → base.Ns mainGlobals mg → FnOk l.prog w K mg base (CXW l.prog w) 63 fa fd ["_law_script"] (spLaw K) := by
  have e := hfa.symm.trans (mg_of X G a31)
  cases e
  have T : Txt K c fI p cSwapError cNoSwap := ⟨⟨xa, xk, ⟨x1, x2, x3, x4, x5, x6⟩, ⟨_, fun_mk xl xc xf⟩, ⟨⟨x7, x8, x9, x10⟩, x6, x11⟩, x12, x13⟩, m1, y0, w1, y1, y2, w3, y3, ⟨_, q1⟩, ⟨_, q2⟩, ⟨_, q3⟩, ⟨_, q4⟩, ⟨_, q5⟩, ⟨_, q6⟩, ⟨_, q7⟩, ⟨_, q8⟩, ⟨_, q9⟩, sg, modK_tup ⟨_, _, _, pl, rfl, rfl, (show 4 ≤ sizeLine from by decide), .cons ⟨_, rfl⟩ (.cons ⟨_, rfl⟩ (.cons ⟨_, rfl⟩ (.cons ⟨_, rfl⟩ .nil)))⟩, fun x hx => by
    unfold bltNames at hx
    simp only [List.mem_cons, List.not_mem_nil, or_false] at hx
    rcases hx with rfl | rfl | rfl | rfl | rfl | rfl | rfl | rfl | rfl | rfl | rfl | rfl | rfl | rfl | rfl | rfl | rfl | rfl
    · exact z0
    · exact z1
    · exact z2
    · exact z3
    · exact z4
    · exact z5
    · exact z6
    · exact z7
    · exact z8
    · exact z9
    · exact z10
    · exact z11
    · exact z12
    · exact z13
    · exact z14
    · exact z15
    · exact z16
    · exact z17⟩
  have D : Defs K f1 f2 f3 f4 f5 f6 f7 f8 f9 f10 f11 f12 f13 f14 f15 f16 f17 f18 f19 f20 f21 f22 f23 f24 f25 f26 f27 f28 f29 f30 fa := ⟨defK a1 l1 c1 k1, defK a2 l2 c2 k2, defK a3 l3 c3 k3, defK a4 l4 c4 k4, defK a5 l5 c5 k5, defK a6 l6 c6 k6, defK a7 l7 c7 k7, defK a8 l8 c8 k8, defK a9 l9 c9 k9, defK a10 l10 c10 k10, defK a11 l11 c11 k11, defK a12 l12 c12 k12, defK a13 l13 c13 k13, defK a14 l14 c14 k14, defK a15 l15 c15 k15, defK a16 l16 c16 k16, defK a17 l17 c17 k17, defK a18 l18 c18 k18, defK a19 l19 c19 k19, defK a20 l20 c20 k20, defK a21 l21 c21 k21, defK a22 l22 c22 k22, defK a23 l23 c23 k23, defK a24 l24 c24 k24, defK a25 l25 c25 k25, defK a26 l26 c26 k26, defK a27 l27 c27 k27, defK a28 l28 c28 k28, defK a29 l29 c29 k29, defK a30 l30 c30 k30, defK a31 l31 c31 k31⟩
  have F31 := fun_mk (st := st_law) l31 c31 k31
  refine ⟨fnOf "law" "law" (defArgs st_law) (defBody st_law) (defScope st_law) .none kV31 dc31 pm31 an31 cd31 ct31, fun s v => .of_eq rfl, fun base kb nb => ?_⟩
  obtain ⟨fd, F, o⟩ := law_ok (P := l.prog) (w := w) (base := base) X G T D
  obtain ⟨_, _, _, _, _, _, _, _, _, e1, e2, _⟩ := F.ex
  obtain ⟨_, _, _, _, _, _, _, _, _, e3, e4, _⟩ := F31.ex
  rw [e2] at e4
  injection e4 with e4
  injection e4 with _ _ e4 _
  injection e4 with e4
  rw [← e4]
  exact o
theorem walk {l : PySem.W.OpenLaw} {q : Program} {loose : List Str} {XP : (Str → Option Value) → Heap → Prop} {YP : World → Heap → Prop} {d : DefRec} {K : Params → PySem.W.Frag} (hn : l.most = some 63) (hdf : d.params.defaults = [])
    (hY : ∀ (w : World) (h : Heap), YP w h → (K w.params).In h)
    (F : ∀ (w : World) (mg : Str → Option Value) (fa : Addr) (h : Heap), (K w.params).In h → h.Ns mainGlobals mg → mg d.name = some (.ref fa) →
      ∃ fd : FuncData, (∀ (s : Shared) (u : Value), BindsTo s fd ⟨[u], []⟩ [("_law_script", u)]) ∧ ∀ base : Heap, (K w.params).In base → base.Ns mainGlobals mg → FnOk l.prog w (K w.params) mg base (CXW l.prog w) 63 fa fd ["_law_script"] (spLaw (K w.params))) :
    PySem.W.WalkO q loose XP YP l.row.toRowW d [] (fun f vs => PySem.call f vs) :=
  L2.walk_of (n := 63) (k := 63) (x := "_law_script") (CX := fun w => CXW l.prog w) (sp := fun w => spLaw (K w.params)) hn (by decide) hdf ⟨rfl, by decide, by decide⟩ hY F (fun _ _ a ns hl _ hS => ⟨a, ns, rfl, hl, hS, fun _ => rfl⟩)
    fun w H s e s' z => by obtain ⟨_, _, _, _, _, _, _, _, _, _, _, _, z⟩ := z; exact z
end K3
open PySem PySem.W PyProof.Rows
set_option maxRecDepth 100000 in
set_option maxHeartbeats 0 in
theorem PySem.Challenge.cw_swapward_k03_couples_refused_holds : PySem.Challenge.rw_swapward_k03_couples_refused.Holds := by
  w_on; o_law; k_head; (case hw => w_witness2)
  k_fill
  refine K3.walk (l := PySem.Challenge.rw_swapward_k03_couples_refused) rfl rfl (fun w h Y => PySem.W.kIn_of Y) ?F
  case F =>
    intro w mg fa h KX G hmg
    refine' K3.all_mk KX G hmg ?a1 ?l1 ?c1 ?k1 ?a2 ?l2 ?c2 ?k2 ?a3 ?l3 ?c3 ?k3 ?a4 ?l4 ?c4 ?k4 ?a5 ?l5 ?c5 ?k5 ?a6 ?l6 ?c6 ?k6 ?a7 ?l7 ?c7 ?k7 ?a8 ?l8 ?c8 ?k8 ?a9 ?l9 ?c9 ?k9 ?a10 ?l10 ?c10 ?k10 ?a11 ?l11 ?c11 ?k11 ?a12 ?l12 ?c12 ?k12 ?a13 ?l13 ?c13 ?k13 ?a14 ?l14 ?c14 ?k14 ?a15 ?l15 ?c15 ?k15 ?a16 ?l16 ?c16 ?k16 ?a17 ?l17 ?c17 ?k17 ?a18 ?l18 ?c18 ?k18 ?a19 ?l19 ?c19 ?k19 ?a20 ?l20 ?c20 ?k20 ?a21 ?l21 ?c21 ?k21 ?a22 ?l22 ?c22 ?k22 ?a23 ?l23 ?c23 ?k23 ?a24 ?l24 ?c24 ?k24 ?a25 ?l25 ?c25 ?k25 ?a26 ?l26 ?c26 ?k26 ?a27 ?l27 ?c27 ?k27 ?a28 ?l28 ?c28 ?k28 ?a29 ?l29 ?c29 ?k29 ?a30 ?l30 ?c30 ?k30 ?a31 ?l31 ?c31 ?k31 ?xa ?xk ?xi ?xl ?xc ?xf ?x1 ?x2 ?x3 ?x4 ?x5 ?x6 ?x7 ?x8 ?x9 ?x10 ?x11 ?x12 ?x13 ?m1 ?y0 ?w1 ?y1 ?y2 ?w3 ?y3 ?q1 ?q2 ?q3 ?q4 ?q5 ?q6 ?q7 ?q8 ?q9 ?sg ?pl ?z0 ?z1 ?z2 ?z3 ?z4 ?z5 ?z6 ?z7 ?z8 ?z9 ?z10 ?z11 ?z12 ?z13 ?z14 ?z15 ?z16 ?z17
    (case a1 => k_is)
    (case l1 => k_is)
    (case c1 => k_is)
    (case k1 => k_is)
    (case a2 => k_is)
    (case l2 => k_is)
    (case c2 => k_is)
    (case k2 => k_is)
    (case a3 => k_is)
    (case l3 => k_is)
    (case c3 => k_is)
    (case k3 => k_is)
    (case a4 => k_is)
    (case l4 => k_is)
    (case c4 => k_is)
    (case k4 => k_is)
    (case a5 => k_is)
    (case l5 => k_is)
    (case c5 => k_is)
    (case k5 => k_is)
    (case a6 => k_is)
    (case l6 => k_is)
    (case c6 => k_is)
    (case k6 => k_is)
    (case a7 => k_is)
    (case l7 => k_is)
    (case c7 => k_is)
    (case k7 => k_is)
    (case a8 => k_is)
    (case l8 => k_is)
    (case c8 => k_is)
    (case k8 => k_is)
    (case a9 => k_is)
    (case l9 => k_is)
    (case c9 => k_is)
    (case k9 => k_is)
    (case a10 => k_is)
    (case l10 => k_is)
    (case c10 => k_is)
    (case k10 => k_is)
    (case a11 => k_is)
    (case l11 => k_is)
    (case c11 => k_is)
    (case k11 => k_is)
    (case a12 => k_is)
    (case l12 => k_is)
    (case c12 => k_is)
    (case k12 => k_is)
    (case a13 => k_is)
    (case l13 => k_is)
    (case c13 => k_is)
    (case k13 => k_is)
    (case a14 => k_is)
    (case l14 => k_is)
    (case c14 => k_is)
    (case k14 => k_is)
    (case a15 => k_is)
    (case l15 => k_is)
    (case c15 => k_is)
    (case k15 => k_is)
    (case a16 => k_is)
    (case l16 => k_is)
    (case c16 => k_is)
    (case k16 => k_is)
    (case a17 => k_is)
    (case l17 => k_is)
    (case c17 => k_is)
    (case k17 => k_is)
    (case a18 => k_is)
    (case l18 => k_is)
    (case c18 => k_is)
    (case k18 => k_is)
    (case a19 => k_is)
    (case l19 => k_is)
    (case c19 => k_is)
    (case k19 => k_is)
    (case a20 => k_is)
    (case l20 => k_is)
    (case c20 => k_is)
    (case k20 => k_is)
    (case a21 => k_is)
    (case l21 => k_is)
    (case c21 => k_is)
    (case k21 => k_is)
    (case a22 => k_is)
    (case l22 => k_is)
    (case c22 => k_is)
    (case k22 => k_is)
    (case a23 => k_is)
    (case l23 => k_is)
    (case c23 => k_is)
    (case k23 => k_is)
    (case a24 => k_is)
    (case l24 => k_is)
    (case c24 => k_is)
    (case k24 => k_is)
    (case a25 => k_is)
    (case l25 => k_is)
    (case c25 => k_is)
    (case k25 => k_is)
    (case a26 => k_is)
    (case l26 => k_is)
    (case c26 => k_is)
    (case k26 => k_is)
    (case a27 => k_is)
    (case l27 => k_is)
    (case c27 => k_is)
    (case k27 => k_is)
    (case a28 => k_is)
    (case l28 => k_is)
    (case c28 => k_is)
    (case k28 => k_is)
    (case a29 => k_is)
    (case l29 => k_is)
    (case c29 => k_is)
    (case k29 => k_is)
    (case a30 => k_is)
    (case l30 => k_is)
    (case c30 => k_is)
    (case k30 => k_is)
    (case a31 => k_is)
    (case l31 => k_is)
    (case c31 => k_is)
    (case k31 => k_is)
    (case xa => k_is)
    (case xk => k_is)
    (case xi => k_is)
    (case xl => k_is)
    (case xc => k_is)
    (case xf => k_is)
    (case x1 => kernel_rfl)
    (case x2 => k_is)
    (case x3 => k_is)
    (case x4 => kernel_rfl)
    (case x5 => k_is)
    (case x6 => k_is)
    (case x7 => k_is)
    (case x8 => k_is)
    (case x9 => k_is)
    (case x10 => k_is)
    (case x11 => kernel_rfl)
    (case x12 => k_is)
    (case x13 => kernel_rfl)
    (case m1 => k_is)
    (case y0 => kernel_rfl)
    (case w1 => k_is)
    (case y1 => kernel_rfl)
    (case y2 => kernel_rfl)
    (case w3 => k_is)
    (case y3 => kernel_rfl)
    (case q1 => k_is)
    (case q2 => k_is)
    (case q3 => k_is)
    (case q4 => k_is)
    (case q5 => k_is)
    (case q6 => k_is)
    (case q7 => k_is)
    (case q8 => k_is)
    (case q9 => k_is)
    (case sg => k_is)
    (case pl => k_is)
    (case z0 => k_is)
    (case z1 => k_is)
    (case z2 => k_is)
    (case z3 => k_is)
    (case z4 => k_is)
    (case z5 => k_is)
    (case z6 => k_is)
    (case z7 => k_is)
    (case z8 => k_is)
    (case z9 => k_is)
    (case z10 => k_is)
    (case z11 => k_is)
    (case z12 => k_is)
    (case z13 => k_is)
    (case z14 => k_is)
    (case z15 => k_is)
    (case z16 => k_is)
    (case z17 => k_is)
