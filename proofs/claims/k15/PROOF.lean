import PyProof.Rows.All
import Wide.All
import OpenK.AllK
import Wide.FinOn
import Lean
import PySem.Challenge.RW_swapward_k15_whole_parts_turned
set_option Elab.async false
set_option genInjectivity false
set_option linter.all false
set_option maxRecDepth 100000
set_option linter.defProp false
abbrev NS:=PySem.Value->PySem.Shared->Prop
abbrev NT:=List (PySem.Addr × PySem.Obj)
abbrev NU:=List (PySem.Str × PySem.Str)
abbrev NV:=Array PySem.Value
abbrev NW:=List PySem.Str
abbrev NX:=List PySem.Value
abbrev NY:=PySem.Str->Option PySem.Value
abbrev NZ:=List PySem.Expr
abbrev Jh:=@PySem.wpAny_bind
abbrev Ji:=@if_neg
abbrev Jj:=@if_pos
abbrev Jk:=@List.length_map
abbrev Jl:=@List.getElem?_eq_getElem
abbrev Jm:=@PySem.wpAny_pure
abbrev Jn:=@List.mem_map
abbrev Jo:=@List.mem_cons_of_mem
abbrev Jp:=@List.mem_of_getElem?
abbrev Jq:=@PySem.Heap.get?_push_of_some
abbrev Jr:=@PyProof.Rows.wpS_bind
abbrev Js:=@List.mem_cons_self
abbrev Jt:=@PyProof.Rows.wpS_pure
abbrev Ju:=@PySem.Heap.lt_size
abbrev Jv:=@List.getElem?_eq_some_iff
abbrev Jw:=@List.length_append
abbrev Jx:=@List.mem_cons
abbrev Jy:=@PySem.sizeLine_eq
abbrev Jz:=@List.mem_singleton
abbrev JA:=@List.map_append
abbrev JB:=@List.mem_append
abbrev JC:=@Nat.ne_of_lt
abbrev JD:=@Nat.lt_of_lt_of_le
abbrev JE:=@PySem.Heap.get?_push_size
abbrev JF:=@List.map_cons
abbrev JG:=@Nat.le_refl
abbrev JH:=@List.size_toArray
abbrev JI:=@List.nodup_append
abbrev JJ:=@List.getElem?_map
abbrev JK:=@Array.length_toList
abbrev JL:=@Option.some.inj
abbrev JM:=@List.append_assoc
abbrev JN:=@List.nodup_cons
abbrev JO:=@Bool.false_ne_true
abbrev JP:=@List.getElem?_append_left
abbrev JQ:=@List.mem_append_right
abbrev JR:=@decide_eq_false
abbrev JS:=@Nat.le_trans
abbrev JT:=@List.map_map
abbrev JU:=@List.lookup_cons
abbrev JV:=@decide_eq_true
abbrev JW:=@Option.map_eq_some_iff
abbrev JX:=@of_decide_eq_true
abbrev JY:=@Array.toList_append
abbrev JZ:=@List.mem_iff_getElem
abbrev J0:=@Nat.lt_succ_of_lt
abbrev J1:=@List.getElem?_append_right
abbrev J2:=@List.mem_filter
abbrev J3:=@Nat.zero_le
abbrev J4:=@List.length_take
abbrev J5:=@List.length_cons
abbrev J6:=@Bool.and_eq_true
abbrev J7:=@PySem.wpAny_setState_of
abbrev J8:=@List.length_range
abbrev J9:=@PyProof.Rows.wpS_mono
abbrev J_:=@PyProof.Rows.wpS_forRange
abbrev Ka:=@List.mem_append_left
abbrev Kb:=@List.mem_flatten
abbrev Kc:=@PySem.Heap.SameBut.update
abbrev Kd:=@PySem.wpAny_holding
abbrev Ke:=@Bool.false_eq_true
abbrev Kf:=@Nat.zero_add
abbrev Kg:=@Nat.lt_succ_self
abbrev Kh:=@PySem.Heap.get?_update_other
abbrev Ki:=@Int.emod_lt_of_pos
abbrev Kj:=@PySem.Heap.get?_update_self
abbrev Kk:=@List.nil_append
abbrev Kl:=@List.take_append_drop
abbrev Km:=@Int.emod_nonneg
abbrev Kn:=@Array.getElem?_eq_getElem
abbrev Ko:=@List.drop_eq_getElem_cons
abbrev Kp:=@List.pairwise_iff_getElem
abbrev Kq:=@PySem.Calls.spliced_cons
abbrev Kr:=@PySem.wpAny_rule
abbrev Ks:=@List.length_filter_le
abbrev Kt:=@List.perm_append_comm
abbrev Ku:=@List.pairwise_map
abbrev Kv:=@Ne.symm
abbrev Kw:=@List.getD_eq_getElem?_getD
abbrev Kx:=@PySem.Obj.data_mapFields
abbrev Ky:=@decide_eq_true_iff
abbrev Kz:=@List.not_mem_nil
abbrev KA:=@List.all_eq_true
abbrev KC:=@List.take_length
abbrev KD:=@List.map_congr_left
abbrev KG:=@PySem.wpAny_newObj_type
abbrev KH:=@PySem.Heap.size_push
abbrev KI:=@PySem.wpAny_Call_Name_kw
abbrev KJ:=@List.getElem_mem
abbrev KL:=@PySem.wpAny_askSetting
abbrev KN:=@PySem.wpAny_call_entry
abbrev KO:=@PySem.Calls.spliced_nil
abbrev KP:=@Array.toList_push
abbrev KQ:=@decide_eq_true_eq
abbrev KR:=@PySem.wpAny_loadPart'
abbrev KS:=@Nat.ne_of_gt
abbrev KU:=@PySem.F.called_set
abbrev KW:=@PySem.wpAny_mono
abbrev KY:=@Array.toList_extract
abbrev KZ:=@List.mem_of_mem_take
abbrev K0:=@List.lt_irrefl
abbrev K1:=@PySem.Heap.SameBut.refl
abbrev K3:=@PySem.fits_of_scanBound
abbrev K4:=@PyProof.Rows.callWith_type1
abbrev K5:=@Option.map_some
abbrev K6:=@PySem.wpAny_setEntries_of
abbrev K7:=@List.getElem?_set_self
abbrev K8:=@Nat.le_succ
abbrev K9:=@List.drop_of_length_le
abbrev K_:=@Array.perm_iff_toList_perm
abbrev La:=@PySem.wpAny_isInstance
abbrev Lb:=@PySem.W.kat_cons
abbrev Lc:=@PySem.SeqAt.EqAt.str_str
abbrev Ld:=@Array.getElem?_toList
abbrev Le:=@List.extract_eq_take_drop
abbrev Lf:=@List.eraseIdx_eq_take_drop_succ
abbrev Lg:=@PySem.wpAny_of_eq
abbrev Lh:=@Option.isSome_iff_exists
abbrev Li:=@PyProof.Rows.callWith_builtin1
abbrev Lj:=@if_false
abbrev Lk:=@PySem.Around.under_plainId
abbrev Ll:=@PySem.W.kat_yes
abbrev Lm:=@PySem.wpAny_storeSet_of
abbrev Ln:=@PyProof.Rows.wpS_get
abbrev Lo:=@PySem.wpAny_attempt
abbrev Lp:=@PySem.mem_of_lookup
abbrev Lq:=@List.filter_sublist
abbrev Lr:=@List.tail_drop
abbrev Ls:=@PySem.W.kat_go
abbrev Lu:=@PySem.W.kat_no
abbrev Lv:=@List.take_of_length_le
abbrev Lw:=@Nat.le_of_lt
abbrev Lx:=@Array.size_extract
abbrev Ly:=@PySem.wpAny_passesOwn
abbrev Lz:=@List.of_mem_zip
abbrev LA:=@List.length_replicate
abbrev LB:=@List.find?_cons
abbrev LC:=@PySem.codeAny_builtin
abbrev LD:=@List.forIn_cons
abbrev LF:=@List.any_cons
abbrev LG:=@List.length_eraseIdx_of_lt
abbrev LH:=@Bool.not_eq_true'
abbrev LJ:=@List.findIdx?_eq_none_iff
abbrev LK:=@beq_iff_eq
abbrev LL:=@List.findIdx?_eq_some_iff_getElem
abbrev LM:=@List.not_lt
abbrev LN:=@PyProof.Rows.wpS_lift
abbrev LO:=@List.perm_middle
abbrev LP:=@List.flatten_append
abbrev LQ:=@PySem.wpAny_callSpecial?_slot
abbrev LR:=@PySem.F.plain_list_iadd
abbrev LS:=@Nat.lt_irrefl
abbrev LU:=@PySem.wpAny_standAt
abbrev LV:=@List.append_nil
abbrev LW:=@PyProof.Rows.wpS_modify
abbrev LX:=@of_decide_eq_false
abbrev LY:=@List.length_zip
abbrev LZ:=@Array.forIn_toList
abbrev L3:=@List.pairwise_cons
abbrev L4:=@or_false
abbrev L5:=@List.eq_nil_of_length_eq_zero
abbrev L6:=@Option.isSome_map
abbrev L7:=@PySem.wpAny_setEpoch_of
abbrev L8:=@PySem.F.plainAttrs_dict
abbrev L9:=@List.take_add_one
abbrev L_:=@List.mem_range
abbrev Ma:=@PySem.builtinLookup_eq_fast
abbrev Mb:=@PySem.Obj.isFreed_of_fields
abbrev Mc:=@PySem.wpAny_setField
abbrev Md:=@Array.size_eq_one_iff
abbrev Me:=@getElem?_pos
abbrev Mg:=@Array.toArray_toList
abbrev Mh:=@Option.bind_some
abbrev Mi:=@List.pairwise_append
abbrev Mj:=@PySem.plainId_quiet
abbrev Mk:=@PySem.wpAny_newList
abbrev Ml:=@PyProof.Rows.listUpdate_at
abbrev Mm:=@PySem.wpAny_point
abbrev Mn:=@PySem.Value.isStrOf_shape
abbrev Mp:=@beq_eq_false_iff_ne
abbrev Mq:=@List.getElem?_eq_none_iff
abbrev Mr:=@List.length_set
abbrev Ms:=@PySem.Calls.call_function_entry
abbrev Mt:=@List.getLast?_eq_getElem?
abbrev Mu:=@Classical.byContradiction
abbrev Mv:=@PySem.SeqAt.EqAt.int_int
abbrev Mw:=@PySem.codeAny_mono
abbrev Mx:=@PySem.wpAny_typeOf
abbrev My:=@Nat.le_of_eq
abbrev Mz:=@if_true
abbrev MA:=@Nat.not_lt
abbrev MB:=@PySem.P.lt_str
abbrev MC:=@List.take_succ
abbrev MD:=@decide_eq_false_iff_not
abbrev ME:=@Nat.add_sub_cancel_left
abbrev MF:=@bne_self_eq_false
abbrev MG:=@PySem.F.plainAttrs_list
abbrev MH:=@PySem.W.cellsFrom_some
abbrev MI:=@PySem.richCompare_meets_room
abbrev MJ:=@Nat.le_of_not_lt
abbrev MK:=@PySem.F.plainAttrs_str
abbrev ML:=@PySem.exec_Assign_Name_used
abbrev MM:=@PySem.wpAny_Name
abbrev MN:=@Bool.eq_iff_iff
abbrev MO:=@Nat.lt_trans
abbrev MP:=@PySem.typeLookup_type
abbrev MQ:=@PySem.wpAny_updateSeq
abbrev MR:=@PyProof.Rows.entry_list_sort
abbrev MS:=@Array.toList_reverse
abbrev MT:=@List.mem_of_mem_drop
abbrev MU:=@Array.Perm.refl
abbrev MV:=@PySem.W.kat_nil
abbrev MW:=@PySem.W.kat_one
abbrev MX:=@List.Nodup.length_le_of_subset
abbrev MY:=@List.drop_append_of_le_length
abbrev MZ:=@List.filterMap_cons
abbrev M0:=@List.getElem?_range
abbrev M1:=@List.length_pos_iff
abbrev M3:=@Bool.and_false
abbrev M4:=@PySem.isSubtype_type
abbrev M5:=@PySem.wpAny_fieldsOf
abbrev M6:=@PyProof.Rows.slot_list_sort
abbrev M7:=@List.take_zero
abbrev M8:=@PySem.W.kat_lt
abbrev M9:=@Sum.inr.inj
abbrev M_:=@PySem.tupleKind_room_in1
abbrev Na:=@PySem.F.entry_proto_collect
abbrev Nb:=@PySem.F.plain_proto_collect
abbrev Nc:=@Nat.lt_of_le_of_lt
abbrev Nd:=@List.getElem_range
abbrev Nf:=@Nat.add_right_comm
abbrev Ng:=@List.append_of_mem
abbrev Nh:=@List.getElem?_take
abbrev Ni:=@PySem.Paired.length
abbrev Nj:=@Array.toList_setIfInBounds
abbrev Nk:=@List.lt_trans
abbrev Nl:=@List.map_take
abbrev Nn:=@PySem.Obj.cls_mapFields
abbrev Np:=@Int.toNat_natCast
abbrev Nq:=@List.reverse_perm
abbrev Nr:=@PySem.wpAny_dictEntries
abbrev Nt:=@PySem.F.plain_extend_loop
abbrev Nv:=@List.getElem?_zip_eq_some
abbrev Nw:=@List.getLastD_eq_getLast?
abbrev Nx:=@List.sublist_append_right
abbrev Ny:=@List.length_drop
abbrev Nz:=@PySem.wpAny_setScan_of
abbrev NA:=@Array.size_setIfInBounds
abbrev NB:=@PySem.Heap.size_update
abbrev NC:=@List.le_antisymm
abbrev ND:=@List.filterMap_cons_some
abbrev NF:=@List.filterMap_cons_none
abbrev NG:=@List.getElem?_replicate
abbrev NH:=@Option.bind_eq_some_iff
abbrev NI:=@PySem.F.entry_list_iadd
abbrev NJ:=@List.length_eq_zero_iff
abbrev NK:=@List.filter_cons_of_neg
abbrev NL:=@List.filter_cons_of_pos
abbrev NM:=@List.foldl_cons
abbrev NN:=@List.filter_map
abbrev NO:=@PySem.P.ge_str
abbrev NP:=@Nat.mod_lt
abbrev NQ:=@Bool.or_false
abbrev NR:=@Prod.mk.injEq
namespace L2
open PySem PySem.Spec PyProof.Rows
noncomputable abbrev Key:=Sum Int Str
noncomputable def mL:Key->Value->Bool
 | .inl k,v=>Value.isInt k v
 | .inr x,v=>Value.isStrOf x v
noncomputable def HJ (w:World):Key->Int
 | .inl k=>hashInt k
 | .inr x=>hashStr w x
theorem bt:∀ {k:Key} {v:Value},mL k v=true->(∃ i t,k=Sum.inl i/\v=Value.int i t)\/(∃ x t,k=Sum.inr x/\v=Value.str x t)
 | .inl i,v,h=>by
  obtain⟨t,e⟩:=Value.isInt_shape (k:=i) (v:=v) h;exact .inl ⟨i,t,rfl,e⟩
 | .inr x,v,h=>by
  obtain⟨t,e⟩:=Mn (x:=x) (v:=v) h;exact .inr ⟨x,t,rfl,e⟩
theorem wX (i:Int) (t:Tok):mL (.inl i) (.int i t)=true:=by simp[mL,Value.isInt]
theorem wW (x:Str) (t:Tok):mL (.inr x) (.str x t)=true:=by simp[mL,Value.isStrOf]
theorem Eo (a b:Int):decide ((Sum.inl a:Key)=Sum.inl b)=(a == b):=by
 by_cases e:a=b
 ·subst e;simp
 ·have h:¬ (Sum.inl a:Key)=Sum.inl b:=fun q=>e (Sum.inl.inj q);rw[JR h];exact(Mp.mpr e).symm
theorem El (a b:Str):decide ((Sum.inr a:Key)=Sum.inr b)=decide (a=b):=by
 by_cases e:a=b
 ·subst e;simp
 ·have h:¬ (Sum.inr a:Key)=Sum.inr b:=fun q=>e (M9 q);rw[JR h,JR e]
theorem En (a:Int) (b:Str):decide ((Sum.inl a:Key)=Sum.inr b)=false:=JR (fun q=>nomatch q)
theorem Em (a:Str) (b:Int):decide ((Sum.inr a:Key)=Sum.inl b)=false:=JR (fun q=>nomatch q)
noncomputable def aS (prog:Program) (w:World):PySem.KeyKind prog w Key where
 is:=mL
 hash:=HJ w
 inj:=fun v a b ha hb=>by
  rcases bt ha with ⟨i,t,rfl,rfl⟩ | ⟨x,t,rfl,rfl⟩
  ·rcases bt hb with ⟨j,u,rfl,e⟩ | ⟨y,u,rfl,e⟩
   ·injection e with e1 _;rw[e1]
   ·exact nomatch e
  ·rcases bt hb with ⟨j,u,rfl,e⟩ | ⟨y,u,rfl,e⟩
   ·exact nomatch e
   ·injection e with e1 _;rw[e1]
 byValue:=fun k v h=>by
  rcases bt h with ⟨i,t,rfl,rfl⟩ | ⟨x,t,rfl,rfl⟩<;>rfl
 pyHash:=fun hv h=>by
  rcases bt hv with ⟨i,t,rfl,rfl⟩ | ⟨x,t,rfl,rfl⟩
  ·exact wpAny_pyHash_int h
  ·exact wpAny_pyHash_str h
 eqBool:=fun hu hv h=>by
  rcases bt hu with ⟨i,t,rfl,rfl⟩ | ⟨x,t,rfl,rfl⟩
  ·rcases bt hv with ⟨j,u,rfl,rfl⟩ | ⟨y,u,rfl,rfl⟩
   ·rw[Eo]at h;exact wpAny_eqBool_int h
   ·rw[En]at h;exact SeqAt.EqAt.int_str i t y u _ _ _ _ h
  ·rcases bt hv with ⟨j,u,rfl,rfl⟩ | ⟨y,u,rfl,rfl⟩
   ·rw[Em]at h;exact SeqAt.EqAt.str_int x t j u _ _ _ _ h
   ·rw[El]at h;exact wpAny_eqBool_str h
 «strs»:=fun k x t v h=>by
  rcases bt h with ⟨i,u,rfl,e⟩ | ⟨y,u,rfl,e⟩
  ·exact nomatch e
  ·injection e with e1 _
   subst e1;cases v<;>rfl
theorem rz (prog:Program) (w:World) (i:Int) (t:Tok):(aS prog w).is (.inl i) (.int i t)=true:=wX i t
theorem rq (prog:Program) (w:World) (x:Str) (t:Tok):(aS prog w).is (.inr x) (.str x t)=true:=wW x t
set_option genInjectivity true in
inductive V where
 | aQ | bl (b:Bool) | int (i:Int) | str (x:Str) | byt (b:Array UInt8) | flt (b:UInt64) | ref (a:Addr) | ty (n:String)
 deriving DecidableEq
noncomputable def RelV:V->Value->Prop
 | .aQ,u=>u=Value.none
 | .bl b,u=>u=Value.bool b
 | .int i,u=>∃t,u=Value.int i t
 | .str x,u=>∃t,u=Value.str x t
 | .byt b,u=>∃t,u=Value.bytes b t
 | .flt b,u=>∃t,u=Value.float b t
 | .ref a,u=>u=Value.ref a
 | .ty n,u=>u=Value.type n
noncomputable abbrev Vals:List V->List Value->Prop:=Paired RelV
theorem Vals.length {xs:List V} {us:NX} (r:Vals xs us):xs.length=us.length:=Ni r
theorem Vals.get:∀ {xs:List V} {us:NX} {i:Nat} {x:V},Vals xs us->xs[i]?=some x->∃u,us[i]?=some u/\RelV x u
 | _,_,_,_,.nil,e=>by simp at e
 | _,_,0,_,.cons r _,e=>by simp at e;subst e;exact⟨_,rfl,r⟩
 | _,_,i + 1,x,.cons _ t,e=>by
  obtain⟨u,h1,h2⟩:=Vals.get (i:=i) (x:=x) t (by simpa using e);exact⟨u,by simpa using h1,h2⟩
theorem Vals.set {x:V} {u:Value} (r:RelV x u):∀ {xs:List V} {us:NX} (i:Nat),Vals xs us->Vals (xs.set i x) (us.set i u)
 | _,_,_,.nil=>.nil
 | _,_,0,.cons _ t=>.cons r t
 | _,_,i + 1,.cons q t=>.cons q (Vals.set r i t)
theorem Vals.append:∀ {xs ys:List V} {us ws:NX},Vals xs us->Vals ys ws->Vals (xs++ys) (us++ws)
 | _,_,_,_,.nil,s=>s
 | _,_,_,_,.cons r t,s=>.cons r (Vals.append t s)
theorem Vals.take:∀ {xs:List V} {us:NX} (n:Nat),Vals xs us->Vals (xs.take n) (us.take n)
 | _,_,0,_=>.nil
 | _,_,_ + 1,.nil=>.nil
 | _,_,n + 1,.cons r t=>.cons r (Vals.take n t)
theorem Vals.drop:∀ {xs:List V} {us:NX} (n:Nat),Vals xs us->Vals (xs.drop n) (us.drop n)
 | _,_,0,r=>r
 | _,_,_ + 1,.nil=>.nil
 | _,_,n + 1,.cons _ t=>Vals.drop n t
theorem Vals.none_of:∀ {xs:List V} {us:NX} {i:Nat},Vals xs us->xs[i]?=none->us[i]?=none:=fun{xs us i} r e=>by
 have h1:=r.length;have h2:xs.length<=i:=Mq.mp e;exact Mq.mpr (by omega)
noncomputable def jG:Option V->Option Value->Prop
 | some v,some u=>RelV v u
 | none,none=>True
 | _,_=>False
noncomputable def KV {κ:Type}:List (κ × V)->List (κ × Value)->Prop:=Paired fun(p:κ × V) (q:κ × Value)=>p.1=q.1/\RelV p.2 q.2
noncomputable def kV:Key->V
 | .inl i=>.int i
 | .inr x=>.str x
set_option genInjectivity true in
inductive HO where
 /-- a list -/
 | lst (xs:List V)
 /-- a tuple (never changes) -/
 | tup (xs:List V)
 /-- a dict whose keys are ints and texts; one whose keys are tuples of ints and texts (the empty one is both) -/
 | dK (kvs:List (Key × V)) | dT (kvs:List (List Key × V))
 /-- a set of ints: aA members, aA size -/
 | set (S:Int->Bool) (n:Nat)
 /-- an instance of the class at C, aA dict at dx, aA attributes -/
 | ins (C dx:Addr) (fs:List (Str × V))
 /-- the dict of the instance at x -/
 | own (x:Addr)
 /-- the dict of an exception -/
 | xd (fs:List (Str × V))
 /-- a bound method, f of x -/
 | met (f x:Addr)
 /-- a range object lo, lo + 1, .. below hi -/
 | wa (lo hi:Int)
 /-- a thing that is known to the object (the script; a dict while a loop walks it): read, never written while it is so -/
 | frz (o:Obj) (u:HO)
 /-- a code object's table -/
 | tbl (ps:NV)
 /-- any other thing, by what is true of aA one object (a def of one's own: SetO a S n := HO.ext fun h => ..) -/
 | ext (φ:Heap->Prop)
 | exo (C:Addr) (d:Option Addr)
 | clo (fd:FuncData)
 | cel (v:V)
 | cod (q:Str)
noncomputable abbrev Hp:=Addr->Option HO
noncomputable def upd (H:Hp) (a:Addr) (o:HO):Hp:=fun b=>if b=a then some o else H b
theorem ae {H:Hp} {a:Addr} {o:HO}:upd H a o a=some o:=by unfold upd;rw[Jj rfl]
theorem af {H:Hp} {a b:Addr} {o:HO} (h:b ≠ a):upd H a o b=H b:=by unfold upd;rw[Ji h]
theorem dH {H:Hp} {a:Addr} {o u:HO}:upd (upd H a o) a u=upd H a u:=by
 funext b;unfold upd;split<;>rfl
theorem FV {H:Hp} {a b:Addr} {o u:HO} (h:H a=some o) (h':H b=some u) (d:o ≠ u):a ≠ b:=by
 intro e;subst e;rw[h]at h';exact d (JL h')
theorem aj {H:Hp} {a b:Addr} {o:HO} (h:H a=some o) (h':H b=none):a ≠ b:=by
 intro e;subst e;rw[h]at h';cases h'
section
variable (P:Program) (w:World)
noncomputable def cA (H:Hp) (h:Heap) (a:Addr):HO->Prop
 | .lst xs=>xs.length<=sizeLine/\∃ (aA:NX) (n:Nat),Vals xs aA/\h.get? a=some {cls:=.type "list",data:=.seq aA.toArray n}
 | .tup xs=>xs.length<=sizeLine/\∃aA:NX,Vals xs aA/\IsTup h a aA.toArray
 | .dK kvs=>kvs.length<=sizeLine/\(a == sysModules)=false/\∃vs,KV kvs vs/\h.DictOf (aS P w) a vs
 | .dT kvs=>kvs.length<=sizeLine/\(a == sysModules)=false/\∃xs:List (List Key × Addr × Value),
   Paired (fun(p:List Key × V) (q:List Key × Addr × Value)=>p.1=q.1/\H q.2.1=some (.tup (p.1.map kV))/\RelV p.2 q.2.2) kvs xs/\
   ∃o es ep,h.get? a=some o/\o.ExactDict/\o.data=.dict es ep/\es.toList=xs.map (entryOfKey (tupleKind (aS P w)))/\(xs.map (·.1)).Nodup
 | .set S n=>h.SetOf (intKind P w) a S n
 | .ins C dx fs=>H dx=some (.own a)/\fs.length<=1000/\dx ≠ a/\h.get? a=some (PySem.W.instObj C dx)/\
   ∃mA,h.Ns1 dx mA/\(∀ f,jG (fs.lookup f) (mA f))/\PySem.Within mA (fs.map (·.1))
 | .own _=>∃o,h.get? a=some o
 | .xd fs=>∃mA,h.Ns1 a mA/\∀f,jG (fs.lookup f) (mA f)
 | .wa lo hi=>∃t u v,h.get? a=some {cls:=.type "range",data:=.fields #[.int lo t,.int hi u,.int 1 v]}
 | .frz o u=>h.get? a=some o/\cA H h a u
 | .tbl ps=>h.get? a=some {cls:=.none,data:=.fields ps}
 | .met f x=>h.get? a=some (PySem.W.methodObj (.ref f) (.ref x))
 | .ext φ=>φ h/\(∃ o,h.get? a=some o)/\∀h1 h2:Heap,φ h1->(∀ o,h1.get? a=some o->h2.get? a=some o)->φ h2
 | .exo C d=>∃oe vs,h.get? a=some oe/\oe.cls=.ref C/\oe.dict=d/\oe.data=.fields vs
 | .clo fd=>h.get? a=some {cls:=.type "function",data:=.func fd}
 | .cel v=>∃u,RelV v u/\h.IsCell a (some u)
 | .cod q=>h.CodeRec (.ref a) q
noncomputable def i4 (H:Hp) (h:Heap):Prop:=∀a o,H a=some o->cA P w H h a o
end
section
variable {P:Program} {w:World} {H H':Hp} {h h':Heap} {a:Addr} {o:HO}
theorem cA.lt (x:cA P w H h a o):a < h.objs.size:=by
 cases o with
 | lst xs=>obtain⟨_,_,_,_,e⟩:=x;exact Ju e
 | tup xs=>obtain⟨_,_,_,p⟩:=x;exact p.lt
 | dK kvs=>obtain⟨_,_,_,_,o,_,_,e,_⟩:=x;exact Ju e
 | dT kvs=>obtain⟨_,_,_,_,o,_,_,e,_⟩:=x;exact Ju e
 | set S n=>obtain⟨o,_,_,_,e,_⟩:=x;exact Ju e
 | ins C dx fs=>obtain⟨_,_,_,e,_⟩:=x;exact Ju e
 | own y=>obtain⟨_,e⟩:=x;exact Ju e
 | xd fs=>obtain⟨_,⟨_,_,_,e,_⟩,_⟩:=x;exact Ju e
 | wa lo hi=>obtain⟨_,_,_,e⟩:=x;exact Ju e
 | frz ob u=>obtain⟨e,_⟩:=x;exact Ju e
 | tbl ps=>exact Ju (show h.get? a=some _ from x)
 | met f y=>exact Ju (show h.get? a=some _ from x)
 | ext φ=>obtain⟨_,⟨_,e⟩,_⟩:=x;exact Ju e
 | exo C d=>obtain⟨oe,vs,e,_⟩:=x;exact Ju e
 | clo fd=>exact Ju (show h.get? a=some _ from x)
 | cel v=>obtain⟨u,_,e⟩:=x;exact e.lt
 | cod q=>obtain⟨c,oc,vs,t,hc,e,_⟩:=x;cases hc;exact Ju e
theorem Paired.Ee {α β:Type} {F G:α->β->Prop}:∀ {l₁:List α} {l₂:List β},Paired F l₁ l₂->(∀ a b,F a b->G a b)->Paired G l₁ l₂
 | _,_,.nil,_=>.nil
 | _,_,.cons r t,f=>.cons (f _ _ r) (Paired.Ee t f)
theorem cA.aq (x:cA P w H h a o) (k:∀b u,(b=a\/H b=some (.own a))->h.get? b=some u->h'.get? b=some u)
  (ho:∀b,H b=some (.own a)->H' b=some (.own a)) (ht:∀b xs,H b=some (.tup xs)->H' b=some (.tup xs)):cA P w H' h' a o:=by
 induction o with
 | lst xs=>obtain⟨z,aA,n,r,e⟩:=x;exact⟨z,aA,n,r,k _ _ (.inl rfl) e⟩
 | tup xs=>obtain⟨z,aA,r,ob,e,c⟩:=x;exact⟨z,aA,r,ob,k _ _ (.inl rfl) e,c⟩
 | dK kvs=>obtain⟨z,y,vs,r,ob,es,ep,e,c⟩:=x;exact⟨z,y,vs,r,ob,es,ep,k _ _ (.inl rfl) e,c⟩
 | dT kvs=>
  obtain⟨z,y,xs,r,ob,es,ep,e,c⟩:=x;exact⟨z,y,xs,Paired.Ee r fun p q z=>⟨z.1,ht _ _ z.2.1,z.2.2⟩,ob,es,ep,k _ _ (.inl rfl) e,c⟩
 | set S n=>obtain⟨ob,es,ep,t,e,c⟩:=x;exact⟨ob,es,ep,t,k _ _ (.inl rfl) e,c⟩
 | ins C dx fs=>
  obtain⟨d,z,ne,e,mA,⟨od,es,ep,e2,c⟩,r⟩:=x;exact⟨ho _ d,z,ne,k _ _ (.inl rfl) e,mA,⟨od,es,ep,k _ _ (.inr d) e2,c⟩,r⟩
 | own y=>obtain⟨ob,e⟩:=x;exact⟨ob,k _ _ (.inl rfl) e⟩
 | xd fs=>obtain⟨mA,⟨od,es,ep,e,c⟩,r⟩:=x;exact⟨mA,⟨od,es,ep,k _ _ (.inl rfl) e,c⟩,r⟩
 | wa lo hi=>obtain⟨t,u,v,e⟩:=x;exact⟨t,u,v,k _ _ (.inl rfl) e⟩
 | frz ob u ih=>obtain⟨e,q⟩:=x;exact⟨k _ _ (.inl rfl) e,ih q⟩
 | tbl ps=>
  have e:h.get? a=some {cls:=.none,data:=.fields ps}:=x;show h'.get? a=some {cls:=.none,data:=.fields ps};exact k a _ (.inl rfl) e
 | met f y=>
  have e:h.get? a=some (PySem.W.methodObj (.ref f) (.ref y)):=x;show h'.get? a=some (PySem.W.methodObj (.ref f) (.ref y));exact k a _ (.inl rfl) e
 | ext φ=>obtain⟨p,⟨o,e⟩,st⟩:=x;exact⟨st _ _ p fun o q=>k _ _ (.inl rfl) q,⟨o,k _ _ (.inl rfl) e⟩,st⟩
 | exo C d=>obtain⟨oe,vs,e,r⟩:=x;exact⟨oe,vs,k _ _ (.inl rfl) e,r⟩
 | clo fd=>
  have e:h.get? a=some {cls:=.type "function",data:=.func fd}:=x;show h'.get? a=some {cls:=.type "function",data:=.func fd};exact k a _ (.inl rfl) e
 | cel v=>obtain⟨u,r,ob,e,d⟩:=x;exact⟨u,r,ob,k _ _ (.inl rfl) e,d⟩
 | cod q=>obtain⟨c,oc,vs,t,hc,e,r⟩:=x;cases hc;exact⟨a,oc,vs,t,rfl,k _ _ (.inl rfl) e,r⟩
theorem i4.lt (x:i4 P w H h) (e:H a=some o):a < h.objs.size:=(x a o e).lt
theorem i4.fresh (x:i4 P w H h) (e:h.objs.size<=a):H a=none:=by
 cases q:H a with
 | none=>rfl
 | some u=>exact absurd (JD (x.lt q) e) (LS _)
theorem i4.kept (x:i4 P w H h) (k:∀b u,h.get? b=some u->h'.get? b=some u):i4 P w H h':=fun a o e=>
 (x a o e).aq (fun b u _ q=>k b u q) (fun _ q=>q) fun _ _ q=>q
theorem i4.laid (x:i4 P w H h) (k:∀b u,h.get? b=some u->h'.get? b=some u) (hp:h.objs.size<=a) (new:cA P w (upd H a o) h' a o):i4 P w (upd H a o) h':=fun b u e=>by
 have hn:=x.fresh hp
 by_cases hb:b=a
 ·subst hb;rw[ae]at e;cases e;exact new
 ·rw[af hb]at e;exact(x b u e).aq (fun c v _ q=>k c v q) (fun c q=>by rw[af (aj q hn)];exact q) fun c xs q=>by rw[af (aj q hn)];exact q
end
noncomputable def Rd (H:Hp) (a:Addr) (u:HO):Prop:=H a=some u\/∃o,H a=some (.frz o u)
theorem Rd.ok {P:Program} {w:World} {H:Hp} {h:Heap} {a:Addr} {u:HO} (r:Rd H a u) (x:i4 P w H h):cA P w H h a u:=by
 rcases r with r | ⟨o,r⟩
 ·exact x a u r
 ·obtain⟨_,q⟩:=x a _ r;exact q
noncomputable def GO:Option HO->Prop
 | some (.lst _)=>True
 | some (.dK _)=>True
 | some (.dT _)=>True
 | some (.set _ _)=>True
 | some (.ins _ _ _)=>True
 | some (.ext _)=>True
 | _=>False
section
variable {P:Program} {w:World} {H:Hp} {h h':Heap} {x e:Addr} {o':HO}
theorem i4.write (ok:i4 P w H h) (mu:GO (H x)) (he:e=x\/H e=some (.own x)) (k:∀b u,b ≠ e->h.get? b=some u->h'.get? b=some u) (heo:∃u,h'.get? e=some u)
  (new:cA P w (upd H x o') h' x o'):i4 P w (upd H x o') h':=fun b u q=>by
 have nown:∀c y,H c=some (.own y)->c ≠ x:=fun c y r z=>by subst z;rw[r]at mu;exact mu
 have ntup:∀c xs,H c=some (.tup xs)->c ≠ x:=fun c xs r z=>by subst z;rw[r]at mu;exact mu
 by_cases hb:b=x
 ·subst hb;rw[ae]at q;cases q;exact new
 ·rw[af hb]at q
  by_cases hbe:b=e
  ·have q':H b=some (.own x):=by
    rcases he with z | z
    ·exact absurd (hbe.trans z) hb
    ·rw[hbe];exact z
   rw[q]at q';cases q';obtain⟨v,hv⟩:=heo;exact⟨v,by rw[hbe];exact hv⟩
  ·refine(ok b u q).aq (fun c v hc r=>k c v ?_ r) (fun c r=>by rw[af (nown c b r)];exact r) fun c xs r=>by rw[af (ntup c xs r)];exact r
   rcases hc with rfl | hc
   ·exact hbe
   ·rintro rfl
    rcases he with z | z
    ·exact nown c b hc z
    ·rw[hc]at z;cases z;exact hb rfl
end
structure Un (fs ex:List Addr) (H H':Hp) (h h':Heap):Prop where
 keep:∀b o,h.get? b=some o->H b=none->b ∉ fs->b ∉ ex->h'.get? b=some o
 slot:∀b o,h.get? b=some o->H b=none->b ∈ fs->b ∉ ex->∃sl,h'.get? b=some {o with slots:=sl}
 free:∀b o,h.get? b=some o->H b=none->b ∉ ex->H' b=none
 there:∀b o,h.get? b=some o->b ∉ ex->∃o',h'.get? b=some o'
 lH:∀b xs,H b=some (.tup xs)->H' b=some (.tup xs)
 kz:∀b o u,H b=some (.frz o u)->H' b=some (.frz o u)
 kq:∀b ps,H b=some (.tbl ps)->∃more,H' b=some (.tbl (ps++more))
section
variable {fs fs' ex ex':List Addr} {H H1 H2:Hp} {h h1 h2 h':Heap} {a x e:Addr} {o:HO}
theorem Un.any (u:Un fs ex H H1 h h1) {b:Addr} {ob:Obj} (q:h.get? b=some ob) (n:H b=none) (hx:b ∉ ex):∃sl,h1.get? b=some {ob with slots:=sl}:=by
 by_cases hb:b ∈ fs
 ·exact u.slot b ob q n hb hx
 ·exact⟨ob.slots,u.keep b ob q n hb hx⟩
theorem Un.kept (k:∀b u,h.get? b=some u->h'.get? b=some u):Un fs ex H H h h':=
 ⟨fun b ob q _ _ _=>k b ob q,fun b ob q _ _ _=>⟨ob.slots,k b ob q⟩,fun _ _ _ n _=>n,fun b ob q _=>⟨ob,k b ob q⟩,fun _ _ q=>q,fun _ _ _ q=>q,fun _ ps q=>⟨#[],by rw[q];simp⟩⟩
theorem Un.refl:Un fs ex H H h h:=Un.kept fun _ _ q=>q
theorem Un.laid (k:∀b u,h.get? b=some u->h'.get? b=some u) (hp:h.objs.size<=a) (hn:H a=none):Un fs ex H (upd H a o) h h' where
 keep:=fun b u q _ _ _=>k b u q
 slot:=fun b u q _ _ _=>⟨u.slots,k b u q⟩
 free:=fun b u q n _=>by rw[af (JC (JD (Ju q) hp))];exact n
 there:=fun b u q _=>⟨u,k b u q⟩
 lH:=fun b xs q=>by rw[af (aj q hn)];exact q
 kz:=fun b u xs q=>by rw[af (aj q hn)];exact q
 kq:=fun b ps q=>⟨#[],by rw[af (aj q hn),q];simp⟩
theorem Un.write (mu:GO (H x)) (he:e=x\/H e=some (.own x)) (k:∀b u,b ≠ e->h.get? b=some u->h'.get? b=some u) (heo:∃u,h'.get? e=some u):Un fs ex H (upd H x o) h h':=by
 have hx:∀b,H b=none->b ≠ x:=fun b n z=>by subst z;rw[n]at mu;exact mu
 have hb:∀b,H b=none->b ≠ e:=fun b n z=>by
  subst z;rcases he with r | r
  ·exact hx b n r
  ·rw[n]at r;cases r
 have hm:∀b u,H b=some u->¬GO (some u)->b ≠ x:=fun b u q nm z=>by subst z;rw[q]at mu;exact nm mu
 refine⟨fun b u q n _ _=>k b u (hb b n) q,fun b u q n _ _=>⟨u.slots,k b u (hb b n) q⟩,fun b u q n _=>by rw[af (hx b n)];exact n,fun b u q _=>?_,
  fun b xs q=>by rw[af (hm b _ q fun z=>z)];exact q,fun b u xs q=>by rw[af (hm b _ q fun z=>z)];exact q,fun b ps q=>⟨#[],by rw[af (hm b _ q fun z=>z),q];simp⟩⟩
 by_cases hbe:b=e
 ·subst hbe;exact heo
 ·exact⟨u,k b u hbe q⟩
end
noncomputable def GX (h:Heap) (H:Hp):List Addr:=(List.range h.objs.size).filter fun a=>(H a).isSome
noncomputable def nU (h:Heap) (H:Hp):Heap:=PySem.W.hideAll h (GX h H)
theorem w6 (h:Heap) (H:Hp):(nU h H).objs.size=h.objs.size:=PySem.W.hideAll_size _ _
theorem z_ {h:Heap} {H:Hp} {b:Addr} {o:Obj} (e:h.get? b=some o) (n:H b=none):(nU h H).get? b=some o:=
 PySem.W.hideAll_get _ e fun hm=>by
  have q:(H b).isSome=true:=(J2.mp hm).2;rw[n]at q;simp at q
theorem B8 {h:Heap} {H:Hp} {b:Addr} {o:Obj} (e:(nU h H).get? b=some o):h.get? b=some o/\H b=none:=by
 have e':h.get? b=some o:=PySem.W.of_hideAll (GX h H) e;refine⟨e',?_⟩;cases q:H b with
 | none=>rfl
 | some x=>
  have hm:b ∈ GX h H:=J2.mpr ⟨L_.mpr (Ju e'),by simp[q]⟩;have z:(nU h H).get? b=none:=PySem.W.hideAll_none (GX h H) hm;rw[z]at e;cases e
structure Mod (K:PySem.W.Frag) (mg:NY) (base:Heap):Prop where
 FZ:K.In base
 glob:base.Ns mainGlobals mg
 blt:∃mb,base.Ns builtinsNs mb/\∀x:Str,x ≠ "__name__" ->mb x=bootBuiltins x
 nolimit:base.NoLimit
structure Cx where
 prog:Program
 w:World
 K:PySem.W.Frag
 mg:NY
 base:Heap
 A:Around
 N:NW
 s₀:Shared
 H₀:Hp
 env:Env
 outer:List Env
 stack:List Env
 ex:List Addr
 fn:Str->Bool
 calm:Bool
 pn:NT
 xe:NS
noncomputable def xQ (l:List Env):List Addr:=l.filterMap (·.frame)
noncomputable abbrev Cx.fs (X:Cx):List Addr:=xQ X.outer
noncomputable def CG (sc:Scope) (x:Str):Prop:=sc.names.lookup x=some .local\/sc.names.lookup x=some .cell\/sc.names.lookup x=some .free
noncomputable def Loc (sc:Scope) (x:Str):Prop:=sc.names.lookup x=some .local\/sc.names.lookup x=some .cell
noncomputable def Look (env:Env) (h:Heap) (m:NY) (x:Str) (u:Value):Prop:=
 (env.kindOf x=some .local/\m x=some u)\/((env.kindOf x=some .cell\/env.kindOf x=some .free)/\∃c,env.cells.lookup x=some c/\h.IsCell c (some u))
structure Cx.Ok (X:Cx):Prop where
 mod:Mod X.K X.mg X.base
 kind:X.env.scope.kind=.function
 glob:X.env.globals=mainGlobals
 blt:X.env.builtins=builtinsNs
 above:X.s₀.heap.objs.size<=X.env.locals
 inj:∀x y c,X.env.cells.lookup x=some c->X.env.cells.lookup y=some c->x=y
 has:∀x,(X.env.kindOf x=some .cell\/X.env.kindOf x=some .free)->∃c,X.env.cells.lookup x=some c
 Gy:∀x c,X.fn x=true->X.env.cells.lookup x=some c->X.s₀.heap.objs.size<=c
 hd:X.calm=true->X.A.handled=none
 frames:X.A.frames=some X.stack
 E7:X.stack=X.outer\/(X.stack=X.env::X.outer/\X.env.frame=some X.env.locals)
 G_:∀b ∈ X.ex,b ≠ X.env.locals/\∀x c,X.env.cells.lookup x=some c->c ≠ b
 bs:∀b o,X.base.get? b=some o->X.s₀.heap.get? b=some o/\X.H₀ b=none
 Cz:X.base.objs.size<=X.s₀.heap.objs.size
 zr:∀b o,X.base.get? b=some o->b ∉ X.ex
 Al:∀b ∈ X.ex,b ∉ X.fs
 jV:X.s₀.heap.FunFrames X.base X.outer
 EB:∀b ∈ X.fs,X.H₀ b=none
structure Inv (X:Cx) (pins:NT) (σ:List (Option V)) (H:Hp) (s:Shared):Prop where
 ok:X.Ok
 os:s.os=X.s₀.os
 bare:AllBare s.gens
 base:Un X.fs X.ex X.H₀ H X.s₀.heap s.heap
 loc:∃m,s.heap.Ns X.env.locals m/\∀ (i:Nat) (x:Str) (v:V),X.N[i]?=some x->σ[i]?=some (some v)->CG X.env.scope x->∃u,RelV v u/\Look X.env s.heap m x u
 cell:∀x c,X.env.cells.lookup x=some c->∃v,s.heap.IsCell c v
 free:H X.env.locals=none
 fz:∀x c,X.env.cells.lookup x=some c->H c=none
 pin:∀p ∈ X.pn++pins,s.heap.get? p.1=some p.2/\H p.1=none/\p.1 ≠ X.env.locals/\p.1 ∉ X.fs/\∀v,p.2.data ≠ .cell v
 bB:i4 X.prog X.w H s.heap
 len:σ.length=X.N.length
section
variable {X:Cx} {pins:NT} {σ:List (Option V)} {H H':Hp} {s:Shared} {h':Heap}
theorem Cx.Ok.D8 (ok:X.Ok) {b:Addr} {o:Obj} (e:X.base.get? b=some o):b ∉ X.fs:=fun hb=>by
 have:=(ok.jV.mem hb).1;rw[e]at this;cases this
theorem Inv.bs (I:Inv X pins σ H s):∀b o,X.base.get? b=some o->s.heap.get? b=some o/\H b=none:=fun b o e=>
 ⟨I.base.keep b o (I.ok.bs b o e).1 (I.ok.bs b o e).2 (I.ok.D8 e) (I.ok.zr b o e),I.base.free b o (I.ok.bs b o e).1 (I.ok.bs b o e).2 (I.ok.zr b o e)⟩
theorem Inv.bk (I:Inv X pins σ H s):∀b o,X.base.get? b=some o->s.heap.get? b=some o:=fun b o e=>(I.bs b o e).1
theorem Inv.mod (I:Inv X pins σ H s):Mod X.K X.mg X.base:=I.ok.mod
theorem Inv.zQ (I:Inv X pins σ H s):X.K.In s.heap:=I.ok.mod.FZ.keeps I.bk
theorem Inv.lt (I:Inv X pins σ H s):X.env.locals < s.heap.objs.size:=let ⟨_,hn,_⟩:=I.loc;hn.lt
theorem Inv.sz (I:Inv X pins σ H s):X.s₀.heap.objs.size<=s.heap.objs.size:=JS I.ok.above (Lw I.lt)
theorem Inv.HD (I:Inv X pins σ H s) {a:Addr} (h:s.heap.objs.size<=a):a ∉ X.fs:=fun hb=>by
 obtain⟨_,o,ho,_⟩:=I.ok.jV.mem hb;exact absurd (JD (Ju ho) (JS I.sz h)) (LS _)
theorem Inv.EG (I:Inv X pins σ H s):∀x c,X.env.cells.lookup x=some c->c ≠ X.env.locals:=fun x c e z=>by
 obtain⟨v,o,ho,hd⟩:=I.cell x c e;obtain⟨m,⟨o',es,ep,ho',hd',_⟩,_⟩:=I.loc;rw[z,ho']at ho;cases ho;rw[hd']at hd;cases hd
theorem Inv.jV (I:Inv X pins σ H s):s.heap.FunFrames X.base X.outer:=by
 have all:∀ (l:List Env),(∀ b ∈ xQ l,b ∈ X.fs)->X.s₀.heap.FunFrames X.base l->s.heap.FunFrames X.base l:=by
  intro l
  induction l with
  | nil=>intro _ _;trivial
  | cons env r ih=>
   intro hs hl;obtain⟨hk,⟨L,o,hf,hn,ho,hd⟩,hr⟩:=hl;have hL:L ∈ X.fs:=hs L (by unfold xQ;rw[MZ,hf];exact Js);obtain⟨sl,e⟩:=I.base.slot L o ho (I.ok.EB L hL) hL fun z=>I.ok.Al L z hL;exact⟨hk,⟨L,_,hf,hn,e,hd⟩,ih (fun b hb=>hs b (by unfold xQ;rw[MZ,hf];exact Jo _ hb)) hr⟩
 exact all X.outer (fun _ hb=>hb) I.ok.jV
theorem Inv.stack (I:Inv X pins σ H s):s.heap.FunFrames X.base X.stack:=by
 rcases I.ok.E7 with e | ⟨e,hf⟩
 ·rw[e];exact I.jV
 ·rw[e];obtain⟨m,hn,_⟩:=I.loc;refine .cons (by rw[I.ok.kind];decide) hf hn ?_ I.jV;exact Heap.get?_none_of_le (JS I.ok.Cz I.ok.above)
theorem Inv.pF (I:Inv X pins σ H s):∀b ∈ xQ X.stack,b ∈ X.env.locals::X.fs:=fun b hb=>by
 rcases I.ok.E7 with e | ⟨e,hf⟩
 ·rw[e]at hb;exact Jo _ hb
 ·rw[e]at hb;unfold xQ at hb;rw[MZ,hf]at hb;exact hb
theorem Inv.uG (I:Inv X pins σ H s):∀b ∈ xQ X.stack,H b=none:=fun b hb=>by
 rcases Jx.mp (I.pF b hb)with e | hb
 ·rw[e];exact I.free
 ·obtain⟨_,o,ho,_⟩:=I.ok.jV.mem hb;exact I.base.free b o ho (I.ok.EB b hb) fun z=>I.ok.Al b z hb
theorem Inv.step {g':Array GenState} {t':Nat} {d':Drawn} {ch:List Addr} (I:Inv X pins σ H s)
  (hch:∀b ∈ ch,(b ∈ X.ex\/X.s₀.heap.objs.size<=b)/\b ≠ X.env.locals/\(∀ x c,X.env.cells.lookup x=some c->c ≠ b)/\∀p ∈ X.pn++pins,p.1 ≠ b)
  (keep:∀b o,b ≠ X.env.locals->b ∉ X.fs->b ∉ ch->s.heap.get? b=some o->H b=none->h'.get? b=some o)
  (slot:∀b o,b ≠ X.env.locals->b ∈ X.fs->b ∉ ch->s.heap.get? b=some o->H b=none->∃sl,h'.get? b=some {o with slots:=sl}) (free:∀b o,b ∉ ch->s.heap.get? b=some o->H b=none->H' b=none)
  (there:∀b o,b ∉ ch->s.heap.get? b=some o->∃o',h'.get? b=some o')
  (lH:∀b xs,H b=some (.tup xs)->H' b=some (.tup xs)) (kz:∀b o u,H b=some (.frz o u)->H' b=some (.frz o u)) (kq:∀b ps,H b=some (.tbl ps)->∃more,H' b=some (.tbl (ps++more)))
  (ns:∀m,s.heap.Ns X.env.locals m->h'.Ns X.env.locals m) (bB:i4 X.prog X.w H' h') (hg:AllBare g'):
  Inv X pins σ H' {s with heap:=h',gens:=g',drawn:=d',toks:=t'}:=by
 have neL:∀b o,X.s₀.heap.get? b=some o->b ≠ X.env.locals:=fun b o e=>JC (JD (Ju e) I.ok.above)
 have neC:∀b o,X.s₀.heap.get? b=some o->b ∉ X.ex->b ∉ ch:=fun b o e hx hb=>by
  rcases(hch b hb).1 with z | z
  ·exact hx z
  ·exact absurd (JD (Ju e) z) (LS _)
 have cellK:∀x c,X.env.cells.lookup x=some c->∀v,s.heap.IsCell c v->h'.IsCell c v:=fun x c e v ⟨o,ho,hd⟩=>by
  have nch:c ∉ ch:=fun z=>(hch c z).2.2.1 x c e rfl
  by_cases hc:c ∈ X.fs
  ·obtain⟨sl,q⟩:=slot c o (I.EG x c e) hc nch ho (I.fz x c e);exact⟨_,q,hd⟩
  ·exact⟨o,keep c o (I.EG x c e) hc nch ho (I.fz x c e),hd⟩
 refine⟨I.ok,I.os,hg,⟨fun b o e n hb hx=>?_,fun b o e n hb hx=>?_,fun b o e n hx=>?_,fun b o e hx=>?_,fun b xs e=>lH b xs (I.base.lH b xs e),fun b o xs e=>kz b o xs (I.base.kz b o xs e),fun b ps e=>?_⟩,?_,fun x c e=>?_,?_,fun x c e=>?_,fun p hp=>?_,bB,I.len⟩
 ·exact keep b o (neL b o e) hb (neC b o e hx) (I.base.keep b o e n hb hx) (I.base.free b o e n hx)
 ·obtain⟨sl,e1⟩:=I.base.slot b o e n hb hx;obtain⟨sl',e2⟩:=slot b _ (neL b o e) hb (neC b o e hx) e1 (I.base.free b o e n hx);exact⟨sl',e2⟩
 ·obtain⟨o',e1⟩:=I.base.there b o e hx;exact free b o' (neC b o e hx) e1 (I.base.free b o e n hx)
 ·obtain⟨o',e1⟩:=I.base.there b o e hx;exact there b o' (neC b o e hx) e1
 ·obtain⟨m1,e1⟩:=I.base.kq b ps e;obtain⟨m2,e2⟩:=kq b _ e1;exact⟨m1++m2,by rw[e2,Array.append_assoc]⟩
 ·obtain⟨m,hn,hl⟩:=I.loc;refine⟨m,ns m hn,fun i x v e1 e2 e3=>?_⟩;obtain⟨u,r,l⟩:=hl i x v e1 e2 e3;refine⟨u,r,?_⟩;rcases l with l | ⟨k,c,e,z⟩
  ·exact .inl l
  ·exact .inr ⟨k,c,e,cellK x c e _ z⟩
 ·obtain⟨v,z⟩:=I.cell x c e;exact⟨v,cellK x c e v z⟩
 ·obtain⟨m,⟨o,_,_,ho,_⟩,_⟩:=I.loc;exact free _ o (fun z=>(hch _ z).2.1 rfl) ho I.free
 ·obtain⟨v,o,ho,hd⟩:=I.cell x c e;exact free c o (fun z=>(hch c z).2.2.1 x c e rfl) ho (I.fz x c e)
 ·obtain⟨e,n,ne,nf,d⟩:=I.pin p hp;have nch:p.1 ∉ ch:=fun z=>(hch p.1 z).2.2.2 p hp rfl;exact⟨keep p.1 p.2 ne nf nch e n,free p.1 p.2 nch e n,ne,nf,d⟩
theorem Inv.un {t':Nat} (I:Inv X pins σ H s) (u:Un X.fs [] H H' s.heap h') (bB:i4 X.prog X.w H' h'):Inv X pins σ H' {s with heap:=h',toks:=t'}:=by
 obtain⟨m,⟨o,es,ep,ho,r⟩,_⟩:=id I.loc;obtain⟨sl,hL⟩:=u.any ho I.free (by simp)
 exact I.step (g':=s.gens) (d':=s.drawn) (ch:=[]) (fun _ z=>nomatch z) (fun b o _ hb _ e n=>u.keep b o e n hb (by simp)) (fun b o _ hb _ e n=>u.slot b o e n hb (by simp)) (fun b o _ e n=>u.free b o e n (by simp)) (fun b o _ e=>u.there b o e (by simp)) u.lH u.kz u.kq (fun m' hm=>by
  obtain⟨o',es',ep',ho',r'⟩:=hm;rw[ho]at ho';cases ho';exact⟨_,es',ep',hL,r'⟩) bB I.bare
theorem Inv.call {g':Array GenState} {t':Nat} {d':Drawn} {ch:List Addr} (I:Inv X pins σ H s) (u:Un (xQ X.stack) ch H H' s.heap h') (bB:i4 X.prog X.w H' h') (hg:AllBare g')
  (hch:∀b ∈ ch,(b ∈ X.ex\/X.s₀.heap.objs.size<=b)/\b ≠ X.env.locals/\(∀ x c,X.env.cells.lookup x=some c->c ≠ b)/\∀p ∈ X.pn++pins,p.1 ≠ b):
  Inv X pins σ H' {s with heap:=h',gens:=g',drawn:=d',toks:=t'}:=by
 obtain⟨m,⟨o,es,ep,ho,r⟩,_⟩:=id I.loc;obtain⟨sl,hL⟩:=u.any ho I.free fun z=>(hch _ z).2.1 rfl
 exact I.step (ch:=ch) hch (fun b o hL hb hc e n=>u.keep b o e n (fun z=>(Jx.mp (I.pF b z)).elim hL hb) hc) (fun b o _ _ hc e n=>u.any e n hc) (fun b o hc e n=>u.free b o e n hc) (fun b o hc e=>u.there b o e hc) u.lH u.kz u.kq (fun m' hm=>by
  obtain⟨o',es',ep',ho',r'⟩:=hm;rw[ho]at ho';cases ho';exact⟨_,es',ep',hL,r'⟩) bB hg
theorem Inv.turned {t':Nat} {it:Addr} (I:Inv X pins σ H s) (k:∀b o,b ≠ it->s.heap.get? b=some o->h'.get? b=some o) (hn:H it=none) (hL:it ≠ X.env.locals)
  (h1:it ∈ X.ex\/X.s₀.heap.objs.size<=it) (h2:∀x c,X.env.cells.lookup x=some c->c ≠ it) (h3:∀p ∈ X.pn++pins,p.1 ≠ it):Inv X pins σ H {s with heap:=h',toks:=t'}:=by
 have nit:∀b u,H b=some u->b ≠ it:=fun b u e z=>by rw[z,hn]at e;cases e
 refine I.step (g':=s.gens) (d':=s.drawn) (ch:=[it]) (fun b hb=>?_) (fun b o _ _ hc e _=>k b o (fun z=>hc (by simp[z])) e) (fun b o _ _ hc e _=>⟨o.slots,k b o (fun z=>hc (by simp[z])) e⟩) (fun _ _ _ _ n=>n)
  (fun b o hc e=>⟨o,k b o (fun z=>hc (by simp[z])) e⟩) (fun _ _ e=>e) (fun _ _ _ e=>e) (fun b ps e=>⟨#[],by rw[e];simp⟩) (fun m hm=>?_) (fun b u e=>?_) I.bare
 ·have e:b=it:=by simpa using hb
  subst e;exact⟨h1,hL,h2,h3⟩
 ·obtain⟨o,es,ep,ho,r⟩:=hm;exact⟨o,es,ep,k _ o (Kv hL) ho,r⟩
 ·refine(I.bB b u e).aq (fun c v hc q=>k c v ?_ q) (fun _ q=>q) fun _ _ q=>q;rcases hc with z | z
  ·rw[z];exact nit b u e
  ·exact nit c _ z
theorem Inv.tok (I:Inv X pins σ H s) (t:Nat):Inv X pins σ H {s with toks:=t}:=I.un (h':=s.heap) (t':=t) Un.refl I.bB
theorem Inv.kept {t':Nat} (I:Inv X pins σ H s) (k:∀b u,s.heap.get? b=some u->h'.get? b=some u):Inv X pins σ H {s with heap:=h',toks:=t'}:=I.un (Un.kept k) (I.bB.kept k)
theorem Inv.laid {a:Addr} {o:HO} {t':Nat} (I:Inv X pins σ H s) (k:∀b u,s.heap.get? b=some u->h'.get? b=some u) (hp:s.heap.objs.size<=a) (new:cA X.prog X.w (upd H a o) h' a o):
  Inv X pins σ (upd H a o) {s with heap:=h',toks:=t'}:=I.un (Un.laid k hp (I.bB.fresh hp)) (I.bB.laid k hp new)
theorem Inv.write {x e:Addr} {o:HO} {t':Nat} (I:Inv X pins σ H s) (mu:GO (H x)) (he:e=x\/H e=some (.own x)) (k:∀b u,b ≠ e->s.heap.get? b=some u->h'.get? b=some u) (heo:∃u,h'.get? e=some u)
  (new:cA X.prog X.w (upd H x o) h' x o):Inv X pins σ (upd H x o) {s with heap:=h',toks:=t'}:=I.un (Un.write mu he k heo) (I.bB.write mu he k heo new)
theorem Inv.uZ {pins':NT} (I:Inv X pins σ H s) (h:∀p ∈ pins',s.heap.get? p.1=some p.2/\H p.1=none/\p.1 ≠ X.env.locals/\p.1 ∉ X.fs/\∀v,p.2.data ≠ .cell v):Inv X pins' σ H s:=
 ⟨I.ok,I.os,I.bare,I.base,I.loc,I.cell,I.free,I.fz,fun p hp=>(JB.mp hp).elim (fun z=>I.pin p (Ka _ z)) (h p),I.bB,I.len⟩
theorem rm {N:NW} (hN:N.Nodup) {i j:Nat} {x:Str} (a:N[i]?=some x) (b:N[j]?=some x):i=j:=by
 obtain⟨h1,e1⟩:=Jv.mp a;obtain⟨h2,e2⟩:=Jv.mp b;exact(List.getElem_inj hN).mp (e1.trans e2.symm)
theorem gZ {M:Model} {A:Around} {E:NS} {i:Nat} {x:Str} {v:V} {u:Value} {Q:Unit->Shared->Prop} (I:Inv X pins σ H s) (hN:X.N.Nodup) (hi:X.N[i]?=some x) (hx:Loc X.env.scope x) (r:RelV v u)
  (h:∀s',Inv X pins (σ.set i (some v)) H s'->(∃ a,Heap.SameBut a s.heap s'.heap/\(a=X.env.locals\/X.env.cells.lookup x=some a))->Q () s') (hf:X.fn x=true\/X.env.scope.names.lookup x=some .local:=by first | exact .inl rfl | exact .inr rfl | assumption):wpAny M A (storeName X.env x u) Q E s:=by
 obtain⟨m,hn,hl⟩:=id I.loc;have hcls:(X.env.scope.kind == .class || (X.env.scope.kind == .module && X.env.locals != X.env.globals))=false:=by rw[I.ok.kind];rfl
 have hiσ:i < σ.length:=by rw[I.len];exact(Jv.mp hi).1
 have EG:=I.EG
 have tracked:∀ {a:Addr} {h':Heap},(∃ o,s.heap.get? a=some o/\H a=none)->Heap.SameBut a s.heap h'->i4 X.prog X.w H h':=fun{a h'} ha hs b ob e=>by
  obtain⟨_,_,hfree⟩:=ha;refine(I.bB b ob e).aq (fun c w' hc q=>(hs.2 c ?_).trans q) (fun _ q=>q) fun _ _ q=>q
  rintro rfl
  rcases hc with rfl | hc
  ·rw[hfree]at e;cases e
  ·rw[hfree]at hc;cases hc
 rcases hx with hk | hk
 ·refine wpAny_storeName_local hk hn (fun h' hn' hs=>?_) hcls;obtain⟨oL,_,_,hoL,_⟩:=id hn;refine h _ ⟨I.ok,I.os,I.bare,⟨fun b o e n hb hx=>?_,fun b o e n hb hx=>?_,I.base.free,fun b o e hx=>?_,I.base.lH,I.base.kz,I.base.kq⟩,⟨_,hn',fun j y v' e1 e2 e3=>?_⟩,fun y c e=>?_,I.free,I.fz,fun p hp=>?_,tracked ⟨oL,hoL,I.free⟩ hs,by simpa using I.len⟩ ⟨_,hs,.inl rfl⟩
  ·exact(hs.2 b (JC (JD (Ju e) I.ok.above))).trans (I.base.keep b o e n hb hx)
  ·obtain⟨sl,e1⟩:=I.base.slot b o e n hb hx;exact⟨sl,(hs.2 b (JC (JD (Ju e) I.ok.above))).trans e1⟩
  ·obtain⟨o',e1⟩:=I.base.there b o e hx;exact⟨o',(hs.2 b (JC (JD (Ju e) I.ok.above))).trans e1⟩
  ·by_cases hj:j=i
   ·subst hj;rw[hi]at e1;cases e1;rw[K7 hiσ]at e2;cases e2
    exact⟨u,r,.inl ⟨hk,by simp⟩⟩
   ·rw[List.getElem?_set_ne (Kv hj)]at e2;obtain⟨u',r',q⟩:=hl j y v' e1 e2 e3;refine⟨u',r',?_⟩;rcases q with ⟨k,e⟩ | ⟨k,c,e,z⟩
    ·refine .inl ⟨k,?_⟩;have:y ≠ x:=fun e=>hj (rm hN e1 (e ▸ hi));simp[this,e]
    ·exact .inr ⟨k,c,e,z.sameBut hs (EG y c e)⟩
  ·obtain⟨w',z⟩:=I.cell y c e;exact⟨w',z.sameBut hs (EG y c e)⟩
  ·obtain⟨e,n,ne,nf,d⟩:=I.pin p hp;exact⟨(hs.2 p.1 ne).trans e,n,ne,nf,d⟩
 ·have hfn:X.fn x=true:=by
   rcases hf with z | z
   ·exact z
   ·rw[z]at hk;cases hk
  obtain⟨c,hc⟩:=I.ok.has x (.inl hk);obtain⟨w',z⟩:=I.cell x c hc;refine wpAny_storeName_cell I.ok.kind hk hc z (fun h' hc' hs=>?_);obtain⟨oc,hoc,hocd⟩:=id z;refine h {s with heap:=h'} ⟨I.ok,I.os,I.bare,⟨fun b o e n hb hx=>?_,fun b o e n hb hx=>?_,I.base.free,fun b o e hx=>?_,I.base.lH,I.base.kz,I.base.kq⟩,⟨m,hn.sameBut hs (Kv (EG x c hc)),fun j y v' e1 e2 e3=>?_⟩,fun y c' e=>?_,I.free,I.fz,fun p hp=>?_,tracked ⟨oc,hoc,I.fz x c hc⟩ hs,by simpa using I.len⟩ ⟨c,hs,.inr hc⟩
  ·exact(hs.2 b (JC (JD (Ju e) (I.ok.Gy x c hfn hc)))).trans (I.base.keep b o e n hb hx)
  ·obtain⟨sl,e1⟩:=I.base.slot b o e n hb hx;exact⟨sl,(hs.2 b (JC (JD (Ju e) (I.ok.Gy x c hfn hc)))).trans e1⟩
  ·obtain⟨o',e1⟩:=I.base.there b o e hx;exact⟨o',(hs.2 b (JC (JD (Ju e) (I.ok.Gy x c hfn hc)))).trans e1⟩
  ·by_cases hj:j=i
   ·subst hj;rw[hi]at e1;cases e1;rw[K7 hiσ]at e2;cases e2
    exact⟨u,r,.inr ⟨.inl hk,c,hc,hc'⟩⟩
   ·rw[List.getElem?_set_ne (Kv hj)]at e2;obtain⟨u',r',q⟩:=hl j y v' e1 e2 e3;refine⟨u',r',?_⟩;rcases q with q | ⟨k,c',e,z'⟩
    ·exact .inl q
    ·refine .inr ⟨k,c',e,z'.sameBut hs ?_⟩
     rintro rfl
     exact hj (rm hN e1 (I.ok.inj _ _ _ e hc ▸ hi))
  ·by_cases hcc:c'=c
   ·subst hcc;exact⟨_,hc'⟩
   ·obtain⟨w2,z2⟩:=I.cell y c' e;exact⟨w2,z2.sameBut hs hcc⟩
  ·obtain⟨e,n,ne,nf,d⟩:=I.pin p hp;refine⟨(hs.2 p.1 ?_).trans e,n,ne,nf,d⟩;intro q;rw[q,hoc]at e;have q':oc=p.2:=JL e;exact d w' (by rw[<-q'];exact hocd)
theorem qK {M:Model} {A:Around} {E:NS} {i:Nat} {x:Str} {v:V} {u:Value} {Q:Unit->Shared->Prop} (I:Inv X pins σ H s) (hN:X.N.Nodup) (hi:X.N[i]?=some x) (hx:Loc X.env.scope x) (r:RelV v u)
  (h:∀s',Inv X pins (σ.set i (some v)) H s'->Q () s') (hf:X.fn x=true\/X.env.scope.names.lookup x=some .local:=by first | exact .inl rfl | exact .inr rfl | assumption):wpAny M A (storeName X.env x u) Q E s:=
 gZ I hN hi hx r (fun s' I' _=>h s' I') hf
theorem Inv.De {s':Shared} {ch:List Addr} (I:Inv X pins σ H s) (ho:s'.os=s.os) (u:Un (xQ X.stack) ch H H' s.heap s'.heap) (bB:i4 X.prog X.w H' s'.heap) (hg:AllBare s'.gens)
  (hch:∀b ∈ ch,(b ∈ X.ex\/X.s₀.heap.objs.size<=b)/\b ≠ X.env.locals/\(∀ x c,X.env.cells.lookup x=some c->c ≠ b)/\∀p ∈ X.pn++pins,p.1 ≠ b):Inv X pins σ H' s':=by
 obtain⟨h',g',d',t',o'⟩:=s';have e:o'=s.os:=ho;subst e;exact I.call (g':=g') (t':=t') (d':=d') u bB hg hch
end
noncomputable abbrev XK:=Value->Option Addr->Hp->Prop
noncomputable abbrev St:=List (Option V)
noncomputable abbrev VK:=V->Hp->Prop
noncomputable abbrev TE:=St->Hp->VK->Prop
noncomputable abbrev TT:=St->Hp->(Bool->Hp->Prop)->Prop
noncomputable abbrev TA:=St->Hp->(List V->Hp->Prop)->Prop
structure Ends where
 nx:St->Hp->Prop
 rt:VK
 bk:St->Hp->Prop:=fun _ _=>False
 ct:St->Hp->Prop:=fun _ _=>False
noncomputable abbrev TS:=Ends->St->Hp->Prop
noncomputable def EP (X:Cx) (pins:NT) (σ:St) (Q:VK) (u:Value) (s':Shared):Prop:=∃v H',Inv X pins σ H' s'/\RelV v u/\Q v H'
noncomputable def TP (X:Cx) (pins:NT) (σ:St) (Q:Bool->Hp->Prop) (b:Bool) (s':Shared):Prop:=∃H',Inv X pins σ H' s'/\Q b H'
noncomputable def AP (X:Cx) (pins:NT) (σ:St) (Q:List V->Hp->Prop) (us:NX) (s':Shared):Prop:=∃vs H',Inv X pins σ H' s'/\Vals vs us/\Q vs H'
noncomputable def SP (X:Cx) (pins:NT) (D:Ends) (f:Flow) (s':Shared):Prop:=
 match f with
 | .next=>∃σ' H',Inv X pins σ' H' s'/\D.nx σ' H'
 | .brk=>∃σ' H',Inv X pins σ' H' s'/\D.bk σ' H'
 | .cont=>∃σ' H',Inv X pins σ' H' s'/\D.ct σ' H'
 | .ret u=>∃v σ' H',Inv X pins σ' H' s'/\RelV v u/\D.rt v H'
noncomputable def PE (X:Cx) (e:Expr) (t:TE):Prop:=
 ∀ (pins:NT) (s:Shared) (σ:St) (H:Hp) (Q:VK),Inv X pins σ H s->t σ H Q->wpAny (model X.prog X.w) X.A (eval e X.env) (EP X pins σ Q) X.xe s
noncomputable def PT (X:Cx) (e:Expr) (t:TT):Prop:=
 ∀ (pins:NT) (s:Shared) (σ:St) (H:Hp) (Q:Bool->Hp->Prop),Inv X pins σ H s->t σ H Q->wpAny (model X.prog X.w) X.A (isTrue e X.env (eval e X.env)) (TP X pins σ Q) X.xe s
noncomputable def PW (X:Cx) (e:Expr) (t:TT):Prop:=
 ∀ (whole:Sem Value) (pins:NT) (s:Shared) (σ:St) (H:Hp) (Q:Bool->Hp->Prop),Inv X pins σ H s->t σ H Q->wpAny (model X.prog X.w) X.A (isTrue e X.env whole) (TP X pins σ Q) X.xe s
theorem PW.pt {X:Cx} {e:Expr} {t:TT} (h:PW X e t):PT X e t:=h _
noncomputable def PA (X:Cx) (es:NZ) (t:TA):Prop:=
 ∀ (pos:Pos) (pins:NT) (s:Shared) (σ:St) (H:Hp) (Q:List V->Hp->Prop),Inv X pins σ H s->t σ H Q->wpAny (model X.prog X.w) X.A (spliced (backTo pos (starEach es X.env))) (AP X pins σ Q) X.xe s
noncomputable def PS (X:Cx) (st:Stmt) (t:TS):Prop:=
 ∀ (pins:NT) (s:Shared) (σ:St) (H:Hp) (D:Ends),Inv X pins σ H s->t D σ H->wpAny (model X.prog X.w) X.A (exec st X.env) (SP X pins D) X.xe s
noncomputable def AX (X:Cx) (st:List Stmt) (t:TS):Prop:=
 ∀ (pins:NT) (s:Shared) (σ:St) (H:Hp) (D:Ends),Inv X pins σ H s->t D σ H->wpAny (model X.prog X.w) X.A (execs st X.env) (SP X pins D) X.xe s
theorem cz {α:Type} {t:Sem α} {Q Q':α->Shared->Prop} {M:Model} {A:Around} {E:NS} {s:Shared} (h:wpAny M A t Q E s) (hQ:∀a s,Q a s->Q' a s):wpAny M A t Q' E s:=KW h hQ fun _ _ x=>x
section
variable {X:Cx}
noncomputable def Hl (i:Nat):TE:=fun σ H Q=>∃v,σ[i]?=some (some v)/\Q v H
noncomputable def tC (v:V):TE:=fun _ H Q=>Q v H
theorem DM {i:Nat} {x:Str} {pos:Pos} (hN:X.N[i]?=some x) (hv:CG X.env.scope x) (hd:(x == ("__debug__" :Str))=false:=by decide) (hcd:(x == ("__classdict__" :Str))=false:=by decide):PE X (.Name x pos) (Hl i):=by
 intro pins s σ H Q I h;obtain⟨v,e,h⟩:=h;obtain⟨m,hn,hl⟩:=I.loc;obtain⟨u,r,l⟩:=hl i x v hN e hv;have fin:EP X pins σ Q u s:=⟨v,H,I,r,h⟩;rcases l with ⟨hk,hm⟩ | ⟨hk,c,hc,hcell⟩
 ·exact MM (wpAny_loadName_local I.ok.kind hk hn hm fin) hd
 ·rcases hk with hk | hk
  ·exact MM (wpAny_loadName_cell I.ok.kind hk hc hcell fin) hd
  ·exact MM (wpAny_loadName_free I.ok.kind hk hc hcell fin hcd) hd
theorem DQ {i j pos}:PE X (.Constant (.int i) j pos) (tC (.int i)):=fun _ _ _ H _ I h=>wpAny_Constant_int ⟨.int i,H,I.tok _,⟨_,rfl⟩,h⟩
theorem FI {b j pos}:PE X (.Constant (.bool b) j pos) (tC (.bl b)):=fun _ _ _ H _ I h=>Constant_bool ⟨.bl b,H,I,rfl,h⟩
theorem DO {j pos}:PE X (.Constant .none j pos) (tC .aQ):=fun _ _ _ H _ I h=>Constant_none ⟨.aQ,H,I,rfl,h⟩
theorem DN {x j pos}:PE X (.Constant (.str x) j pos) (tC (.str x)):=fun _ _ _ H _ I h=>Calls.Constant_str ⟨.str x,H,I.tok _,⟨_,rfl⟩,h⟩
noncomputable def Gl (X:Cx) (x:Str):Prop:=X.env.kindOf x=some .globalImplicit
theorem u_ {E:NS} {pins:NT} {s:Shared} {σ:St} {H:Hp} {x:Str} {u:Value} {pos:Pos} {Q:NS} (I:Inv X pins σ H s) (hg:Gl X x) (hm:X.mg x=some u) (h:Q u s)
  (hd:(x == ("__debug__" :Str))=false:=by decide):wpAny (model X.prog X.w) X.A (eval (.Name x pos) X.env) Q E s:=
 Calls.Name_function_global I.ok.kind hg (Calls.loadGlobal_global (by rw[I.ok.glob];exact I.mod.glob.keeps I.bk) hm h) hd
theorem eT {E:NS} {pins:NT} {s:Shared} {σ:St} {H:Hp} {x:Str} {u:Value} {pos:Pos} {Q:NS} (I:Inv X pins σ H s) (hg:Gl X x) (hm:X.mg x=none) (hv:bootBuiltins x=some u) (h:Q u s)
  (hn:x ≠ "__name__" :=by decide) (hd:(x == ("__debug__" :Str))=false:=by decide):wpAny (model X.prog X.w) X.A (eval (.Name x pos) X.env) Q E s:=by
 obtain⟨mb,h1,h2⟩:=I.mod.blt;exact Calls.Name_function_global I.ok.kind hg (Calls.loadGlobal_builtin (by rw[I.ok.glob];exact I.mod.glob.keeps I.bk) hm (by rw[I.ok.blt];exact h1.keeps I.bk) ((h2 x hn).trans hv) h) hd
variable {a b:Expr} {ta tb:TE} {pos:Pos}
variable {tA tB':TT} {rest:NZ}
noncomputable def Hx (t u:TT):TT:=fun σ H Q=>t σ H fun c H1=>if c=true then u σ H1 Q else Q false H1
noncomputable def IX (t u:TT):TT:=fun σ H Q=>t σ H fun c H1=>if c=true then Q true H1 else u σ H1 Q
noncomputable def Hr (t:TT):TT:=fun σ H Q=>t σ H fun c H1=>Q (!c) H1
theorem Bt (ha:PT X a tA):PW X (.BoolOp .And [a] pos) tA:=by
 intro wh pins s σ H Q I h;refine isTrue_and (cz (ha pins s σ H Q I h) fun c s1 e=>?_);cases c with
 | true=>exact isTrue_and_nil e
 | false=>exact e
theorem DD (ha:PT X a tA):PW X (.BoolOp .Or [a] pos) tA:=by
 intro wh pins s σ H Q I h;refine isTrue_or (cz (ha pins s σ H Q I h) fun c s1 e=>?_);cases c with
 | false=>exact isTrue_or_nil e
 | true=>exact e
theorem yD (ha:PT X a tA) (hb:PW X (.BoolOp .And (b::rest) pos) tB'):PW X (.BoolOp .And (a::b::rest) pos) (Hx tA tB'):=by
 intro wh pins s σ H Q I h;refine isTrue_and (cz (ha pins s σ H _ I h) fun c s1 ⟨H1,I1,q1⟩=>?_);cases c with
 | true=>exact hb wh pins s1 σ H1 Q I1 q1
 | false=>exact⟨H1,I1,q1⟩
theorem CZ (ha:PT X a tA) (hb:PW X (.BoolOp .Or (b::rest) pos) tB'):PW X (.BoolOp .Or (a::b::rest) pos) (IX tA tB'):=by
 intro wh pins s σ H Q I h;refine isTrue_or (cz (ha pins s σ H _ I h) fun c s1 ⟨H1,I1,q1⟩=>?_);cases c with
 | true=>exact⟨H1,I1,q1⟩
 | false=>exact hb wh pins s1 σ H1 Q I1 q1
theorem DF (ha:PT X a tA):PT X (.UnaryOp .Not a pos) (Hr tA):=by
 intro pins s σ H Q I h;exact isTrue_not (ha pins s σ H (fun c H1=>Q (!c) H1) I h)
theorem yQ {op} {t:TE} (h:PE X a t):PE X (.BoolOp op [a] pos) t:=fun pins s σ H Q I hw=>BoolOp_one (h pins s σ H Q I hw)
noncomputable def IY (t:TT) (ta tb:TE):TE:=fun σ H Q=>t σ H fun c H1=>if c=true then ta σ H1 Q else tb σ H1 Q
theorem yR {c:Expr} (hc:PT X c tA) (ha:PE X a ta) (hb:PE X b tb):PE X (.IfExp c a b pos) (IY tA ta tb):=by
 intro pins s σ H Q I h;refine wpAny_IfExp (cz (hc pins s σ H _ I h) fun d s1 ⟨H1,I1,q1⟩=>?_);cases d with
 | true=>exact ha pins s1 σ H1 Q I1 q1
 | false=>exact hb pins s1 σ H1 Q I1 q1
end
noncomputable def j5 (K:PySem.W.Frag) (H:Hp) (a:Addr) (xs:List V):Prop:=
 Rd H a (.lst xs)\/
  ∃ (o:Obj) (aA:NV) (n:Nat),K.lookup a=some o/\o.cls=.type "list" /\o.dict=none/\o.data=.seq aA n/\aA.size<=sizeLine/\Vals xs aA.toList
noncomputable def xR (K:PySem.W.Frag) (H:Hp) (a:Addr) (xs:List V):Prop:=
 Rd H a (.tup xs)\/
  ∃ (o:Obj) (aA:NV) (n:Nat),K.lookup a=some o/\o.cls=.type "tuple" /\o.data=.seq aA n/\aA.size<=sizeLine/\Vals xs aA.toList
noncomputable def Ic:Value->Option V
 | .none=>some .aQ
 | .bool b=>some (.bl b)
 | .int i _=>some (.int i)
 | .str x _=>some (.str x)
 | .bytes b _=>some (.byt b)
 | .float b _=>some (.flt b)
 | .ref a=>some (.ref a)
 | .type n=>some (.ty n)
 | _=>none
theorem RelV.abs {x:V} {u:Value} (r:RelV x u):Ic u=some x:=by
 cases x with
 | aQ=>cases r;rfl
 | bl _=>cases r;rfl
 | int _=>obtain⟨t,rfl⟩:=r;rfl
 | str _=>obtain⟨t,rfl⟩:=r;rfl
 | byt _=>obtain⟨t,rfl⟩:=r;rfl
 | flt _=>obtain⟨t,rfl⟩:=r;rfl
 | ref _=>cases r;rfl
 | ty _=>cases r;rfl
theorem RelV.inj {x y:V} {u:Value} (r:RelV x u) (q:RelV y u):x=y:=JL (r.abs.symm.trans q.abs)
theorem Vals.inj:∀ {xs ys:List V} {us:NX},Vals xs us->Vals ys us->xs=ys
 | _,_,_,.nil,.nil=>rfl
 | _,_,_,.cons r t,.cons r' t'=>by rw[r.inj r',Vals.inj t t']
section
variable {X:Cx} {pins:NT} {σ:St} {H:Hp} {s:Shared} {a:Addr} {xs ys:List V}
theorem xR.of {K:PySem.W.Frag} (h:H a=some (.tup xs)):xR K H a xs:=.inl (.inl h)
theorem Inv.list (I:Inv X pins σ H s) (h:j5 X.K H a xs):∃aA:NX,Vals xs aA/\PlainL s.heap a aA.toArray/\xs.length<=sizeLine:=by
 rcases h with h | ⟨o,aA,n,hk,hc,hd,hs,hz,r⟩
 ·obtain⟨z,aA,n,r,e⟩:=h.ok I.bB;exact⟨aA,r,⟨_,n,e,rfl,rfl,rfl⟩,z⟩
 ·refine⟨aA.toList,r,⟨o,n,I.zQ a o hk,hc,hd,by simpa using hs⟩,?_⟩;have e:=r.length;simp only[JK]at e;omega
theorem Inv.tuple (I:Inv X pins σ H s) (h:xR X.K H a xs):∃aA:NX,Vals xs aA/\IsTup s.heap a aA.toArray/\xs.length<=sizeLine:=by
 rcases h with h | ⟨o,aA,n,hk,hc,hs,hz,r⟩
 ·obtain⟨z,aA,r,p⟩:=h.ok I.bB;exact⟨aA,r,p,z⟩
 ·refine⟨aA.toList,r,⟨o,I.zQ a o hk,hc,n,by simpa using hs⟩,?_⟩;have e:=r.length;simp only[JK]at e;omega
theorem Inv.zI (I:Inv X pins σ H s) (h:j5 X.K H a xs) (h':j5 X.K H a ys):xs=ys:=by
 obtain⟨aA,r,⟨o,n,e,_,_,d⟩,_⟩:=I.list h;obtain⟨its',r',⟨o',n',e',_,_,d'⟩,_⟩:=I.list h';rw[e]at e';cases e';rw[d]at d';injection d' with d1 _
 have:aA=its':=by simpa using congrArg Array.toList d1
 subst this;exact r.inj r'
end
noncomputable abbrev Cx.nK (X:Cx) (E:NS):Cx:={X with xe:=E}
noncomputable abbrev Cx.tF (X:Cx):Cx:=X.nK fun _ _=>False
theorem Cx.Ok.nK {X:Cx} (ok:X.Ok) (E:NS):(X.nK E).Ok:=
 ⟨ok.mod,ok.kind,ok.glob,ok.blt,ok.above,ok.inj,ok.has,ok.Gy,ok.hd,ok.frames,ok.E7,ok.G_,ok.bs,ok.Cz,ok.zr,ok.Al,ok.jV,ok.EB⟩
theorem Cx.Ok.gB {X:Cx} {E:NS} (ok:(X.nK E).Ok):X.Ok:=
 ⟨ok.mod,ok.kind,ok.glob,ok.blt,ok.above,ok.inj,ok.has,ok.Gy,ok.hd,ok.frames,ok.E7,ok.G_,ok.bs,ok.Cz,ok.zr,ok.Al,ok.jV,ok.EB⟩
section
variable {X:Cx} {pins:NT} {σ:St} {H:Hp} {s:Shared} {E:NS}
theorem Inv.nK (I:Inv X pins σ H s) (E:NS):Inv (X.nK E) pins σ H s:=⟨I.ok.nK E,I.os,I.bare,I.base,I.loc,I.cell,I.free,I.fz,I.pin,I.bB,I.len⟩
theorem Inv.gB (I:Inv (X.nK E) pins σ H s):Inv X pins σ H s:=⟨I.ok.gB,I.os,I.bare,I.base,I.loc,I.cell,I.free,I.fz,I.pin,I.bB,I.len⟩
theorem SP.gB {D:Ends} {f:Flow} {s':Shared} (h:SP (X.nK E) pins D f s'):SP X pins D f s':=by
 cases f with
 | next=>obtain⟨σ',H',I,q⟩:=h;exact⟨σ',H',I.gB,q⟩
 | brk=>obtain⟨σ',H',I,q⟩:=h;exact⟨σ',H',I.gB,q⟩
 | cont=>obtain⟨σ',H',I,q⟩:=h;exact⟨σ',H',I.gB,q⟩
 | ret u=>obtain⟨v,σ',H',I,r,q⟩:=h;exact⟨v,σ',H',I.gB,r,q⟩
end
section
variable {X:Cx} {st:Stmt} {rest:List Stmt} {t u:TS} {e:Expr} {te:TE} {pos:Pos}
noncomputable def Fu:TS:=fun D σ H=>D.nx σ H
noncomputable def Ho (t u:TS):TS:=fun D σ H=>t {D with nx:=u D} σ H
theorem Bw:AX X [] Fu:=fun _ _ σ H _ I h=>wpAny_execs_nil ⟨σ,H,I,h⟩
theorem yH (h1:PS X st t) (h2:AX X rest u):AX X (st::rest) (Ho t u):=by
 intro pins s σ H D I h;refine wpAny_execs_cons (cz (h1 pins s σ H {D with nx:=u D} I h) fun f s1 q=>?_);cases f with
 | next=>
  obtain⟨σ',H',I',q⟩:=q;exact h2 pins s1 σ' H' D I' q
 | ret v=>exact q
 | brk=>exact q
 | cont=>exact q
theorem Inv.quiet {pins:NT} {σ:St} {H:Hp} {s:Shared} (I:Inv X pins σ H s):interactive X.env=false:=by simp[interactive,I.ok.kind]
noncomputable def Fv (te:TE):TS:=fun D σ H=>te σ H fun _ H1=>D.nx σ H1
theorem BA (he:PE X e te) (hs:swapsWith e none pos.line X.env=pure false:=by rfl):PS X (.Expr e pos) (Fv te):=by
 intro pins s σ H D I h;exact wpAny_Expr_any (cz (he pins s σ H _ I h) fun v s1 ⟨x,H1,I1,r1,q1⟩=>⟨σ,H1,I1,q1⟩) I.quiet hs
noncomputable def Hq (te:TE):TS:=fun D σ H=>te σ H D.rt
theorem DI (he:PE X e te):PS X (.Return (some e) pos) (Hq te):=by
 intro pins s σ H D I h;exact wpAny_Return_some (cz (he pins s σ H _ I h) fun v s1 ⟨x,H1,I1,r1,q1⟩=>⟨x,σ,H1,I1,r1,q1⟩)
noncomputable def Ht (c:TT) (t u:TS):TS:=fun D σ H=>c σ H fun b H1=>if b=true then t D σ H1 else u D σ H1
theorem FF {c:Expr} {a b:List Stmt} {tc:TT} (hc:PT X c tc) (ha:AX X a t) (hb:AX X b u):PS X (.If c a b pos) (Ht tc t u):=by
 intro pins s σ H D I h;refine wpAny_If (cz (hc pins s σ H _ I h) fun d s1 ⟨H1,I1,q1⟩=>?_);cases d with
 | true=>exact ha pins s1 σ H1 D I1 q1
 | false=>exact hb pins s1 σ H1 D I1 q1
end
noncomputable abbrev TG:=V->St->Hp->(St->Hp->Prop)->Prop
noncomputable abbrev Dh:=List V->St->Hp->(St->Hp->Prop)->Prop
noncomputable def PG (X:Cx) (target:Expr) (t:TG):Prop:=
 ∀ (pins:NT) (s:Shared) (σ:St) (H:Hp) (v:V) (u:Value) (Q:St->Hp->Prop),Inv X pins σ H s->RelV v u->t v σ H Q->
  wpAny (model X.prog X.w) X.A (assign target X.env u) (fun _ s'=>∃σ' H',Inv X pins σ' H' s'/\Q σ' H') X.xe s
noncomputable def EU (X:Cx) (ts:NZ) (t:Dh):Prop:=
 ∀ (pins:NT) (s:Shared) (σ:St) (H:Hp) (vs:List V) (us:NX) (Q:St->Hp->Prop),Inv X pins σ H s->Vals vs us->t vs σ H Q->
  wpAny (model X.prog X.w) X.A (assignInOrder ((assignEach ts X.env).map (·.2)) us) (fun _ s'=>∃σ' H',Inv X pins σ' H' s'/\Q σ' H') X.xe s
noncomputable abbrev Ih:=V->V->V->Hp->(Hp->Prop)->Prop
noncomputable def GL (X:Cx) (t:Ih):Prop:=
 ∀ (pins:NT) (s:Shared) (σ:St) (H:Hp) (o i v:V) (ov iv u:Value) (Q:Hp->Prop),Inv X pins σ H s->RelV o ov->RelV i iv->RelV v u->t o i v H Q->
  wpAny (model X.prog X.w) X.A (setItem ov iv u) (fun _ s'=>∃H',Inv X pins σ H' s'/\Q H') X.xe s
section
variable {X:Cx} {pos:Pos}
noncomputable def mS (i:Nat):TG:=fun v σ H Q=>Q (σ.set i (some v)) H
theorem jh {i:Nat} {x:Str} (hN:X.N.Nodup) (hi:X.N[i]?=some x) (hx:Loc X.env.scope x) (hf:X.fn x=true\/X.env.scope.names.lookup x=some .local:=by first | exact .inl rfl | exact .inr rfl | assumption):PG X (.Name x pos) (mS i):=by
 intro pins s σ H v u Q I r h;exact wpAny_assign_Name (qK I hN hi hx r (fun s' I'=>⟨_,H,I',h⟩) hf)
noncomputable def Gf:Dh:=fun vs σ H Q=>vs=[]/\Q σ H
noncomputable def C9 (t:TG) (u:Dh):Dh:=fun vs σ H Q=>∃v r,vs=v::r/\t v σ H fun σ' H'=>u r σ' H' Q
theorem u3:EU X [] Gf:=by
 intro pins s σ H vs us Q I r h;obtain⟨e,h⟩:=h;subst e;cases r
 exact assignInOrder_nil ⟨σ,H,I,h⟩
theorem q_ {e:Expr} {es:NZ} {t:TG} {u:Dh} (h1:PG X e t) (h2:EU X es u)
  (hs:(assignEach (e::es) X.env).map (·.2)=assign e X.env::(assignEach es X.env).map (·.2):=by rfl):EU X (e::es) (C9 t u):=by
 intro pins s σ H vs us Q I r h;obtain⟨v,vr,e1,h⟩:=h;subst e1;cases r with
 | cons r rr=>
  rw[hs];refine assignInOrder_cons (cz (h1 pins s σ H _ _ _ I r h) fun _ s1 ⟨σ1,H1,I1,q1⟩=>?_);exact h2 pins s1 σ1 H1 _ _ Q I1 rr q1
noncomputable def Ac (K:PySem.W.Frag) (n:Nat) (t:Dh):TG:=fun v σ H Q=>∃a xs,v=.ref a/\xR K H a xs/\xs.length=n/\t xs σ H Q
theorem l_ {es:NZ} {k:Nat} {t:Dh} {n:Nat} (hc:X.calm=true) (h:EU X es t)
  (hn:(assignEach es X.env).length=n:=by rfl) (hst:(assignEach es X.env).findIdx? (·.1)=none:=by rfl):PG X (.Tuple es k pos) (Ac X.K n t):=by
 intro pins s σ H v u Q I r hw;obtain⟨a,xs,e1,hq,hl,hw⟩:=hw;subst e1;cases r
 obtain⟨aA,rv,ht,hz⟩:=I.tuple hq;refine assign_Tuple_tuple (I.ok.hd hc) ht (by simp[hn,<-hl,rv.length]) hst fun h' hx=>?_;have I1:Inv X pins σ H {s with heap:=h'}:=I.kept (t':=s.toks) fun b o e=>hx b o (JC (Ju e)) e;exact h pins _ σ H xs _ Q I1 (by simpa using rv) hw
noncomputable def Hw (te:TE) (g:TG):TS:=fun D σ H=>te σ H fun x H1=>g x σ H1 D.nx
theorem yJ {i:Nat} {x:Str} {e:Expr} {te:TE} {pos':Pos} (hN:X.N.Nodup) (hi:X.N[i]?=some x) (hx:Loc X.env.scope x) (he:PE X e te) (hs:swapsWith e (some (.Name x pos')) pos.line X.env=pure false:=by rfl) (hf:X.fn x=true\/X.env.scope.names.lookup x=some .local:=by first | exact .inl rfl | exact .inr rfl | assumption):
  PS X (.Assign [.Name x pos'] e pos) (Hw te (mS i)):=by
 intro pins s σ H D I h;refine wpAny_Assign_Name (cz (he pins s σ H _ I h) fun v s1 ⟨y,H1,I1,r1,q1⟩=>?_) hs;exact qK I1 hN hi hx r1 (fun s2 I2=>⟨_,H1,I2,q1⟩) hf
end
section
variable {X:Cx} {pos:Pos}
noncomputable def Du (c:TT) (tb:TS):TS:=fun D σ H=>∃W:Nat->St->Hp->Prop,(∃ m,W m σ H)/\∀m σ H,W m σ H->
 c σ H fun b H1=>if b=true then ∃N:St->Hp->Prop,(∀ σ' H',N σ' H'->∃m',m' < m/\W m' σ' H')/\tb {D with nx:=N,ct:=N,bk:=D.nx} σ H1 else D.nx σ H1
theorem yI {c:Expr} {body:List Stmt} {tc:TT} {tb:TS} (hp:PassesOwn (model X.prog X.w) X.A X.env X.xe) (hc:PT X c tc) (hb:AX X body tb):PS X (.While c body [] pos) (Du tc tb):=by
 intro pins s σ H D I h;obtain⟨W,⟨m0,w0⟩,turn⟩:=h;refine wpAny_While (codeAny_whileLoop (fun n s'=>∃σ' H',Inv X pins σ' H' s'/\W n σ' H') ?_ m0 ⟨σ,H,I,w0⟩)
 rintro n s1 ⟨σ1,H1,I1,w1⟩
 refine Ly hp (cz (hc pins s1 σ1 H1 _ I1 (turn n σ1 H1 w1)) fun b s2 ⟨H2,I2,q2⟩=>?_);cases b with
 | true=>
  obtain⟨N,hN,q2⟩:=q2;rw[Jj rfl];refine Ly hp (cz (hb pins s2 σ1 H2 _ I2 q2) fun f s3 q3=>?_);cases f with
  | next=>
   obtain⟨σ3,H3,I3,n3⟩:=q3;obtain⟨m',hm,w3⟩:=hN σ3 H3 n3;exact⟨m',hm,σ3,H3,I3,w3⟩
  | cont=>
   obtain⟨σ3,H3,I3,n3⟩:=q3;obtain⟨m',hm,w3⟩:=hN σ3 H3 n3;exact⟨m',hm,σ3,H3,I3,w3⟩
  | brk=>exact q3
  | ret v=>exact q3
 | false=>
  rw[Ji JO];exact wpAny_execs_nil ⟨σ1,H2,I2,q2⟩
end
structure It where
 go:Nat->Hp->Prop
 uu:Nat->Hp->V->Hp->Prop
 stop:Nat->Hp->Prop
noncomputable def kD (X:Cx) (pins:NT) (H:Hp) (b:Addr):Prop:=
 H b=none/\b ≠ X.env.locals/\b ∉ X.fs/\(b ∈ X.ex\/X.s₀.heap.objs.size<=b)/\(∀ x c,X.env.cells.lookup x=some c->c ≠ b)/\∀p ∈ X.pn++pins,p.1 ≠ b
theorem Inv.Ct {X:Cx} {pins:NT} {σ:St} {H H':Hp} {s:Shared} {b:Addr} (I:Inv X pins σ H s) (hb:s.heap.objs.size<=b) (hn:H' b=none):kD X pins H' b:=by
 refine⟨hn,KS (JD I.lt hb),I.HD hb,.inr (JS I.sz hb),fun x c e z=>?_,fun p hp z=>?_⟩
 ·obtain⟨v,q⟩:=I.cell x c e;exact absurd (JD q.lt (by rw[z];exact hb)) (LS _)
 ·exact absurd (JD (Ju (I.pin p hp).1) (by rw[z];exact hb)) (LS _)
structure Turn (P:Program) (w:World) (K:PySem.W.Frag) (tg:Expr) (J:It) (fp:List Addr) (it:Addr) (tn:Nat->Heap->Prop):Prop where
 mem:it ∈ fp
 obj:∀i h,tn i h->∀b ∈ fp,∃o,h.get? b=some o/\∀v,o.data ≠ .cell v
 keep:∀i h h',tn i h->(∀ b ∈ fp,∀o,h.get? b=some o->h'.get? b=some o)->tn i h'
 item:∀ (X:Cx),X.prog=P->X.w=w->X.K=K->X.calm=true->∀ (i:Nat) (pins:NT) (s:Shared) (σ:St) (H:Hp) (E:NS),Inv X pins σ H s->(∀ b ∈ fp,kD X pins H b)->tn i s.heap->J.go i H->
  wpAny (model P w) X.A (pyNext (.ref it)) (fun r s1=>∃u,r=some u/\
   wpAny (model P w) X.A (letOwnedTupleGo tg (.ref it) u) (fun _ s2=>∃x H',Inv X pins σ H' s2/\RelV x u/\J.uu i H x H'/\tn (i + 1) s2.heap/\∀b ∈ fp,H' b=none) E s1) E s
 done:∀ (X:Cx),X.prog=P->X.w=w->X.K=K->X.calm=true->∀ (i:Nat) (pins:NT) (s:Shared) (σ:St) (H:Hp) (E:NS),Inv X pins σ H s->(∀ b ∈ fp,kD X pins H b)->tn i s.heap->J.stop i H->
  wpAny (model P w) X.A (pyNext (.ref it)) (fun r s1=>r=none/\Inv X pins σ H s1) E s
 self:∀ (A:Around) (i:Nat) (s:Shared) (Q:NS) (E:NS),tn i s.heap->Q (.ref it) s->wpAny (model P w) A (pyIter (.ref it)) Q E s
noncomputable abbrev TI:=St->Hp->(It->Hp->Prop)->Prop
noncomputable def Il (X:Cx) (pins:NT) (σ:St) (tg:Expr) (R:It->Hp->Prop) (itv:Value) (s2:Shared):Prop:=
 ∃ (it:Addr) (fp:List Addr) (tn:Nat->Heap->Prop) (J:It) (H':Hp),itv=.ref it/\Inv X pins σ H' s2/\Turn X.prog X.w X.K tg J fp it tn/\tn 0 s2.heap/\(∀ b ∈ fp,kD X pins H' b)/\R J H'
noncomputable def PI (X:Cx) (tg iter:Expr) (wi:TI):Prop:=
 ∀ (pins:NT) (s:Shared) (σ:St) (H:Hp) (R:It->Hp->Prop),Inv X pins σ H s->wi σ H R->
  wpAny (model X.prog X.w) X.A (eval iter X.env) (fun v s1=>wpAny (model X.prog X.w) X.A (pyIter v) (Il X pins σ tg R) X.xe s1) X.xe s
theorem C8 {M:Model} {A:Around} {E:NS} {s:Shared} {tg:Expr} {it:Addr} {u:Value} {o:Obj} {n:String} {vs:NV} {Q:Unit->Shared->Prop} (ho:s.heap.get? it=some o) (hc:o.cls=.type n) (hd:o.data=.fields vs)
  (hn:["enumerate","zip","dict_itemiterator","dict_reverseitemiterator","odict_iterator","itertools.zip_longest","itertools.pairwise"].contains n=false) (hQ:Q () s):wpAny M A (letOwnedTupleGo tg (.ref it) u) Q E s:=by
 unfold letOwnedTupleGo
 cases tg<;>first
  | exact Jm hQ
  | (cases u<;>first
    | exact Jm hQ
    | (refine Jh (wpAny_load ho ?_)
       rw[hc,hd];show wpAny M A (if(["enumerate","zip","dict_itemiterator","dict_reverseitemiterator","odict_iterator","itertools.zip_longest","itertools.pairwise"].contains n && vs[0]? == some (rawInt _))=true then _ else _) Q E s;rw[Ji (by intro h;rw[hn,Bool.false_and]at h;cases h)];exact Jm hQ))
noncomputable def IS (K:PySem.W.Frag) (a:Addr):It:=
 ⟨fun i H=>∃xs x,j5 K H a xs/\xs[i]?=some x,fun i H x H'=>H'=H/\∀xs,j5 K H a xs->xs[i]?=some x,fun i H=>∃xs,j5 K H a xs/\xs.length<=i⟩
noncomputable def Iz (lo:Int) (n:Nat):It:=⟨fun i _=>i < n,fun i H x H'=>H'=H/\x=.int (lo + i),fun i _=>n<=i⟩
theorem vS {P:Program} {w:World} {K:PySem.W.Frag} {tg:Expr} (a it:Addr):Turn P w K tg (IS K a) [it] it (fun i h=>h.IsListIter it a i) where
 mem:=by simp
 obj:=fun i h st b hb=>by
  have e:b=it:=by simpa using hb
  subst e;obtain⟨o,e,c,d⟩:=st;exact⟨o,e,fun v z=>by rw[d]at z;cases z⟩
 keep:=fun i h h' st k=>st.at fun o e=>k it (by simp) o e
 item:=by
  intro X hP hw hK hc i pins s σ H E I hf st hg;subst hP hw hK;obtain⟨xs,x,hq,hx⟩:=hg;obtain⟨aA,rv,p,hz⟩:=I.list hq;obtain⟨u,hu,ru⟩:=rv.get hx;obtain⟨f0,f1,f2,f3,f4,f5⟩:=hf it (by simp);refine wpAny_pyNext_list_item st p.isList (x:=u) (by simpa using hu) fun h' st' sb=>?_;have I1:Inv X pins σ H {s with heap:=h'}:=I.turned (t':=s.toks) (fun b o hb e=>(sb.2 b hb).trans e) f0 f1 f3 f4 f5;obtain⟨o,e,c,d⟩:=id st';exact⟨u,rfl,C8 (s:={s with heap:=h'}) e c d (by decide) ⟨x,H,I1,ru,⟨rfl,fun ys hy=>by rw[I.zI hy hq];exact hx⟩,st',fun b hb=>(hf b hb).1⟩⟩
 done:=by
  intro X hP hw hK hc i pins s σ H E I hf st hg;subst hP hw hK;obtain⟨xs,hq,hx⟩:=hg;obtain⟨aA,rv,p,hz⟩:=I.list hq;obtain⟨f0,f1,f2,f3,f4,f5⟩:=hf it (by simp);have hl:=rv.length;exact wpAny_pyNext_list_end (I.ok.hd hc) st p.isList (by simp;omega) fun h' eb=>⟨rfl,I.turned (t':=s.toks) (fun b o hb e=>eb b o hb e) f0 f1 f3 f4 f5⟩
 self:=fun _ _ _ _ _ st h=>wpAny_pyIter_listiter st h
theorem sL {P:Program} {w:World} {K:PySem.W.Frag} {tg:Expr} (it:Addr) (lo:Int) (n:Nat):Turn P w K tg (Iz lo n) [it] it (fun i h=>IsRangeIter h it (lo + (i:Nat) * 1) ((n:Int) - (i:Nat)) 1) where
 mem:=by simp
 obj:=fun i h st b hb=>by
  have e:b=it:=by simpa using hb
  subst e
  exact⟨_,st,fun v z=>by
   have z':Data.fields _=Data.cell v:=z;cases z'⟩
 keep:=fun i h h' st k=>k it (by simp) _ st
 item:=by
  intro X hP hw hK hc i pins s σ H E I hf st hg;subst hP hw hK;obtain⟨f0,f1,f2,f3,f4,f5⟩:=hf it (by simp);have W:=Walks.range (prog:=X.prog) (w:=X.w) (I.ok.hd hc) it lo 1 n;refine W.item i s _ _ hg st fun v h' tk hv st' kk=>?_;obtain⟨t,rfl⟩:=hv;have I1:Inv X pins σ H {s with heap:=h',toks:=tk}:=I.turned (fun b o hb e=>kk b o (by simpa using hb) e) f0 f1 f3 f4 f5;refine⟨_,rfl,C8 (s:={s with heap:=h',toks:=tk}) (n:= "range_iterator") st' rfl rfl (by decide) ⟨.int (lo + i),H,I1,⟨t,?_⟩,⟨rfl,rfl⟩,st',fun b hb=>(hf b hb).1⟩⟩;rw[Int.mul_one]
 done:=by
  intro X hP hw hK hc i pins s σ H E I hf st hg;subst hP hw hK;obtain⟨f0,f1,f2,f3,f4,f5⟩:=hf it (by simp);exact wpAny_pyNext_range_end (I.ok.hd hc) st (by have:n<=i:=hg;omega) fun h' eb=>⟨rfl,I.turned (t':=s.toks) (fun b o hb e=>eb b o hb e) f0 f1 f3 f4 f5⟩
 self:=fun _ _ _ _ _ st h=>wpAny_pyIter_rangeiter st h
section
variable {X:Cx} {tg:Expr}
theorem yC {pins:NT} {σ:St} {H:Hp} {s:Shared} {R:It->Hp->Prop} {E:NS} {lo hi:Int} {t u v:Tok} {tk:Nat} (I:Inv X pins σ H s) (h1: -(2 ^ 62)<=lo) (h2:lo < 2 ^ 62) (h3: -(2 ^ 62)<=hi) (h4:hi < 2 ^ 62)
  (q:R (Iz lo (hi - lo).toNat) H):wpAny (model X.prog X.w) X.A (pyIter (.ref s.heap.objs.size)) (Il X pins σ tg R) E {s with heap:=s.heap.push {cls:=.type "range",data:=.fields #[.int lo t,.int hi u,.int 1 v]},toks:=tk}:=by
 refine wpAny_pyIter_range (IsRange.new ..) (small_one h1 h2 h3 h4) ?_;have I1:Inv X pins σ H {s with heap:=s.heap.push {cls:=.type "range",data:=.fields #[.int lo t,.int hi u,.int 1 v]},toks:=tk}:=I.kept fun b o e=>Jq _ e
 refine⟨(s.heap.push {cls:=.type "range",data:=.fields #[.int lo t,.int hi u,.int 1 v]}).objs.size,[(s.heap.push {cls:=.type "range",data:=.fields #[.int lo t,.int hi u,.int 1 v]}).objs.size],_,_,H,rfl,
  I1.kept (t':=tk) fun b o e=>Jq _ e,sL _ lo (hi - lo).toNat,?_,fun b hb=>?_,q⟩
 ·have e1:lo + ((0:Nat):Int) * 1=lo:=by simp
  have e2:(((hi - lo).toNat:Nat):Int) - ((0:Nat):Int)=Builtin.Range.rangeSize lo hi 1:=by rw[rangeSize_one];split<;>omega
  show IsRangeIter _ _ (lo + ((0:Nat):Int) * 1) ((((hi - lo).toNat:Nat):Int) - ((0:Nat):Int)) 1;rw[e1,e2];exact JE _ rfl
 ·have e:b=(s.heap.push {cls:=.type "range",data:=.fields #[.int lo t,.int hi u,.int 1 v]}).objs.size:=by simpa using hb
  subst e;exact I1.Ct (JG _) (I1.bB.fresh (JG _))
noncomputable def Hu (wi:TI) (g:TG) (tb:TS):TS:=fun D σ H=>wi σ H fun J H1=>∃W:Nat->Nat->St->Hp->Prop,(∃ m,W 0 m σ H1)/\∀i m σ H,W i m σ H->
 (J.stop i H/\D.nx σ H)\/(J.go i H/\∃N:St->Hp->Prop,(∀ σ' H',N σ' H'->∃m',m' < m/\W (i + 1) m' σ' H')/\∀x H',J.uu i H x H'->g x σ H' fun σ2 H2=>tb {D with nx:=N,ct:=N,bk:=D.nx} σ2 H2)
noncomputable def lZ (fp:List Addr) (h:Heap):NT:=fp.filterMap fun b=>(h.get? b).map fun o=>(b,o)
theorem fY {fp:List Addr} {h:Heap} {b:Addr} {o:Obj} (hb:b ∈ fp) (e:h.get? b=some o):(b,o) ∈ lZ fp h:=List.mem_filterMap.mpr ⟨b,hb,by rw[e];rfl⟩
theorem wD {fp:List Addr} {h:Heap} {p:Addr × Obj} (hp:p ∈ lZ fp h):p.1 ∈ fp/\h.get? p.1=some p.2:=by
 obtain⟨b,hb,e⟩:=List.mem_filterMap.mp hp;cases q:h.get? b with
 | none=>rw[q]at e;cases e
 | some o=>
  rw[q]at e;have e':(b,o)=p:=JL e;subst e';exact⟨hb,q⟩
theorem Inv.pinned {pins:NT} {σ:St} {H:Hp} {s:Shared} {fp:List Addr} (I:Inv X pins σ H s) (hf:∀b ∈ fp,kD X pins H b) (ho:∀b ∈ fp,∃o,s.heap.get? b=some o/\∀v,o.data ≠ .cell v):Inv X (pins++lZ fp s.heap) σ H s:=
 I.uZ fun p hp=>(JB.mp hp).elim (fun z=>I.pin p (JQ _ z)) fun z=>by
  obtain⟨hb,e⟩:=wD z;obtain⟨f0,f1,f2,_⟩:=hf p.1 hb;obtain⟨o,e',d⟩:=ho p.1 hb;rw[e]at e';cases e';exact⟨e,f0,f1,f2,d⟩
theorem Inv.i8 {pins pl:NT} {σ:St} {H:Hp} {s:Shared} (I:Inv X (pins++pl) σ H s):Inv X pins σ H s:=I.uZ fun p hp=>I.pin p (JQ _ (Ka _ hp))
theorem yL {iter:Expr} {body:List Stmt} {wi:TI} {g:TG} {tb:TS} {pos:Pos} (hp:PassesOwn (model X.prog X.w) X.A X.env X.xe) (hc:X.calm=true) (hi:PI X tg iter wi) (hg:PG X tg g) (hb:AX X body tb)
  (hs:∀x,foldedSetIterable iter X.env x=pure x:=by intro _;rfl):PS X (.For tg iter body [] pos) (Hu wi g tb):=by
 intro pins s σ H D I h;refine wpAny_For (cz (hi pins s σ H _ I h) fun v s1 h1=>cz h1 fun itv s2 h2=>?_) hs;obtain⟨it,fp,tn,J,H2,e,I2,T,st2,f2,W,⟨m0,w0⟩,turn⟩:=h2;subst e
 -- what stays true of the iterator's objects through the loop
 have stat:∀ {H':Hp},(∀ b ∈ fp,H' b=none)->∀b ∈ fp,kD X pins H' b:=fun hn b hb=>⟨hn b hb,(f2 b hb).2⟩;refine codeAny_forLoop_any (fun n s'=>∃i σ' H',Inv X pins σ' H' s'/\tn i s'.heap/\(∀ b ∈ fp,H' b=none)/\W i n σ' H') ?_ m0 ⟨0,σ,H2,I2,st2,fun b hb=>(f2 b hb).1,w0⟩
 rintro n s3 ⟨i,σ3,H3,I3,st3,fr3,w3⟩
 rcases turn i n σ3 H3 w3 with ⟨stop,qn⟩ | ⟨go,N,hN,step⟩
 ·refine Ly hp (cz (T.done X rfl rfl rfl hc i pins s3 σ3 H3 X.xe I3 (stat fr3) st3 stop) fun r s4 ⟨hr,I4⟩=>?_);subst hr;exact wpAny_execs_nil ⟨σ3,H3,I4,qn⟩
 ·refine Ly hp (cz (T.item X rfl rfl rfl hc i pins s3 σ3 H3 X.xe I3 (stat fr3) st3 go) fun r s4 ⟨u,hr,h4⟩=>?_);subst hr;refine Ly hp (cz h4 fun _ s5 ⟨x,H5,I5,r5,y5,st5,fr5⟩=>?_);have I5':=I5.pinned (stat fr5) (T.obj _ _ st5);refine Ly hp (cz (hg _ s5 σ3 H5 x u _ I5' r5 (step x H5 y5)) fun _ s6 ⟨σ6,H6,I6,q6⟩=>?_);refine Ly hp (cz (hb _ s6 σ6 H6 _ I6 q6) fun f s7 q7=>?_)
  have again:∀ {σ7:St} {H7:Hp},Inv X (pins++lZ fp s5.heap) σ7 H7 s7->N σ7 H7->∃m,m < n/\∃i σ' H',Inv X pins σ' H' s7/\tn i s7.heap/\(∀ b ∈ fp,H' b=none)/\W i m σ' H':=fun{σ7 H7} I7 n7=>by
   obtain⟨m',hm,w7⟩:=hN σ7 H7 n7;refine⟨m',hm,i + 1,σ7,H7,I7.i8,T.keep _ _ _ st5 fun b hb o e=>(I7.pin (b,o) (JQ _ (JQ _ (fY hb e)))).1,fun b hb=>?_,w7⟩;obtain⟨o,e,d⟩:=T.obj _ _ st5 b hb;exact(I7.pin (b,o) (JQ _ (JQ _ (fY hb e)))).2.1
  cases f with
  | next=>obtain⟨σ7,H7,I7,n7⟩:=q7;exact again I7 n7
  | cont=>obtain⟨σ7,H7,I7,n7⟩:=q7;exact again I7 n7
  | brk=>obtain⟨σ7,H7,I7,q7⟩:=q7;exact⟨σ7,H7,I7.i8,q7⟩
  | ret v=>obtain⟨x7,σ7,H7,I7,r7,q7⟩:=q7;exact⟨x7,σ7,H7,I7.i8,r7,q7⟩
end
noncomputable abbrev R2:=V->V->Hp->VK->Prop
noncomputable def jI (X:Cx) (f:Value->Value->Sem Value) (r:R2):Prop:=
 ∀ (pins:NT) (s:Shared) (σ:St) (H:Hp) (x y:V) (v u:Value) (Q:VK),Inv X pins σ H s->RelV x v->RelV y u->r x y H Q->
  wpAny (model X.prog X.w) X.A (f v u) (EP X pins σ Q) X.xe s
noncomputable def Hf (X:Cx) (f:Value->Sem Value) (r:V->Hp->VK->Prop):Prop:=
 ∀ (pins:NT) (s:Shared) (σ:St) (H:Hp) (x:V) (v:Value) (Q:VK),Inv X pins σ H s->RelV x v->r x H Q->
  wpAny (model X.prog X.w) X.A (f v) (EP X pins σ Q) X.xe s
noncomputable def pg (X:Cx) (f:Value) (r:List V->Hp->VK->Prop):Prop:=
 ∀ (pins:NT) (s:Shared) (σ:St) (H:Hp) (xs:List V) (us:NX) (Q:VK),Inv X pins σ H s->Vals xs us->r xs H Q->
  wpAny (model X.prog X.w) X.A (call f us) (EP X pins σ Q) X.xe s
noncomputable def GJ (X:Cx) (r:V->Hp->(Bool->Hp->Prop)->Prop):Prop:=
 ∀ (pins:NT) (s:Shared) (σ:St) (H:Hp) (x:V) (v:Value) (Q:Bool->Hp->Prop),Inv X pins σ H s->RelV x v->r x H Q->
  wpAny (model X.prog X.w) X.A (truthy v) (TP X pins σ Q) X.xe s
noncomputable def GY (r:R2) (ta tb:TE):TE:=fun σ H Q=>ta σ H fun x H1=>tb σ H1 fun y H2=>r x y H2 Q
noncomputable def IV (r:V->Hp->VK->Prop) (ta:TE):TE:=fun σ H Q=>ta σ H fun x H1=>r x H1 Q
noncomputable def rI (C:Int->Int->Prop) (g:Int->Int->V):R2:=fun x y H Q=>∃i j,x=.int i/\y=.int j/\C i j/\Q (g i j) H
noncomputable def DC (g:Int->Int->V):R2:=fun x y H Q=>∃i j,x=.int i/\y=.int j/\Q (g i j) H
noncomputable def rU (g:Int->V):V->Hp->VK->Prop:=fun x H Q=>∃i,x=.int i/\Q (g i) H
section
variable {X:Cx} {a b c:Expr} {ta tb tc:TE} {pos:Pos}
theorem EL (ha:PE X a ta) (hb:PE X b tb) {pins:NT} {s:Shared} {σ:St} {H:Hp} {R:V->V->Hp->Prop} (I:Inv X pins σ H s)
  (h:ta σ H fun x H1=>tb σ H1 fun y H2=>R x y H2) {Q:NS} {f:Value->Value->Sem Value}
  (hf:∀v u s2 x y H2,Inv X pins σ H2 s2->RelV x v->RelV y u->R x y H2->wpAny (model X.prog X.w) X.A (f v u) Q X.xe s2):
  wpAny (model X.prog X.w) X.A (eval a X.env) (fun v s₁=>wpAny (model X.prog X.w) X.A (eval b X.env) (fun u s₂=>wpAny (model X.prog X.w) X.A (f v u) Q X.xe s₂) X.xe s₁) X.xe s:=by
 refine cz (ha pins s σ H _ I h) fun v s1 ⟨x,H1,I1,r1,q1⟩=>?_;refine cz (hb pins s1 σ H1 _ I1 q1) fun u s2 ⟨y,H2,I2,r2,q2⟩=>?_;exact hf v u s2 x y H2 I2 r1 r2 q2
theorem FH {op:Operator} {r:R2} (ho:jI X (binaryOp op) r) (ha:PE X a ta) (hb:PE X b tb):PE X (.BinOp a op b pos) (GY r ta tb):=by
 intro pins s σ H Q I h;exact wpAny_BinOp (EL ha hb I h fun v u s2 x y H2 I2 rx ry q=>ho pins s2 σ H2 x y v u Q I2 rx ry q)
theorem FG {op:UnaryOp} {r:V->Hp->VK->Prop} (ho:Hf X (unaryOp op) r) (ha:PE X a ta):PE X (.UnaryOp op a pos) (IV r ta):=by
 intro pins s σ H Q I h;exact UnaryOp_ (cz (ha pins s σ H _ I h) fun v s1 ⟨x,H1,I1,r1,q1⟩=>ho pins s1 σ H1 x v Q I1 r1 q1)
theorem G4 {f:Value->Value->Sem Value} {C:Int->Int->Prop} {g:Int->Int->Int}
  (rule:∀ (i j:Int) (t u:Tok) (s:Shared) (Q:NS) (E:NS),C i j->Q (.int (g i j) s.toks) {s with toks:=s.toks + 1}->wpAny (model X.prog X.w) X.A (f (.int i t) (.int j u)) Q E s):
  jI X f (rI C fun i j=>.int (g i j)):=by
 intro pins s σ H x y v u Q I rx ry h;obtain⟨i,j,rfl,rfl,hc,q⟩:=h;obtain⟨t,rfl⟩:=rx;obtain⟨t',rfl⟩:=ry;exact rule i j t t' s _ _ hc ⟨.int (g i j),H,I.tok _,⟨_,rfl⟩,q⟩
theorem FQ {f:Value->Value->Sem Value} {g:Int->Int->Int}
  (rule:∀ (i j:Int) (t u:Tok) (s:Shared) (Q:NS) (E:NS),Q (.int (g i j) s.toks) {s with toks:=s.toks + 1}->wpAny (model X.prog X.w) X.A (f (.int i t) (.int j u)) Q E s):
  jI X f (DC fun i j=>.int (g i j)):=by
 intro pins s σ H x y v u Q I rx ry h;obtain⟨i,j,rfl,rfl,q⟩:=h;obtain⟨t,rfl⟩:=rx;obtain⟨t',rfl⟩:=ry;exact rule i j t t' s _ _ ⟨.int (g i j),H,I.tok _,⟨_,rfl⟩,q⟩
theorem DX {f:Value->Value->Sem Value} {g:Int->Int->Bool}
  (rule:∀ (i j:Int) (t u:Tok) (s:Shared) (Q:NS) (E:NS),Q (.bool (g i j)) s->wpAny (model X.prog X.w) X.A (f (.int i t) (.int j u)) Q E s):
  jI X f (DC fun i j=>.bl (g i j)):=by
 intro pins s σ H x y v u Q I rx ry h;obtain⟨i,j,rfl,rfl,q⟩:=h;obtain⟨t,rfl⟩:=rx;obtain⟨t',rfl⟩:=ry;exact rule i j t t' s _ _ ⟨.bl (g i j),H,I,rfl,q⟩
noncomputable def IA (i j:Int):Prop:=0 < j/\j < 1073741824
noncomputable def E6 (i j:Int):Prop:=0<=j/\j<=1000000/\i.natAbs < 2 ^ 64
noncomputable def CN (i j:Int):Prop:=(-(2 ^ 64) < i/\i < 2 ^ 64)\/(-(2 ^ 64) < j/\j < 2 ^ 64)
theorem CN.ok {i j:Int} (h:CN i j):IntMulOk i j:=by
 rcases h with ⟨h1,h2⟩ | ⟨h1,h2⟩
 ·exact .of_left (intBits_le_64 h1 h2)
 ·exact .of_right (intBits_le_64 h1 h2)
theorem DW:jI X (binaryOp .Add) (DC fun i j=>.int (i + j)):=FQ fun _ _ _ _ _ _ _ q=>add_int q
theorem DS:jI X (binaryOp .Sub) (DC fun i j=>.int (i - j)):=FQ fun _ _ _ _ _ _ _ q=>sub_int q
theorem DU:jI X (binaryOp .Mult) (rI CN fun i j=>.int (i * j)):=G4 fun _ _ _ _ _ _ _ hc q=>mul_int q hc.ok
theorem B1:jI X (binaryOp .FloorDiv) (rI IA fun i j=>.int (i / j)):=G4 fun i j _ _ _ _ _ hc q=>by
 have h1:(0:Int) < j:=hc.1;have h2:j < 1073741824:=hc.2;exact floordiv_int (by omega) (by rw[Int.fdiv_eq_ediv_of_nonneg i (by omega)];exact q) (.inl (PyProof.noPylong_small (by omega)))
theorem DV:jI X (binaryOp .Mod) (rI (fun _ j=>0 < j) fun i j=>.int (i % j)):=G4 fun i j _ _ _ _ _ hc q=>by
 have h1:(0:Int) < j:=hc;exact mod_int' (by omega) (by rw[Int.fmod_eq_emod_of_nonneg i (by omega)];exact q)
theorem DT:jI X (binaryOp .Pow) (rI E6 fun i j=>.int (i ^ j.toNat)):=G4 fun _ _ _ _ _ _ _ hc q=>pow_int_small hc.1 hc.2.1 hc.2.2 q
theorem IU {f:Value->Sem Value} {g:Int->Int}
  (rule:∀ (i:Int) (t:Tok) (s:Shared) (Q:NS) (E:NS),Q (.int (g i) s.toks) {s with toks:=s.toks + 1}->wpAny (model X.prog X.w) X.A (f (.int i t)) Q E s):
  Hf X f (rU fun i=>.int (g i)):=by
 intro pins s σ H x v Q I rx h;obtain⟨i,rfl,q⟩:=h;obtain⟨t,rfl⟩:=rx;exact rule i t s _ _ ⟨.int (g i),H,I.tok _,⟨_,rfl⟩,q⟩
theorem Dp:Hf X (unaryOp .USub) (rU fun i=>.int (-i)):=IU fun _ _ _ _ _ q=>neg_int q
end
noncomputable def jg:V->V->Bool
 | .aQ,.aQ=>true | .aQ,.int _=>true | .int _,.aQ=>true | .aQ,.bl _=>true | .bl _,.aQ=>true | .aQ,.str _=>true | .str _,.aQ=>true
 | .int _,.int _=>true | .bl _,.bl _=>true | .str _,.str _=>true | .byt _,.byt _=>true
 | .int _,.str _=>true | .str _,.int _=>true | .bl _,.str _=>true | .str _,.bl _=>true
 | _,_=>false
noncomputable def Ja:R2:=fun x y H Q=>jg x y=true/\Q (.bl (decide (x=y))) H
noncomputable def IZ:R2:=fun x y H Q=>jg x y=true/\Q (.bl (!decide (x=y))) H
theorem vF {i j:Int}:decide (V.int i=V.int j)=(i == j):=by
 rw[MN];simp
theorem Ay {i j:Bool}:decide (V.bl i=V.bl j)=(i == j):=by
 rw[MN];simp
theorem vE {i j:Str}:decide (V.str i=V.str j)=(i == j):=by
 rw[MN];simp
theorem vG {i j:Array UInt8}:decide (V.byt i=V.byt j)=(i.toList == j.toList):=by
 rw[MN];cases i
 cases j
 simp
section
variable {X:Cx} {a b c:Expr} {ta tb tc:TE} {pos:Pos}
theorem aJ {pins:NT} {σ:St} {H:Hp} {s:Shared} {Q:VK} {k k':Bool} (I:Inv X pins σ H s) (q:Q (.bl k) H) (e:k=k'):EP X pins σ Q (.bool k') s:=by
 subst e;exact⟨.bl k,H,I,rfl,q⟩
theorem FP:jI X (compareOp .Eq) Ja:=by
 intro pins s σ H x y v u Q I rx ry h;obtain⟨hs,q⟩:=h;cases x with
 | aQ=>
  cases rx
  cases y with
  | aQ=>cases ry;exact PySem.EqNone.eq_none_none (aJ I q (by simp))
  | bl j=>cases ry;exact PySem.EqNone.eq_none_bool (aJ I q (by simp))
  | int j=>obtain⟨t',rfl⟩:=ry;exact PySem.EqNone.eq_none_int (aJ I q (by simp))
  | str j=>obtain⟨t',rfl⟩:=ry;exact PySem.EqNone.eq_none_str (aJ I q (by simp))
  | _=>exact absurd (show false=true from hs) JO
 | bl i=>
  cases rx
  cases y with
  | aQ=>cases ry;exact PySem.EqNone.eq_bool_none (aJ I q (by simp))
  | bl j=>cases ry;exact eq_bool (aJ I q Ay)
  | str j=>obtain⟨t',rfl⟩:=ry;exact PySem.EqMixed.eq_bool_str (aJ I q (by simp))
  | _=>exact absurd (show false=true from hs) JO
 | int i=>
  obtain⟨t,rfl⟩:=rx;cases y with
  | aQ=>cases ry;exact PySem.EqNone.eq_int_none (aJ I q (by simp))
  | int j=>obtain⟨t',rfl⟩:=ry;exact eq_int (aJ I q vF)
  | str j=>obtain⟨t',rfl⟩:=ry;exact PySem.EqMixed.eq_int_str (aJ I q (by simp))
  | _=>exact absurd (show false=true from hs) JO
 | str i=>
  obtain⟨t,rfl⟩:=rx;cases y with
  | aQ=>cases ry;exact PySem.EqNone.eq_str_none (aJ I q (by simp))
  | bl j=>cases ry;exact PySem.EqMixed.eq_str_bool (aJ I q (by simp))
  | int j=>obtain⟨t',rfl⟩:=ry;exact PySem.EqMixed.eq_str_int (aJ I q (by simp))
  | str j=>obtain⟨t',rfl⟩:=ry;exact eq_str (aJ I q vE)
  | _=>exact absurd (show false=true from hs) JO
 | byt i=>
  obtain⟨t,rfl⟩:=rx;cases y with
  | byt j=>obtain⟨t',rfl⟩:=ry;exact PySem.W.eq_bytes (aJ I q vG)
  | _=>exact absurd (show false=true from hs) JO
 | _=>cases y<;>exact absurd (show false=true from hs) JO
theorem FK:jI X (compareOp .NotEq) IZ:=by
 intro pins s σ H x y v u Q I rx ry h;obtain⟨hs,q⟩:=h;cases x with
 | aQ=>
  cases rx
  cases y with
  | aQ=>cases ry;exact PySem.EqNone.ne_none_none (aJ I q (by simp))
  | bl j=>cases ry;exact PySem.EqNone.ne_none_bool (aJ I q (by simp))
  | int j=>obtain⟨t',rfl⟩:=ry;exact PySem.EqNone.ne_none_int (aJ I q (by simp))
  | str j=>obtain⟨t',rfl⟩:=ry;exact PySem.EqNone.ne_none_str (aJ I q (by simp))
  | _=>exact absurd (show false=true from hs) JO
 | bl i=>
  cases rx
  cases y with
  | aQ=>cases ry;exact PySem.EqNone.ne_bool_none (aJ I q (by simp))
  | bl j=>cases ry;exact ne_bool (aJ I q (congrArg not Ay))
  | str j=>obtain⟨t',rfl⟩:=ry;exact PySem.EqMixed.ne_bool_str (aJ I q (by simp))
  | _=>exact absurd (show false=true from hs) JO
 | int i=>
  obtain⟨t,rfl⟩:=rx;cases y with
  | aQ=>cases ry;exact PySem.EqNone.ne_int_none (aJ I q (by simp))
  | int j=>obtain⟨t',rfl⟩:=ry;exact ne_int (aJ I q (congrArg not vF))
  | str j=>obtain⟨t',rfl⟩:=ry;exact PySem.EqMixed.ne_int_str (aJ I q (by simp))
  | _=>exact absurd (show false=true from hs) JO
 | str i=>
  obtain⟨t,rfl⟩:=rx;cases y with
  | aQ=>cases ry;exact PySem.EqNone.ne_str_none (aJ I q (by simp))
  | bl j=>cases ry;exact PySem.EqMixed.ne_str_bool (aJ I q (by simp))
  | int j=>obtain⟨t',rfl⟩:=ry;exact PySem.EqMixed.ne_str_int (aJ I q (by simp))
  | str j=>obtain⟨t',rfl⟩:=ry;exact ne_str (aJ I q (congrArg not vE))
  | _=>exact absurd (show false=true from hs) JO
 | byt i=>
  obtain⟨t,rfl⟩:=rx;cases y with
  | byt j=>obtain⟨t',rfl⟩:=ry;exact PySem.W.ne_bytes (aJ I q (congrArg not vG))
  | _=>exact absurd (show false=true from hs) JO
 | _=>cases y<;>exact absurd (show false=true from hs) JO
theorem FL:jI X (compareOp .Lt) (DC fun i j=>.bl (decide (i < j))):=DX fun _ _ _ _ _ _ _ q=>lt_int q
theorem FN:jI X (compareOp .Gt) (DC fun i j=>.bl (decide (j < i))):=DX fun _ _ _ _ _ _ _ q=>gt_int q
theorem FO:jI X (compareOp .GtE) (DC fun i j=>.bl (decide (j<=i))):=DX fun _ _ _ _ _ _ _ q=>ge_int q
theorem wy:jI X (compareOp .Lt) (fun x y H Q=>∃i j,x=.str i/\y=.str j/\Q (.bl (decide (i.cps.toList < j.cps.toList))) H):=by
 intro pins s σ H x y v u Q I rx ry h;obtain⟨i,j,rfl,rfl,q⟩:=h;obtain⟨t,rfl⟩:=rx;obtain⟨t',rfl⟩:=ry;exact lt_str (aJ I q rfl)
theorem wz:jI X (compareOp .In) (fun x y H Q=>∃i j,x=.str i/\y=.str j/\Q (.bl (!(Builtin.Str.occurrences j i 0 j.length 1).isEmpty)) H):=by
 intro pins s σ H x y v u Q I rx ry h;obtain⟨i,j,rfl,rfl,q⟩:=h;obtain⟨t,rfl⟩:=rx;obtain⟨t',rfl⟩:=ry;exact in_str (aJ I q rfl)
theorem B0:jI X (compareOp .IsNot) (fun x y H Q=>y=.aQ/\Q (.bl (!decide (x=.aQ))) H):=by
 intro pins s σ H x y v u Q I rx ry h;obtain⟨rfl,q⟩:=h;cases ry
 refine isnot_none_gen (aJ I q ?_)
 cases x<;>first
  | (cases rx;rfl)
  | (obtain⟨t,rfl⟩:=rx;rfl)
theorem pO:jI X (compareOp .NotIn) (fun x y H Q=>∃i j,x=.str i/\y=.str j/\Q (.bl (!(!(Builtin.Str.occurrences j i 0 j.length 1).isEmpty))) H):=by
 intro pins s σ H x y v u Q I rx ry h;obtain⟨i,j,rfl,rfl,q⟩:=h;obtain⟨t,rfl⟩:=rx;obtain⟨t',rfl⟩:=ry;exact notIn_str (aJ I q rfl)
theorem kR {op:CmpOp} {r:R2} (ho:jI X (compareOp op) r) (ha:PE X a ta) (hb:PE X b tb) (hm:behindInMarks op b=false):PE X (.Compare a [op] [b] pos) (GY r ta tb):=by
 intro pins s σ H Q I h;exact wpAny_Compare1 (EL ha hb I h fun v u s2 x y H2 I2 rx ry q=>ho pins s2 σ H2 x y v u Q I2 rx ry q) hm
noncomputable def Ft (t:TE):TT:=fun σ H Q=>t σ H fun x H'=>∃k,x=.bl k/\Q k H'
theorem kQ {op:CmpOp} {r:R2} (ho:jI X (compareOp op) r) (ha:PE X a ta) (hb:PE X b tb) (hm:behindInMarks op b=false):PT X (.Compare a [op] [b] pos) (Ft (GY r ta tb)):=by
 intro pins s σ H Q I h
 refine wpAny_isTrue_Compare1 (cz (ha pins s σ H _ I h) fun v s1 ⟨x,H1,I1,r1,q1⟩=>cz (hb pins s1 σ H1 _ I1 q1) fun u s2 ⟨y,H2,I2,r2,q2⟩=>
  cz (ho pins s2 σ H2 x y v u _ I2 r1 r2 q2) fun c s3 ⟨z,H3,I3,r3,k,e,q3⟩=>?_) hm
 subst e;cases r3
 exact wpAny_truthy_bool ⟨H3,I3,q3⟩
noncomputable def Ig (K:PySem.W.Frag) (x:V) (H:Hp) (k:Bool):Prop:=
 match x with
 | .aQ=>k=false
 | .bl b=>k=b
 | .int i=>k=(i != 0)
 | .str y=>y.length<=sizeLine/\k=((y.length:Int) != 0)
 | .byt y=>y.size<=sizeLine/\k=((y.size:Int) != 0)
 | .ref p=>(∃ xs,j5 K H p xs/\k=!xs.isEmpty)\/(∃ xs,xR K H p xs/\k=!xs.isEmpty)\/∃kvs,H p=some (.dK kvs)/\k=!kvs.isEmpty
 | _=>False
theorem tT {κ:Type} {kvs:List (κ × V)} {vs:List (κ × Value)} (r:KV kvs vs):(!vs.isEmpty)=!kvs.isEmpty:=by
 cases r<;>rfl
theorem mP {xs:List V} {aA:NX} (r:Vals xs aA):(!aA.toArray.isEmpty)=!xs.isEmpty:=by
 cases r<;>simp
theorem iN:(sizeLine:Nat) < 2 ^ 63:=by rw[Jy];decide
theorem Dq:GJ X (fun x H Q=>∃k,Ig X.K x H k/\Q k H):=by
 intro pins s σ H x v Q I rx h;obtain⟨k,e,q⟩:=h;have hl:=iN;have hs:sizeLine=16777216:=Jy;cases x with
 | aQ=>
  cases rx
  have e':k=false:=e;subst e';exact truthy_none ⟨H,I,q⟩
 | bl b=>
  cases rx
  have e':k=b:=e;subst e';exact wpAny_truthy_bool ⟨H,I,q⟩
 | int i=>
  obtain⟨t,rfl⟩:=rx;have e':k=(i != 0):=e;subst e';exact PySem.P.truthy_int ⟨H,I,q⟩
 | str y=>
  obtain⟨t,rfl⟩:=rx;obtain⟨hy,e'⟩:y.length<=sizeLine/\k=((y.length:Int) != 0):=e;subst e';exact PySem.P.truthy_str (by omega) ⟨H,I.tok _,q⟩
 | byt y=>
  obtain⟨t,rfl⟩:=rx;obtain⟨hy,e'⟩:y.size<=sizeLine/\k=((y.size:Int) != 0):=e;subst e';exact PySem.W.truthy_bytes (by omega) ⟨H,I.tok _,q⟩
 | ref p=>
  cases rx
  have e':(∃ xs,j5 X.K H p xs/\k=!xs.isEmpty)\/(∃ xs,xR X.K H p xs/\k=!xs.isEmpty)\/∃kvs,H p=some (.dK kvs)/\k=!kvs.isEmpty:=e;rcases e' with ⟨xs,hx,e'⟩ | ⟨xs,hx,e'⟩ | ⟨kvs,hx,e'⟩
  ·subst e';obtain⟨aA,r,pl,hz⟩:=I.list hx;have hlen:=r.length;exact wpAny_truthy_list pl.isList (by simp only[JH];omega) ⟨H,I.tok _,by rw[mP r];exact q⟩
  ·subst e';obtain⟨aA,r,pl,hz⟩:=I.tuple hx;have hlen:=r.length;exact truthy_tuple pl (by simp only[JH];omega) ⟨H,I.tok _,by rw[mP r];exact q⟩
  ·subst e';obtain⟨hz,hS,vs,r,m⟩:kvs.length<=sizeLine/\(p == sysModules)=false/\∃vs,KV kvs vs/\s.heap.DictOf (aS X.prog X.w) p vs:=I.bB p _ hx;have hlen:kvs.length=vs.length:=Ni r;exact wpAny_truthy_dict hS m (by omega) ⟨H,I.tok _,by rw[tT r];exact q⟩
 | _=>exact(show False from e).elim
theorem vals1 {x:V} {us:NX} (r:Vals [x] us):∃u,us=[u]/\RelV x u:=by
 cases r with
 | cons r1 r2=>cases r2;exact⟨_,rfl,r1⟩
theorem vals2 {x y:V} {us:NX} (r:Vals [x,y] us):∃u w',us=[u,w']/\RelV x u/\RelV y w':=by
 cases r with
 | cons r1 r2=>
  cases r2 with
  | cons r3 r4=>cases r4;exact⟨_,_,rfl,r1,r3⟩
end
theorem jG.some_of {v:V} {o:Option Value} (r:jG (some v) o):∃u,o=some u/\RelV v u:=by
 cases o with
 | none=>exact(show False from r).elim
 | some u=>exact⟨u,rfl,r⟩
theorem jG.none_of {o:Option Value} (r:jG none o):o=none:=by
 cases o with
 | none=>rfl
 | some u=>exact(show False from r).elim
structure dM (k:Nat) (A:Around):Prop where
 hd:A.handled=none
 dp:A.depth + 3 * k + 5 < recursionLimit
 un:A.units + 16 * k + 200 < cLine
theorem dM.mono {j k:Nat} {A:Around} (r:dM k A) (h:j<=k):dM j A:=⟨r.hd,by have:=r.dp;omega,by have:=r.un;omega⟩
theorem dM.deeper {k:Nat} {A:Around} (r:dM (k + 1) A) (env:Env):dM k (A.deeper env):=
 ⟨r.hd,by have:=r.dp;show A.depth + 1 + 3 * k + 5 < _;omega,by have:=r.un;show A.units + 3 + 16 * k + 200 < _;omega⟩
theorem dM.in1 {k:Nat} {A:Around} (r:dM (k + 1) A):dM k A.in1:=
 ⟨r.hd,by have:=r.dp;show A.depth + 3 * k + 5 < _;omega,by have:=r.un;show A.units + 1 + 16 * k + 200 < _;omega⟩
theorem dM.depth {k:Nat} {A:Around} (r:dM k A):A.depth < recursionLimit:=by have:=r.dp;omega
theorem dM.units {k:Nat} {A:Around} (r:dM k A):A.units + 64 < cLine:=by have:=r.un;omega
noncomputable def Hs:TA:=fun _ H Q=>Q [] H
noncomputable def Fw (ta:TE) (tr:TA):TA:=fun σ H Q=>ta σ H fun x H1=>tr σ H1 fun xs H2=>Q (x::xs) H2
section
variable {X:Cx} {e:Expr} {es:NZ} {te:TE} {t:TA} {pos:Pos}
theorem DR:PA X [] Hs:=fun _ _ _ _ H Q I h=>KO ⟨[],H,I,.nil,h⟩
theorem BY (ha:PE X e te) (hr:PA X es t) (hs:starEach (e::es) X.env=(false,eval e X.env)::starEach es X.env:=by rfl):PA X (e::es) (Fw te t):=by
 intro pos pins s σ H Q I h;rw[hs];show wpAny _ _ (spliced ((false,eval e X.env)::backTo pos (starEach es X.env))) _ _ s;refine Kq (cz (ha pins s σ H _ I h) fun u s1 ⟨x,H1,I1,r1,q1⟩=>?_);exact cz (hr pos pins s1 σ H1 _ I1 q1) fun us s2 ⟨xs,H2,I2,r2,q2⟩=>⟨x::xs,H2,I2,.cons r1 r2,q2⟩
end
noncomputable abbrev Sp:=List V->Hp->VK->XK->Prop
noncomputable abbrev xM:=List Env->Hp->Shared->XK->NS
structure xK (P:Program) (w:World) (K:PySem.W.Frag) (mg:NY) (base:Heap) (A:Around) (outer:List Env) (s:Shared) (H:Hp):Prop where
 frames:A.frames=some outer
 mod:Mod K mg base
 bs:∀b o,base.get? b=some o->s.heap.get? b=some o/\H b=none
 Cz:base.objs.size<=s.heap.objs.size
 jV:s.heap.FunFrames base outer
 EB:∀b ∈ xQ outer,H b=none
 bB:i4 P w H s.heap
 bare:AllBare s.gens
noncomputable def CE (outer:List Env) (P:Program) (w:World) (H:Hp) (s:Shared) (Q:VK) (u:Value) (s':Shared):Prop:=
 ∃v H',s'.os=s.os/\AllBare s'.gens/\Un (xQ outer) [] H H' s.heap s'.heap/\i4 P w H' s'.heap/\RelV v u/\Q v H'
noncomputable def CR (CX:xM) (outer:List Env) (P:Program) (w:World) (H:Hp) (s:Shared) (Q:VK) (E:XK) (r:Result) (s':Shared):Prop:=
 match r with
 | .ok (.ret u)=>CE outer P w H s Q u s'
 | .ok _=>False
 | .error e=>CX outer H s E e s'
structure eG (P:Program) (w:World) (K:PySem.W.Frag) (mg:NY) (base:Heap) (CX:xM) (k:Nat) (f:Addr) (fd:FuncData) (ps:NW) (sp:Sp):Prop where
 len:∀vs H Q E,sp vs H Q E->vs.length=ps.length
 run:∀ (A:Around) (outer:List Env) (s:Shared) (H:Hp) (args:Args) (us:NX) (vs:List V) (Q:VK) (E:XK),dM k A->xK P w K mg base A outer s H->BindsTo s fd args (ps.zip us)->Vals vs us->sp vs H Q E->
  codeAny (model P w) A (.call (.ref f) args) (CR CX outer P w H s Q E) s
theorem eG.mono {P:Program} {w:World} {K:PySem.W.Frag} {mg:NY} {base:Heap} {CX:xM} {j k:Nat} {f:Addr} {fd:FuncData} {ps:NW} {sp:Sp} (F:eG P w K mg base CX j f fd ps sp) (h:j<=k):
  eG P w K mg base CX k f fd ps sp:=⟨F.len,fun A outer s H args us vs Q E hr=>F.run A outer s H args us vs Q E (hr.mono h)⟩
theorem eG.imp {P:Program} {w:World} {K:PySem.W.Frag} {mg:NY} {base:Heap} {CX:xM} {k:Nat} {f:Addr} {fd:FuncData} {ps:NW} {sp sp':Sp} (F:eG P w K mg base CX k f fd ps sp)
  (h:∀vs H Q E,sp' vs H Q E->sp vs H Q E):eG P w K mg base CX k f fd ps sp':=
 ⟨fun vs H Q E q=>F.len vs H Q E (h _ _ _ _ q),fun A outer s H args us vs Q E hr he hb hv hs=>F.run A outer s H args us vs Q E hr he hb hv (h _ _ _ _ hs)⟩
section
variable {X:Cx} {pins:NT} {σ:St} {H:Hp} {s s':Shared}
theorem Inv.Gh (I:Inv X pins σ H s):xK X.prog X.w X.K X.mg X.base X.A X.stack s H:=
 ⟨I.ok.frames,I.ok.mod,I.bs,JS I.ok.Cz I.sz,I.stack,I.uG,I.bB,I.bare⟩
theorem Inv.after {Q:VK} {u:Value} (I:Inv X pins σ H s) (h:CE X.stack X.prog X.w H s Q u s'):EP X pins σ Q u s':=by
 obtain⟨v,H',os,bare,un,bB,r,q⟩:=h;obtain⟨hh,g,d,t,os'⟩:=s';obtain rfl:os'=s.os:=os;exact⟨v,H',I.call (h':=hh) (g':=g) (d':=d) (t':=t) (ch:=[]) un bB bare (fun b z=>absurd z (by simp)),r,q⟩
end
noncomputable def Binds (K:PySem.W.Frag) (fd:FuncData) (ps:NW) (ds:NX):Prop:=
 ∀ (s:Shared) (us:NX),K.In s.heap->(us++ds).length=ps.length->BindsTo s fd ⟨us,[]⟩ (ps.zip (us++ds))
theorem Binds.all {K:PySem.W.Frag} {fd:FuncData} {ps:NW} (h:∀us:NX,us.length=ps.length->bindArgs fd ⟨us,[]⟩=pure (ps.zip us)):Binds K fd ps []:=fun s us _ hl=>by
 rw[LV]at hl ⊢;exact .of_eq (h us hl)
structure aN (N P:NW) (sc:Scope):Prop where
 kind:sc.kind=.function
 co:sc.isCoroutine=false
 gen:sc.isGenerator=false
 nd:N.Nodup
 pre:N.take P.length=P
 par:∀x ∈ P,sc.names.lookup x=some .local\/sc.names.lookup x=some .cell
 D7:∀y ∈ sc.names,y.2 ≠ .free
theorem oV {kindOf:Str->Option NameKind} {x:Str}:∀ {binds:List (Str × Value)} {m:NY},(∀ v,(x,v) ∉ binds)->bindL kindOf binds m x=m x
 | [],_,_=>rfl
 | (n,v)::r,m,h=>by
  unfold bindL;rw[oV fun w hw=>h w (Jo _ hw)];split
  ·have:x ≠ n:=by rintro rfl;exact h v Js
   simp[this]
  ·rfl
theorem oX {kindOf:Str->Option NameKind} {x:Str}:∀ {binds:List (Str × Value)} {m:NY},(∀ v,(x,v) ∉ binds)->bindC kindOf binds m x=m x
 | [],_,_=>rfl
 | (n,v)::r,m,h=>by
  unfold bindC;rw[oX fun w hw=>h w (Jo _ hw)];split
  ·rfl
  ·have:x ≠ n:=by rintro rfl;exact h v Js
   simp[this]
theorem oW {kindOf:Str->Option NameKind} {x:Str} {v:Value}:∀ {P:NW} {vs:NX} {i:Nat} {m:NY},P.Nodup->P[i]?=some x->vs[i]?=some v->kindOf x=some .local->
  bindL kindOf (P.zip vs) m x=some v
 | [],_,_,_,_,h,_,_=>by simp at h
 | _::_,[],_,_,_,_,h,_=>by simp at h
 | p::P,w::vs,0,m,nd,h1,h2,hk=>by
  simp at h1 h2;subst h1;subst h2;show bindL kindOf ((p,w)::P.zip vs) m p=_;unfold bindL;rw[oV fun v hv=>(JN.mp nd).1 (Lz hv).1,Jj hk];simp
 | p::P,w::vs,i + 1,m,nd,h1,h2,hk=>by
  show bindL kindOf ((p,w)::P.zip vs) m x=_;unfold bindL;exact oW (i:=i) (JN.mp nd).2 (by simpa using h1) (by simpa using h2) hk
theorem oY {kindOf:Str->Option NameKind} {x:Str} {v:Value}:∀ {P:NW} {vs:NX} {i:Nat} {m:NY},P.Nodup->P[i]?=some x->vs[i]?=some v->kindOf x ≠ some .local->
  bindC kindOf (P.zip vs) m x=some v
 | [],_,_,_,_,h,_,_=>by simp at h
 | _::_,[],_,_,_,_,h,_=>by simp at h
 | p::P,w::vs,0,m,nd,h1,h2,hk=>by
  simp at h1 h2;subst h1;subst h2;show bindC kindOf ((p,w)::P.zip vs) m p=_;unfold bindC;rw[oX fun v hv=>(JN.mp nd).1 (Lz hv).1,Ji hk];simp
 | p::P,w::vs,i + 1,m,nd,h1,h2,hk=>by
  show bindC kindOf ((p,w)::P.zip vs) m x=_;unfold bindC;exact oY (i:=i) (JN.mp nd).2 (by simpa using h1) (by simpa using h2) hk
noncomputable def start (N:NW) (vs:List V):St:=vs.map some++List.replicate (N.length - vs.length) none
noncomputable def kB (CX:xM) (P:Program) (w:World) (K:PySem.W.Frag) (mg:NY) (base:Heap) (N:NW) (qual:Str) (scope:Scope) (f:Addr) (cd:Value) (A:Around) (outer:List Env) (s:Shared) (H:Hp) (E:XK):Cx where
 prog:=P
 w:=w
 K:=K
 mg:=mg
 base:=base
 A:=A.deeper (envOfC qual scope s.heap.objs.size f cd)
 N:=N
 s₀:=s
 H₀:=H
 env:=envOfC qual scope s.heap.objs.size f cd
 outer:=outer
 stack:=envOfC qual scope s.heap.objs.size f cd::outer
 ex:=[]
 calm:=true
 fn:=fun _=>true
 pn:=[]
 xe:=fun e s'=>wpAny (model P w) (A.deeper (envOfC qual scope s.heap.objs.size f cd)) (leaving (envOfC qual scope s.heap.objs.size f cd) e) (fun _ s''=>CX outer H s E e s'') (fun e' s''=>CX outer H s E e' s'') s'
theorem sj {sc:Scope} {n:Nat} {x:Str} (h:sc.names.lookup x=some .cell):∃c,(cellsFrom n sc.names []).lookup x=some c:=by
 have q:=MH sc.names n [] (.inl h);exact Lh.mp q
theorem oH {CX:xM} {P:Program} {w:World} {K:PySem.W.Frag} {mg:NY} {base:Heap} {N ps:NW} {qual:Str} {scope:Scope} {f:Addr} {cd:Value} {A:Around} {outer:List Env} {s s1:Shared} {H:Hp} {E:XK} {us:NX} {vs:List V}
  (S:aN N ps scope) (hd:A.handled=none) (e0:xK P w K mg base A outer s H) (hl:vs.length=ps.length) (r:Vals vs us)
  (x:InCallC s s.heap.objs.size (bindL (envOfC qual scope s.heap.objs.size f cd).kindOf (ps.zip us) fun _=>none) (cellsFrom (s.heap.objs.size + 1) scope.names []) (bindC (envOfC qual scope s.heap.objs.size f cd).kindOf (ps.zip us) fun _=>none) s1):
  Inv (kB CX P w K mg base N qual scope f cd A outer s H E) [] (start N vs) H s1:=by
 have hpl:ps.length<=N.length:=by have:=congrArg List.length S.pre;rw[J4]at this;omega
 obtain⟨h1,tk,rfl,hk⟩:=x.done;have noA:∀b:Addr,b ∉ (kB CX P w K mg base N qual scope f cd A outer s H E).ex:=fun b z=>absurd (show b ∈ ([]:List Addr)from z) (by simp)
 refine⟨⟨e0.mod,S.kind,rfl,rfl,JG _,fun y z c h1 h2=>?_,fun y hy=>?_,fun y c _ h=>?_,fun _=>hd,Around.frames_deeper e0.frames,.inr ⟨rfl,rfl⟩,fun b z=>absurd z (noA b),e0.bs,e0.Cz,fun b _ _=>noA b,fun b z=>absurd z (noA b),e0.jV,e0.EB⟩,
  rfl,e0.bare,Un.kept hk,⟨_,x.toInCall.ns,fun i y v h1 h2 h3=>?_⟩,fun y c h=>⟨_,x.cell y c h⟩,e0.bB.fresh (JG _),fun y c h=>?_,fun p hp=>absurd (show p ∈ ([]:NT)from hp) (by simp),e0.bB.kept hk,?_⟩
 ·exact name_of_addr x.apart (Lp h1) (Lp h2)
 ·have hy:scope.names.lookup y=some .cell\/scope.names.lookup y=some .free:=hy;rcases hy with hy | hy
  ·exact sj hy
  ·exact absurd rfl (S.D7 _ (Lp hy))
 ·exact Lw (x.above y c (Lp h))
 ·have hi:i < vs.length:=by
   unfold start at h2
   by_cases hi:i < vs.length
   ·exact hi
   ·rw[J1 (by simpa using hi)]at h2;rw[NG]at h2;split at h2<;>cases h2
  have ha:vs[i]?=some v:=by
   unfold start at h2;rw[JP (by simpa using hi),JJ]at h2;cases e:vs[i]? with
   | none=>rw[e]at h2;cases h2
   | some a=>rw[e]at h2;cases h2;rfl
  obtain⟨u,hu,rv⟩:=r.get ha
  have hp:ps[i]?=some y:=by
   rw[<-S.pre,List.getElem?_take_of_lt (by omega)];exact h1
  have ndP:ps.Nodup:=by rw[<-S.pre];exact S.nd.sublist (List.take_sublist _ _)
  refine⟨u,rv,?_⟩;rcases S.par y (Jp hp)with k | k
  ·exact .inl ⟨k,oW ndP hp hu k⟩
  ·obtain⟨c,e⟩:=sj (n:=s.heap.objs.size + 1) k;refine .inr ⟨.inl k,c,e,?_⟩;have q:=x.cell y c e;rw[oY ndP hp hu (by show scope.names.lookup y ≠ _;rw[k];decide)]at q;exact q
 ·exact e0.bB.fresh (Lw (x.above y c (Lp h)))
 ·unfold start;show _=N.length;rw[Jw,Jk,LA];omega
theorem C_ {CX:xM} {P:Program} {w:World} {K:PySem.W.Frag} {mg:NY} {base:Heap} {k:Nat} {f:Addr} {name qual:Str} {params:Arguments} {body:List Stmt} {scope:Scope} {dV kV doc pm cdv ct oc:Value} {an od:Option Addr}
  {osl:Array (Option Value)} {N ps:NW} {sp:Sp} (lk:K.lookup f=some ⟨oc,od,.func (PySem.W.fnOf name qual params body scope dV kV doc pm an cdv ct),osl⟩) (hcd:PySem.W.codeIn K cdv qual=true) (S:aN N ps scope)
  (len:∀vs H Q E,sp vs H Q E->vs.length=ps.length)
  (hbody:∀ (A:Around) (outer:List Env) (s:Shared) (H:Hp) (vs:List V) (Q:VK) (E:XK),dM k (A.deeper (envOfC qual scope s.heap.objs.size f cdv))->sp vs H Q E->
   ∃t,AX (kB CX P w K mg base N qual scope f cdv A outer s H E) body t/\t {nx:=fun _ H'=>Q .aQ H',rt:=Q} (start N vs) H):
  eG P w K mg base CX (k + 1) f (PySem.W.fnOf name qual params body scope dV kV doc pm an cdv ct) ps sp:=by
 refine⟨len,fun A outer s H args us vs Q E hr e0 hb r hsp=>?_⟩;have hl:=len _ _ _ _ hsp;have KX:K.In s.heap:=e0.mod.FZ.keeps fun b o e=>(e0.bs b o e).1;have lim:s.heap.NoLimit:=e0.mod.nolimit.keeps fun b o e=>(e0.bs b o e).1
 have hkind:∀y ∈ ps.zip us,scope.names.lookup y.1=some .local\/(scope.names.lookup y.1=some .cell/\((cellsFrom (s.heap.objs.size + 1) scope.names []).lookup y.1).isSome=true):=fun⟨n,v⟩ hy=>by
  rcases S.par n (Lz hy).1 with q | q
  ·exact .inl q
  ·exact .inr ⟨q,MH _ _ _ (.inl q)⟩
 refine codeAny_call_function hr.depth (KX _ _ lk) rfl S.co S.gen rfl (PySem.W.codeRec_of KX hcd) (hb _ _ _ _ ?_);refine wpAny_newFunctionEnv_cells S.kind hkind fun env he s1 x=>?_;subst he;refine⟨lim.keeps x.toInCall.keep,codeAny_func ?_⟩;obtain⟨t,ht,hq⟩:=hbody A outer s H vs Q E (hr.deeper _) hsp;have I:Inv (kB CX P w K mg base N qual scope f cdv A outer s H E) [] (start N vs) H s1:=oH S hr.hd e0 hl r x;refine KW (ht [] s1 (start N vs) H _ I hq) (fun fl s' hs=>?_) fun e s' hs=>hs
 have fin:∀ {σ':St} {H':Hp} {v:V} {u:Value},Inv (kB CX P w K mg base N qual scope f cdv A outer s H E) [] σ' H' s'->RelV v u->Q v H'->CE outer P w H s Q u s':=
  fun{σ' H' v u} J rv q=>⟨v,H',J.os,J.bare,J.base,J.bB,rv,q⟩
 cases fl with
 | ret u=>
  obtain⟨v,σ',H',J,rv,q⟩:=hs;exact fin J rv q
 | next=>
  obtain⟨σ',H',J,q⟩:=hs;exact fin (v:=V.aQ) (u:=Value.none) J rfl q
 | brk=>
  obtain⟨_,_,_,q⟩:=hs;exact False.elim q
 | cont=>
  obtain⟨_,_,_,q⟩:=hs;exact False.elim q
section
variable {X:Cx} {x:Str} {p pos:Pos} {e:Expr} {es:NZ} {t:TA} {id T:String} {r:List V->Hp->VK->Prop}
noncomputable def Hv (r:List V->Hp->VK->Prop) (t:TA):TE:=fun σ H Q=>t σ H fun vs H1=>r vs H1 Q
theorem y0 (hc:pg X (.builtin id) r) (hg:Gl X x) (hm:X.mg x=none) (hv:bootBuiltins x=some (.builtin id)) (ha:PA X (e::es) t) (hn:x ≠ "__name__" :=by decide) (hdb:(x == ("__debug__" :Str))=false:=by decide)
  (he:starEach (e::es) X.env=(false,eval e X.env)::starEach es X.env:=by rfl) (hpl:(backTo pos (starEach es X.env)).any (·.1)=false:=by rfl):PE X (.Call (.Name x p) (e::es) [] pos) (Hv r t):=by
 intro pins s σ H Q I h;refine KI (eT I hg hm hv ?_ hn hdb);exact Li (cz (ha pos pins s σ H _ I h) fun us s1 ⟨vs,H1,I1,r1,q1⟩=>hc pins s1 σ H1 vs us Q I1 r1 q1) he hpl
theorem hE (hc:pg X (.type T) r) (hg:Gl X x) (hm:X.mg x=none) (hv:bootBuiltins x=some (.type T)) (ha:PA X (e::es) t) (hn:x ≠ "__name__" :=by decide) (hdb:(x == ("__debug__" :Str))=false:=by decide)
  (he:starEach (e::es) X.env=(false,eval e X.env)::starEach es X.env:=by rfl) (hpl:(backTo pos (starEach es X.env)).any (·.1)=false:=by rfl):PE X (.Call (.Name x p) (e::es) [] pos) (Hv r t):=by
 intro pins s σ H Q I h;refine KI (eT I hg hm hv ?_ hn hdb);exact K4 (cz (ha pos pins s σ H _ I h) fun us s1 ⟨vs,H1,I1,r1,q1⟩=>hc pins s1 σ H1 vs us Q I1 r1 q1) he hpl
end
section
variable {κ:Type} [DecidableEq κ]
noncomputable def bQ (kvs:List (κ × V)) (k:κ):Option V:=(kvs.find? fun kv=>decide (kv.1=k)).map (·.2)
noncomputable def putK (kvs:List (κ × V)) (k:κ) (v:V):List (κ × V):=
 if(kvs.any fun kv=>decide (kv.1=k))=true then kvs.map (fun kv=>if kv.1=k then(kv.1,v)else kv)else kvs++[(k,v)]
noncomputable def iE (kvs:List (κ × V)) (k:κ):List (κ × V):=kvs.filter fun kv=>decide (kv.1 ≠ k)
theorem i7 {p:κ × V} {r:List (κ × V)} {k:κ} (e:p.1=k):bQ (p::r) k=some p.2:=by simp[bQ,LB,e]
theorem lE {p:κ × V} {r:List (κ × V)} {k:κ} (e:¬p.1=k):bQ (p::r) k=bQ r k:=by simp[bQ,LB,e]
theorem qH (k:κ):∀kvs:List (κ × V),(kvs.any fun kv=>decide (kv.1=k))=(bQ kvs k).isSome
 | []=>rfl
 | p::r=>by
  rw[LF]
  by_cases e:p.1=k
  ·simp only[i7 e,JV e,Bool.true_or,Option.isSome_some]
  ·rw[lE e,JR e,Bool.false_or];exact qH k r
theorem kh (kvs:List (κ × V)) (k:κ) (v:V):(putK kvs k v).length<=kvs.length + 1:=by
 unfold putK;split
 ·rw[Jk];omega
 ·rw[Jw,J5,List.length_nil];omega
theorem jG.fu {o:Option V} {u:Option Value} (r:jG o u):o.isSome=u.isSome:=by
 cases o with
 | none=>cases u with
  | none=>rfl
  | some _=>exact(show False from r).elim
 | some _=>cases u with
  | none=>exact(show False from r).elim
  | some _=>rfl
theorem KV.val {kvs:List (κ × V)} {vs:List (κ × Value)} (r:KV kvs vs) (k:κ):jG (bQ kvs k) (valueAt vs k):=by
 unfold KV at r
 induction r with
 | nil=>exact True.intro
 | @cons p q ps qs h t ih=>
  obtain⟨h1,h2⟩:=h
  by_cases e:p.1=k
  ·have e':q.1=k:=h1.symm.trans e;have b:valueAt (q::qs) k=some q.2:=by simp[valueAt,LB,e']
   rw[i7 e,b];exact h2
  ·have e':¬q.1=k:=fun z=>e (h1.trans z);have b:valueAt (q::qs) k=valueAt qs k:=by simp[valueAt,LB,e']
   rw[lE e,b];exact ih
theorem KV.any {kvs:List (κ × V)} {vs:List (κ × Value)} (r:KV kvs vs) (k:κ):(kvs.any fun kv=>decide (kv.1=k))=vs.any fun kv=>decide (kv.1=k):=by
 unfold KV at r
 induction r with
 | nil=>rfl
 | cons h t ih=>rw[LF,LF,ih,h.1]
theorem KV.DB {kvs:List (κ × V)} {vs:List (κ × Value)} (r:KV kvs vs) (k:κ) {y:V} {u:Value} (ry:RelV y u):
  KV (kvs.map fun kv=>if kv.1=k then(kv.1,y)else kv) (vs.map fun kv=>if kv.1=k then(kv.1,u)else kv):=by
 unfold KV at r ⊢
 induction r with
 | nil=>exact .nil
 | @cons p q ps qs h t ih=>
  rw[JF,JF];refine .cons ?_ ih;obtain⟨h1,h2⟩:=h
  by_cases e:p.1=k
  ·rw[Jj e,Jj (h1.symm.trans e)];exact⟨h1,ry⟩
  ·rw[Ji e,Ji (fun z=>e (h1.trans z))];exact⟨h1,h2⟩
theorem KV.put {kvs:List (κ × V)} {vs:List (κ × Value)} (r:KV kvs vs) (k:κ) {y:V} {u:Value} (ry:RelV y u):KV (putK kvs k y) (stored vs k u):=by
 unfold putK stored;rw[r.any k]
 by_cases e:(vs.any fun kv=>decide (kv.1=k))=true
 ·rw[Jj e,Jj e];exact r.DB k ry
 ·rw[Ji e,Ji e];exact Paired.snoc r ⟨rfl,ry⟩
theorem KV.drop {kvs:List (κ × V)} {vs:List (κ × Value)} (r:KV kvs vs) (k:κ):KV (iE kvs k) (without vs k):=by
 unfold KV at r ⊢;unfold iE without
 induction r with
 | nil=>exact .nil
 | @cons p q ps qs h t ih=>
  obtain⟨h1,h2⟩:=h;rw[List.filter_cons,List.filter_cons]
  by_cases e:p.1=k
  ·have a:¬decide (p.1 ≠ k)=true:=by simp[e]
   have b:¬decide (q.1 ≠ k)=true:=by simp[h1.symm.trans e]
   rw[Ji a,Ji b];exact ih
  ·have e':¬q.1=k:=fun z=>e (h1.trans z);have a:decide (p.1 ≠ k)=true:=by simp[e]
   have b:decide (q.1 ≠ k)=true:=by simp[e']
   rw[Jj a,Jj b];exact .cons ⟨h1,h2⟩ ih
theorem KV.keys {kvs:List (κ × V)} {vs:List (κ × Value)} (r:KV kvs vs):kvs.map (·.1)=vs.map (·.1):=by
 unfold KV at r
 induction r with
 | nil=>rfl
 | cons h t ih=>rw[JF,JF,ih,h.1]
theorem KV.length {kvs:List (κ × V)} {vs:List (κ × Value)} (r:KV kvs vs):kvs.length=vs.length:=Ni r
theorem Au (kvs:List (κ × V)) (k:κ):(iE kvs k).length<=kvs.length:=Ks _ _
end
theorem mM {P:Program} {w:World} {k:Key} {u:Value} (r:RelV (kV k) u):(aS P w).is k u=true:=by
 cases k with
 | inl i=>obtain⟨t,e⟩:=(show ∃t,u=Value.int i t from r);subst e;exact rz P w i t
 | inr x=>obtain⟨t,e⟩:=(show ∃t,u=Value.str x t from r);subst e;exact rq P w x t
theorem oG {P:Program} {w:World}:∀ {ks:List Key} {us:NX},Vals (ks.map kV) us->ItemsAre (aS P w) ks us
 | [],_,r=>by rw[List.map_nil]at r;cases r;exact .nil
 | k::ks,_,r=>by
  rw[JF]at r;cases r with
  | cons h t=>exact .cons (mM h) (oG t)
noncomputable abbrev KT (H:Hp):List (List Key × V)->List (List Key × Addr × Value)->Prop:=Paired fun p q=>p.1=q.1/\H q.2.1=some (.tup (p.1.map kV))/\RelV p.2 q.2.2
theorem KT.val {H:Hp} {kvs:List (List Key × V)} {xs:List (List Key × Addr × Value)} (r:KT H kvs xs) (k:List Key):jG (bQ kvs k) ((atKey xs k).map (·.2)):=by
 induction r with
 | nil=>exact True.intro
 | @cons p q ps qs h t ih=>
  obtain⟨h1,_,h2⟩:=h
  by_cases e:p.1=k
  ·have e':q.1=k:=h1.symm.trans e;have b:atKey (q::qs) k=some q.2:=by simp[atKey,LB,e']
   rw[i7 e,b];exact h2
  ·have e':¬q.1=k:=fun z=>e (h1.trans z);have b:atKey (q::qs) k=atKey qs k:=by simp[atKey,LB,e']
   rw[lE e,b];exact ih
theorem KT.DB {H:Hp} {kvs:List (List Key × V)} {xs:List (List Key × Addr × Value)} (r:KT H kvs xs) (k:List Key) {y:V} {u:Value} (ry:RelV y u):
  KT H (kvs.map fun kv=>if kv.1=k then(kv.1,y)else kv) (xs.map (putAt k u)):=by
 induction r with
 | nil=>exact .nil
 | @cons p q ps qs h t ih=>
  rw[JF,JF];refine .cons ?_ ih;obtain⟨h1,h2,h3⟩:=h;unfold putAt
  by_cases e:p.1=k
  ·rw[Jj e,Jj (h1.symm.trans e)];exact⟨h1,h2,ry⟩
  ·rw[Ji e,Ji (fun z=>e (h1.trans z))];exact⟨h1,h2,h3⟩
theorem KT.put {H:Hp} {kvs:List (List Key × V)} {xs:List (List Key × Addr × Value)} (r:KT H kvs xs) (k:List Key) {b:Addr} {y:V} {u:Value} (hb:H b=some (.tup (k.map kV))) (ry:RelV y u):
  KT H (putK kvs k y) (storedH xs k b u):=by
 have e:(kvs.any fun kv=>decide (kv.1=k))=(atKey xs k).isSome:=by
  rw[qH,(r.val k).fu,L6]
 unfold putK storedH;rw[e]
 by_cases q:(atKey xs k).isSome=true
 ·rw[Jj q,Jj q];exact r.DB k ry
 ·rw[Ji q,Ji q];exact Paired.snoc r ⟨rfl,hb,ry⟩
theorem KT.keeps {H H':Hp} {kvs:List (List Key × V)} {xs:List (List Key × Addr × Value)} (r:KT H kvs xs) (ht:∀b ys,H b=some (.tup ys)->H' b=some (.tup ys)):KT H' kvs xs:=
 Paired.Ee r fun _ _ z=>⟨z.1,ht _ _ z.2.1,z.2.2⟩
section
variable {P:Program} {w:World} {H:Hp} {h:Heap} {a:Addr}
theorem ao {u:HO} (ok:i4 P w H h) (e:Rd H a u):cA P w H h a u:=e.ok ok
theorem vD {kvs:List (Key × V)} (ok:i4 P w H h) (e:Rd H a (.dK kvs)):kvs.length<=sizeLine/\(a == sysModules)=false/\∃vs,KV kvs vs/\h.DictOf (aS P w) a vs:=
 show cA P w H h a (.dK kvs)from ao ok e
theorem oR {kvs:List (Key × V)} (ok:i4 P w H h) (e:H a=some (.dK kvs)):kvs.length<=sizeLine/\(a == sysModules)=false/\∃vs,KV kvs vs/\h.DictOf (aS P w) a vs:=vD ok (.inl e)
theorem pX {ks:List Key} (ok:i4 P w H h) (e:H a=some (.tup (ks.map kV))):(tupleKind (aS P w)).is h ks a:=by
 obtain⟨_,aA,r,o,h1,h2,n,h3⟩:=(show cA P w H h a (.tup (ks.map kV))from ok a _ e);exact⟨o,aA.toArray,n,h1,h2,h3,by simpa using oG r⟩
theorem Ar {kvs:List (List Key × V)} (ok:i4 P w H h) (e:Rd H a (.dT kvs)):kvs.length<=sizeLine/\(a == sysModules)=false/\
  ∃xs,KT H kvs xs/\h.DictOfH (tupleKind (aS P w)) a xs:=by
 obtain⟨z,y,xs,r,o,es,ep,h1,h2,h3,h4,h5⟩:=(show cA P w H h a (.dT kvs)from ao ok e);refine⟨z,y,xs,r,o,es,ep,h1,h2,h3,h4,fun x hx=>?_,h5⟩
 have all:∀ {l:List (List Key × V)} {m:List (List Key × Addr × Value)},KT H l m->∀x ∈ m,(tupleKind (aS P w)).is h x.1 x.2.1:=by
  intro l m q
  induction q with
  | nil=>intro x hx;exact nomatch hx
  | @cons p q ps qs hq t ih=>
   intro x hx;rcases Jx.mp hx with e | hx
   ·subst e;exact pX ok (by rw[<-hq.1];exact hq.2.1)
   ·exact ih x hx
 exact all r x hx
theorem Gm {kvs:List (List Key × V)} (ok:i4 P w H h) (e:H a=some (.dT kvs)):kvs.length<=sizeLine/\(a == sysModules)=false/\
  ∃xs,KT H kvs xs/\h.DictOfH (tupleKind (aS P w)) a xs:=Ar ok (.inl e)
end
noncomputable def GU (H:Hp) (a:Addr) (y:V) (r:Option V):Prop:=
 (∃ kvs k,Rd H a (.dK kvs)/\y=kV k/\r=bQ kvs k)\/∃kvs k b,Rd H a (.dT kvs)/\y=.ref b/\H b=some (.tup (k.map kV))/\r=bQ kvs k
noncomputable def CM (H:Hp) (a:Addr) (y v:V) (H':Hp):Prop:=
 (∃ kvs k,H a=some (.dK kvs)/\y=kV k/\kvs.length < sizeLine/\H'=upd H a (.dK (putK kvs k v)))\/
 ∃kvs k b,H a=some (.dT kvs)/\y=.ref b/\H b=some (.tup (k.map kV))/\kvs.length < sizeLine/\H'=upd H a (.dT (putK kvs k v))
theorem CM.k {H:Hp} {a:Addr} {kvs:List (Key × V)} {k:Key} {v:V} (e:H a=some (.dK kvs)) (hl:kvs.length < sizeLine):CM H a (kV k) v (upd H a (.dK (putK kvs k v))):=.inl ⟨kvs,k,e,rfl,hl,rfl⟩
section
variable {X:Cx} {pins:NT} {σ:St} {H:Hp} {s:Shared} {a:Addr} {y v:V} {u r:Value} {o:Option V} {A:Around} {E:NS}
theorem Inv.big (I:Inv X pins σ H s):sysModules < s.heap.objs.size:=by
 have h:mainGlobals < s.heap.objs.size:=(I.mod.glob.keeps I.bk).lt;exact MO (by decide) h
theorem H_ {Q:NS} (hu:A.units + 1 < cLine) (I:Inv X pins σ H s) (g:GU H a y o) (ry:RelV y u) (h:∀s',Inv X pins σ H s'->Q (.bool o.isSome) s'):
  wpAny (model X.prog X.w) A (compareOp .In u (.ref a)) Q E s:=by
 rcases g with ⟨kvs,k,e,ey,l⟩ | ⟨kvs,k,b,e,ey,eb,l⟩
 ·subst ey;obtain⟨z,hd,vs,rel,dd⟩:=vD I.bB e;refine wpAny_in_of (mM ry) hd dd.mapOf ?_;rw[<-(rel.val k).fu,<-l];exact h _ (I.tok _)
 ·subst ey;cases (show u=Value.ref b from ry)
  obtain⟨z,hd,xs,rel,dd⟩:=Ar I.bB e;refine wpAny_in_heap (M_ hu) (pX I.bB eb) hd dd ?_;have q:=(rel.val k).fu;rw[L6]at q;rw[<-q,<-l];exact h _ (I.tok _)
theorem Cw {Q:NS} (hu:A.units + 1 < cLine) (I:Inv X pins σ H s) (g:GU H a y o) (ry:RelV y u) (h:∀s',Inv X pins σ H s'->Q (.bool (!o.isSome)) s'):
  wpAny (model X.prog X.w) A (compareOp .NotIn u (.ref a)) Q E s:=by
 rcases g with ⟨kvs,k,e,ey,l⟩ | ⟨kvs,k,b,e,ey,eb,l⟩
 ·subst ey;obtain⟨z,hd,vs,rel,dd⟩:=vD I.bB e;refine wpAny_notIn_of (mM ry) hd dd.mapOf ?_;rw[<-(rel.val k).fu,<-l];exact h _ (I.tok _)
 ·subst ey;cases (show u=Value.ref b from ry)
  obtain⟨z,hd,xs,rel,dd⟩:=Ar I.bB e;refine wpAny_notIn_heap (M_ hu) (pX I.bB eb) hd dd ?_;have q:=(rel.val k).fu;rw[L6]at q;rw[<-q,<-l];exact h _ (I.tok _)
theorem qe {h':Heap} {t':Nat} {ob:HO} (I:Inv X pins σ H s) (mu:GO (H a)) (hs:Heap.SameBut a s.heap h') (he:∃q,h'.get? a=some q) (new:cA X.prog X.w (upd H a ob) h' a ob):
  Inv X pins σ (upd H a ob) {s with heap:=h',toks:=t'}:=
 I.write (x:=a) (e:=a) mu (.inl rfl) (fun b q hb z=>(hs.2 b hb).trans z) he new
theorem Av {P:Program} {w:World} {H':Hp} {h':Heap} {kvs:List (Key × V)} {vs:List (Key × Value)} (z:kvs.length<=sizeLine) (hd:(a == sysModules)=false) (rel:KV kvs vs) (dd:h'.DictOf (aS P w) a vs):
  cA P w H' h' a (.dK kvs):=⟨z,hd,vs,rel,dd⟩
theorem xu {H':Hp} {Q:Unit->Shared->Prop} (hu:A.units + 1 < cLine) (I:Inv X pins σ H s) (g:CM H a y v H') (ry:RelV y u) (rv:RelV v r) (h:∀s',Inv X pins σ H' s'->Q () s'):
  wpAny (model X.prog X.w) A (setItem (.ref a) u r) Q E s:=by
 rcases g with ⟨kvs,k,e,ey,l,eH⟩ | ⟨kvs,k,b,e,ey,eb,l,eH⟩
 ·subst ey eH;obtain⟨z,hd,vs,rel,dd⟩:=oR I.bB e;have hz:vs.length<=sizeLine:=by rw[<-rel.length];exact z
  have hl:(putK kvs k v).length<=sizeLine:=by have:=kh kvs k v;omega
  refine wpAny_setItem_pairs (hsz:=hz) (mM ry) dd fun h' dd' hs=>h _ ?_;have he:∃q,h'.get? a=some q:=let ⟨q,_,_,hq,_⟩:=dd';⟨q,hq⟩
  exact qe I (by rw[e];exact True.intro) hs he (Av hl hd (rel.put k rv) dd')
 ·subst ey eH;cases (show u=Value.ref b from ry)
  obtain⟨z,hd,xs,rel,dd⟩:=Gm I.bB e;have hz:xs.length<=sizeLine:=by rw[<-Ni rel];exact z
  have hl:(putK kvs k v).length<=sizeLine:=by have:=kh kvs k v;omega
  refine wpAny_setItem_heap (hsz:=hz) (M_ hu) (pX I.bB eb) dd fun h' dd' hs=>h _ ?_;obtain⟨q,es,ep,hq,h2,h3,h4,_,h5⟩:=dd';refine qe I (by rw[e];exact True.intro) hs ⟨q,hq⟩ ⟨hl,hd,_,(rel.put k eb rv).keeps fun c ys ec=>?_,q,es,ep,hq,h2,h3,h4,h5⟩;rw[af (FV ec e (fun z=>nomatch z))];exact ec
end
section
variable {X:Cx} {pins:NT} {σ:St} {H:Hp} {s:Shared} {a:Addr} {kvs:List (Key × V)} {k:Key} {u:Value} {A:Around} {E:NS}
theorem Gn {v:V} {more:NX} {Q:NS} (I:Inv X pins σ H s) (e:H a=some (.dK kvs)) (ry:RelV (kV k) u) (l:bQ kvs k=some v) (hm:more=[]\/∃x,more=[x])
  (h:∀w' s',Inv X pins σ (upd H a (.dK (iE kvs k))) s'->RelV v w'->Q w' s'):wpAny (model X.prog X.w) A (call (.builtin "dict.pop") (.ref a::u::more)) Q E s:=by
 obtain⟨z,hd,vs,rel,dd⟩:=oR I.bB e;obtain⟨w',hw,rw'⟩:=jG.some_of (v:=v) (o:=valueAt vs k) (by rw[<-l];exact rel.val k)
 have hp:(keyPart u).isSome=true:=by
  cases k with
  | inl i=>obtain⟨t,q⟩:=(show ∃t,u=Value.int i t from ry);subst q;rfl
  | inr x=>obtain⟨t,q⟩:=(show ∃t,u=Value.str x t from ry);subst q;rfl
 have ha:argsOk "dict.pop" ⟨.ref a::u::more,[]⟩:=by
  rcases hm with q | ⟨x,q⟩
  ·subst q;exact PySem.F.args_dict_pop_2 _ _
  ·subst q;exact PySem.F.args_dict_pop_3 _ _ _
 refine call_meetsIn PySem.F.slot_dict_pop dd.typeIs PySem.F.entry_dict_pop ha (meets_dict_pop_there (aS X.prog X.w) a (mM ry) more hm hp)
  ⟨vs,w',dd,by rw[<-rel.length];exact z,hw,fun h' dd' hs=>h w' _ ?_ rw'⟩
 have he:∃q,h'.get? a=some q:=let ⟨q,_,_,hq,_⟩:=dd';⟨q,hq⟩
 exact qe I (by rw[e];exact True.intro) hs he (Av (JS (Au kvs k) z) hd (rel.drop k) dd')
end
theorem Aw {P:Program} {w:World} {H:Hp} (h:Heap) (hb:sysModules < h.objs.size):cA P w H (h.push {cls:=.type "dict",data:=.dict #[]}) h.objs.size (.dK []):=
 ⟨J3 _,Mp.mpr (Kv (JC hb)),[],.nil,Heap.DictOf.new h⟩
noncomputable def Dv:TE:=fun _ H Q=>∀p,H p=none->Q (.ref p) (upd H p (.dK []))
section
variable {X:Cx} {pos:Pos}
theorem yV:PE X (.Dict [] [] pos) Dv:=fun pins s σ H Q I h=>
 wpAny_Dict_empty ⟨.ref s.heap.objs.size,_,I.laid (a:=s.heap.objs.size) (o:=.dK []) (t':=s.toks) (fun _ _ q=>Jq _ q) (JG _) (Aw s.heap I.big),rfl,h _ (I.bB.fresh (JG _))⟩
end
end L2
namespace HT
open PySem PyProof.Rows
section
variable {prog:Program} {w:World} {A:Around} {E:NS} {s:Shared}
noncomputable def qT (n d:Nat):Option Int->Nat
 | none=>d
 | some v=>if v < 0 then(v + (n:Int)).toNat else min v.toNat n
end
end HT
namespace L2
open PySem PySem.Spec PyProof.Rows
noncomputable abbrev TO:=St->Hp->(Option Int->Hp->Prop)->Prop
noncomputable def PO (X:Cx) (e:Option Expr) (t:TO):Prop:=
 ∀ (pins:NT) (s:Shared) (σ:St) (H:Hp) (Q:Option Int->Hp->Prop),Inv X pins σ H s->t σ H Q->
  wpAny (model X.prog X.w) X.A (evalPart e X.env) (fun u s'=>∃o H',Inv X pins σ H' s'/\IsPart u o/\Q o H') X.xe s
noncomputable def A_:TO:=fun _ H Q=>Q none H
section
variable {X:Cx} {e:Expr} {te:TE} {lo hi:Option Expr} {tl th:TO} {pos p2:Pos}
theorem BG:PO X none A_:=by
 intro pins s σ H Q I h;rw[evalPart_none];exact Jm ⟨none,H,I,.none,h⟩
noncomputable def Ii (X:Cx) (r:V->Option Int->Option Int->Hp->VK->Prop):Prop:=
 ∀ (pins:NT) (s:Shared) (σ:St) (H:Hp) (x:V) (v vl vu:Value) (lo hi:Option Int) (sl:Addr) (Q:VK),Inv X pins σ H s->RelV x v->s.heap.IsSliceOf sl vl vu .none->IsPart vl lo->IsPart vu hi->r x lo hi H Q->
  ∃T id,typeLookup (.type T) "__getitem__" =pure (some (.builtin id))/\s.TypeIs v T/\wpAny (model X.prog X.w) X.A (getItem v (.ref sl)) (EP X pins σ Q) X.xe s
noncomputable def IW (r:V->Option Int->Option Int->Hp->VK->Prop) (te:TE) (tl th:TO):TE:=fun σ H Q=>te σ H fun x H1=>tl σ H1 fun l H2=>th σ H2 fun u H3=>r x l u H3 Q
theorem yO {r:V->Option Int->Option Int->Hp->VK->Prop} (hr:Ii X r) (he:PE X e te) (hl:PO X lo tl) (hu:PO X hi th):PE X (.Subscript e (.Slice lo hi none p2) pos) (IW r te tl th):=by
 intro pins s σ H Q I h;refine Subscript_ (cz (he pins s σ H _ I h) fun v s1 ⟨x,H1,I1,r1,q1⟩=>?_);refine wpAny_Slice (cz (hl pins s1 σ H1 _ I1 q1) fun vl s2 ⟨l,H2,I2,pl,q2⟩=>cz (hu pins s2 σ H2 _ I2 q2) fun vu s3 ⟨u,H3,I3,pu,q3⟩=>?_);rw[evalPart_none];refine Jm ?_;have I4:Inv X pins σ H3 {s3 with heap:=s3.heap.push {cls:=.type "slice",data:=.fields #[vl,vu,.none]}}:=I3.kept (t':=s3.toks) fun b ob q=>Jq _ q;obtain⟨T,id,hT,ht,hg⟩:=hr pins {s3 with heap:=s3.heap.push {cls:=.type "slice",data:=.fields #[vl,vu,.none]}} σ H3 x v vl vu l u s3.heap.objs.size Q I4 r1 (Heap.IsSliceOf.new ..) pl pu q3;show wpAny (model X.prog X.w) X.A (subscriptTail e (.Slice lo hi none p2) v (.ref s3.heap.objs.size)) (EP X pins σ Q) X.xe {s3 with heap:=s3.heap.push {cls:=.type "slice",data:=.fields #[vl,vu,.none]}};exact tail_any (ops:=[.ref s3.heap.objs.size,v]) ht hT hg (by with_unfolding_all rfl)
noncomputable def iw (xs:List V) (lo hi:Option Int):List V:=(xs.drop (HT.qT xs.length 0 lo)).take (HT.qT xs.length xs.length hi - HT.qT xs.length 0 lo)
theorem r_ (xs:List V) (lo hi:Option Int):(iw xs lo hi).length<=xs.length:=by
 unfold iw;rw[J4,Ny];omega
end
noncomputable def oF (n:Nat) (i:Int):Option Nat:=if 0<=i then(if i < n then some i.toNat else none)else if -(n:Int)<=i then some (i + n).toNat else none
noncomputable def k_ {α:Type} (xs:List α) (i:Int):Option α:=(oF xs.length i).bind fun j=>xs[j]?
theorem vg {n:Nat} {i:Int} {j:Nat} (h:oF n i=some j):seqIndex? i n=some j/\j < n/\-(n:Int)<=i/\i < n:=by
 unfold oF at h
 by_cases h0:0<=i
 ·rw[Jj h0]at h
  by_cases h1:i < n
  ·rw[Jj h1]at h;have e:i.toNat=j:=JL h;exact⟨by rw[seqIndex_of h0 h1,e],by omega,by omega,h1⟩
  ·rw[Ji h1]at h;cases h
 ·rw[Ji h0]at h
  by_cases h1: -(n:Int)<=i
  ·rw[Jj h1]at h;have e:(i + n).toNat=j:=JL h;exact⟨by rw[seqIndex_neg (by omega) h1,e],by omega,h1,by omega⟩
  ·rw[Ji h1]at h;cases h
theorem qo {α:Type} {xs:List α} {i:Int} {v:α} (h:k_ xs i=some v):∃j,seqIndex? i xs.length=some j/\xs[j]?=some v/\j < xs.length/\-(xs.length:Int)<=i/\i < xs.length:=by
 unfold k_ at h;cases e:oF xs.length i with
 | none=>rw[e]at h;cases h
 | some j=>
  rw[e]at h;obtain⟨h1,h2,h3,h4⟩:=vg e;exact⟨j,h1,h,h2,h3,h4⟩
noncomputable def vP (b:Expr):Prop:=∀o i,subscripted b false o i=operate [o,i] (getItem o i)
noncomputable def AR (X:Cx) (r:R2):Prop:=
 ∀ (value slice:Expr) (pins:NT) (s:Shared) (σ:St) (H:Hp) (x y:V) (v u:Value) (Q:VK),Inv X pins σ H s->RelV x v->RelV y u->r x y H Q->
  subscripted slice false v u=operate [v,u] (getItem v u)->wpAny (model X.prog X.w) X.A (subscriptTail value slice v u) (EP X pins σ Q) X.xe s
noncomputable def Jc (X:Cx) (id:String) (r:V->List V->Hp->VK->Prop):Prop:=
 ∀ (pins:NT) (s:Shared) (σ:St) (H:Hp) (x:V) (xs:List V) (v:Value) (us:NX) (Q:VK),Inv X pins σ H s->RelV x v->Vals xs us->r x xs H Q->
  wpAny (model X.prog X.w) X.A (call (.builtin id) (v::us)) (EP X pins σ Q) X.xe s
section
variable {X:Cx} {a b:Expr} {ta tb:TE} {pos:Pos}
theorem AR.or {r r':R2} (h:AR X r) (h':AR X r'):AR X (fun x y H Q=>r x y H Q\/r' x y H Q):=by
 intro value slice pins s σ H x y v u Q I rx ry q hs;rcases q with q | q
 ·exact h value slice pins s σ H x y v u Q I rx ry q hs
 ·exact h' value slice pins s σ H x y v u Q I rx ry q hs
theorem C2 {r:R2} (hr:AR X r) (ha:PE X a ta) (hb:PE X b tb) (hs:vP b):PE X (.Subscript a b pos) (GY r ta tb):=by
 intro pins s σ H Q I h;exact Subscript_ (EL ha hb I h fun v u s2 x y H2 I2 rx ry q=>hr a b pins s2 σ H2 x y v u Q I2 rx ry q (hs _ _))
noncomputable def FD (K:PySem.W.Frag):R2:=fun x y H Q=>∃p xs i v,x=.ref p/\y=.int i/\j5 K H p xs/\k_ xs i=some v/\Q v H
noncomputable def FA (K:PySem.W.Frag):R2:=fun x y H Q=>∃p xs i v,x=.ref p/\y=.int i/\xR K H p xs/\k_ xs i=some v/\Q v H
noncomputable def FC:R2:=fun x y H Q=>∃z i c,x=.str z/\y=.int i/\z.length<=sizeLine/\k_ z.cps.toList i=some c/\Q (.str ⟨#[c]⟩) H
theorem Cn:AR X (FD X.K):=by
 intro value slice pins s σ H x y v u Q I rx ry h hs;obtain⟨p,xs,i,z,rfl,rfl,hq,he,q⟩:=h;cases rx
 obtain⟨t,rfl⟩:=ry;obtain⟨aA,r,pl,hz⟩:=I.list hq;obtain⟨j,h1,h2,h3,h4,h5⟩:=qo he;obtain⟨w,ew,rw'⟩:=r.get h2;have hl:=r.length;have hn:=iN;have fin:EP X pins σ Q w s:=⟨z,H,I,rw',q⟩
 by_cases h0:0<=i
 ·have hj:i.toNat=j:=by
   rw[seqIndex_of h0 h5]at h1;exact JL h1
  exact item_listR pl.isList h0 (by omega) (by rw[hj];simpa using ew) fin hs
 ·have hj:(i + (aA.toArray.size:Int)).toNat=j:=by
   rw[seqIndex_neg (by omega) h4]at h1;rw[JH,<-hl];exact JL h1
  exact subscriptTail_builtinR (x:=w) pl.isList.typeIs slot_list_getitem.lookup
   (wpAny_getItem_list_neg (Q:=fun r s'=>r=w/\EP X pins σ Q r s') pl.isList (by omega) (by rw[JH]<;>omega) (by omega) (by rw[hj];simpa using ew) ⟨rfl,fin⟩) hs
theorem Es:AR X (FA X.K):=by
 intro value slice pins s σ H x y v u Q I rx ry h hs;obtain⟨p,xs,i,z,rfl,rfl,hq,he,q⟩:=h;cases rx
 obtain⟨t,rfl⟩:=ry;obtain⟨aA,r,pl,hz⟩:=I.tuple hq;obtain⟨j,h1,h2,h3,h4,h5⟩:=qo he;obtain⟨w,ew,rw'⟩:=r.get h2;have hl:=r.length;have hn:=iN;have fin:EP X pins σ Q w s:=⟨z,H,I,rw',q⟩
 exact subscriptTail_builtinR (x:=w) pl.typeIs slot_tuple_getitem.lookup
  (getItem_tuple (j:=j) (Q:=fun r s'=>r=w/\EP X pins σ Q r s') pl (by omega) (by omega) (by rw[JH,<-hl];exact h1) (by simpa using ew) ⟨rfl,fin⟩) hs
theorem pZ:AR X FC:=by
 intro value slice pins s σ H x y v u Q I rx ry h hs;obtain⟨z,i,c,rfl,rfl,hz,he,q⟩:=h;obtain⟨t,rfl⟩:=rx;obtain⟨t',rfl⟩:=ry;obtain⟨j,h1,h2,h3,h4,h5⟩:=qo he;have hl:z.cps.toList.length=z.length:=by simp[Str.length]
 rw[hl]at h1 h4 h5;have hn:=iN
 exact tail_any (typeIs_str s z t) slot_str_getitem.lookup (getItem_str (c:=c) (by
  have e1:decide (i < -(2 ^ 63:Int))=false:=JR (by omega);have e2:decide (i ≥ 2 ^ 63)=false:=JR (by omega);rw[e1,e2,NQ]) (by rw[h1];simpa using h2) ⟨.str ⟨#[c]⟩,H,I.tok _,⟨_,rfl⟩,q⟩) hs
noncomputable def I_ (K:PySem.W.Frag):R2:=fun x y H Q=>FD K x y H Q\/FA K x y H Q\/FC x y H Q
theorem Et:AR X (I_ X.K):=Cn.or (Es.or pZ)
theorem tH (aA:NX) (n j:Nat) (u:Value):Obj.mapSeq (·.setIfInBounds j u) {cls:=.type "list",data:=.seq aA.toArray n}={cls:=.type "list",data:=.seq (aA.set j u).toArray n}:=by
 simp[Obj.mapSeq]
theorem Inv.lst {pins:NT} {σ:St} {H:Hp} {s:Shared} {p:Addr} {xs:List V} (I:Inv X pins σ H s) (h:H p=some (.lst xs)):
  ∃ (aA:NX) (n:Nat),Vals xs aA/\s.heap.get? p=some {cls:=.type "list",data:=.seq aA.toArray n}/\xs.length<=sizeLine:=by
 obtain⟨z,aA,n,r,e⟩:=I.bB p _ h;exact⟨aA,n,r,e,z⟩
theorem Inv.Eh {pins:NT} {σ:St} {H:Hp} {s:Shared} {p:Addr} {xs ys:List V} {aA its':NX} {n n':Nat} {f:Obj->Obj} (I:Inv X pins σ H s) (h:H p=some (.lst xs))
  (ho:s.heap.get? p=some {cls:=.type "list",data:=.seq aA.toArray n}) (hf:f {cls:=.type "list",data:=.seq aA.toArray n}={cls:=.type "list",data:=.seq its'.toArray n'}) (r:Vals ys its') (hz:ys.length<=sizeLine) (t:Nat):
  Inv X pins σ (upd H p (.lst ys)) {s with heap:=s.heap.update p f,toks:=t}:=by
 have e:(s.heap.update p f).get? p=some {cls:=.type "list",data:=.seq its'.toArray n'}:=by
  rw[Kj f ho (by rw[hf]<;>rfl),hf]
 refine I.write (x:=p) (e:=p) (by rw[h];trivial) (.inl rfl) (fun b u hb q=>(Kh _ _ (Kv hb)).trans q) ⟨_,e⟩ ?_;exact⟨hz,its',n',r,e⟩
noncomputable def Fz:V->V->V->Hp->(Hp->Prop)->Prop:=fun o i v H Q=>∃p xs k j,o=.ref p/\i=.int k/\H p=some (.lst xs)/\oF xs.length k=some j/\Q (upd H p (.lst (xs.set j v)))
theorem set_list:GL X Fz:=by
 intro pins s σ H o i v ov iv u Q I ro ri rv h;obtain⟨p,xs,k,j,rfl,rfl,hp,hj,q⟩:=h;cases ro
 obtain⟨t,rfl⟩:=ri;obtain⟨aA,n,r,ho,hz⟩:=I.lst hp;obtain⟨h1,h2,h3,h4⟩:=vg hj;have hl:=r.length;have hn:=iN
 have I':Inv X pins σ (upd H p (.lst (xs.set j v))) {s with heap:=s.heap.update p (Obj.mapSeq (·.setIfInBounds j u))}:=
  I.Eh hp ho (tH aA n j u) (r.set rv j) (by rw[Mr];exact hz) s.toks
 by_cases h0:0<=k
 ·have hk:k.toNat=j:=by
   rw[seqIndex_of h0 h4]at h1;exact JL h1
  exact PySem.W.ki_setAt ho h0 (by omega) (by rw[JH,<-hl];exact h4) (by rw[hk];exact⟨_,I',q⟩)
 ·have hk:(k + (aA.toArray.size:Int)).toNat=j:=by
   rw[seqIndex_neg (by omega) h3]at h1;rw[JH,<-hl];exact JL h1
  exact PySem.W.ki_setBack ho (by omega) (by rw[JH,<-hl];exact h3) (by omega) (by rw[hk];exact⟨_,I',q⟩)
theorem pJ (lo hi:Option Int) (n:Nat):(sliceBounds lo hi none n).1=((HT.qT n 0 lo:Nat):Int)/\(sliceBounds lo hi none n).2.1=((HT.qT n n hi:Nat):Int)/\(sliceBounds lo hi none n).2.2=1:=by
 refine⟨?_,?_,rfl⟩
 ·cases lo with
  | none=>simp[sliceBounds,HT.qT]
  | some i=>
   simp only[sliceBounds,HT.qT,Option.getD_none,show(1:Int) > 0 by decide,Mz]
   by_cases h:i < 0
   ·simp only[h,Mz]<;>omega
   ·simp only[h,Lj]<;>omega
 ·cases hi with
  | none=>simp[sliceBounds,HT.qT]
  | some i=>
   simp only[sliceBounds,HT.qT,Option.getD_none,show(1:Int) > 0 by decide,Mz]
   by_cases h:i < 0
   ·simp only[h,Mz]<;>omega
   ·simp only[h,Lj]<;>omega
theorem nL (aA:NX) (lo hi:Option Int):slicePick aA.toArray lo hi none=((aA.drop (HT.qT aA.length 0 lo)).take (HT.qT aA.length aA.length hi - HT.qT aA.length 0 lo)).toArray:=by
 obtain⟨h1,h2,h3⟩:=pJ lo hi aA.toArray.size;unfold slicePick;rw[h1,h2,h3];simp only[sliceRange_one,pick_run,JH]<;>rfl
noncomputable def Hy (K:PySem.W.Frag):V->Option Int->Option Int->Hp->VK->Prop:=fun x lo hi H Q=>∃a xs,x=.ref a/\j5 K H a xs/\∀p,H p=none->Q (.ref p) (upd H p (.lst (iw xs lo hi)))
theorem Bl:Ii X (Hy X.K):=by
 intro pins s σ H x v vl vu lo hi sl Q I rx hs pl pu h;obtain⟨a,xs,rfl,hx,q⟩:=h;cases rx
 obtain⟨aA,r,ht,hz⟩:=I.list hx;have hlen:=r.length;refine⟨"list",_,slot_list_getitem.lookup,ht.isList.typeIs,?_⟩;refine wpAny_getItem_list_slice ht.isList hs pl pu .none (by simp) ?_ (by rw[JH]<;>omega);rw[nL,<-hlen];refine⟨.ref s.heap.objs.size,_,I.laid (t':=s.toks) (o:=.lst (iw xs lo hi)) (fun b ob q=>Jq _ q) (JG _) ?_,rfl,q _ (I.bB.fresh (JG _))⟩;exact⟨JS (r_ xs lo hi) hz,_,0,(r.drop (HT.qT xs.length 0 lo)).take (HT.qT xs.length xs.length hi - HT.qT xs.length 0 lo),JE _ rfl⟩
noncomputable def bh:V->Bool
 | .aQ=>true
 | .bl _=>true
 | .int _=>true
 | .str _=>true
 | _=>false
noncomputable def AS:V->V->Bool
 | .aQ,.aQ=>true
 | .bl a,.bl b=>a == b
 | .bl a,.int b=>(if a then 1 else 0) == b
 | .int a,.bl b=>a == (if b then 1 else 0)
 | .int a,.int b=>a == b
 | .str a,.str b=>a == b
 | _,_=>false
theorem EC {A:Around} {s:Shared} {y x:V} {u v:Value} (ry:RelV y u) (rx:RelV x v) (fy:bh y=true) (fx:bh x=true):SeqAt.EqAt A s u v (AS y x):=by
 cases y with
 | aQ=>
  cases ry
  cases x with
  | aQ=>cases rx;exact SeqAt.EqAt.same _
  | bl b=>cases rx;exact SeqAt.EqAt.none_bool b
  | int b=>obtain⟨t,rfl⟩:=rx;exact SeqAt.EqAt.none_int b t
  | str b=>obtain⟨t,rfl⟩:=rx;exact SeqAt.EqAt.none_str b t
  | _=>exact absurd (show false=true from fx) JO
 | bl a=>
  cases ry
  cases x with
  | aQ=>cases rx;exact SeqAt.EqAt.bool_none a
  | bl b=>cases rx;exact SeqAt.EqAt.bool_bool a b
  | int b=>obtain⟨t,rfl⟩:=rx;exact SeqAt.EqAt.bool_int a b t
  | str b=>obtain⟨t,rfl⟩:=rx;exact SeqAt.EqAt.bool_str a b t
  | _=>exact absurd (show false=true from fx) JO
 | int a=>
  obtain⟨t',rfl⟩:=ry;cases x with
  | aQ=>cases rx;exact SeqAt.EqAt.int_none a t'
  | bl b=>cases rx;exact SeqAt.EqAt.int_bool a t' b
  | int b=>obtain⟨t,rfl⟩:=rx;exact Mv a t' b t
  | str b=>obtain⟨t,rfl⟩:=rx;exact SeqAt.EqAt.int_str a t' b t
  | _=>exact absurd (show false=true from fx) JO
 | str a=>
  obtain⟨t',rfl⟩:=ry;cases x with
  | aQ=>cases rx;exact SeqAt.EqAt.str_none a t'
  | bl b=>cases rx;exact SeqAt.EqAt.str_bool a t' b
  | int b=>obtain⟨t,rfl⟩:=rx;exact SeqAt.EqAt.str_int a t' b t
  | str b=>obtain⟨t,rfl⟩:=rx;exact Lc a t' b t
  | _=>exact absurd (show false=true from fx) JO
 | _=>exact absurd (show false=true from fy) JO
noncomputable def tZ (x:V) (u:Value):Bool:=match u with
 | .none=>AS .aQ x
 | .bool b=>AS (.bl b) x
 | .int i _=>AS (.int i) x
 | .str z _=>AS (.str z) x
 | _=>false
theorem Ao {x y:V} {u:Value} (r:RelV y u) (f:bh y=true):tZ x u=AS y x:=by
 cases y with
 | aQ=>cases r;rfl
 | bl b=>cases r;rfl
 | int i=>obtain⟨t,rfl⟩:=r;rfl
 | str z=>obtain⟨t,rfl⟩:=r;rfl
 | _=>exact absurd (show false=true from f) JO
theorem jD {x:V}:∀ {xs:List V} {us:NX},Vals xs us->xs.all bh=true->us.any (tZ x)=xs.any fun y=>AS y x
 | _,_,.nil,_=>rfl
 | y::xs,u::us,.cons r t,f=>by
  rw[List.all_cons,J6]at f;rw[LF,LF,Ao r f.1,jD t f.2]
theorem gH {A:Around} {s:Shared} {x:V} {v:Value} (rx:RelV x v) (fx:bh x=true):∀ {xs:List V} {us:NX},Vals xs us->xs.all bh=true->∀u ∈ us,SeqAt.EqAt A s u v (tZ x u)
 | _,_,.nil,_=>fun u hu=>by cases hu
 | y::xs,u::us,.cons r t,f=>fun u' hu=>by
  rw[List.all_cons,J6]at f;rcases Jx.mp hu with rfl | hu
  ·rw[Ao r f.1];exact EC r rx f.1 fx
  ·exact gH rx fx t f.2 u' hu
noncomputable def rR (x:V) (xs:List V):Bool:=xs.any fun y=>AS y x
noncomputable def IE (K:PySem.W.Frag) (neg:Bool):R2:=fun x y H Q=>∃p xs,y=.ref p/\(j5 K H p xs\/xR K H p xs)/\bh x=true/\xs.all bh=true/\Q (.bl (if neg then !rR x xs else rR x xs)) H
theorem oA:jI X (compareOp .In) (IE X.K false):=by
 intro pins s σ H x y v u Q I rx ry h;obtain⟨p,xs,rfl,hq,fx,fs,q⟩:=h;cases ry
 rcases hq with hq | hq
 ·obtain⟨aA,r,pl,hz⟩:=I.list hq;refine SeqAt.in_listAt (tZ x) pl.isList (fun w hw=>gH rx fx r fs w (by simpa using hw)) ⟨.bl _,H,I,rfl,?_⟩;rw[show aA.toArray.any (tZ x)=aA.any (tZ x) by simp,jD r fs];exact q
 ·obtain⟨aA,r,pl,hz⟩:=I.tuple hq;refine SeqAt.in_tupleAt (tZ x) pl (fun w hw=>gH rx fx r fs w (by simpa using hw)) ⟨.bl _,H,I,rfl,?_⟩;rw[show aA.toArray.any (tZ x)=aA.any (tZ x) by simp,jD r fs];exact q
theorem jk:jI X (compareOp .NotIn) (IE X.K true):=by
 intro pins s σ H x y v u Q I rx ry h;obtain⟨p,xs,rfl,hq,fx,fs,q⟩:=h;cases ry
 rcases hq with hq | hq
 ·obtain⟨aA,r,pl,hz⟩:=I.list hq;refine SeqAt.notIn_listAt (tZ x) pl.isList (fun w hw=>gH rx fx r fs w (by simpa using hw)) ⟨.bl _,H,I,rfl,?_⟩;rw[show aA.toArray.any (tZ x)=aA.any (tZ x) by simp,jD r fs];exact q
 ·obtain⟨aA,r,pl,hz⟩:=I.tuple hq;refine SeqAt.notIn_tupleAt (tZ x) pl (fun w hw=>gH rx fx r fs w (by simpa using hw)) ⟨.bl _,H,I,rfl,?_⟩;rw[show aA.toArray.any (tZ x)=aA.any (tZ x) by simp,jD r fs];exact q
theorem jB:pg X (.builtin "len") (fun xs H Q=>∃p ys,xs=[.ref p]/\(j5 X.K H p ys\/xR X.K H p ys)/\Q (.int ys.length) H):=by
 intro pins s σ H xs us Q I r h;obtain⟨p,ys,rfl,hq,q⟩:=h;obtain⟨u,rfl,rx⟩:=vals1 r;cases rx
 have hn:=iN;rcases hq with hq | hq
 ·obtain⟨aA,r',pl,hz⟩:=I.list hq;have hlen:=r'.length;exact Calls.call_len_list pl.isList (by simp only[JH]<;>omega) ⟨.int ys.length,H,I.tok _,⟨s.toks + 1,by rw[JH,hlen]⟩,q⟩
 ·obtain⟨aA,r',pl,hz⟩:=I.tuple hq;have hlen:=r'.length;exact len_tuple pl (by simp only[JH]<;>omega) ⟨.int ys.length,H,I.tok _,⟨s.toks + 1,by rw[JH,hlen]⟩,q⟩
theorem qg:pg X (.builtin "len") (fun xs H Q=>∃z,xs=[.str z]/\z.length<=sizeLine/\Q (.int z.length) H):=by
 intro pins s σ H xs us Q I r h;obtain⟨z,rfl,hz,q⟩:=h;obtain⟨u,rfl,t,rfl⟩:=vals1 r;have hn:=iN;exact len_str (by omega) ⟨.int z.length,H,I.tok _,⟨_,rfl⟩,q⟩
theorem jA:pg X (.type "list") (fun xs H Q=>∃p ys,xs=[.ref p]/\(j5 X.K H p ys\/xR X.K H p ys)/\∀l,H l=none->Q (.ref l) (upd H l (.lst ys))):=by
 intro pins s σ H xs us Q I r h;obtain⟨p,ys,rfl,hq,q⟩:=h;obtain⟨u,rfl,rx⟩:=vals1 r;cases rx
 have fin:∀ (aA:NX),Vals ys aA->ys.length<=sizeLine->∀ (h':Heap) (c':Nat),(∀ b o',s.heap.get? b=some o'->h'.get? b=some o')->
   h'.get? s.heap.objs.size=some {cls:=.type "list",dict:=none,data:=.seq aA.toArray c',slots:=#[]}->EP X pins σ Q (.ref s.heap.objs.size) {s with heap:=h'}:=fun aA r' hz h' c' kp e=>
  ⟨.ref s.heap.objs.size,_,I.laid (t':=s.toks) kp (JG _) (show cA X.prog X.w _ h' _ (.lst ys)from⟨hz,aA,c',r',e⟩),rfl,q _ (I.bB.fresh (JG _))⟩
 rcases hq with hq | hq
 ·obtain⟨aA,r',pl,hz⟩:=I.list hq;have hlen:=r'.length;obtain⟨o,ho,hc,n,hd⟩:=pl.isList;exact call_list_seq p (.inl rfl) ho hc hd (fun h' c' kp e=>fin aA r' hz h' c' kp e) (by simp only[JH]<;>omega)
 ·obtain⟨aA,r',pl,hz⟩:=I.tuple hq;have hlen:=r'.length;obtain⟨o,ho,hc,n,hd⟩:=pl;exact call_list_seq p (.inr rfl) ho hc hd (fun h' c' kp e=>fin aA r' hz h' c' kp e) (by simp only[JH]<;>omega)
noncomputable def GW (K:PySem.W.Frag) (T:String) (x:V) (H:Hp):Prop:=match x with
 | .str _=>T= "str"
 | .int _=>T= "int"
 | .ref p=>(T= "list" /\∃xs,j5 K H p xs)\/(T= "tuple" /\∃o,K.lookup p=some o/\o.cls=.type "tuple" /\o.dict=none)\/
   (T= "dict" /\((∃ kvs,H p=some (.dK kvs))\/∃kvs,H p=some (.dT kvs)))\/(T= "set" /\∃S n,H p=some (.set S n))
 | _=>False
theorem yd {pins:NT} {σ:St} {H:Hp} {s:Shared} {T:String} {x:V} {v:Value} (I:Inv X pins σ H s) (r:RelV x v) (ty:GW X.K T x H):
  s.TypeIs v T/\∀a,v=.ref a->∃ob,s.heap.get? a=some ob/\ob.dict=none:=by
 cases x with
 | str z=>
  obtain⟨t,rfl⟩:=r;cases (show T= "str" from ty)
  exact⟨typeIs_str s z t,fun _ e=>nomatch e⟩
 | int i=>
  obtain⟨t,rfl⟩:=r;cases (show T= "int" from ty)
  exact⟨typeIs_int s i t,fun _ e=>nomatch e⟩
 | ref p=>
  cases r
  rcases ty with ⟨rfl,xs,hq⟩ | ⟨rfl,o,hk,hc,hd⟩ | ⟨rfl,hk⟩ | ⟨rfl,S,n,hk⟩
  ·obtain⟨aA,_,pl,_⟩:=I.list hq;refine⟨pl.isList.typeIs,fun a e=>?_⟩;cases e
   obtain⟨o,n,e,c,hd,_⟩:=pl;exact⟨o,e,hd⟩
  ·refine⟨⟨o,I.zQ p o hk,hc⟩,fun a e=>?_⟩;cases e
   exact⟨o,I.zQ _ o hk,hd⟩
  ·have z:∃o,s.heap.get? p=some o/\o.ExactDict:=by
    rcases hk with ⟨kvs,hk⟩ | ⟨kvs,hk⟩
    ·obtain⟨_,_,_,_,o,_,_,e,ex,_⟩:=I.bB p _ hk;exact⟨o,e,ex⟩
    ·obtain⟨_,_,_,_,o,_,_,e,ex,_⟩:=I.bB p _ hk;exact⟨o,e,ex⟩
   obtain⟨o,e,ex⟩:=z;refine⟨⟨o,e,ex.1⟩,fun a e2=>?_⟩;cases e2
   exact⟨o,e,ex.2.1⟩
  ·obtain⟨o,_,_,_,e,ex,_⟩:=I.bB p _ hk;refine⟨⟨o,e,ex.1⟩,fun a e2=>?_⟩;cases e2
   exact⟨o,e,ex.2.1⟩
 | _=>exact False.elim ty
variable {o e:Expr} {es:NZ} {to:TE} {t:TA} {name:Str} {apos cpos:Pos} {T id:String} {r:V->List V->Hp->VK->Prop}
end
noncomputable def IM (X:Cx) (id:String) (r:V->List V->Hp->VK->Prop):Prop:=
 ∀ (pins:NT) (s:Shared) (σ:St) (H:Hp) (x:V) (xs:List V) (v:Value) (us:NX) (Q:VK),Inv X pins σ H s->RelV x v->Vals xs us->r x xs H Q->
  wpAny (model X.prog X.w) X.A (call (.builtin id) (v::us)) (EP X pins σ Q) X.xe s
theorem Vals.one:∀ {x:V} {us:NX},Vals [x] us->∃u,us=[u]/\RelV x u
 | _,_,.cons r .nil=>⟨_,rfl,r⟩
section
variable {X:Cx} {pins:NT} {σ:St} {H:Hp} {s:Shared} {l b:Addr} {xs ys zs:List V}
theorem Inv.wN {aA its':NX} {n:Nat} {f:Array Value->NV} {t':Nat} (I:Inv X pins σ H s) (hH:H l=some (.lst xs))
  (e:s.heap.get? l=some {cls:=.type "list",data:=.seq aA.toArray n}) (hf:f aA.toArray=its'.toArray) (hv:Vals ys its') (hz:ys.length<=sizeLine):
  Inv X pins σ (upd H l (.lst ys)) {s with heap:=s.heap.update l (Obj.mapSeq f),toks:=t'}:=by
 have q:=PySem.IsL.update e f;rw[hf]at q;refine I.write (x:=l) (e:=l) (by rw[hH];exact trivial) (.inl rfl) (fun b' u hb hu=>(Kh s.heap (Obj.mapSeq f) (Kv hb)).trans hu) ⟨_,q⟩ ?_;exact⟨hz,its',_,hv,q⟩
theorem Inv.HH {aA:NX} {t':Nat} (I:Inv X pins σ H s) (hv:Vals ys aA) (hz:ys.length<=sizeLine):
  Inv X pins σ (upd H s.heap.objs.size (.lst ys)) {s with heap:=s.heap.push {cls:=.type "list",data:=.seq aA.toArray},toks:=t'}:=
 I.laid (fun _ _ q=>Jq _ q) (JG _) ⟨hz,aA,0,hv,JE _ rfl⟩
theorem Inv.fresh (I:Inv X pins σ H s):H s.heap.objs.size=none:=I.bB.fresh (JG _)
theorem Inv.Ei (I:Inv X pins σ H s) (hH:H l=some (.lst xs)):xs.length<=sizeLine/\∃ (aA:NX) (n:Nat),Vals xs aA/\xs.length=aA.length/\s.heap.get? l=some {cls:=.type "list",data:=.seq aA.toArray n}:=by
 obtain⟨z,aA,n,r,e⟩:=I.bB l _ hH;exact⟨z,aA,n,r,r.length,e⟩
theorem zp {n:Nat} (h:n<=sizeLine):Builtin.List.listTooLong n=false:=by
 unfold Builtin.List.listTooLong;exact JR (by omega)
end
section
variable {X:Cx}
noncomputable def Bs:V->List V->Hp->VK->Prop:=fun x vs H Q=>∃l xs y,x=.ref l/\vs=[y]/\H l=some (.lst xs)/\xs.length < sizeLine/\Q .aQ (upd H l (.lst (xs++[y])))
theorem oB:IM X "list.append" Bs:=by
 intro pins s σ H x vs v us Q I rx rv h;obtain⟨l,xs,y,rfl,rfl,hH,hz,q⟩:=h;cases rx
 obtain⟨u,rfl,ru⟩:=rv.one;obtain⟨z,aA,n,r,hl,e⟩:=I.Ei hH;refine call_meets F.slot_list_append ⟨_,e,rfl⟩ F.entry_list_append (F.args_list_append_2 _ _) (PySem.list_append l aA.toArray n u (by rw[JH];omega)) ⟨e,?_⟩;refine⟨.aQ,_,I.wN (its':=aA++[u]) hH e (by simp) (r.append (.cons ru .nil)) ?_,rfl,q⟩;rw[Jw,List.length_singleton];omega
noncomputable def Br:V->List V->Hp->VK->Prop:=fun x vs H Q=>∃l b xs zs,x=.ref l/\vs=[.ref b]/\H l=some (.lst xs)/\H b=some (.lst zs)/\xs.length + zs.length<=sizeLine/\Q .aQ (upd H l (.lst (xs++zs)))
theorem wG:IM X "list.extend" Br:=by
 intro pins s σ H x vs v us Q I rx rv h;obtain⟨l,b,xs,zs,rfl,rfl,hH,hB,hz,q⟩:=h;cases rx
 obtain⟨u,rfl,ru⟩:=rv.one;cases ru
 obtain⟨z,aA,n,r,hl,e⟩:=I.Ei hH;obtain⟨z2,its2,n2,r2,hl2,e2⟩:=I.Ei hB;have hsz:aA.toArray.size + its2.toArray.size<=sizeLine:=by rw[JH,JH];omega
 have hlong:¬ (!aA.toArray.isEmpty && Builtin.List.listTooLong (aA.toArray.size + its2.toArray.size))=true:=by
  rw[zp hsz,M3];exact JO
 refine call_meets F.slot_list_extend ⟨_,e,rfl⟩ F.entry_list_extend (F.args_list_extend_2 _ _)
  (AutoSeq1.list_extend_list_list_0 l aA.toArray n b its2.toArray n2 hlong (by rw[JH];omega) (by omega)) ⟨e,e2,?_⟩
 refine⟨.aQ,_,I.wN (its':=aA++its2) hH e (by simp) (r.append r2) ?_,rfl,q⟩;rw[Jw];omega
end
section
variable {prog:Program} {w:World} {A:Around} {E:NS} {s:Shared}
set_option maxRecDepth 100000 in
end
end L2
namespace Att
open PySem PySem.W PySem.Calls PyProof.Rows
theorem kx {P:Params} {h:Heap}:∀ (ns:List Int) (vs:NX),WellAll P h vs (ns.map WData.int)->IntsAre vs ns:=by
 intro ns
 induction ns with
 | nil=>
  intro vs w;rw[List.map_nil]at w;cases w
  exact .nil
 | cons n ns ih=>
  intro vs w;rw[JF]at w;cases w with
  | cons a b=>
   cases a
   exact .cons _ _ (ih _ b)
theorem vZ {l:OpenLaw} {n:Nat} (hn:l.most=some n) {P:Params} {h:Heap} {args:List WData} {vals:NX}
  (hpre:l.row.toRowW.claim.pre args=true) (hwl:WellAll P h vals args):
  ∃a vs ns,vals=[Value.ref a]/\args=[WData.list (ns.map WData.int)]/\h.get? a=some {cls:=.type "list",data:=.seq vs.toArray}/\IntsAre vs ns/\ns.length<=n:=by
 have hsh:WShape.hasAll [] args [.list .int]=true:=(pre_splitW hpre).1;have hc:l.pre.holds [] {args:=args}=true:=(pre_splitW hpre).2;obtain⟨d,r,rfl,h1,h2⟩:=hasAllW_cons hsh;obtain rfl:=hasAllW_nil h2;obtain⟨xs,rfl,h3⟩:=hasW_list h1;obtain⟨ns,rfl⟩:=items_int h3
 have hlen:ns.length<=n:=by
  unfold OpenLaw.pre at hc
  have h4:(WTm.not (.lt (.lit (.int (n:Int))) (.len (.arg 0)))).holds [] {args:=[.list (ns.map .int)]}=true:=by
   have h4:=(holds_andW hc).1;rw[hn]at h4;exact h4
  have h5:=condW_of h4 (w_not (w_lt w_lit (w_len_list (w_arg rfl))));rw[Jk]at h5;refine MJ fun q=>?_;have q':(n:Int) < ((ns.length:Nat):Int):=by omega
  first
   | (rw[JV q']at h5;exact absurd h5 (by decide))
   | (simp at h5;omega)
 cases hwl with
 | cons w1 w2=>
  cases w2
  cases w1 with
  | list ho hall=>exact⟨_,_,ns,rfl,rfl,ho,kx ns _ hall,hlen⟩
theorem wg (l:OpenLaw) (args:List WData):l.row.toRowW.claim.post args (.bool true) args=true:=
 postW_of (r:=l.row.toRowW) (X:=(true == true))
  (show WShape.has [] (.bool true) .bool=true by first | rfl | decide | simp[WShape.has,WShape.arms,WShape.armsAll])
  (show(WTm.eq .res (.lit (.bool true))).value [] {args:=args,res:=some (.bool true),after:=args}=some (.bool (true == true))from w_eq_bool (w_res rfl) w_lit) rfl
theorem sr {l:OpenLaw} {n:Nat} {q:Program} {loose:NW} {XP:(NY)->Heap->Prop} {YP:World->Heap->Prop} {d:DefRec}
  (hn:l.most=some n) (hdf:d.params.defaults=[])
  (call:∀ (w:World) (s₀ s₁:Shared) (mg mb:NY) (fa:Addr) (o:Obj) (pm cd doc:Value) (a:Addr) (vs:NX) (ns:List Int),
   Ground q loose [] XP w s₀ mg mb s₁.heap->YP w s₁.heap->
   s₁.heap.get? fa=some o->o.data=.func (docDef d.name d.params d.body d.scope pm cd doc)->s₁.heap.CodeRec cd d.name->mg d.name=some (.ref fa)->
   s₁.heap.get? a=some {cls:=.type "list",data:=.seq vs.toArray}->IntsAre vs ns->ns.length<=n->s₁.gens=#[]->
   codeAny (model l.prog w) callerA (.call (.ref fa) ⟨[.ref a],[]⟩) (fun r s'=>r=.ok (.ret (.bool true))/\OldK s₁.heap s'.heap/\s'.os=s₁.os/\AllBare s'.gens) s₁):
  WalkO q loose XP YP l.row.toRowW d [] (fun f vs=>PySem.call f vs):=by
 intro w s₀ s₁ mg mb G Y fa o pm cd doc dV kV ho hd hcd hD hmg hg args vals as hpre hlay hrd hwl hlo;obtain rfl:dV=.none:=Dflts.none hD hdf;obtain rfl:kV=.none:=Dflts.noKw hD;obtain⟨a,vs,ns,rfl,rfl,hobj,hints,hlen⟩:=vZ hn hpre hwl;refine enter_call (Mw (call w s₀ s₁ mg mb fa o pm cd doc a vs ns G Y ho (fd_plain hd) hcd hmg hobj hints hlen hg) fun r s' hq=>?_);obtain⟨rfl,h2,h3,h4⟩:=hq;exact⟨.inl ⟨.bool true,.bool true,[],rfl,fun _=>rfl,.bool true,wg l _,fun _=>⟨List.Pairwise.nil,fun _ hm=>(nomatch hm)⟩⟩,h2,h3,h4⟩
end Att
namespace L2
open PySem PySem.Spec PyProof.Rows
theorem n9:∀ {vs:NX} {ns:List Int},IntsAre vs ns->Vals (ns.map V.int) vs
 | _,_,.nil=>.nil
 | _,_,.cons n t h=>.cons ⟨t,rfl⟩ (n9 h)
noncomputable def aL (s:Stmt):Arguments:=match s with
 | .FunctionDef _ a _ _ _ _ _ _ _ _=>a
 | _=>{posonlyargs:=[],args:=[],vararg:=none,kwonlyargs:=[],kw_defaults:=[],kwarg:=none,defaults:=[]}
noncomputable def ax (s:Stmt):List Stmt:=match s with
 | .FunctionDef _ _ b _ _ _ _ _ _ _=>b
 | _=>[]
noncomputable def ag (s:Stmt):Scope:=match s with
 | .FunctionDef _ _ _ _ _ _ sc _ _ _=>sc
 | _=>{kind:=.function,names:=[],isGenerator:=false,isCoroutine:=false}
structure vQ (K:PySem.W.Frag) (x qual:Str) (st:Stmt) (f:Addr) (fd:FuncData):Prop where
 ex:∃ (oc:Value) (od:Option Addr) (kV doc pm:Value) (an:Option Addr) (cdv ct:Value) (osl:Array (Option Value)),
  fd=PySem.W.fnOf x qual (aL st) (ax st) (ag st) .none kV doc pm an cdv ct/\K.lookup f=some ⟨oc,od,.func fd,osl⟩/\PySem.W.codeIn K cdv qual=true
 kp:PySem.W.keepIn K (.ref f)=true
section
variable {P:Program} {w:World} {K:PySem.W.Frag} {mg:NY} {base:Heap}
theorem vQ.binds {x qual:Str} {st:Stmt} {f:Addr} {fd:FuncData} {ps:NW} (F:vQ K x qual st f fd)
  (h:∀ (kV doc pm:Value) (an:Option Addr) (cdv ct:Value) (us:NX),us.length=ps.length->bindArgs (PySem.W.fnOf x qual (aL st) (ax st) (ag st) .none kV doc pm an cdv ct) ⟨us,[]⟩=pure (ps.zip us)):Binds K fd ps []:=by
 obtain⟨oc,od,kV,doc,pm,an,cdv,ct,osl,rfl,lk,hcd⟩:=F.ex;exact .all (h kV doc pm an cdv ct)
theorem tX {x qual:Str} {st:Stmt} {f:Addr} {oc:Value} {od an:Option Addr} {osl:Array (Option Value)} {kV doc pm cdv ct:Value} (l:K.lookup f=some ⟨oc,od,.func (PySem.W.fnOf x qual (aL st) (ax st) (ag st) .none kV doc pm an cdv ct),osl⟩)
  (c:PySem.W.codeIn K cdv qual=true) (k:PySem.W.keepIn K (.ref f)=true):vQ K x qual st f (PySem.W.fnOf x qual (aL st) (ax st) (ag st) .none kV doc pm an cdv ct):=⟨⟨oc,od,kV,doc,pm,an,cdv,ct,osl,rfl,l,c⟩,k⟩
end
end L2
set_option maxHeartbeats 4000000
namespace PySem.Sg
open PySem PySem.Spec PyProof.Rows
section tables
theorem nO (t:SetTable) (n:Nat):(t.orStandIn n).led=t.led:=by
 unfold SetTable.orStandIn;split<;>rfl
theorem tQ (t:SetTable) (es:Array (Int × Value)) (h:Int) (x:Value):(layNew t es h x).2.1.led=t.led:=by
 unfold layNew;cases t.freeSlot h with
 | none=>rfl
 | some p=>
  obtain⟨j,d⟩:=p;exact nO _ _
theorem pN (t:SetTable) (es:Array (Int × Value)) (n:Nat):(relayAll t es n).2.1.led=t.led:=by
 unfold relayAll;cases e:t.relaid (es.map (·.1)) n with
 | none=>rfl
 | some p=>
  obtain⟨t',o⟩:=p
  have z:t'.led=t.led:=by
   simp only[SetTable.relaid,SetTable.laid,Option.bind_eq_bind,NH,Option.pure_def,Option.some.injEq,NR]at e;obtain⟨_,_,e,_⟩:=e;rw[<-e]
  dsimp only;split<;>first | exact z | rfl
theorem lU (t:SetTable) (es:Array (Int × Value)) (n:Nat) (h:t.plain=false):(relayAll t es n).2.1.plain=false:=by
 unfold relayAll;cases e:t.relaid (es.map (·.1)) n with
 | none=>rfl
 | some p=>
  obtain⟨t',o⟩:=p
  have z:t'.plain=false:=by
   simp only[SetTable.relaid,SetTable.laid,Option.bind_eq_bind,NH,Option.pure_def,Option.some.injEq,NR]at e;obtain⟨_,_,e,_⟩:=e;rw[<-e];exact h
  dsimp only;split<;>first | exact z | rfl
end tables
noncomputable def bx (prog:Program) (w:World) (h:Heap) (a:Addr) (τ:NW):Prop:=
 ∃o es ep t,h.get? a=some o/\o.ExactSet/\o.data=.set es ep t/\ElemsOf (strKind prog w) es.toList/\List.Perm (es.toList.map fun e=>strOf e.2) τ
  /\es.size < scanBound/\t.fits es.size=true/\(w.params.followText "set-order" =true\/t.led=true)/\(es.size=0\/t.plain=false)
noncomputable def putIn (τ:NW) (k:Str):NW:=if k ∈ τ then τ else τ++[k]
section add
variable {prog:Program} {w:World} {A:Around} {E:NS} {s:Shared}
theorem isStr_of {k:Str} {v:Value} (h:(strKind prog w).is k v=true):strOf v=k/\∃t,v=.str k t:=by
 obtain⟨t,rfl⟩:=Mn h;exact⟨rfl,t,rfl⟩
theorem f_ {h:Heap} {a:Addr} {o:Obj} {es es':Array (Int × Value)} {ep:Nat} {t t':SetTable} (ho:h.get? a=some o) (hd:o.data=.set es ep t):
  (h.update a (Obj.putSet es' t')).get? a=some {o with data:=.set es' (ep + 1) t'}:=by
 have z:=Kj (Obj.putSet es' t') ho (by rw[putSet_of es' t' hd];rfl);rw[putSet_of es' t' hd]at z;exact z
theorem told {s₁:Shared} {Q':Unit->Shared->Prop} (b:Bool) (h:Q' () s₁):wpAny (model prog w) A (match b with | true=>rule "set.scan.the-table-gave-way" | false=>pure ()) Q' E s₁:=by
 cases b
 ·exact Jm h
 ·exact Kr h
theorem add_str {a:Addr} {τ:NW} {k:Str} {u:Tok} {Q:Bool->Shared->Prop} (hS:bx prog w s.heap a τ) (hroom:τ.length + 1 < scanBound)
  (h:∀b h',Heap.SameBut a s.heap h'->bx prog w h' a (putIn τ k)->Q b {s with heap:=h'}):
  wpAny (model prog w) A (setAddHashed a (.str k u) ((strKind prog w).hash k)) Q E s:=by
 obtain⟨o,es,ep,t,ho,hex,hd,hel,hp,hb,hf,hled,hpl⟩:=hS;have hkey:(strKind prog w).is k (.str k u)=true:=strKind_is _ _ _ _;have hlen:es.size=τ.length:=by have z:=hp.length_eq;simpa using z
 unfold setAddHashed setAddHashedIn;refine Kd (Jh (J7 ho hd hf ?_));dsimp only;rw[byScan_of rfl hb hel,Jj rfl];unfold setAddByScan;refine Jh (Jh (Kr (Jh (Nz hkey ho hd hf hel ?_))))
 have memk:k ∈ τ ↔ ∃e ∈ es.toList,(strKind prog w).is k e.2=true:=by
  rw[<-hp.mem_iff,Jn];constructor
  ·rintro⟨e,he,q⟩
   obtain⟨⟨k',hk',_⟩,_⟩:=hel e he;obtain⟨z,_⟩:=isStr_of hk';exact⟨e,he,by rw[<-q,z];exact hk'⟩
  ·rintro⟨e,he,q⟩
   exact⟨e,he,(isStr_of q).1⟩
 cases hr:List.findIdx? (fun e=>(strKind prog w).is k e.2) es.toList with
 | some j=>
  dsimp only;obtain⟨hj,hpj,_⟩:=LL.mp hr;have hk:k ∈ τ:=memk.mpr ⟨_,KJ hj,hpj⟩;have z:=h false s.heap (K1 a s.heap) (by unfold putIn;rw[Jj hk];exact⟨o,es,ep,t,ho,hex,hd,hel,hp,hb,hf,hled,hpl⟩);exact Jm (Jm z)
 | none=>
  dsimp only
  have hk:k ∉ τ:=fun c=>by
   obtain⟨e,he,q⟩:=memk.mp c;have z:=LJ.mp hr e he;rw[q]at z;exact Bool.noConfusion z
  have h':∀h',Heap.SameBut a s.heap h'->bx prog w h' a (τ++[k])->Q true {s with heap:=h'}:=fun h' a1 a2=>h true h' a1 (by unfold putIn;rw[Ji hk];exact a2);have p1:=layNew_perm t es ((strKind prog w).hash k) (.str k u);have f1:=layNew_fits t es ((strKind prog w).hash k) (.str k u);have l1:=tQ t es ((strKind prog w).hash k) (.str k u);generalize layNew t es ((strKind prog w).hash k) (.str k u)=L at p1 f1 l1 ⊢;obtain⟨es1,t1,wd,gv⟩:=L;dsimp only at p1 f1 l1 ⊢;rw[KP]at p1;have hel1:ElemsOf (strKind prog w) es1.toList:=(hel.push hkey rfl).perm p1;have hp1:List.Perm (es1.toList.map fun e=>strOf e.2) (τ++[k]):=(p1.map _).trans (by rw[JA];exact hp.append_right _);have hs1:es1.size=τ.length + 1:=by have z:=hp1.length_eq;simpa using z
  have hb1:es1.size < scanBound:=by omega
  refine Jh (told gv ?_)
  have last:∀t2:SetTable,t2.fits es1.size=true->t2.led=t.led->t2.plain=false->wpAny (model prog w) A (do
    storeSet a es1 t2
    if(!wd && t2.tooFull)=true then do
      (match(relayAll t2 es1 (SetTable.grown es1.size)).2.2 with | true=>rule "set.scan.the-table-gave-way" | false=>pure ())
      storeSet a (relayAll t2 es1 (SetTable.grown es1.size)).1 (relayAll t2 es1 (SetTable.grown es1.size)).2.1
      pure (some true)
     else pure (some true))
    (fun r s'=>wpAny (model prog w) A (match r with | some added=>pure added | none=>setAddHashedIn a (Value.str k u) ((strKind prog w).hash k) 99999) Q E s') E s:=by
   intro t2 f2 l2 n2;have g1:=f_ (es':=es1) (t':=t2) ho hd;have k1:=Kc s.heap a (Obj.putSet es1 t2);refine Jh (Lm ho hd ?_ (K3 hb1));split
   ·have p2:=relayAll_perm t2 es1 (SetTable.grown es1.size);have f3:=relayAll_fits t2 es1 (SetTable.grown es1.size);have l3:=pN t2 es1 (SetTable.grown es1.size);have n3:=lU t2 es1 (SetTable.grown es1.size) n2;generalize relayAll t2 es1 (SetTable.grown es1.size)=L at p2 f3 l3 n3 ⊢;obtain⟨es2,t3,gv2⟩:=L;dsimp only at p2 f3 l3 n3 ⊢;have hp2:List.Perm (es2.toList.map fun e=>strOf e.2) (τ++[k]):=(p2.map _).trans hp1;have hs2:es2.size=τ.length + 1:=by have z:=hp2.length_eq;simpa using z
    have hb2:es2.size < scanBound:=by omega
    refine Jh (told gv2 (Jh (Lm g1 rfl ?_ (K3 hb2))));exact Jm (Jm (h' _ (k1.trans (Kc _ a _)) ⟨_,es2,_,t3,f_ g1 rfl,hex,rfl,hel1.perm p2,hp2,hb2,f3,by rw[l3,l2];exact hled,.inr n3⟩))
   ·exact Jm (Jm (h' _ k1 ⟨_,es1,_,t2,g1,hex,rfl,hel1,hp1,hb1,f2,by rw[l2];exact hled,.inr n2⟩))
  cases q:t1.plain with
  | true=>
   rw[Jj rfl,hashByValue_scannable 8 rfl];refine Jh (Jm ?_);exact last {t1 with plain:=false} (SetTable.fits_plain_off f1) l1 rfl
  | false=>
   rw[Ji (by decide)];refine Jh (Jm ?_);exact last t1 f1 l1 q
end add
section loop
variable {prog:Program} {w:World} {A:Around} {R:Result->Shared->Prop} {I:Addr} {fp wr:List Addr} {G:Array GenState->Array GenState->Prop} {n:Nat} {P:Nat->Value->Prop} {St:Nat->Shared->Prop}
theorem bx.at {h h':Heap} {a:Addr} {τ:NW} (hS:bx prog w h a τ) (k:∀o,h.get? a=some o->h'.get? a=some o):bx prog w h' a τ:=
 let ⟨o,es,ep,t,ho,r⟩:=hS;⟨o,es,ep,t,k o ho,r⟩
end loop
section new
variable {prog:Program} {w:World} {A:Around} {E:NS} {s:Shared}
noncomputable abbrev cj (w:World):Obj:={cls:=.type "set",dict:=none,data:=.set #[] 0 (.fresh 0 0 (!w.params.followText "set-order"))}
theorem AB (a:Value) {Q₁:NS} (h:Q₁ (.ref s.heap.objs.size) {s with heap:=s.heap.push (cj w)}):
  codeAny (model prog w) A (.call (.builtin "set.__new__") ⟨[.type "set",a],[]⟩) (wants Q₁ E) s:=by
 refine codeAny_of_tree ?_;show wpAny _ A.in1 (do checkBuiltinCall "set.__new__" ⟨[.type "set",a],[]⟩;again (.builtin "set.__new__" ⟨[.type "set",a],[]⟩)) _ _ s;refine Jh (Lg (PySem.F.newCall_set_1 a) (Jm ⟨Mj PySem.F.plain_set_new _,LC PySem.F.entry_set_new ?_⟩));rw[Lk PySem.F.plain_set_new _];unfold Builtin.«set.__new__» Builtin.Frozenset.newClass;have hsub:=sub_set_self;obtain⟨hp,g,d,tk,os⟩:=s;dsimp only
 wp_walk
 refine KL (Jm ?_);dsimp only;simp only[newObj];refine Jh (wpAny_alloc (Jm ?_));exact Jm h
end new
section orders
theorem mj {α:Type}:∀ (l:List α) (i:Nat) (h:i < l.length),List.Perm (l[i]::l.eraseIdx i) l
 | x::l,0,h=>.refl _
 | x::l,i + 1,h=>by
  simp only[List.getElem_cons_succ,List.eraseIdx_cons_succ];exact(List.Perm.swap _ _ _).trans (List.Perm.cons _ (mj l i (by simpa using h)))
theorem u0 {α:Type} (next:Nat->Nat):∀ (fuel k:Nat) (left:List α) (out:Array α),left.length=fuel->List.Perm (pickOrder.go next fuel k left out).toList (out.toList++left)
 | 0,k,left,out,h=>by
  have:left=[]:=L5 h;subst this;unfold pickOrder.go;simp
 | fuel + 1,k,left,out,h=>by
  have hi:next k % left.length < left.length:=NP _ (by omega)
  unfold pickOrder.go;rw[Jl hi];refine(u0 next fuel (k + 1) _ _ (by rw[LG hi];omega)).trans ?_;rw[KP,JM];exact List.Perm.append_left _ (mj _ _ hi)
theorem g9 {α:Type} (next:Nat->Nat) (xs:Array α):List.Perm (pickOrder next xs).toList xs.toList:=by
 have z:=u0 next xs.size 0 xs.toList #[] (by simp)
 simpa[pickOrder]using z
variable {prog:Program} {w:World} {A:Around} {E:NS}
theorem wp_choose {src:Source} {n:Nat} {Q:Nat->Shared->Prop} {s:Shared} (hn:n ≠ 0) (h:∀i d,i < n->Q i {s with drawn:=d}):wpAny (model prog w) A (choose src n) Q E s:=
 fun _ _ _=>⟨hn,h _ _ (NP _ (Nat.pos_of_ne_zero hn))⟩
theorem i5 {α:Type}:∀ (n:Nat) (xs:List α) (s:Shared) {Q:List α->Shared->Prop},xs.length=n->(∀ ys d,List.Perm ys xs->Q ys {s with drawn:=d})->wpAny (model prog w) A (drawOrder n xs) Q E s
 | 0,xs,s,Q,hl,h=>by
  have:xs=[]:=L5 hl;subst this;unfold drawOrder;exact Jm (h [] s.drawn .nil)
 | n + 1,[],s,Q,hl,h=>by simp at hl
 | n + 1,x::xs,s,Q,hl,h=>by
  unfold drawOrder;refine Jh (wp_choose (by simp) fun i d hi=>?_);rw[Jl hi];refine Jh (i5 n _ _ (by rw[LG hi];simp at hl ⊢;omega) fun ys d' p=>?_);exact Jm (h _ d' ((List.Perm.cons _ p).trans (mj _ _ hi)))
end orders
namespace F
theorem mW:entryFor table "set.__iter__" =some Builtin.«frozenset.__iter__»:=
 entryFor_alias (id':= "frozenset.__iter__") (by kernel_rfl) rfl (by decide +kernel) (by kernel_rfl)
theorem slot_next:Slot "set_iterator" "__next__" "set_iterator.__next__" :=
 .of (owner:= "set_iterator") (n:= "__next__") (by rw[MP,Ma];kernel_rfl) (by decide +kernel) (by decide +kernel) (by decide +kernel)
  (by first | exact .inl (by decide +kernel) | exact .inr (by decide +kernel)) (by rw[M4];kernel_rfl)
theorem entry_next:entryFor table "set_iterator.__next__" =some Builtin.«set_iterator.__next__»:=entryFor_of_fast (by kernel_rfl)
theorem args_next (a:Value):argsOk "set_iterator.__next__" ⟨[a],[]⟩:=by unfold argsOk;kernel_rfl
theorem oh:Slot "set_iterator" "__iter__" "set_iterator.__iter__" :=
 .of (owner:= "set_iterator") (n:= "__iter__") (by rw[MP,Ma];kernel_rfl) (by decide +kernel) (by decide +kernel) (by decide +kernel)
  (by first | exact .inl (by decide +kernel) | exact .inr (by decide +kernel)) (by rw[M4];kernel_rfl)
theorem t6:entryFor table "set_iterator.__iter__" =some Builtin.«dict_keyiterator.__iter__»:=
 entryFor_alias (id':= "dict_keyiterator.__iter__") (by kernel_rfl) rfl (by decide +kernel) (by kernel_rfl)
theorem xG (a:Value):argsOk "set_iterator.__iter__" ⟨[a],[]⟩:=by unfold argsOk;kernel_rfl
end F
noncomputable def iy (h:Heap) (I S:Addr) (first:Value) (i n ep:Nat):Prop:=
 ∃o,h.get? I=some o/\o.cls=.type "set_iterator" /\o.data=.fields #[first,.int i 0,.ref S,.int n 0,.int ep 0]
noncomputable def j4 (h:Heap) (S:Addr) (es:Array (Int × Value)) (ep:Nat) (t:SetTable):Prop:=∃o,h.get? S=some o/\o.data=.set es ep t/\t.fits es.size=true
theorem iy.typeIs {s:Shared} {I S:Addr} {f:Value} {i n ep:Nat} (x:iy s.heap I S f i n ep):s.TypeIs (.ref I) "set_iterator" :=let ⟨o,ho,hc,_⟩:=x;⟨o,ho,hc⟩
theorem iy.keep {h h':Heap} {I S:Addr} {f:Value} {i n ep:Nat} (x:iy h I S f i n ep) (k:∀o,h.get? I=some o->h'.get? I=some o):iy h' I S f i n ep:=let ⟨o,ho,r⟩:=x;⟨o,k o ho,r⟩
theorem j4.keep {h h':Heap} {S:Addr} {es:Array (Int × Value)} {ep:Nat} {t:SetTable} (x:j4 h S es ep t) (k:∀o,h.get? S=some o->h'.get? S=some o):j4 h' S es ep t:=let ⟨o,ho,r⟩:=x;⟨o,k o ho,r⟩
section walk
variable {prog:Program} {w:World} {A:Around} {E:NS} {s:Shared}
theorem qB {a:Addr} {o:Obj} {es:Array (Int × Value)} {ep:Nat} {t:SetTable} {Q:Bool->Shared->Prop} (ho:s.heap.get? a=some o) (hd:o.data=.set es ep t) (hf:t.fits es.size=true)
  (h:Q (!w.params.followText "set-order" && (!t.plain && decide (es.size > 1))) s):wpAny (model prog w) A (setDrawn a) Q E s:=by
 unfold setDrawn setsByText;refine Jh (J7 ho hd hf ?_);dsimp only;exact Jh (Jh (KL (Jm (Jm h))))
theorem jU {I S:Addr} {f:Value} {i n ep:Nat} {Q:NS} (x:iy s.heap I S f i n ep) (h:Q (.ref I) s):wpAny (model prog w) A (pyIter (.ref I)) Q E s:=by
 refine wpAny_pyIter_slot x.typeIs F.oh (KN F.oh x.typeIs F.t6 ?_ (F.xG _));show wpAny _ _ (ret (.ref I)) _ _ s;exact Jm ⟨_,rfl,"set_iterator",_,x.typeIs,F.slot_next.lookup,h⟩
theorem qM {S:Addr} {es:Array (Int × Value)} {ep i j:Nat} {t:SetTable} {Q:Option (Value × Nat)->Shared->Prop} (hT:w.params.followText "set-order" =true) (hs:j4 s.heap S es ep t)
  (h:Q (((pickOrder (w.params.setOrder S ep) es)[i]?).map fun e=>(e.2,j)) s):wpAny (model prog w) A (setNext S j i ep) Q E s:=by
 obtain⟨o,ho,hd,hf⟩:=hs;unfold setNext setsByText;refine Jh (J7 ho hd hf ?_);dsimp only;refine Jh (Jh (KL (Jm ?_)));show wpAny _ _ (if(w.params.followText "set-order")=true then _ else _) _ _ _;rw[Jj hT];simp only[MF,Ke,Lj];unfold setWalk setsByText;refine Jh (Jh (J7 ho hd hf ?_));dsimp only;refine Jh (Jh (KL (Jm ?_)));show wpAny _ _ (if(w.params.followText "set-order")=true then _ else _) _ _ _;rw[Jj hT];exact Jh (KL (Jm (Jm h)))
theorem qN {S:Addr} {es:Array (Int × Value)} {ep i j:Nat} {t:SetTable} {Q:Option (Value × Nat)->Shared->Prop} (hT:w.params.followText "set-order" =false) (hs:j4 s.heap S es ep t) (hn:es.size<=1) (hl:t.led=true)
  (h:Q (match es[SetTable.below t.place j]?,t.place[SetTable.below t.place j]? with | some (_,x),some j=>some (x,j + 1) | _,_=>none) s):wpAny (model prog w) A (setNext S j i ep) Q E s:=by
 obtain⟨o,ho,hd,hf⟩:=hs;unfold setNext setsByText;refine Jh (J7 ho hd hf ?_);dsimp only;refine Jh (Jh (KL (Jm ?_)));show wpAny _ _ (if(w.params.followText "set-order")=true then _ else _) _ _ _;rw[Ji (by rw[hT];decide)];show wpAny _ _ (if(!t.plain && decide (es.size > 1))=true then _ else _) _ _ _;rw[Ji (by rw[JR (MA.mpr hn),M3];decide)];refine Jh (m:=if(!t.led && !es.isEmpty)=true then unsupported "set:maker-not-led" else pure ()) ?_;rw[Ji (by rw[hl];simp)];exact Jm (Jm h)
theorem C6 {I S:Addr} {es:Array (Int × Value)} {ep i j nx:Nat} {t:SetTable} {v:Value} {Q:Option Value->Shared->Prop} (hit:iy s.heap I S (.int j 0) i es.size ep) (hs:j4 s.heap S es ep t)
  (hv:∀ {B:Around} {Q':Option (Value × Nat)->Shared->Prop} {E':NS},Q' (some (v,nx)) s->wpAny (model prog w) B (setNext S j i ep) Q' E' s)
  (hQ:∀h',iy h' I S (.int nx 0) (i + 1) es.size ep->Heap.SameBut I s.heap h'->Q (some v) {s with heap:=h'}):wpAny (model prog w) A (pyNext (.ref I)) Q E s:=by
 obtain⟨o,ho,hc,hd⟩:=id hit;obtain⟨os,hos,hds,hf⟩:=hs;unfold pyNext;refine Jh (Lo (LQ (name:=Str.ofString "__next__") hit.typeIs F.slot_next (KN F.slot_next hit.typeIs F.entry_next ?_ (F.args_next _))));show wpAny _ _ (fieldsOf (.ref I) >>= _) _ _ s;refine Jh (M5 ho hd ?_);dsimp only;refine Jh (K6 hos hds hf ?_);rw[Ji (by simp)];refine Jh (hv ?_);dsimp only;have g1:=Kj (Obj.mapFields (·.setIfInBounds 0 (rawInt nx))) ho (Mb (Kx hd _));refine Jh (Mc ho hd (by simp) ?_);refine Jh (Mc g1 (Kx hd _) (by simp) ?_);refine Jm ⟨v,rfl,Jm (hQ _ ⟨_,Kj _ g1 (Mb (Kx (Kx hd _) _)),?_,?_⟩ ((Kc ..).trans (Kc ..)))⟩
 ·rw[Nn,Nn];exact hc
 ·rw[Kx (Kx hd _)];simp[rawInt]
theorem Gi (hh:A.handled=none) {I S:Addr} {es:Array (Int × Value)} {ep i j:Nat} {t:SetTable} {Q:Option Value->Shared->Prop} (hit:iy s.heap I S (.int j 0) i es.size ep) (hs:j4 s.heap S es ep t)
  (hv:∀ {B:Around} {Q':Option (Value × Nat)->Shared->Prop} {E':NS},Q' none s->wpAny (model prog w) B (setNext S j i ep) Q' E' s)
  (hQ:∀h',Heap.ExtBut I s.heap h'->Q none {s with heap:=h'}):wpAny (model prog w) A (pyNext (.ref I)) Q E s:=by
 obtain⟨o,ho,hc,hd⟩:=id hit;obtain⟨os,hos,hds,hf⟩:=hs;unfold pyNext;refine Jh (Lo (LQ (name:=Str.ofString "__next__") hit.typeIs F.slot_next (KN F.slot_next hit.typeIs F.entry_next ?_ (F.args_next _))));show wpAny _ _ (fieldsOf (.ref I) >>= _) _ _ s;refine Jh (M5 ho hd ?_);dsimp only;refine Jh (K6 hos hds hf ?_);rw[Ji (by simp)];refine Jh (hv ?_);dsimp only;refine Jh (Mc ho hd (by simp) ?_);refine Jh ?_;simp only[newExc,newTuple];refine Jh (KG ?_ (by size_fits));refine Jh (m:=firstArgMember _ _) (Lg (a:=Value.none) (by first | rfl | (simp only[firstArgMember];rfl)) ?_);refine KG ?_ (by size_fits);simp only[raiseNew];refine Jh (wpAny_handled ?_);rw[show A.in1.handled=none from hh];refine Jh (Jm (wpAny_throw ?_));refine Jh (La (T:= "StopIteration") (b:=true) ⟨_,JE _ rfl,rfl⟩ isSubtype_stop ?_);exact Jm (hQ _ (((Kc ..).extBut.push _).push _))
theorem F0 {I S tp:Addr} {es:Array (Int × Value)} {ep i p:Nat} {t:SetTable} {e:Int × Value} {ot:Obj} {pl:NV} {c:Nat} {Q:Option Value->Shared->Prop} (hit:iy s.heap I S (.ref tp) i es.size ep) (hs:j4 s.heap S es ep t)
  (ht:s.heap.get? tp=some ot) (hdt:ot.data=.seq pl c) (hp:pl[i]?=some (.int p 0)) (he:es[p]?=some e)
  (hQ:∀h',iy h' I S (.ref tp) (i + 1) es.size ep->Heap.SameBut I s.heap h'->Q (some e.2) {s with heap:=h'}):wpAny (model prog w) A (pyNext (.ref I)) Q E s:=by
 obtain⟨o,ho,hc,hd⟩:=id hit;obtain⟨os,hos,hds,hf⟩:=hs;unfold pyNext;refine Jh (Lo (LQ (name:=Str.ofString "__next__") hit.typeIs F.slot_next (KN F.slot_next hit.typeIs F.entry_next ?_ (F.args_next _))));show wpAny _ _ (fieldsOf (.ref I) >>= _) _ _ s;refine Jh (M5 ho hd ?_);dsimp only;refine Jh (K6 hos hds hf ?_);rw[Ji (by simp)];refine Jh (wpAny_seqItems ht hdt ?_);simp only[Np,hp];unfold setNextDrawn;refine Jh (Jh (J7 hos hds hf ?_));dsimp only;simp only[MF,Ke,Lj,Np,he];refine Jm ?_;refine Jh (Mc ho hd (by simp) ?_);refine Jm ⟨_,rfl,Jm (hQ _ ⟨_,Kj _ ho (Mb (Kx hd _)),?_,?_⟩ (Kc ..))⟩
 ·rw[Nn];exact hc
 ·rw[Kx hd];simp[rawInt]
theorem HZ (hh:A.handled=none) {I S tp:Addr} {es:Array (Int × Value)} {ep i:Nat} {t:SetTable} {ot:Obj} {pl:NV} {c:Nat} {Q:Option Value->Shared->Prop} (hit:iy s.heap I S (.ref tp) i es.size ep) (hs:j4 s.heap S es ep t)
  (ht:s.heap.get? tp=some ot) (hdt:ot.data=.seq pl c) (hp:pl[i]?=none)
  (hQ:∀h',Heap.ExtBut I s.heap h'->Q none {s with heap:=h'}):wpAny (model prog w) A (pyNext (.ref I)) Q E s:=by
 obtain⟨o,ho,hc,hd⟩:=id hit;obtain⟨os,hos,hds,hf⟩:=hs;unfold pyNext;refine Jh (Lo (LQ (name:=Str.ofString "__next__") hit.typeIs F.slot_next (KN F.slot_next hit.typeIs F.entry_next ?_ (F.args_next _))));show wpAny _ _ (fieldsOf (.ref I) >>= _) _ _ s;refine Jh (M5 ho hd ?_);dsimp only;refine Jh (K6 hos hds hf ?_);rw[Ji (by simp)];refine Jh (wpAny_seqItems ht hdt ?_);simp only[Np,hp];have g1:=Kj (Obj.mapFields (·.setIfInBounds 0 (rawInt 0))) ho (Mb (Kx hd _));refine Jh (Mc ho hd (by simp) ?_);refine Jh (Mc g1 (Kx hd _) (by simp) ?_);refine Jh ?_;simp only[newExc,newTuple];refine Jh (KG ?_ (by size_fits));refine Jh (m:=firstArgMember _ _) (Lg (a:=Value.none) (by first | rfl | (simp only[firstArgMember];rfl)) ?_);refine KG ?_ (by size_fits);simp only[raiseNew];refine Jh (wpAny_handled ?_);rw[show A.in1.handled=none from hh];refine Jh (Jm (wpAny_throw ?_));refine Jh (La (T:= "StopIteration") (b:=true) ⟨_,JE _ rfl,rfl⟩ isSubtype_stop ?_);exact Jm (hQ _ (((((Kc ..).trans (Kc ..)).extBut.push _).push _)))
end walk
section walks
variable {prog:Program} {w:World} {A:Around}
theorem Fe (hh:A.handled=none) (hT:w.params.followText "set-order" =true) (I S:Addr) (hne:S ≠ I) (es:Array (Int × Value)) (ep:Nat) (t:SetTable):
  Walks prog w A I [I,S] [I] es.size (fun i v=>((pickOrder (w.params.setOrder S ep) es).toList.map (·.2))[i]?=some v) (fun i h=>(∃ j:Nat,iy h I S (.int j 0) i es.size ep)/\j4 h S es ep t) where
 sub:=fun b hb=>by simp at hb;simp[hb]
 frame:=fun i h h' st hk=>⟨let ⟨j,x⟩:=st.1;⟨j,x.keep fun o e=>hk I (by simp) o e⟩,st.2.keep fun o e=>hk S (by simp) o e⟩
 item:=fun i s Q E hi st hQ=>by
  obtain⟨⟨j,x⟩,y⟩:=st;have hl:(pickOrder (w.params.setOrder S ep) es).size=es.size:=by have z:=(g9 (w.params.setOrder S ep) es).length_eq;simpa using z
  have hi':i < (pickOrder (w.params.setOrder S ep) es).size:=by omega
  refine C6 x y (nx:=j) (v:=((pickOrder (w.params.setOrder S ep) es)[i]).2) (fun q=>qM hT y (by rw[Kn hi'];exact q)) fun h' x' hs'=>?_;refine hQ _ h' s.toks (by simp[hi']) ⟨⟨j,x'⟩,y.keep fun o e=>(hs'.2 S hne).trans e⟩ fun b o hb e=>hs'.extBut b o (fun h=>hb (by simp[h])) e
 done:=fun s Q E st hQ=>by
  obtain⟨⟨j,x⟩,y⟩:=st;have hl:(pickOrder (w.params.setOrder S ep) es).size=es.size:=by have z:=(g9 (w.params.setOrder S ep) es).length_eq;simpa using z
  exact Gi hh x y (fun q=>qM hT y (by rw[Array.getElem?_eq_none (by omega)];exact q)) fun h' he'=>hQ h' s.toks fun b o hb e=>he' b o (fun h=>hb (by simp[h])) e
 self:=fun i s Q E st h=>let ⟨j,x⟩:=st.1;jU x h
theorem oZ (p j:Nat):SetTable.below #[p] j=if p < j then 1 else 0:=by
 unfold SetTable.below;show SetTable.below.go #[p] j 1 0 1=_;unfold SetTable.below.go;simp only[Nat.zero_lt_one,Mz,Kf,show(1:Nat) / 2=0 from rfl];show(if(#[p].getD 0 j) < j then SetTable.below.go #[p] j 0 1 1 else SetTable.below.go #[p] j 0 0 0)=_;rw[show(#[p].getD 0 j)=p from rfl];split<;>(unfold SetTable.below.go;rfl)
theorem Ff (hh:A.handled=none) (hT:w.params.followText "set-order" =false) (I S:Addr) (hne:S ≠ I) (es:Array (Int × Value)) (ep:Nat) (t:SetTable) (hn:es.size<=1) (hl:t.led=true) (hf:t.fits es.size=true):
  Walks prog w A I [I,S] [I] es.size (fun i v=>(es.toList.map (·.2))[i]?=some v) (fun i h=>(∃ j:Nat,iy h I S (.int j 0) i es.size ep/\(i=0->j=0)/\(∀ p,t.place[0]?=some p->i=1->j=p + 1))/\j4 h S es ep t) where
 sub:=fun b hb=>by simp at hb;simp[hb]
 frame:=fun i h h' st hk=>⟨let ⟨j,x,r⟩:=st.1;⟨j,x.keep fun o e=>hk I (by simp) o e,r⟩,st.2.keep fun o e=>hk S (by simp) o e⟩
 item:=fun i s Q E hi st hQ=>by
  obtain⟨⟨j,x,r0,r1⟩,y⟩:=st;have F5:i=0:=by omega
  subst F5;have hj:=r0 rfl;subst hj;have hps:t.place.size=es.size:=by simp only[SetTable.fits,J6,LK]at hf;exact hf.1
  obtain⟨p,hp⟩:∃p,t.place=#[p]:=Md.mp (by omega);obtain⟨e,he⟩:∃e,es=#[e]:=Md.mp (by omega);refine C6 x y (nx:=p + 1) (v:=e.2) (fun q=>qN hT y hn hl ?_) fun h' x' hs'=>?_
  ·rw[hp,oZ,Ji (Nat.not_lt_zero _),he];exact q
  ·refine hQ _ h' s.toks (by rw[he];rfl) ⟨⟨p + 1,x',fun c=>by omega,fun p' hp' _=>?_⟩,y.keep fun o e=>(hs'.2 S hne).trans e⟩ fun b o hb e=>hs'.extBut b o (fun h=>hb (by simp[h])) e;rw[hp]at hp';simp at hp';rw[hp']
 done:=fun s Q E st hQ=>by
  obtain⟨⟨j,x,r0,r1⟩,y⟩:=st;have hps:t.place.size=es.size:=by simp only[SetTable.fits,J6,LK]at hf;exact hf.1
  refine Gi hh x y (fun q=>qN hT y hn hl ?_) fun h' he'=>hQ h' s.toks fun b o hb e=>he' b o (fun h=>hb (by simp[h])) e
  by_cases h0:es.size=0
  ·have he:es=#[]:=Array.eq_empty_of_size_eq_zero h0;rw[he];simpa using q
  ·obtain⟨p,hp⟩:∃p,t.place=#[p]:=Md.mp (by omega);obtain⟨e,he⟩:∃e,es=#[e]:=Md.mp (by omega);have hj:j=p + 1:=r1 p (by rw[hp];rfl) (by omega);rw[hp,oZ,hj,Jj (Kg _),he];exact q
 self:=fun i s Q E st h=>let ⟨j,x,_⟩:=st.1;jU x h
theorem Fg (hh:A.handled=none) (I S tp:Addr) (hne:S ≠ I) (hne':tp ≠ I) (es:Array (Int × Value)) (ep:Nat) (t:SetTable) (ps:List Nat) (hp:List.Perm ps (List.range es.size)) (ot:Obj) (c:Nat) (hdt:ot.data=.seq (ps.map fun(i:Nat)=>rawInt i).toArray c):
  Walks prog w A I [I,S,tp] [I] es.size (fun i v=>(ps.map fun p=>(es.getD p (0,.none)).2)[i]?=some v) (fun i h=>iy h I S (.ref tp) i es.size ep/\j4 h S es ep t/\h.get? tp=some ot) where
 sub:=fun b hb=>by simp at hb;simp[hb]
 frame:=fun i h h' st hk=>⟨st.1.keep fun o e=>hk I (by simp) o e,st.2.1.keep fun o e=>hk S (by simp) o e,hk tp (by simp) _ st.2.2⟩
 item:=fun i s Q E hi st hQ=>by
  obtain⟨x,y,z⟩:=st;have hlen:ps.length=es.size:=by have z:=hp.length_eq;simpa using z
  have hi':i < ps.length:=by omega
  have hpi:ps[i] < es.size:=by have z:=hp.mem_iff.mp (KJ hi');simpa using z
  refine F0 x y z hdt (p:=ps[i]) (e:=es[ps[i]]) (by simp[hi',rawInt]) (Kn hpi) fun h' x' hs'=>?_;refine hQ _ h' s.toks (by simp[hi',Array.getD,hpi]) ⟨x',y.keep fun o e=>(hs'.2 S hne).trans e,(hs'.2 tp hne').trans z⟩ fun b o hb e=>hs'.extBut b o (fun h=>hb (by simp[h])) e
 done:=fun s Q E st hQ=>by
  obtain⟨x,y,z⟩:=st;have hlen:ps.length=es.size:=by have z:=hp.length_eq;simpa using z
  exact HZ hh x y z hdt (by simp[hlen]) fun h' he'=>hQ h' s.toks fun b o hb e=>he' b o (fun h=>hb (by simp[h])) e
 self:=fun i s Q E st h=>jU st.1 h
end walks
section iter
variable {prog:Program} {w:World} {A:Around} {E:NS} {s:Shared}
theorem eP {es:Array (Int × Value)} (h:ElemsOf (strKind prog w) es.toList):StrsAre (es.toList.map (·.2)) (es.toList.map fun e=>strOf e.2):=by
 have z:=strsAre_map (es.toList.map (·.2)) fun v hv=>by
  obtain⟨e,he,rfl⟩:=Jn.mp hv;obtain⟨⟨k,hk,_⟩,_⟩:=h e he;obtain⟨_,t,q⟩:=isStr_of hk;exact⟨k,t,q⟩
 rw[JT]at z;exact z
theorem map_getD {α:Type} (d:α) (es:Array α):(List.range es.size).map (fun p=>es.getD p d)=es.toList:=by
 apply List.ext_getElem
 ·simp
 ·intro i h1 h2;simp at h1;simp[Array.getD,h1]
theorem tw {S:Addr} {τ:NW} {Q:NS} (hS:bx prog w s.heap S τ)
  (hQ:∀ (s':Shared) (I:Addr) (fp:List Addr) (St:Nat->Heap->Prop) (ord:NX) (n:Nat),n=τ.length->(∀ A':Around,A'.handled=none->Walks prog w A' I fp [I] n (fun i v=>ord[i]?=some v) St)->St 0 s'.heap->
   (∃ ss,StrsAre ord ss/\List.Perm ss τ)->(∀ b ∈ fp,b < s'.heap.objs.size/\(b=S\/s.heap.objs.size<=b))->s.heap.objs.size<=I->(∀ b o,s.heap.get? b=some o->s'.heap.get? b=some o)->s'.gens=s.gens->s'.os=s.os->s'.toks=s.toks->Q (.ref I) s'):
  wpAny (model prog w) A (pyIter (.ref S)) Q E s:=by
 obtain⟨o,es,ep,t,ho,hex,hd,hel,hp,hb,hf,hled,hpl⟩:=hS;have hT:s.TypeIs (.ref S) "set" :=⟨o,ho,hex.1⟩;have hlt:S < s.heap.objs.size:=Ju ho;have hlen:es.size=τ.length:=by have z:=hp.length_eq;simpa using z
 have hst:j4 s.heap S es ep t:=⟨o,ho,hd,hf⟩;refine wpAny_pyIter_slot hT PySem.F.slot_set_iter (KN PySem.F.slot_set_iter hT F.mW ?_ (PySem.F.args_set_iter_1 _));show wpAny _ _ (Builtin.Frozenset.sizeOf S >>= _) _ _ s;unfold Builtin.Frozenset.sizeOf;refine Jh (Jh (K6 ho hd hf (Jm ?_)));refine Jh (qB ho hd hf ?_);cases q:(!w.params.followText "set-order" && (!t.plain && decide (es.size > 1)))with
 | true=>
  rw[Jj rfl];refine Jh (i5 es.size (List.range es.size) _ J8 fun ps d pp=>?_);have hlp:ps.length=es.size:=by have z:=pp.length_eq;simpa using z
  have hz:(ps.map fun(i:Nat)=>rawInt i).toArray.size<=sizeLine:=by
   have z:=K3 hb;simp only[JH,Jk,hlp];exact z
  refine Jh (KG ?_ (by first | exact hz | simpa using hz));have h1:(s.heap.push {cls:=.type "tuple",data:=.seq (ps.map fun(i:Nat)=>rawInt i).toArray}).get? S=some o:=Jq _ ho;refine Jh (L7 h1 hd hf ?_);refine Jh (KG (Jm ⟨_,rfl,"set_iterator",_,⟨_,JE _ rfl,rfl⟩,F.slot_next.lookup,?_⟩));have hz1:(s.heap.push {cls:=.type "tuple",data:=.seq (ps.map fun(i:Nat)=>rawInt i).toArray}).objs.size=s.heap.objs.size + 1:=KH _ _
  refine hQ _ _ [(s.heap.push {cls:=.type "tuple",data:=.seq (ps.map fun(i:Nat)=>rawInt i).toArray}).objs.size,S,s.heap.objs.size] _ (ps.map fun p=>(es.getD p (0,.none)).2) es.size hlen
   (fun A' hA=>Fg hA _ S s.heap.objs.size (by rw[hz1];exact JC (J0 hlt)) (by rw[hz1];exact JC (Kg _)) es ep t ps pp _ 0 rfl) ⟨⟨_,JE _ rfl,rfl,rfl⟩,⟨o,Jq _ h1,hd,hf⟩,Jq _ (JE _ rfl)⟩ ?_ ?_ (by rw[hz1];omega)
   (fun b o' e=>Jq _ (Jq _ e)) rfl rfl rfl
  ·have hpe:List.Perm (ps.map fun p=>es.getD p (0,.none)) es.toList:=by
    have z:=pp.map (fun p=>es.getD p (0,.none));rw[map_getD]at z;exact z
   have hel':ElemsOf (strKind prog w) (ps.map fun p=>es.getD p (0,.none)).toArray.toList:=hel.perm (by simpa using hpe);have z:=eP hel';simp only[JT]at z;refine⟨_,z,?_⟩;have z2:=(hpe.map fun e=>strOf e.2).trans hp;rw[JT]at z2;exact z2
  ·intro b hb';rw[KH,hz1];rw[hz1]at hb';simp only[Jx,Kz,L4]at hb';rcases hb' with rfl | rfl | rfl
   ·exact⟨Kg _,.inr (K8 _)⟩
   ·exact⟨J0 (J0 hlt),.inl rfl⟩
   ·exact⟨J0 (Kg _),.inr (JG _)⟩
 | false=>
  rw[Ji (by decide)];refine Jh (Jm ?_);refine Jh (L7 ho hd hf ?_);refine Jh (KG (Jm ⟨_,rfl,"set_iterator",_,⟨_,JE _ rfl,rfl⟩,F.slot_next.lookup,?_⟩));have kp:∀b o',s.heap.get? b=some o'->(s.heap.push {cls:=.type "set_iterator",data:=.fields #[.int 0 0,.int 0 0,.ref S,.int es.size 0,.int ep 0]}).get? b=some o':=fun b o' e=>Jq _ e
  have fps:∀b ∈ [s.heap.objs.size,S],b < (s.heap.push {cls:=.type "set_iterator",data:=.fields #[.int 0 0,.int 0 0,.ref S,.int es.size 0,.int ep 0]}).objs.size/\(b=S\/s.heap.objs.size<=b):=fun b hb=>by
   rw[KH];simp only[Jx,Kz,L4]at hb;rcases hb with rfl | rfl
   ·exact⟨Kg _,.inr (JG _)⟩
   ·exact⟨J0 hlt,.inl rfl⟩
  have it:iy (s.heap.push {cls:=.type "set_iterator",data:=.fields #[.int 0 0,.int 0 0,.ref S,.int es.size 0,.int ep 0]}) s.heap.objs.size S (.int (0:Nat) 0) 0 es.size ep:=⟨_,JE _ rfl,rfl,rfl⟩;cases hT:w.params.followText "set-order" with
  | true=>
   have pk:=g9 (w.params.setOrder S ep) es;refine hQ _ s.heap.objs.size [s.heap.objs.size,S] _ _ es.size hlen (fun A' hA=>Fe hA hT _ S (JC hlt) es ep t) ⟨⟨0,it⟩,hst.keep fun o e=>kp S o e⟩ ?_ fps (JG _) kp rfl rfl rfl;have hel':ElemsOf (strKind prog w) (pickOrder (w.params.setOrder S ep) es).toList:=hel.perm pk;exact⟨_,eP hel',(pk.map _).trans hp⟩
  | false=>
   rw[hT]at hled q;have hl:t.led=true:=hled.resolve_left (by decide)
   have hn:es.size<=1:=by
    rcases hpl with h | h
    ·omega
    ·rw[h]at q;simp at q;exact q
   exact hQ _ s.heap.objs.size [s.heap.objs.size,S] _ _ es.size hlen (fun A' hA=>Ff hA hT _ S (JC hlt) es ep t hn hl hf) ⟨⟨0,it,fun _=>rfl,fun _ _ c=>by omega⟩,hst.keep fun o e=>kp S o e⟩ ⟨_,eP hel,hp⟩ fps (JG _) kp rfl rfl rfl
theorem Bm:typeLookup (.type "set") "__len__" =pure (some (.builtin "set.__len__")):=by rw[MP,Ma];kernel_rfl
theorem sg (hh:A.handled=none) {S:Addr} {τ:NW} {Q:List Value->Shared->Prop} (hS:bx prog w s.heap S τ)
  (hQ:∀s' vs ss,(∀ b o,s.heap.get? b=some o->s'.heap.get? b=some o)->s'.gens=s.gens->s'.os=s.os->s.toks<=s'.toks->StrsAre vs ss->List.Perm ss τ->Q vs s'):
  wpAny (model prog w) A (collect (.ref S)) Q E s:=by
 have hlt:S < s.heap.objs.size:=by obtain⟨o,_,_,_,ho,_⟩:=hS;exact Ju ho
 have hT:∀ (s₁:Shared),(∀ o,s.heap.get? S=some o->s₁.heap.get? S=some o)->s₁.TypeIs (.ref S) "set" :=fun s₁ k=>by obtain⟨o,_,_,_,ho,hex,_⟩:=hS;exact⟨o,k o ho,hex.1⟩
 have hbd:τ.length < scanBound:=by obtain⟨o,es,_,_,ho,_,_,_,hp,hb,_⟩:=hS;have z:=hp.length_eq;simp at z;omega
 unfold collect;refine Jh (wpAny_runValue (LC Na ?_));rw[Lk Nb _];show wpAny _ A.in1 (newList [] >>= fun l=>again (.builtin "list.__iadd__" ⟨[l,.ref S],[]⟩)) _ _ s;refine Jh (KG ?_);refine Jm ⟨Mj LR _,LC NI ?_⟩;rw[Lk LR _];show wpAny _ A.in1 (Builtin.List.listExtendWith (.ref s.heap.objs.size) (.ref S) (.ref s.heap.objs.size)) _ _ _;unfold Builtin.List.listExtendWith;have hz1:(s.heap.push {cls:=.type "list",data:=.seq ([]:NX).toArray}).objs.size=s.heap.objs.size + 1:=KH _ _;have hL1:(s.heap.push {cls:=.type "list",data:=.seq ([]:NX).toArray}).get? s.heap.objs.size=some {cls:=.type "list",data:=.seq ([]:NX).toArray}:=JE _ rfl;refine Jh (Mx (hT _ fun o e=>Jq _ e) ?_);have h1:Builtin.List.listSameRef (.ref s.heap.objs.size) (.ref S)=false:=by simp only[Builtin.List.listSameRef];exact Mp.mpr (KS hlt)
 have h2:(Value.type "set" == Value.type "list")=false:=by decide
 have h3:(Value.type "set" == Value.type "tuple")=false:=by decide
 simp only[h1,h2,h3,NQ,Ke,Lj];refine Jh (tw (s:={s with heap:=s.heap.push {cls:=.type "list",data:=.seq ([]:NX).toArray}}) (hS.at fun o e=>Jq _ e) fun s₂ I fp St ord n hn W st hord hfp hI kp eg eo et=>?_);refine Jh (Kd ?_);have hT2:=hT s₂ fun o e=>kp _ _ (Jq _ e);unfold Builtin.List.listLengthHint;refine Jh (wpAny_specialOf hT2 Bm ?_)
 wp_delta
 refine Jh (La (b:=true) hT2 (by rw[M4];kernel_rfl) ?_);show wpAny _ A.in1 (typeOf (Value.ref S) >>= _) _ _ _;refine Jh (Mx hT2 ?_);refine Jm ?_;rw[Jj (by decide)];have hL2:=kp _ _ hL1
 have hLf:s.heap.objs.size ∉ fp:=fun hm=>by
  rcases(hfp _ hm).2 with e | e
  ·exact KS hlt e
  ·exact Nat.not_succ_le_self _ (hz1 ▸ e)
 refine Jh (Kr (Jh ?_));show wpAny _ A.in1 (updateSeq s.heap.objs.size (·.push .none) >>= fun _=>updateSeq s.heap.objs.size (·.pop)) _ _ _;refine Jh (MQ hL2 rfl ?_);have hL3:=Kj (Obj.mapSeq (·.push Value.none)) hL2 rfl;refine MQ hL3 rfl ?_;have hL4:=Kj (Obj.mapSeq (·.pop)) hL3 rfl
 have oth:∀b o,b ≠ s.heap.objs.size->s₂.heap.get? b=some o->((s₂.heap.update s.heap.objs.size (Obj.mapSeq (·.push Value.none))).update s.heap.objs.size (Obj.mapSeq (·.pop))).get? b=some o:=
  fun b o hb e=>(Kh _ _ (Kv hb)).trans ((Kh _ _ (Kv hb)).trans e)
 have W1:=(W A.in1.in1 (by simp[hh])).toS
 refine Jm ⟨Mj Nt _,codeAny_extend_loopS ((W A.in1 (by simp[hh])).toS) (by rw[hn];exact K3 hbd) _ hLf _ n 0 _ _ _ rfl (J3 _)
  ((W A.in1 (by simp[hh])).toS.frame 0 s₂ _ s₂.toks st (JG _) fun b hb o e=>oth b o (fun h=>hLf (h ▸ hb)) e) hL4 (ItemsOf.nil _) fun s' acc' c' hm hS' hacc=>?_⟩
 show wpAny _ A (load s.heap.objs.size >>= _) _ _ s';refine Jh (wpAny_load hS' (Jm ?_));obtain⟨ss,hs1,hs2⟩:=hord
 have eq:acc'.toList=ord:=by
  have l1:ord.length=n:=by rw[hs1.len_eq,hs2.length_eq,hn]
  have l2:acc'.toList.length=n:=by rw[JK];exact hacc.1
  refine List.ext_getElem? fun j=>?_
  by_cases hj:j < n
  ·have hj':j < acc'.size:=by rw[hacc.1];exact hj
   have z:=hacc.2 j acc'[j] (Kn hj');rw[z,Ld,Kn hj']
  ·rw[List.getElem?_eq_none (by omega),List.getElem?_eq_none (by omega)]
 rw[eq];refine hQ s' ord ss (fun b o e=>?_) (hm.gens.trans eg) (hm.os.trans eo) (JS (My et.symm) hm.toks) hs1 hs2;have hlb:=Ju e;have hbL:b ≠ s.heap.objs.size:=JC hlb;have hbI:b ≠ I:=JC (JD (J0 hlb) (JS (My hz1.symm) hI));exact hm.heap b o (by simp only[Jx,Kz,L4,not_or];exact⟨hbL,hbI⟩) (oth b o hbL (kp b o (Jq _ e)))
theorem sY (hh:A.handled=none) {S:Addr} {τ:NW} (h64:τ.length < 64) {Q:NS} (hS:bx prog w s.heap S τ)
  (hQ:∀ (s':Shared) (l:Addr) (out:NV) (ss:NW) (e:Nat),(∀ b o,s.heap.get? b=some o->s'.heap.get? b=some o)->s'.gens=s.gens->s'.os=s.os->s.toks<=s'.toks->S < l->
   s'.heap.get? l=some (seqObj "list" out e)->StrsAre out.toList ss->List.Perm ss τ->sortedS ss=true->Q (.ref l) s'):
  wpAny (model prog w) A (call (.builtin "sorted") [.ref S]) Q E s:=by
 have hlt:S < s.heap.objs.size:=by obtain⟨o,_,_,_,ho,_⟩:=hS;exact Ju ho
 refine Ms kind_sorted plain_sorted entry_sorted (args_sorted1 _) ?_;unfold Builtin.«sorted»;refine Jh (m:=checkCount "sorted" 1 1 _) (Jm ?_);refine Jh (sg (by simp[hh]) hS fun s' vs ss kp eg eo et h1 h2=>?_);have hl:vs.length < 64:=by rw[h1.len_eq,h2.length_eq];exact h64
 refine Jh (Mk ?_);have hoL:(s'.heap.push (seqObj "list" vs.toArray 0)).get? s'.heap.objs.size=some (seqObj "list" vs.toArray 0):=JE _ rfl;show wpAny _ _ _ _ _ {s' with heap:=s'.heap.push (seqObj "list" vs.toArray 0)};refine Jh (Kd (KN M6 ⟨_,hoL,rfl⟩ MR (list_sort_treeK strKind_oneLt hoL h1.keysOf (fun v₁ v₂ rest e=>keyKind_strs (by rw[<-e];exact h1)) hl fun st' a1 a2=>⟨_,rfl,?_⟩) (args_list_sort _)));obtain⟨ss',b1,b2,b3⟩:=sorted_out_str h1 a1 a2;obtain⟨e,he⟩:=sortedHeap_at (out:=(arrOf st').map (·.2)) hoL;have hge:S < s'.heap.objs.size:=by obtain⟨o,_,_,_,ho,_⟩:=hS;exact Ju (kp S o ho)
 refine Jm ⟨_,rfl,hQ _ s'.heap.objs.size _ ss' e (fun b o q=>?_) eg eo et hge he b1 (b2.trans h2) b3⟩;have hb:=Ju (kp b o q);rw[sortedHeap_old (JC hb) (by rw[KH];exact J0 hb)];exact Jq _ (kp b o q)
end iter
open PySem PySem.Spec PyProof.Rows L2
section dict
variable {prog:Program} {w:World} {A:Around} {E:NS} {s:Shared}
theorem Ax:typeLookup (.type "dict") "__len__" =pure (some (.builtin "dict.__len__")):=by rw[MP,Ma];kernel_rfl
theorem lJ:∀ (ts:NW) (vs:NX),vs.length=ts.length->(∀ (j:Nat) (x:Str),ts[j]?=some x->∃t,vs[j]?=some (Value.str x t))->StrsAre vs ts
 | [],[],_,_=>.nil
 | x::ts,v::vs,hl,h=>by
  obtain⟨t,e⟩:=h 0 x rfl;have e':v=Value.str x t:=JL (by simpa using e);subst e';exact .cons x t (lJ ts vs (by simpa using hl) fun j y e=>by simpa using h (j + 1) y (by simpa using e))
 | [],_::_,hl,_=>by simp at hl
 | _::_,[],hl,_=>by simp at hl
theorem qf (hh:A.handled=none) {S:Addr} {kvs:List (Key × Value)} {ts:NW} {Q:List Value->Shared->Prop} (hd:(S == sysModules)=false) (hS:s.heap.DictOf (aS prog w) S kvs) (hk:kvs.map (·.1)=ts.map Sum.inr) (hn:kvs.length<=sizeLine)
  (hQ:∀s' vs,(∀ b o,s.heap.get? b=some o->s'.heap.get? b=some o)->s'.gens=s.gens->s'.os=s.os->s.toks<=s'.toks->s.heap.objs.size<=s'.heap.objs.size->StrsAre vs ts->Q vs s'):
  wpAny (model prog w) A (collect (.ref S)) Q E s:=by
 obtain⟨ep,hm⟩:=hS.dictAt;have hlt:S < s.heap.objs.size:=hm.lt_size;unfold collect;refine Jh (wpAny_runValue (LC Na ?_));rw[Lk Nb _];show wpAny _ A.in1 (newList [] >>= fun l=>again (.builtin "list.__iadd__" ⟨[l,.ref S],[]⟩)) _ _ s;refine Jh (KG ?_);refine Jm ⟨Mj LR _,LC NI ?_⟩;rw[Lk LR _];show wpAny _ A.in1 (Builtin.List.listExtendWith (.ref s.heap.objs.size) (.ref S) (.ref s.heap.objs.size)) _ _ _;unfold Builtin.List.listExtendWith;have hz1:(s.heap.push {cls:=.type "list",data:=.seq ([]:NX).toArray}).objs.size=s.heap.objs.size + 1:=KH _ _;have hL1:(s.heap.push {cls:=.type "list",data:=.seq ([]:NX).toArray}).get? s.heap.objs.size=some {cls:=.type "list",data:=.seq ([]:NX).toArray}:=JE _ rfl;have hm1:=hm.push {cls:=.type "list",data:=.seq ([]:NX).toArray};refine Jh (Mx (s:={s with heap:=s.heap.push {cls:=.type "list",data:=.seq ([]:NX).toArray}}) hm1.dictOf.typeIs ?_);have h1:Builtin.List.listSameRef (.ref s.heap.objs.size) (.ref S)=false:=by simp only[Builtin.List.listSameRef];exact Mp.mpr (KS hlt)
 have h2:(Value.type "dict" == Value.type "list")=false:=by decide
 have h3:(Value.type "dict" == Value.type "tuple")=false:=by decide
 simp only[h1,h2,h3,NQ,Ke,Lj];refine Jh (wpAny_pyIter_dict (s:={s with heap:=s.heap.push {cls:=.type "list",data:=.seq ([]:NX).toArray}}) hd hm1 ?_);have hm2:=hm1.push {cls:=.type "dict_keyiterator",data:=.fields #[.ref S,.int 0 0,.int kvs.length 0,.int ep 0]}
 have hit2:((s.heap.push {cls:=.type "list",data:=.seq ([]:NX).toArray}).push {cls:=.type "dict_keyiterator",data:=.fields #[.ref S,.int 0 0,.int kvs.length 0,.int ep 0]}).IsKeyIter (s.heap.push {cls:=.type "list",data:=.seq ([]:NX).toArray}).objs.size S 0 kvs.length ep:=
  ⟨_,JE _ rfl,rfl,rfl⟩
 have kp:∀b o,s.heap.get? b=some o->((s.heap.push {cls:=.type "list",data:=.seq ([]:NX).toArray}).push {cls:=.type "dict_keyiterator",data:=.fields #[.ref S,.int 0 0,.int kvs.length 0,.int ep 0]}).get? b=some o:=fun b o e=>Jq _ (Jq _ e);have hL2:((s.heap.push {cls:=.type "list",data:=.seq ([]:NX).toArray}).push {cls:=.type "dict_keyiterator",data:=.fields #[.ref S,.int 0 0,.int kvs.length 0,.int ep 0]}).get? s.heap.objs.size=some {cls:=.type "list",data:=.seq ([]:NX).toArray}:=Jq _ hL1;have hne:S ≠ (s.heap.push {cls:=.type "list",data:=.seq ([]:NX).toArray}).objs.size:=by rw[hz1];exact JC (J0 hlt)
 generalize eI:(s.heap.push {cls:=.type "list",data:=.seq ([]:NX).toArray}).objs.size=I at hit2 hne ⊢;generalize eh:((s.heap.push {cls:=.type "list",data:=.seq ([]:NX).toArray}).push {cls:=.type "dict_keyiterator",data:=.fields #[.ref S,.int 0 0,.int kvs.length 0,.int ep 0]})=h₂ at hm2 hit2 kp hL2 ⊢;have hI:I=s.heap.objs.size + 1:=by rw[<-eI,hz1]
 refine Jh (Kd ?_);have hT2:Shared.TypeIs {s with heap:=h₂} (.ref S) "dict" :=hm2.dictOf.typeIs;unfold Builtin.List.listLengthHint;refine Jh (wpAny_specialOf hT2 Ax ?_)
 wp_delta
 refine Jh (La (b:=true) hT2 (by rw[M4];kernel_rfl) ?_);show wpAny _ A.in1 (typeOf (Value.ref S) >>= _) _ _ _;refine Jh (Mx hT2 ?_);refine Jm ?_;rw[Jj (by decide)]
 have hLf:s.heap.objs.size ∉ [I,S]:=fun hmm=>by
  rcases Jx.mp hmm with e | e
  ·exact JC (Kg _) (e.trans hI)
  ·exact KS hlt (Jz.mp e)
 refine Jh (Kr (Jh ?_));show wpAny _ A.in1 (updateSeq s.heap.objs.size (·.push .none) >>= fun _=>updateSeq s.heap.objs.size (·.pop)) _ _ _;refine Jh (MQ hL2 rfl ?_);have hL3:=Kj (Obj.mapSeq (·.push Value.none)) hL2 rfl;refine MQ hL3 rfl ?_;have hL4:=Kj (Obj.mapSeq (·.pop)) hL3 rfl
 have oth:∀b o,b ≠ s.heap.objs.size->h₂.get? b=some o->((h₂.update s.heap.objs.size (Obj.mapSeq (·.push Value.none))).update s.heap.objs.size (Obj.mapSeq (·.pop))).get? b=some o:=
  fun b o hb e=>(Kh _ _ (Kv hb)).trans ((Kh _ _ (Kv hb)).trans e)
 have W:=(Walks.dictKeys (prog:=prog) (w:=w) (knd:=aS prog w) (A:=A.in1) (by simp[hh]) I S hne kvs ep).toS
 refine Jm ⟨Mj Nt _,codeAny_extend_loopS W hn _ hLf _ kvs.length 0 _ _ _ rfl (J3 _)
  (W.frame 0 {s with heap:=h₂} _ s.toks ⟨hit2,hm2⟩ (JG _) fun b hb o e=>oth b o (fun h=>hLf (h ▸ hb)) e) hL4 (ItemsOf.nil _) fun s' acc' c' hmv hS' hacc=>?_⟩
 show wpAny _ A (load s.heap.objs.size >>= _) _ _ s';refine Jh (wpAny_load hS' (Jm ?_));have sF:ts.length=kvs.length:=by have:=congrArg List.length hk;simpa using this.symm
 refine hQ s' acc'.toList (fun b o e=>?_) hmv.gens hmv.os hmv.toks (Lw (Ju hS')) (lJ ts _ (by rw[JK,hacc.1,sF]) fun j x ex=>?_)
 ·have hlb:=Ju e;have hbL:b ≠ s.heap.objs.size:=JC hlb;have hbI:b ≠ I:=by rw[hI];exact JC (J0 hlb)
  exact hmv.heap b o (by simp only[Jx,Kz,L4,not_or];exact⟨hbL,hbI⟩) (oth b o hbL (kp b o e))
 ·have hj:j < ts.length:=(Jv.mp ex).1;have hj':j < acc'.size:=by rw[hacc.1,<-sF];exact hj
  obtain⟨k,y,q1,q2⟩:=hacc.2 j acc'[j] (Kn hj');have q3:(kvs.map (·.1))[j]?=some k:=by rw[JJ,q1];rfl
  rw[hk,JJ,ex]at q3;obtain rfl:Sum.inr x=k:=JL q3;rcases bt (show mL (Sum.inr x) acc'[j]=true from q2)with ⟨i,t,e1,e2⟩ | ⟨z,t,e1,e2⟩
  ·cases e1
  ·cases e1
   exact⟨t,by rw[Ld,Kn hj',e2]⟩
theorem qL (hh:A.handled=none) {S:Addr} {kvs:List (Key × Value)} {ts:NW} (h64:ts.length < 64) {Q:NS} (hd:(S == sysModules)=false) (hS:s.heap.DictOf (aS prog w) S kvs) (hk:kvs.map (·.1)=ts.map Sum.inr)
  (hQ:∀ (s':Shared) (l:Addr) (out:NV) (ss:NW) (e:Nat),(∀ b o,s.heap.get? b=some o->s'.heap.get? b=some o)->s'.gens=s.gens->s'.os=s.os->s.toks<=s'.toks->s.heap.objs.size<=l->
   s'.heap.get? l=some (seqObj "list" out e)->StrsAre out.toList ss->List.Perm ss ts->sortedS ss=true->Q (.ref l) s'):
  wpAny (model prog w) A (call (.builtin "sorted") [.ref S]) Q E s:=by
 have hlt:S < s.heap.objs.size:=by obtain⟨o,_,_,ho,_⟩:=hS;exact Ju ho
 have sF:ts.length=kvs.length:=by have:=congrArg List.length hk;simpa using this.symm
 refine Ms kind_sorted plain_sorted entry_sorted (args_sorted1 _) ?_;unfold Builtin.«sorted»;refine Jh (m:=checkCount "sorted" 1 1 _) (Jm ?_);refine Jh (qf (by simp[hh]) hd hS hk (by rw[<-sF,Jy];omega) fun s' vs kp eg eo et hge h1=>?_);have hl:vs.length < 64:=by rw[h1.len_eq];exact h64
 refine Jh (Mk ?_);have hoL:(s'.heap.push (seqObj "list" vs.toArray 0)).get? s'.heap.objs.size=some (seqObj "list" vs.toArray 0):=JE _ rfl;show wpAny _ _ _ _ _ {s' with heap:=s'.heap.push (seqObj "list" vs.toArray 0)};refine Jh (Kd (KN M6 ⟨_,hoL,rfl⟩ MR (list_sort_treeK strKind_oneLt hoL h1.keysOf (fun v₁ v₂ rest e=>keyKind_strs (by rw[<-e];exact h1)) hl fun st' a1 a2=>⟨_,rfl,?_⟩) (args_list_sort _)));obtain⟨ss',b1,b2,b3⟩:=sorted_out_str h1 a1 a2;obtain⟨e,he⟩:=sortedHeap_at (out:=(arrOf st').map (·.2)) hoL;refine Jm ⟨_,rfl,hQ _ s'.heap.objs.size _ ss' e (fun b o q=>?_) eg eo et hge he b1 b2 b3⟩;have hb:=Ju (kp b o q);rw[sortedHeap_old (JC hb) (by rw[KH];exact J0 hb)];exact Jq _ (kp b o q)
noncomputable def aT (xs:Array (Str × Tok)):NV:=xs.map fun p=>.str p.1 p.2
noncomputable def bO (xs:Array (Str × Tok)) (i:Nat):Str:=(xs[i]?.map (·.1)).getD Str.empty
theorem j9 {xs:Array (Str × Tok)} {i:Nat} {v:Value} (h:(aT xs)[i]?=some v):∃t,v=.str (bO xs i) t:=by
 simp only[aT,Array.getElem?_map,JW]at h;obtain⟨p,hp,rfl⟩:=h;exact⟨p.2,by simp[bO,hp]⟩
theorem AD {P:Nat->Value->Prop} (val:Nat->Str) (hval:∀i v,P i v->∃t,v=.str (val i) t):
  CmpOf prog w A .Lt P (fun i j=>decide ((val i).cps.toList < (val j).cps.toList)):=fun i j vi vj s Q E hi hj h=>by
 obtain⟨t,rfl⟩:=hval i vi hi;obtain⟨u,rfl⟩:=hval j vj hj;exact MB h
theorem pQ {a b:Str} {t u:Tok} {Q:NS} (hh:A.handled=none)
  (h:∀h' tk,(∀ c o,s.heap.get? c=some o->h'.get? c=some o)->Q (if b.cps.toList < a.cps.toList then .str b u else .str a t) {s with heap:=h',toks:=tk}):
  wpAny (model prog w) A (call (.builtin "min") [.str a t,.str b u]) Q E s:=by
 have hT:(s.heap.push {cls:=.type "tuple",data:=.seq #[.str a t,.str b u]}).IsTuple s.heap.objs.size (aT #[(a,t),(b,u)]):=⟨_,JE _ rfl,rfl,0,by simp[aT]⟩;refine call_min_two (wpAny_pyIter_tuple hT ?_);have hsz:(s.heap.push {cls:=.type "tuple",data:=.seq #[.str a t,.str b u]}).objs.size=s.heap.objs.size + 1:=KH ..
 refine⟨_,[_,s.heap.objs.size],[_],_,_,_,_,rfl,Walks.tuple (A:=A.in1) hh _ s.heap.objs.size (by rw[hsz];exact JC (Kg _)) (aT #[(a,t),(b,u)]),
  ⟨⟨_,JE _ rfl,rfl,rfl⟩,hT.push _⟩,fun c hc=>?_,by simp[aT],AD (bO #[(a,t),(b,u)]) (fun _ _=>j9),fun v h' tk hP hk=>?_⟩
 ·show c < ((s.heap.push _).push _).objs.size;rw[KH,hsz];rcases Jx.mp hc with rfl | hc
  ·rw[hsz];exact Kg _
  ·rcases Jx.mp hc with rfl | hc
   ·exact J0 (Kg _)
   ·cases hc
 ·have hold:∀c o,s.heap.get? c=some o->h'.get? c=some o:=fun c o e=>by
   refine hk c o (fun hm=>?_) (Jq _ (Jq _ e));rcases Jx.mp hm with e1 | hm
   ·have:=Ju e;rw[e1,hsz]at this;exact LS _ (Nat.lt_of_succ_lt this)
   ·cases hm
  have:=h h' tk hold
  have hv:v=if b.cps.toList < a.cps.toList then Value.str b u else Value.str a t:=by
   have hP':(aT #[(a,t),(b,u)])[argBest (fun i j=>decide ((bO #[(a,t),(b,u)] i).cps.toList < (bO #[(a,t),(b,u)] j).cps.toList)) 1]?=some v:=by
    have hsz2:(aT #[(a,t),(b,u)]).size - 1=1:=by simp[aT]
    rw[<-hsz2];exact hP
   by_cases hba:b.cps.toList < a.cps.toList
   ·have e:argBest (fun i j=>decide ((bO #[(a,t),(b,u)] i).cps.toList < (bO #[(a,t),(b,u)] j).cps.toList)) 1=1:=by simp[argBest,bO,hba]
    rw[e]at hP';simpa[aT,hba]using hP'.symm
   ·have e:argBest (fun i j=>decide ((bO #[(a,t),(b,u)] i).cps.toList < (bO #[(a,t),(b,u)] j).cps.toList)) 1=0:=by simp[argBest,bO,hba]
    rw[e]at hP';simpa[aT,hba]using hP'.symm
  rw[hv];exact this
end dict
end PySem.Sg
namespace Sw
open PySem PySem.Spec PyProof.Rows L2
noncomputable abbrev Mo:=Addr->Option HO
noncomputable def rd (M:Mo) (H:Hp) (a:Addr):Option HO:=match H a with
 | some (.frz _ u)=>some u
 | some o=>some o
 | none=>M a
noncomputable def av (K:PySem.W.Frag) (M:Mo):Prop:=∀a o,M a=some o->match o with
 | .lst xs=>∃ (o:Obj) (aA:NV) (n:Nat),K.lookup a=some o/\o.cls=.type "list" /\o.dict=none/\o.data=.seq aA n/\aA.size<=sizeLine/\Vals xs aA.toList
 | .tup xs=>∃ (o:Obj) (aA:NV) (n:Nat),K.lookup a=some o/\o.cls=.type "tuple" /\o.data=.seq aA n/\aA.size<=sizeLine/\Vals xs aA.toList
 | _=>False
theorem lV {M:Mo} {H:Hp} {a:Addr} {u:HO} (h:rd M H a=some u):Rd H a u\/(H a=none/\M a=some u):=by
 unfold rd at h;cases e:H a with
 | none=>rw[e]at h;exact .inr ⟨rfl,h⟩
 | some o=>
  rw[e]at h;cases o<;>first | (injection h with h;subst h;exact .inl (.inl e)) | (injection h with h;subst h;exact .inl (.inr ⟨_,e⟩))
theorem bg {K:PySem.W.Frag} {M:Mo} (m:av K M) {H:Hp} {a:Addr} {xs:List V} (h:rd M H a=some (.lst xs)):j5 K H a xs:=by
 rcases lV h with h | ⟨_,h⟩
 ·exact .inl h
 ·exact .inr (m a _ h)
theorem cD {K:PySem.W.Frag} {M:Mo} (m:av K M) {H:Hp} {a:Addr} {xs:List V} (h:rd M H a=some (.tup xs)):xR K H a xs:=by
 rcases lV h with h | ⟨_,h⟩
 ·exact .inl h
 ·exact .inr (m a _ h)
noncomputable def allM {α:Type} (f:V->Option α):List V->Option (List α)
 | []=>some []
 | x::r=>match f x,allM f r with
  | some a,some l=>some (a::l)
  | _,_=>none
noncomputable def data (M:Mo) (H:Hp):Nat->V->Option PyData
 | _,.aQ=>some .none
 | _,.bl b=>some (.bool b)
 | _,.int i=>some (.int i)
 | _,.str x=>some (.str x)
 | n + 1,.ref p=>match rd M H p with
  | some (.lst xs)=>(allM (data M H n) xs).map .list
  | some (.tup xs)=>(allM (data M H n) xs).map .tuple
  | _=>none
 | _,_=>none
theorem allM_cons {α:Type} {f:V->Option α} {x:V} {r:List V} {l:List α} (h:allM f (x::r)=some l):∃a t,f x=some a/\allM f r=some t/\l=a::t:=by
 unfold allM at h;split at h
 ·rename_i a t h1 h2;exact⟨a,t,h1,h2,(JL h).symm⟩
 ·cases h
theorem allM_nil {α:Type} {f:V->Option α} {l:List α} (h:allM f []=some l):l=[]:=(JL h).symm
theorem nr {α:Type} {f:V->Option α}:∀ {xs:List V} {bs:List α} {i:Nat} {x:V},allM f xs=some bs->xs[i]?=some x->∃b,bs[i]?=some b/\f x=some b
 | [],bs,i,x,h,e=>by simp at e
 | y::r,bs,i,x,h,e=>by
  obtain⟨a,t,h1,h2,rfl⟩:=allM_cons h;cases i with
  | zero=>
   simp at e;subst e;exact⟨a,rfl,h1⟩
  | succ i=>exact nr (i:=i) h2 (by simpa using e)
theorem de {α:Type} {f:V->Option α}:∀ {xs:List V} {bs:List α},allM f xs=some bs->bs.length=xs.length
 | [],bs,h=>by rw[allM_nil h];rfl
 | y::r,bs,h=>by
  obtain⟨a,t,h1,h2,rfl⟩:=allM_cons h;simp[de h2]
theorem Vals.back {xs:List V} {us:NX} {i:Nat} {u:Value} (r:Vals xs us) (e:us[i]?=some u):∃x,xs[i]?=some x/\RelV x u:=by
 cases h:xs[i]? with
 | none=>
  have:=Vals.none_of r h;rw[this]at e;cases e
 | some x=>
  obtain⟨u',e',rx⟩:=Vals.get r h;rw[e']at e;cases e
  exact⟨x,rfl,rx⟩
theorem gL:∀ {xs:List PyData},(∀ d ∈ xs,PyData.eqv d d=true)->PyData.eqvAll xs xs=true
 | [],_=>rfl
 | x::r,h=>by
  rw[PyData.eqvAll,h x Js,gL fun d hd=>h d (Jo _ hd)];rfl
theorem mG {α:Type} {f:V->Option α}:∀ {xs:List V} {bs:List α} {b:α},allM f xs=some bs->b ∈ bs->∃x ∈ xs,f x=some b
 | [],bs,b,h,hb=>by rw[allM_nil h]at hb;cases hb
 | y::r,bs,b,h,hb=>by
  obtain⟨a,t,h1,h2,rfl⟩:=allM_cons h;rcases Jx.mp hb with rfl | hb
  ·exact⟨y,Js,h1⟩
  ·obtain⟨x,hx,e⟩:=mG h2 hb;exact⟨x,Jo _ hx,e⟩
theorem jY {M:Mo} {H:Hp}:∀ (n:Nat) (x:V) (d:PyData),data M H n x=some d->PyData.eqv d d=true:=by
 intro n
 induction n with
 | zero=>
  intro x d h;cases x<;>first | (cases h;simp[PyData.eqv]) | cases h
 | succ n ih=>
  intro x d h;cases x with
  | ref p=>
   unfold data at h;split at h
   ·obtain⟨l,hl,rfl⟩:=JW.mp h;rw[PyData.eqv]
    exact gL fun d hd=>by
     obtain⟨x,_,e⟩:=mG hl hd;exact ih x d e
   ·obtain⟨l,hl,rfl⟩:=JW.mp h;rw[PyData.eqv]
    exact gL fun d hd=>by
     obtain⟨x,_,e⟩:=mG hl hd;exact ih x d e
   ·cases h
  | _=>first | (cases h;simp[PyData.eqv]) | cases h
inductive Lies (M:Mo) (H:Hp) (h:Heap) (n:Nat):V->Value->PyData->Prop where
 | aQ:Lies M H h n .aQ .none .none
 | bl (b:Bool):Lies M H h n (.bl b) (.bool b) (.bool b)
 | int (i:Int) (t:Tok):Lies M H h n (.int i) (.int i t) (.int i)
 | str (x:Str) (t:Tok):Lies M H h n (.str x) (.str x t) (.str x)
 | lst {p:Addr} {xs:List V} {aA:NX} {l:List PyData} {m:Nat}:n=m + 1->h.IsList p aA.toArray->Vals xs aA->allM (data M H m) xs=some l->Lies M H h n (.ref p) (.ref p) (.list l)
 | tup {p:Addr} {xs:List V} {aA:NX} {l:List PyData} {m:Nat}:n=m + 1->h.IsTuple p aA.toArray->Vals xs aA->allM (data M H m) xs=some l->Lies M H h n (.ref p) (.ref p) (.tuple l)
section
open PySem.SeqAt
variable {X:Cx} {M:Mo} {pins:NT} {σ:L2.St} {H:Hp} {s:Shared}
theorem lies (m:av X.K M) (I:Inv X pins σ H s) {n:Nat} {x:V} {v:Value} {d:PyData} (rx:RelV x v) (h:data M H n x=some d):Lies M H s.heap n x v d:=by
 cases x with
 | aQ=>cases (show v=Value.none from rx);cases n<;>(cases h;exact .aQ)
 | bl b=>cases (show v=Value.bool b from rx);cases n<;>(cases h;exact .bl b)
 | int i=>obtain⟨t,e⟩:=(show ∃t,v=Value.int i t from rx);subst e;cases n<;>(cases h;exact .int i t)
 | str x=>obtain⟨t,e⟩:=(show ∃t,v=Value.str x t from rx);subst e;cases n<;>(cases h;exact .str x t)
 | ref p=>
  cases (show v=Value.ref p from rx)
  cases n with
  | zero=>cases h
  | succ n=>
   unfold data at h;split at h
   ·rename_i xs e;obtain⟨l,hl,rfl⟩:=JW.mp h;obtain⟨aA,rv,pl,_⟩:=I.list (bg m e);exact .lst rfl pl.isList rv hl
   ·rename_i xs e;obtain⟨l,hl,rfl⟩:=JW.mp h;obtain⟨aA,rv,pl,_⟩:=I.tuple (cD m e);exact .tup rfl pl rv hl
   ·cases h
 | _=>cases n<;>cases h
theorem hV {n:Nat} {A:Around} (ih:∀ (x y:V) (v u:Value) (d e:PyData),RelV x v->RelV y u->data M H n x=some d->data M H n y=some e->EqAt A s v u (PyData.eqv d e))
  {xs ys:List V} {vs us:NX} {l l':List PyData} (r1:Vals xs vs) (r2:Vals ys us) (h1:allM (data M H n) xs=some l) (h2:allM (data M H n) ys=some l'):
  ∀j (q1:j < vs.toArray.size) (q2:j < us.toArray.size),EqAt A s vs.toArray[j] us.toArray[j] (pairEq l l' j):=by
 intro j q1 q2;have q1':j < vs.length:=by simpa using q1
 have q2':j < us.length:=by simpa using q2
 obtain⟨x,ex,rx⟩:=Vals.back r1 (Jl q1');obtain⟨y,ey,ry⟩:=Vals.back r2 (Jl q2');obtain⟨d,ed,fd⟩:=nr h1 ex;obtain⟨e,ee,fe⟩:=nr h2 ey;have:=ih x y _ _ d e rx ry fd fe;show EqAt A s vs.toArray[j] us.toArray[j] (PyData.eqv (l.getD j .none) (l'.getD j .none));rw[Kw,Kw,ed,ee];simpa using this
theorem qX {n:Nat} {A:Around} (hu:A.units < cLine) (ih:∀ (x y:V) (v u:Value) (d e:PyData),RelV x v->RelV y u->data M H n x=some d->data M H n y=some e->EqAt A.in1 s v u (PyData.eqv d e))
  {p q:Addr} {xs ys:List V} {vs us:NX} {l l':List PyData} (hp:s.heap.IsList p vs.toArray) (hq:s.heap.IsList q us.toArray) (r1:Vals xs vs) (r2:Vals ys us) (h1:allM (data M H n) xs=some l) (h2:allM (data M H n) ys=some l'):
  RcAt A s (.ref p) (.ref q) (PyData.eqvAll l l')/\RcNeAt A s (.ref p) (.ref q) (!PyData.eqvAll l l'):=by
 have n1:vs.length=l.length:=by rw[de h1];exact r1.length.symm
 have n2:us.length=l'.length:=by rw[de h2];exact r2.length.symm
 by_cases hz:l.length=l'.length
 ·have hs:vs.toArray.size=us.toArray.size:=by simp;omega
  have e1:=RcAt.lists hp hq hs hu (hV ih r1 r2 h1 h2);have e2:=RcNeAt.lists hp hq hs hu (hV ih r1 r2 h1 h2);rw[JH,n1,eqvAll_same_length hz]at e1 e2;exact⟨e1,e2⟩
 ·have hs:(vs.toArray.size != us.toArray.size)=true:=by simp;omega
  rw[eqvAll_other_length hz];exact⟨RcAt.lists_lengths hp hq hs hu,RcNeAt.lists_lengths hp hq hs hu⟩
theorem ow {n:Nat} {A:Around} (hu:A.units < cLine) (ih:∀ (x y:V) (v u:Value) (d e:PyData),RelV x v->RelV y u->data M H n x=some d->data M H n y=some e->EqAt A.in1 s v u (PyData.eqv d e))
  {p q:Addr} {xs ys:List V} {vs us:NX} {l l':List PyData} (hp:s.heap.IsTuple p vs.toArray) (hq:s.heap.IsTuple q us.toArray) (r1:Vals xs vs) (r2:Vals ys us) (h1:allM (data M H n) xs=some l) (h2:allM (data M H n) ys=some l'):
  RcAt A s (.ref p) (.ref q) (PyData.eqvAll l l')/\RcNeAt A s (.ref p) (.ref q) (!PyData.eqvAll l l'):=by
 have n1:vs.length=l.length:=by rw[de h1];exact r1.length.symm
 have n2:us.length=l'.length:=by rw[de h2];exact r2.length.symm
 have e1:=RcAt.tuples hp hq hu (hV ih r1 r2 h1 h2);have e2:=RcNeAt.tuples hp hq hu (hV ih r1 r2 h1 h2);rw[JH,JH,n1,n2,eqvAll_eq]at e1 e2;exact⟨e1,e2⟩
theorem qW {n:Nat} {A:Around} {p q:Addr} {d e:PyData} (h1:data M H n (.ref p)=some d) (h2:data M H n (.ref q)=some e) (h:RcAt A s (.ref p) (.ref q) (PyData.eqv d e)):EqAt A s (.ref p) (.ref q) (PyData.eqv d e):=by
 by_cases hpq:p=q
 ·subst hpq;have hd:=h1.symm.trans h2;cases hd
  rw[jY _ _ _ h1];exact EqAt.same _
 ·exact EqAt.of_refs hpq h
theorem hZ (m:av X.K M) (I:Inv X pins σ H s):∀ (n:Nat) (A:Around) (x y:V) (v u:Value) (d e:PyData),A.units + n < cLine->RelV x v->RelV y u->data M H n x=some d->data M H n y=some e->EqAt A s v u (PyData.eqv d e):=by
 intro n
 induction n with
 | zero=>
  intro A x y v u d e hu rx ry h1 h2;cases lies m I rx h1 with
  | aQ=>
   cases lies m I ry h2 with
   | aQ=>exact EqAt.same _
   | bl b2=>exact EqAt.none_bool b2
   | int i2 t2=>exact EqAt.none_int i2 t2
   | str z2 t2=>exact EqAt.none_str z2 t2
   | lst z2 hl2 r2 a2=>exact absurd z2 (by omega)
   | tup z2 hl2 r2 a2=>exact absurd z2 (by omega)
  | bl b1=>
   cases lies m I ry h2 with
   | aQ=>exact EqAt.bool_none b1
   | bl b2=>exact EqAt.bool_bool b1 b2
   | int i2 t2=>exact EqAt.bool_int b1 i2 t2
   | str z2 t2=>exact EqAt.bool_str b1 z2 t2
   | lst z2 hl2 r2 a2=>exact absurd z2 (by omega)
   | tup z2 hl2 r2 a2=>exact absurd z2 (by omega)
  | int i1 t1=>
   cases lies m I ry h2 with
   | aQ=>exact EqAt.int_none i1 t1
   | bl b2=>exact EqAt.int_bool i1 t1 b2
   | int i2 t2=>exact EqAt.int_int i1 t1 i2 t2
   | str z2 t2=>exact EqAt.int_str i1 t1 z2 t2
   | lst z2 hl2 r2 a2=>exact absurd z2 (by omega)
   | tup z2 hl2 r2 a2=>exact absurd z2 (by omega)
  | str z1 t1=>
   cases lies m I ry h2 with
   | aQ=>exact EqAt.str_none z1 t1
   | bl b2=>exact EqAt.str_bool z1 t1 b2
   | int i2 t2=>exact EqAt.str_int z1 t1 i2 t2
   | str z2 t2=>exact EqAt.str_str z1 t1 z2 t2
   | lst z2 hl2 r2 a2=>exact absurd z2 (by omega)
   | tup z2 hl2 r2 a2=>exact absurd z2 (by omega)
  | lst z1 hl1 r1 a1=>
   exact absurd z1 (by omega)
  | tup z1 hl1 r1 a1=>
   exact absurd z1 (by omega)
 | succ n ih=>
  intro A x y v u d e hu rx ry h1 h2;have hu0:A.units < cLine:=by omega
  have ih1:∀ (x y:V) (v u:Value) (d e:PyData),RelV x v->RelV y u->data M H n x=some d->data M H n y=some e->EqAt A.in1 s v u (PyData.eqv d e):=
   fun x y v u d e=>ih A.in1 x y v u d e (by show A.units + 1 + n < cLine;omega)
  cases lies m I rx h1 with
  | aQ=>
   cases lies m I ry h2 with
   | aQ=>exact EqAt.same _
   | bl b2=>exact EqAt.none_bool b2
   | int i2 t2=>exact EqAt.none_int i2 t2
   | str z2 t2=>exact EqAt.none_str z2 t2
   | lst z2 hl2 r2 a2=>exact EqAt.none_list hl2 hu0
   | tup z2 hl2 r2 a2=>exact EqAt.none_tuple hl2 hu0
  | bl b1=>
   cases lies m I ry h2 with
   | aQ=>exact EqAt.bool_none b1
   | bl b2=>exact EqAt.bool_bool b1 b2
   | int i2 t2=>exact EqAt.bool_int b1 i2 t2
   | str z2 t2=>exact EqAt.bool_str b1 z2 t2
   | lst z2 hl2 r2 a2=>exact EqAt.bool_list b1 hl2 hu0
   | tup z2 hl2 r2 a2=>exact EqAt.bool_tuple b1 hl2 hu0
  | int i1 t1=>
   cases lies m I ry h2 with
   | aQ=>exact EqAt.int_none i1 t1
   | bl b2=>exact EqAt.int_bool i1 t1 b2
   | int i2 t2=>exact EqAt.int_int i1 t1 i2 t2
   | str z2 t2=>exact EqAt.int_str i1 t1 z2 t2
   | lst z2 hl2 r2 a2=>exact EqAt.int_list i1 t1 hl2 hu0
   | tup z2 hl2 r2 a2=>exact EqAt.int_tuple i1 t1 hl2 hu0
  | str z1 t1=>
   cases lies m I ry h2 with
   | aQ=>exact EqAt.str_none z1 t1
   | bl b2=>exact EqAt.str_bool z1 t1 b2
   | int i2 t2=>exact EqAt.str_int z1 t1 i2 t2
   | str z2 t2=>exact EqAt.str_str z1 t1 z2 t2
   | lst z2 hl2 r2 a2=>exact EqAt.str_list z1 t1 hl2 hu0
   | tup z2 hl2 r2 a2=>exact EqAt.str_tuple z1 t1 hl2 hu0
  | lst z1 hl1 r1 a1=>
   cases lies m I ry h2 with
   | aQ=>exact EqAt.list_none hl1 hu0
   | bl b2=>exact EqAt.list_bool b2 hl1 hu0
   | int i2 t2=>exact EqAt.list_int i2 t2 hl1 hu0
   | str z2 t2=>exact EqAt.list_str z2 t2 hl1 hu0
   | lst z2 hl2 r2 a2=>
    cases z1;cases z2
    exact qW h1 h2 (qX hu0 ih1 hl1 hl2 r1 r2 a1 a2).1
   | tup z2 hl2 r2 a2=>exact EqAt.list_tuple hl1 hl2 hu0
  | tup z1 hl1 r1 a1=>
   cases lies m I ry h2 with
   | aQ=>exact EqAt.tuple_none hl1 hu0
   | bl b2=>exact EqAt.tuple_bool b2 hl1 hu0
   | int i2 t2=>exact EqAt.tuple_int i2 t2 hl1 hu0
   | str z2 t2=>exact EqAt.tuple_str z2 t2 hl1 hu0
   | lst z2 hl2 r2 a2=>exact EqAt.tuple_list hl1 hl2 hu0
   | tup z2 hl2 r2 a2=>
    cases z1;cases z2
    exact qW h1 h2 (ow hu0 ih1 hl1 hl2 r1 r2 a1 a2).1
theorem ox (m:av X.K M) (I:Inv X pins σ H s) {n:Nat} {A:Around} {x y:V} {v u:Value} {d e:PyData} (hu:A.units + (n + 1) < cLine) (rx:RelV x v) (ry:RelV y u) (h1:data M H (n + 1) x=some d) (h2:data M H (n + 1) y=some e):
  RcAt A s v u (PyData.eqv d e)/\RcNeAt A s v u (!PyData.eqv d e):=by
 have hu0:A.units < cLine:=by omega
 have ih1:∀ (x y:V) (v u:Value) (d e:PyData),RelV x v->RelV y u->data M H n x=some d->data M H n y=some e->EqAt A.in1 s v u (PyData.eqv d e):=
  fun x y v u d e=>hZ m I n A.in1 x y v u d e (by show A.units + 1 + n < cLine;omega)
 cases lies m I rx h1 with
 | aQ=>
  cases lies m I ry h2 with
  | aQ=>exact⟨RcAt.none_none,RcNeAt.none_none⟩
  | bl b2=>exact⟨RcAt.none_bool b2,RcNeAt.none_bool b2⟩
  | int i2 t2=>exact⟨RcAt.none_int i2 t2,RcNeAt.none_int i2 t2⟩
  | str z2 t2=>exact⟨RcAt.none_str z2 t2,RcNeAt.none_str z2 t2⟩
  | lst z2 hl2 r2 a2=>exact⟨RcAt.none_list hl2 hu0,RcNeAt.none_list hl2 hu0⟩
  | tup z2 hl2 r2 a2=>exact⟨RcAt.none_tuple hl2 hu0,RcNeAt.none_tuple hl2 hu0⟩
 | bl b1=>
  cases lies m I ry h2 with
  | aQ=>exact⟨RcAt.bool_none b1,RcNeAt.bool_none b1⟩
  | bl b2=>exact⟨RcAt.bool_bool b1 b2,RcNeAt.bool_bool b1 b2⟩
  | int i2 t2=>exact⟨RcAt.bool_int b1 i2 t2,RcNeAt.bool_int b1 i2 t2⟩
  | str z2 t2=>exact⟨RcAt.bool_str b1 z2 t2,RcNeAt.bool_str b1 z2 t2⟩
  | lst z2 hl2 r2 a2=>exact⟨RcAt.bool_list b1 hl2 hu0,RcNeAt.bool_list b1 hl2 hu0⟩
  | tup z2 hl2 r2 a2=>exact⟨RcAt.bool_tuple b1 hl2 hu0,RcNeAt.bool_tuple b1 hl2 hu0⟩
 | int i1 t1=>
  cases lies m I ry h2 with
  | aQ=>exact⟨RcAt.int_none i1 t1,RcNeAt.int_none i1 t1⟩
  | bl b2=>exact⟨RcAt.int_bool i1 t1 b2,RcNeAt.int_bool i1 t1 b2⟩
  | int i2 t2=>exact⟨RcAt.int_int i1 t1 i2 t2,RcNeAt.int_int i1 t1 i2 t2⟩
  | str z2 t2=>exact⟨RcAt.int_str i1 t1 z2 t2,RcNeAt.int_str i1 t1 z2 t2⟩
  | lst z2 hl2 r2 a2=>exact⟨RcAt.int_list i1 t1 hl2 hu0,RcNeAt.int_list i1 t1 hl2 hu0⟩
  | tup z2 hl2 r2 a2=>exact⟨RcAt.int_tuple i1 t1 hl2 hu0,RcNeAt.int_tuple i1 t1 hl2 hu0⟩
 | str z1 t1=>
  cases lies m I ry h2 with
  | aQ=>exact⟨RcAt.str_none z1 t1,RcNeAt.str_none z1 t1⟩
  | bl b2=>exact⟨RcAt.str_bool z1 t1 b2,RcNeAt.str_bool z1 t1 b2⟩
  | int i2 t2=>exact⟨RcAt.str_int z1 t1 i2 t2,RcNeAt.str_int z1 t1 i2 t2⟩
  | str z2 t2=>exact⟨RcAt.str_str z1 t1 z2 t2,RcNeAt.str_str z1 t1 z2 t2⟩
  | lst z2 hl2 r2 a2=>exact⟨RcAt.str_list z1 t1 hl2 hu0,RcNeAt.str_list z1 t1 hl2 hu0⟩
  | tup z2 hl2 r2 a2=>exact⟨RcAt.str_tuple z1 t1 hl2 hu0,RcNeAt.str_tuple z1 t1 hl2 hu0⟩
 | lst z1 hl1 r1 a1=>
  cases lies m I ry h2 with
  | aQ=>exact⟨RcAt.list_none hl1 hu0,RcNeAt.list_none hl1 hu0⟩
  | bl b2=>exact⟨RcAt.list_bool b2 hl1 hu0,RcNeAt.list_bool b2 hl1 hu0⟩
  | int i2 t2=>exact⟨RcAt.list_int i2 t2 hl1 hu0,RcNeAt.list_int i2 t2 hl1 hu0⟩
  | str z2 t2=>exact⟨RcAt.list_str z2 t2 hl1 hu0,RcNeAt.list_str z2 t2 hl1 hu0⟩
  | lst z2 hl2 r2 a2=>
   cases z1;cases z2
   exact qX hu0 ih1 hl1 hl2 r1 r2 a1 a2
  | tup z2 hl2 r2 a2=>exact⟨RcAt.list_tuple hl1 hl2 hu0,RcNeAt.list_tuple hl1 hl2 hu0⟩
 | tup z1 hl1 r1 a1=>
  cases lies m I ry h2 with
  | aQ=>exact⟨RcAt.tuple_none hl1 hu0,RcNeAt.tuple_none hl1 hu0⟩
  | bl b2=>exact⟨RcAt.tuple_bool b2 hl1 hu0,RcNeAt.tuple_bool b2 hl1 hu0⟩
  | int i2 t2=>exact⟨RcAt.tuple_int i2 t2 hl1 hu0,RcNeAt.tuple_int i2 t2 hl1 hu0⟩
  | str z2 t2=>exact⟨RcAt.tuple_str z2 t2 hl1 hu0,RcNeAt.tuple_str z2 t2 hl1 hu0⟩
  | lst z2 hl2 r2 a2=>exact⟨RcAt.tuple_list hl1 hl2 hu0,RcNeAt.tuple_list hl1 hl2 hu0⟩
  | tup z2 hl2 r2 a2=>
   cases z1;cases z2
   exact ow hu0 ih1 hl1 hl2 r1 r2 a1 a2
end
section
variable (M:Mo)
noncomputable def qh (i:Int):Bool:=decide (-(2 ^ 64) < i) && decide (i < 2 ^ 64)
noncomputable def nh (op:Operator) (x y:V) (H:Hp) (Q:VK):Prop:=match op,x,y with
 | .Add,.int i,.int j=>Q (.int (i + j)) H
 | .Add,.ref a,.ref b=>match rd M H a,rd M H b with
  | some (.lst xs),some (.lst ys)=>xs.length + ys.length<=sizeLine/\∀p,H p=none->M p=none->Q (.ref p) (upd H p (.lst (xs++ys)))
  | _,_=>False
 | .Sub,.int i,.int j=>Q (.int (i - j)) H
 | .Mult,.int i,.int j=>(qh i || qh j)=true/\Q (.int (i * j)) H
 | .FloorDiv,.int i,.int j=>0 < j/\j < 1073741824/\Q (.int (i / j)) H
 | .Mod,.int i,.int j=>0 < j/\Q (.int (i % j)) H
 | .Pow,.int i,.int j=>E6 i j/\Q (.int (i ^ j.toNat)) H
 | _,_,_=>False
noncomputable def cT (op:CmpOp) (x y:V) (H:Hp) (Q:VK):Prop:=match op,x,y with
 | .Eq,_,_=>if jg x y=true then Q (.bl (decide (x=y))) H else match data M H 16 x,data M H 16 y with
  | some d,some e=>Q (.bl (PyData.eqv d e)) H
  | _,_=>False
 | .NotEq,_,_=>if jg x y=true then Q (.bl (!decide (x=y))) H else match data M H 16 x,data M H 16 y with
  | some d,some e=>Q (.bl (!PyData.eqv d e)) H
  | _,_=>False
 | .Lt,.int i,.int j=>Q (.bl (decide (i < j))) H
 | .Gt,.int i,.int j=>Q (.bl (decide (j < i))) H
 | .GtE,.int i,.int j=>Q (.bl (decide (j<=i))) H
 | .Lt,.str i,.str j=>Q (.bl (decide (i.cps.toList < j.cps.toList))) H
 | .Gt,.str i,.str j=>Q (.bl (decide (j.cps.toList < i.cps.toList))) H
 | .GtE,.str i,.str j=>Q (.bl (!decide (i.cps.toList < j.cps.toList))) H
 | .In,.str i,.str j=>Q (.bl (!(Builtin.Str.occurrences j i 0 j.length 1).isEmpty)) H
 | .NotIn,.str i,.str j=>Q (.bl (!(!(Builtin.Str.occurrences j i 0 j.length 1).isEmpty))) H
 | .In,_,.ref p=>match rd M H p with
  | some (.lst xs)=>bh x=true/\xs.all bh=true/\Q (.bl (rR x xs)) H
  | some (.tup xs)=>bh x=true/\xs.all bh=true/\Q (.bl (rR x xs)) H
  | _=>False
 | .NotIn,_,.ref p=>match rd M H p with
  | some (.lst xs)=>bh x=true/\xs.all bh=true/\Q (.bl (!rR x xs)) H
  | some (.tup xs)=>bh x=true/\xs.all bh=true/\Q (.bl (!rR x xs)) H
  | _=>False
 | .IsNot,_,.aQ=>Q (.bl (!decide (x=.aQ))) H
 | _,_,_=>False
noncomputable def dS (x:V) (H:Hp) (Q:Bool->Prop):Prop:=match x with
 | .aQ=>Q false
 | .bl b=>Q b
 | .int i=>Q (i != 0)
 | .str y=>y.length<=sizeLine/\Q ((y.length:Int) != 0)
 | .ref p=>match rd M H p with
  | some (.lst xs)=>Q (!xs.isEmpty)
  | some (.tup xs)=>Q (!xs.isEmpty)
  | _=>False
 | _=>False
noncomputable def c_ (x y:V) (H:Hp) (Q:VK):Prop:=match x,y with
 | .str z,.int i=>z.length<=sizeLine/\match k_ z.cps.toList i with | some c=>Q (.str ⟨#[c]⟩) H | none=>False
 | .ref p,.int i=>match rd M H p with
  | some (.lst xs)=>match k_ xs i with | some v=>Q v H | none=>False
  | some (.tup xs)=>match k_ xs i with | some v=>Q v H | none=>False
  | _=>False
 | _,_=>False
end
section
variable {X:Cx} {M:Mo}
theorem EI {i j:Int} (h:(qh i || qh j)=true):CN i j:=by
 unfold qh at h;simp only[Bool.or_eq_true,J6,KQ]at h;exact h
noncomputable def iU (M:Mo) (H:Hp):Prop:=∀a,M a ≠ none->H a=none
theorem av.look {K:PySem.W.Frag} {M:Mo} (m:av K M) {a:Addr} (h:M a ≠ none):∃o,K.lookup a=some o:=by
 cases e:M a with
 | none=>exact absurd e h
 | some u=>
  have z:=m a u e;cases u<;>first | exact z.elim | (obtain⟨o,_,_,h1,_⟩:=z;exact⟨o,h1⟩)
theorem Inv.tE (m:av X.K M) {pins:NT} {σ:L2.St} {H:Hp} {s:Shared} (I:Inv X pins σ H s):iU M H:=fun a h=>by
 obtain⟨o,e⟩:=m.look h;exact(I.bs a o (I.ok.mod.FZ a o e)).2
theorem iU.new {H:Hp} {p:Addr} {o:HO} (h:iU M (upd H p o)):M p=none:=by
 cases e:M p with
 | none=>rfl
 | some u=>
  have z:=h p (by rw[e];intro z;cases z);rw[ae]at z;cases z
theorem p_ (m:av X.K M) {pins:NT} {σ:L2.St} {Q:VK} {u:Value} {s:Shared} (h:EP X pins σ (fun v H'=>iU M H'->Q v H') u s):EP X pins σ Q u s:=by
 obtain⟨v,H',I,r,q⟩:=h;exact⟨v,H',I,r,q (Inv.tE m I)⟩
theorem xE (m:av X.K M) {pins:NT} {s:Shared} {σ:L2.St} {H:Hp} {l b:Addr} {xs ys:List V} {Q:VK} (I:Inv X pins σ H s) (ha:j5 X.K H l xs) (hb:j5 X.K H b ys) (hz:xs.length + ys.length<=sizeLine)
  (h:∀p,H p=none->M p=none->Q (.ref p) (upd H p (.lst (xs++ys)))):wpAny (model X.prog X.w) X.A (binaryOp .Add (.ref l) (.ref b)) (EP X pins σ Q) X.xe s:=by
 obtain⟨aA,r1,p1,_⟩:=I.list ha;obtain⟨its2,r2,p2,_⟩:=I.list hb;obtain⟨⟨c1,d1,da1,sl1⟩,n1,o1,hc1,hd1,hda1⟩:=p1;obtain⟨⟨c2,d2,da2,sl2⟩,n2,o2,hc2,hd2,hda2⟩:=p2;simp only at hc1 hda1 hc2 hda2;subst hc1 hda1 hc2 hda2;have hsz:aA.toArray.size + its2.toArray.size<=sizeLine:=by rw[JH,JH,<-r1.length,<-r2.length];exact hz
 refine concat_meets ⟨_,o1,rfl⟩ ⟨_,o2,rfl⟩ noFill_list_add seq_list_add PySem.F.slot_list_add PySem.F.entry_list_add (PySem.F.args_list_add_2 _ _) (list_addW l b aA.toArray its2.toArray n1 n2 d1 d2 sl1 sl2 hsz) ⟨o1,o2,?_⟩;have ea:aA.toArray++its2.toArray=(aA++its2).toArray:=by simp
 rw[ea];have I2:=I.HH (t':=s.toks) (r1.append r2) (by rw[Jw];exact hz);exact⟨.ref _,_,I2,rfl,h _ I.fresh (iU.new (Inv.tE m I2))⟩
theorem EK (m:av X.K M) (op:Operator):jI X (binaryOp op) (nh M op):=by
 intro pins s σ H x y v u Q I rx ry h;cases op with
 | Add=>
  cases x with
  | int i=>
   cases y with
   | int j=>
    exact DW pins s σ H _ _ v u Q I rx ry ⟨_,_,rfl,rfl,h⟩
   | _=>exact False.elim h
  | ref a=>
   cases y with
   | ref b=>
    unfold nh at h;dsimp only at h;split at h
    ·rename_i xs ys ea eb;cases rx
     cases ry
     exact xE m I (bg m ea) (bg m eb) h.1 h.2
    ·exact h.elim
   | _=>exact False.elim h
  | _=>first | exact False.elim h | (cases y<;>exact False.elim h)
 | Sub=>
  cases x with
  | int i=>
   cases y with
   | int j=>
    exact DS pins s σ H _ _ v u Q I rx ry ⟨_,_,rfl,rfl,h⟩
   | _=>exact False.elim h
  | _=>first | exact False.elim h | (cases y<;>exact False.elim h)
 | Mult=>
  cases x with
  | int i=>
   cases y with
   | int j=>
    exact DU pins s σ H _ _ v u Q I rx ry ⟨_,_,rfl,rfl,EI h.1,h.2⟩
   | _=>exact False.elim h
  | _=>first | exact False.elim h | (cases y<;>exact False.elim h)
 | FloorDiv=>
  cases x with
  | int i=>
   cases y with
   | int j=>
    exact B1 pins s σ H _ _ v u Q I rx ry ⟨_,_,rfl,rfl,⟨h.1,h.2.1⟩,h.2.2⟩
   | _=>exact False.elim h
  | _=>first | exact False.elim h | (cases y<;>exact False.elim h)
 | Mod=>
  cases x with
  | int i=>
   cases y with
   | int j=>
    exact DV pins s σ H _ _ v u Q I rx ry ⟨_,_,rfl,rfl,h.1,h.2⟩
   | _=>exact False.elim h
  | _=>first | exact False.elim h | (cases y<;>exact False.elim h)
 | Pow=>
  cases x with
  | int i=>
   cases y with
   | int j=>
    exact DT pins s σ H _ _ v u Q I rx ry ⟨_,_,rfl,rfl,h.1,h.2⟩
   | _=>exact False.elim h
  | _=>first | exact False.elim h | (cases y<;>exact False.elim h)
 | _=>exact False.elim h
theorem zZ {op:CmpOp} {x y:V} {H:Hp} {Q:VK} (h:cT M op x y H Q) (e:op=.In\/op=.NotIn):(∃ i j,x=.str i/\y=.str j)\/∃p,y=.ref p:=by
 cases y with
 | ref p=>exact .inr ⟨p,rfl⟩
 | str j=>cases x with
  | str i=>exact .inl ⟨i,j,rfl,rfl⟩
  | _=>rcases e with e | e<;>(subst e;exact False.elim h)
 | _=>rcases e with e | e<;>(subst e;cases x<;>exact False.elim h)
theorem Eu {op:CmpOp} {x y:V} {H:Hp} {Q:VK} (h:cT M op x y H Q) (e:op=.Is\/op=.IsNot):y=.aQ:=by
 cases y with
 | aQ=>rfl
 | _=>rcases e with e | e<;>(subst e;first | exact False.elim h | (cases x<;>exact False.elim h))
theorem tO {op:CmpOp} {x y:V} {H:Hp} {Q:VK} (h:cT M op x y H Q) (e:op=.Lt\/op=.LtE\/op=.Gt\/op=.GtE):(∃ i j,x=.int i/\y=.int j)\/∃i j,x=.str i/\y=.str j:=by
 cases x with
 | int i=>cases y with
  | int j=>exact .inl ⟨i,j,rfl,rfl⟩
  | _=>rcases e with e | e | e | e<;>(subst e;exact False.elim h)
 | str i=>cases y with
  | str j=>exact .inr ⟨i,j,rfl,rfl⟩
  | _=>rcases e with e | e | e | e<;>(subst e;exact False.elim h)
 | _=>rcases e with e | e | e | e<;>(subst e;exact False.elim h)
theorem AE (hu:X.A.units + 64 < cLine) (m:av X.K M) (op:CmpOp):jI X (compareOp op) (cT M op):=by
 intro pins s σ H x y v u Q I rx ry h;cases op with
 | Eq=>
  by_cases hs:jg x y=true
  ·exact FP pins s σ H _ _ v u Q I rx ry ⟨hs,Eq.mp (Jj hs) (show(if jg x y=true then _ else _)from h)⟩
  ·have h:=Eq.mp (Ji hs) (show(if jg x y=true then _ else _)from h);split at h
   ·rename_i d e h1 h2;exact(ox (n:=15) m I (by omega) rx ry h1 h2).1 X.prog X.w X.xe _ ⟨.bl _,H,I,rfl,h⟩
   ·exact h.elim
 | NotEq=>
  by_cases hs:jg x y=true
  ·exact FK pins s σ H _ _ v u Q I rx ry ⟨hs,Eq.mp (Jj hs) (show(if jg x y=true then _ else _)from h)⟩
  ·have h:=Eq.mp (Ji hs) (show(if jg x y=true then _ else _)from h);split at h
   ·rename_i d e h1 h2;exact(ox (n:=15) m I (by omega) rx ry h1 h2).2 X.prog X.w X.xe _ ⟨.bl _,H,I,rfl,h⟩
   ·exact h.elim
 | Lt=>
  obtain⟨i,j,rfl,rfl⟩ | ⟨i,j,rfl,rfl⟩:=tO h (.inl rfl)
  ·exact FL pins s σ H _ _ v u Q I rx ry ⟨_,_,rfl,rfl,h⟩
  ·exact wy pins s σ H _ _ v u Q I rx ry ⟨_,_,rfl,rfl,h⟩
 | Gt=>
  obtain⟨i,j,rfl,rfl⟩ | ⟨i,j,rfl,rfl⟩:=tO h (.inr (.inr (.inl rfl)))
  ·exact FN pins s σ H _ _ v u Q I rx ry ⟨_,_,rfl,rfl,h⟩
  ·obtain⟨t,rfl⟩:=rx;obtain⟨t',rfl⟩:=ry;exact PySem.P.gt_str (aJ I h rfl)
 | GtE=>
  obtain⟨i,j,rfl,rfl⟩ | ⟨i,j,rfl,rfl⟩:=tO h (.inr (.inr (.inr rfl)))
  ·exact FO pins s σ H _ _ v u Q I rx ry ⟨_,_,rfl,rfl,h⟩
  ·obtain⟨t,rfl⟩:=rx;obtain⟨t',rfl⟩:=ry;exact NO (aJ I h rfl)
 | In=>
  obtain⟨i,j,rfl,rfl⟩ | ⟨p,rfl⟩:=zZ h (.inl rfl)
  ·exact wz pins s σ H _ _ v u Q I rx ry ⟨_,_,rfl,rfl,h⟩
  ·have h:(match rd M H p with
    | some (.lst xs)=>bh x=true/\xs.all bh=true/\Q (.bl (rR x xs)) H
    | some (.tup xs)=>bh x=true/\xs.all bh=true/\Q (.bl (rR x xs)) H
    | _=>False):=by cases x<;>exact h
   split at h
   ·rename_i e;exact oA pins s σ H _ _ v u Q I rx ry ⟨_,_,rfl,.inl (bg m e),h.1,h.2.1,h.2.2⟩
   ·rename_i e;exact oA pins s σ H _ _ v u Q I rx ry ⟨_,_,rfl,.inr (cD m e),h.1,h.2.1,h.2.2⟩
   ·exact h.elim
 | NotIn=>
  obtain⟨i,j,rfl,rfl⟩ | ⟨p,rfl⟩:=zZ h (.inr rfl)
  ·exact pO pins s σ H _ _ v u Q I rx ry ⟨_,_,rfl,rfl,h⟩
  ·have h:(match rd M H p with
    | some (.lst xs)=>bh x=true/\xs.all bh=true/\Q (.bl (!rR x xs)) H
    | some (.tup xs)=>bh x=true/\xs.all bh=true/\Q (.bl (!rR x xs)) H
    | _=>False):=by cases x<;>exact h
   split at h
   ·rename_i e;exact jk pins s σ H _ _ v u Q I rx ry ⟨_,_,rfl,.inl (bg m e),h.1,h.2.1,h.2.2⟩
   ·rename_i e;exact jk pins s σ H _ _ v u Q I rx ry ⟨_,_,rfl,.inr (cD m e),h.1,h.2.1,h.2.2⟩
   ·exact h.elim
 | IsNot=>
  obtain rfl:=Eu h (.inr rfl);exact B0 pins s σ H _ _ v u Q I rx ry ⟨rfl,by cases x<;>exact h⟩
 | _=>exact False.elim h
theorem Ds (m:av X.K M):GJ X (fun x H Q=>dS M x H fun k=>Q k H):=by
 intro pins s σ H x v Q I rx h;refine Dq pins s σ H x v Q I rx ?_;unfold dS at h;split at h
 ·exact⟨_,rfl,h⟩
 ·exact⟨_,rfl,h⟩
 ·exact⟨_,rfl,h⟩
 ·exact⟨_,⟨h.1,rfl⟩,h.2⟩
 ·split at h
  ·rename_i e;exact⟨_,.inl ⟨_,bg m e,rfl⟩,h⟩
  ·rename_i e;exact⟨_,.inr (.inl ⟨_,cD m e,rfl⟩),h⟩
  ·exact h.elim
 ·exact h.elim
theorem Ez (m:av X.K M):AR X (c_ M):=by
 intro value slice pins s σ H x y v u Q I rx ry h hs;refine Et value slice pins s σ H x y v u Q I rx ry ?_ hs;unfold c_ at h;split at h
 ·obtain⟨h1,h⟩:=h;split at h
  ·rename_i e;exact .inr (.inr ⟨_,_,_,rfl,rfl,h1,e,h⟩)
  ·exact h.elim
 ·split at h
  ·rename_i e;split at h
   ·rename_i e2;exact .inl ⟨_,_,_,_,rfl,rfl,bg m e,e2,h⟩
   ·exact h.elim
  ·rename_i e;split at h
   ·rename_i e2;exact .inr (.inl ⟨_,_,_,_,rfl,rfl,cD m e,e2,h⟩)
   ·exact h.elim
  ·exact h.elim
 ·exact h.elim
end
inductive Bf where | len | all | any | str | int | abs | sorted | sortset | list | tuple | max | min | sum | dlen | dsorted | smin
 deriving DecidableEq
noncomputable def Bf.name:Bf->Str
 | .len=> "len" | .all=> "all" | .any=> "any" | .str=> "str" | .int=> "int" | .abs=> "abs" | .sorted=> "sorted" | .sortset=> "sorted" | .list=> "list" | .tuple=> "tuple" | .max=> "max" | .min=> "min" | .sum=> "sum" | .dlen=> "len" | .dsorted=> "sorted" | .smin=> "min"
inductive Mf where | startswith | endswith | split | join | append | pop | extend | clear | dpop | dclear | copy | setdefault | get
 deriving DecidableEq
noncomputable def Mf.name:Mf->Str
 | .startswith=> "startswith" | .endswith=> "endswith" | .split=> "split" | .join=> "join" | .append=> "append" | .pop=> "pop" | .extend=> "extend" | .clear=> "clear" | .dpop=> "pop" | .dclear=> "clear" | .copy=> "copy" | .setdefault=> "setdefault" | .get=> "get"
inductive B2 where | sortT | sortM | sortN | sortP
 deriving DecidableEq
noncomputable def B2.name:B2->Str
 | .sortT=> "sorted" | .sortM=> "sorted" | .sortN=> "sorted" | .sortP=> "sorted"
mutual
inductive Ex where
 | var (i:Nat) | con (v:V) | glob (x:Str)
 | bin (op:Operator) (a b:Ex) | neg (a:Ex)
 | cmp (op:CmpOp) (a b:Ex)
 | and (a b:Ex) | or (a b:Ex) | not (a:Ex)
 | ite (c a b:Ex)
 | call (f:Str) (args:lq)
 | blt (f:Bf) (args:lq)
 | mth (m:Mf) (o:Ex) (args:lq)
 | idx (a b:Ex)
 | slc (a:Ex) (lo hi:lq)
 | tup (es:lq) | lst (es:lq)
 | comp (x:Str) (fv:List (Str × Nat)) (it:Ix) (elt:Ex) (ifs:lq)
 | cmpD (op:CmpOp) (a b:Ex) | idxD (a b:Ex) | dnew
 | blt2 (f:B2) (a:Ex)
 | smax (a b:Ex) | cmpP (a b:Ex)
 | cmpI (op:CmpOp) (a b:Ex) | xors (i j:Nat)
 | compZ (xs:NW) (fv:List (Str × Nat)) (a b:Ex) (elt:Ex)
 | compU (xs:NW) (fv:List (Str × Nat)) (it:Ix) (elt:Ex) (ifs:lq)
inductive lq where
 | nil | cons (e:Ex) (r:lq)
inductive Ix where
 | ex (e:Ex) | rng1 (a:Ex)
end
mutual
inductive Sx where
 | asg (i:Nat) (e:Ex)
 | exp (e:Ex) | ret (e:Ex) | retK (e:Ex) (kp:Pos) (le:Expr)
 | iff (c:Ex) (a b:fh)
 | whl (c:Ex) (b:fh)
 | fr (i:Nat) (it:Ix) (b:fh)
 | sto (o i e:Ex) | asgT (is:List Nat) (e:Ex) | frT (is:List Nat) (it:Ix) (b:fh)
inductive fh where
 | nil | cons (s:Sx) (r:fh)
end
noncomputable def gK (sc:Scope) (x:Str):Bool:=match sc.names.lookup x with
 | some .local=>true | some .cell=>true | some .free=>true | _=>false
noncomputable def iB (sc:Scope) (x:Str):Bool:=match sc.names.lookup x with
 | some .local=>true | some .cell=>true | _=>false
noncomputable def gu (sc:Scope) (x:Str):Bool:=match sc.names.lookup x with
 | some .globalImplicit=>true | _=>false
noncomputable def cF (x:Str):Bool:=!(x == ("__debug__" :Str)) && !(x == ("__classdict__" :Str)) && !(decide (x= "__name__"))
noncomputable def aW:Expr->Bool
 | .Starred _ _=>false | .Set _ _ _=>false | .Slice _ _ _ _=>false | _=>true
noncomputable def jn:Expr->Bool
 | .Call (.Name _ _) [] [] _=>false | _=>true
noncomputable def bM (sc:Scope) (aY:Scope) (N ns:NW) (fv:List (Str × Nat)):Bool:=
 decide (aY.kind=.function) && ns.all (fun x=>decide (aY.names.lookup x=some .local)) && decide (sc.kind=.function)
 && aY.names.all (fun y=>decide (y.2 ≠ .cell) && (decide (y.2 ≠ .local) || decide (aY.names.lookup y.1=some .local)) && (decide (y.2 ≠ .free) || (decide (sc.names.lookup y.1=some .cell) || decide (sc.names.lookup y.1=some .free))))
 && fv.all (fun y=>decide (N[y.2]?=some y.1) && decide (aY.names.lookup y.1=some .free))
 && decide (ns++fv.map (·.1)).Nodup
noncomputable def ek:Expr->NZ
 | .BoolOp _ vs _=>vs
 | .BinOp a _ b _=>[a,b]
 | .UnaryOp _ a _=>[a]
 | .IfExp c a b _=>[c,a,b]
 | .Dict ks vs _=>((ks.zip vs).map fun t=>[t.1.getD default,t.2]).flatten
 | .ListComp e gs _ _=>e::(gs.map fun g=>g.target::g.iter::g.ifs).flatten
 | .Compare a _ bs _=>a::bs
 | .Call f es _ _=>f::es
 | .FormattedValue a _ _ _=>[a]
 | .JoinedStr vs _=>vs
 | .Attribute a _ _=>[a]
 | .Subscript a b _=>[a,b]
 | .List es _=>es
 | .Tuple es _ _=>es
 | .Slice l u _ _=>[l.getD default,u.getD default]
 | _=>[]
noncomputable def kd:Expr->Nat
 | .Constant _ k _=>k
 | .Tuple _ k _=>k
 | _=>0
noncomputable def aY:Expr->Scope
 | .ListComp _ _ sc _=>sc
 | _=>default
noncomputable def aR (e:Expr) (i:Nat):Expr:=(ek e).getD i default
noncomputable def se:Stmt->NZ
 | .Return v _=>[v.getD default]
 | .Assign ts v _=>ts++[v]
 | .For t it _ _ _=>[t,it]
 | .While c _ _ _=>[c]
 | .If c _ _ _=>[c]
 | .Raise e c _=>[e.getD default,c.getD default]
 | .Try _ hs _ _ _=>hs.map fun h=>match h with | .ExceptHandler t _ _ _=>t.getD default
 | .Expr v _=>[v]
 | _=>[]
noncomputable def sb:Stmt->List Stmt × List Stmt
 | .For _ _ b _ _=>(b,[])
 | .While _ b _ _=>(b,[])
 | .If _ a b _=>(a,b)
 | .Try b hs _ _ _=>(b,(hs.map fun h=>match h with | .ExceptHandler _ _ b _=>b).flatten)
 | _=>([],[])
noncomputable def sk (s:Stmt) (i:Nat):Expr:=(se s).getD i default
noncomputable def nx (N:NW) (i:Nat):Str:=N.getD i Str.empty
noncomputable def IK:V->Const
 | .int i=>.int i | .str x=>.str x | .bl b=>.bool b | _=>.none
noncomputable def IJ:V->Bool
 | .int _=>true | .str _=>true | .bl _=>true | .aQ=>true | _=>false
noncomputable def zW:Ex->Bool
 | .and _ _=>true | _=>false
noncomputable def Ew:Ex->Bool
 | .or _ _=>true | _=>false
noncomputable def iO:Ex->Bool
 | .comp _ _ _ _ _=>true | .compU _ _ _ _ _=>true | .compZ _ _ _ _ _=>true | _=>false
noncomputable def vm:Ex->Bool
 | _=>false
noncomputable def isTup:Ex->Bool
 | .tup _=>true | _=>false
noncomputable def lq.len:lq->Nat
 | .nil=>0
 | .cons _ r=>r.len + 1
noncomputable def isIn (fv:List (Str × Nat)) (x:Str):NW:=x::fv.map (·.1)
noncomputable def ff (fv:List (Str × Nat)) (xs:NW):NW:=xs++fv.map (·.1)
noncomputable def bN (N:NW):List Nat->List Expr->NZ
 | [],_=>[]
 | i::is,ts=>.Name (nx N i) (ts.headD default).pos::bN N is ts.tail
mutual
noncomputable def bE (N:NW):Ex->Expr->Expr
 | .var i,e=>.Name (nx N i) e.pos
 | .con v,e=>.Constant (IK v) (kd e) e.pos
 | .glob x,e=>.Name x e.pos
 | .bin op a b,e=>.BinOp (bE N a (aR e 0)) op (bE N b (aR e 1)) e.pos
 | .neg a,e=>.UnaryOp .USub (bE N a (aR e 0)) e.pos
 | .cmp op a b,e=>.Compare (bE N a (aR e 0)) [op] [bE N b (aR e 1)] e.pos
 | .and a b,e=>.BoolOp .And (bE N a (aR e 0)::(cond (decide ((ek e).length=2)) [bE N b (aR e 1)] (ek (bE N b (.BoolOp .And (ek e).tail e.pos))))) e.pos
 | .or a b,e=>.BoolOp .Or (bE N a (aR e 0)::(cond (decide ((ek e).length=2)) [bE N b (aR e 1)] (ek (bE N b (.BoolOp .Or (ek e).tail e.pos))))) e.pos
 | .not a,e=>.UnaryOp .Not (bE N a (aR e 0)) e.pos
 | .ite c a b,e=>.IfExp (bE N c (aR e 0)) (bE N a (aR e 1)) (bE N b (aR e 2)) e.pos
 | .call f args,e=>.Call (.Name f (aR e 0).pos) (nW N args (ek e).tail) [] e.pos
 | .blt f args,e=>.Call (.Name f.name (aR e 0).pos) (nW N args (ek e).tail) [] e.pos
 | .mth m o args,e=>.Call (.Attribute (bE N o (aR (aR e 0) 0)) m.name (aR e 0).pos) (nW N args (ek e).tail) [] e.pos
 | .idx a b,e=>.Subscript (bE N a (aR e 0)) (bE N b (aR e 1)) e.pos
 | .slc a lo hi,e=>.Subscript (bE N a (aR e 0)) (.Slice (nW N lo [aR (aR e 1) 0]).head? (nW N hi [aR (aR e 1) 1]).head? none (aR e 1).pos) e.pos
 | .tup es,e=>.Tuple (nW N es (ek e)) (kd e) e.pos
 | .lst es,e=>.List (nW N es (ek e)) e.pos
 | .comp x fv it elt ifs,e=>.ListComp (bE (isIn fv x) elt (aR e 0)) [⟨.Name x (aR e 1).pos,bI N it (aR e 2),nW (isIn fv x) ifs ((ek e).drop 3),0⟩] (aY e) e.pos
 | .cmpD op a b,e=>.Compare (bE N a (aR e 0)) [op] [bE N b (aR e 1)] e.pos
 | .idxD a b,e=>.Subscript (bE N a (aR e 0)) (bE N b (aR e 1)) e.pos
 | .dnew,e=>.Dict [] [] e.pos
 | .blt2 f a,e=>.Call (.Name f.name (aR e 0).pos) [bE N a (aR e 1)] [] e.pos
 | .smax a b,e=>.Call (.Name "max" (aR e 0).pos) [bE N a (aR e 1),bE N b (aR e 2)] [] e.pos
 | .cmpP a b,e=>.Compare (bE N a (aR e 0)) [.GtE] [bE N b (aR e 1)] e.pos
 | .cmpI op a b,e=>.Compare (bE N a (aR e 0)) [op] [bE N b (aR e 1)] e.pos
 | .xors i j,e=>.Call (.Name "sorted" (aR e 0).pos) [.BinOp (.Call (.Name "set" (aR (aR (aR e 1) 0) 0).pos) [.Name (nx N i) (aR (aR (aR e 1) 0) 1).pos] [] (aR (aR e 1) 0).pos) .BitXor (.Call (.Name "set" (aR (aR (aR e 1) 1) 0).pos) [.Name (nx N j) (aR (aR (aR e 1) 1) 1).pos] [] (aR (aR e 1) 1).pos) (aR e 1).pos] [] e.pos
 | .compZ xs fv a b elt,e=>.ListComp (bE (ff fv xs) elt (aR e 0)) [⟨.Tuple (bN (ff fv xs) (List.range xs.length) (ek (aR e 1))) (kd (aR e 1)) (aR e 1).pos,.Call (.Name "zip" (aR (aR e 2) 0).pos) [bE N a (aR (aR e 2) 1),bE N b (aR (aR e 2) 2)] [] (aR e 2).pos,[],0⟩] (aY e) e.pos
 | .compU xs fv it elt ifs,e=>.ListComp (bE (ff fv xs) elt (aR e 0)) [⟨.Tuple (bN (ff fv xs) (List.range xs.length) (ek (aR e 1))) (kd (aR e 1)) (aR e 1).pos,bI N it (aR e 2),nW (ff fv xs) ifs ((ek e).drop 3),0⟩] (aY e) e.pos
noncomputable def nW (N:NW):lq->List Expr->NZ
 | .nil,_=>[]
 | .cons c r,es=>bE N c (es.headD default)::nW N r es.tail
noncomputable def bI (N:NW):Ix->Expr->Expr
 | .ex c,e=>bE N c e
 | .rng1 a,e=>.Call (.Name "range" (aR e 0).pos) [bE N a (aR e 1)] [] e.pos
end
mutual
noncomputable def oE (sc:Scope) (N:NW):Ex->Expr->Bool
 | .var i,_=>decide (i < N.length) && (gK sc (nx N i) && cF (nx N i))
 | .con v,_=>IJ v
 | .glob x,_=>gu sc x && cF x
 | .bin _ a b,e=>oE sc N a (aR e 0) && oE sc N b (aR e 1)
 | .neg a,e=>oE sc N a (aR e 0)
 | .cmp _ a b,e=>oE sc N a (aR e 0) && oE sc N b (aR e 1)
 | .and a b,e=>oE sc N a (aR e 0) && (cond (decide ((ek e).length=2)) (oE sc N b (aR e 1)) (zW b && oE sc N b (.BoolOp .And (ek e).tail e.pos)))
 | .or a b,e=>oE sc N a (aR e 0) && (cond (decide ((ek e).length=2)) (oE sc N b (aR e 1)) (Ew b && oE sc N b (.BoolOp .Or (ek e).tail e.pos)))
 | .not a,e=>oE sc N a (aR e 0)
 | .ite c a b,e=>oE sc N c (aR e 0) && (oE sc N a (aR e 1) && oE sc N b (aR e 2))
 | .call f args,e=>(gu sc f && cF f) && rj sc N args (ek e).tail
 | .blt f args,e=>(gu sc f.name && cF f.name) && ((decide (f ≠ .sortset) && decide (args.len ≠ 0)) && rj sc N args (ek e).tail)
 | .mth _ o args,e=>(jn (bE N o (aR (aR e 0) 0)) && ((aR e 0).pos.endLine == e.pos.line)) && (decide (args.len < 20) && (oE sc N o (aR (aR e 0) 0) && rj sc N args (ek e).tail))
 | .idx a b,e=>oE sc N a (aR e 0) && oE sc N b (aR e 1)
 | .slc a lo hi,e=>oE sc N a (aR e 0) && (rj sc N lo [aR (aR e 1) 0] && rj sc N hi [aR (aR e 1) 1])
 | .tup es,e=>rj sc N es (ek e)
 | .lst es,e=>rj sc N es (ek e)
 | .comp x fv it elt ifs,e=>(bM sc (aY e) N [x] fv && decide (ifs.len<=1)) && (oI sc N it (aR e 2) && (oE (aY e) (isIn fv x) elt (aR e 0) && rj (aY e) (isIn fv x) ifs ((ek e).drop 3)))
 | .cmpD _ a b,e=>oE sc N a (aR e 0) && oE sc N b (aR e 1)
 | .idxD a b,e=>oE sc N a (aR e 0) && oE sc N b (aR e 1)
 | .dnew,_=>true
 | .blt2 f a,e=>gu sc f.name && oE sc N a (aR e 1)
 | .smax a b,e=>gu sc "max" && (oE sc N a (aR e 1) && oE sc N b (aR e 2))
 | .cmpP a b,e=>oE sc N a (aR e 0) && oE sc N b (aR e 1)
 | .cmpI op a b,e=>oE sc N a (aR e 0) && oE sc N b (aR e 1)
 | .xors i j,_=>(gu sc "sorted" && gu sc "set") && ((decide (i < N.length) && (gK sc (nx N i) && cF (nx N i))) && (decide (j < N.length) && (gK sc (nx N j) && cF (nx N j))))
 | .compZ xs fv a b elt,e=>(bM sc (aY e) N xs fv && decide (xs.length=2)) && (gu sc "zip" && (oE sc N a (aR (aR e 2) 1) && (oE sc N b (aR (aR e 2) 2) && oE (aY e) (ff fv xs) elt (aR e 0))))
 | .compU xs fv it elt ifs,e=>(bM sc (aY e) N xs fv && (decide (xs.length ≠ 0) && decide (ifs.len<=1))) && (oI sc N it (aR e 2) && (oE (aY e) (ff fv xs) elt (aR e 0) && rj (aY e) (ff fv xs) ifs ((ek e).drop 3)))
noncomputable def rj (sc:Scope) (N:NW):lq->List Expr->Bool
 | .nil,_=>true
 | .cons c r,es=>oE sc N c (es.headD default) && rj sc N r es.tail
noncomputable def oI (sc:Scope) (N:NW):Ix->Expr->Bool
 | .ex c,e=>oE sc N c e
 | .rng1 a,e=>gu sc "range" && oE sc N a (aR e 1)
end
noncomputable def pP:Expr->Bool
 | .ListComp _ _ _ _=>false | .SetComp _ _ _ _=>false | .DictComp _ _ _ _ _=>false | _=>true
noncomputable def lF (sc s:Scope) (x:Str) (tp p:Pos):Bool:=decide (sc.names.lookup x=some .local) && ((tp.line == p.line) && !(s.names.any fun(n,k)=>n == x && (k == .local || k == .cell)))
noncomputable def zo:Expr->Bool
 | .Tuple _ _ _=>false | _=>true
noncomputable def oN (sc:Scope) (N:NW):List Nat->Bool
 | []=>true
 | i::is=>(decide (i < N.length) && iB sc (nx N i)) && oN sc N is
mutual
noncomputable def bS (N:NW):Sx->Stmt->Stmt
 | .asg i e,st=>.Assign [.Name (nx N i) (sk st 0).pos] (bE N e (sk st 1)) st.pos
 | .exp e,st=>.Expr (bE N e (sk st 0)) st.pos
 | .ret e,st=>.Return (some (bE N e (sk st 0))) st.pos
 | .retK e kp le,st=>.Return (some (.Call (.Name "sorted" (aR (sk st 0) 0).pos) [bE N e (aR (sk st 0) 1)] [⟨some "key",le,kp⟩] (sk st 0).pos)) st.pos
 | .iff c a b,st=>.If (bE N c (sk st 0)) (Df N a (sb st).1) (Df N b (sb st).2) st.pos
 | .whl c b,st=>.While (bE N c (sk st 0)) (Df N b (sb st).1) [] st.pos
 | .fr i it b,st=>.For (.Name (nx N i) (sk st 0).pos) (bI N it (sk st 1)) (Df N b (sb st).1) [] st.pos
 | .sto o i e,st=>.Assign [.Subscript (bE N o (aR (sk st 0) 0)) (bE N i (aR (sk st 0) 1)) (sk st 0).pos] (bE N e (sk st 1)) st.pos
 | .asgT is e,st=>.Assign [.Tuple (bN N is (ek (sk st 0))) (kd (sk st 0)) (sk st 0).pos] (bE N e (sk st 1)) st.pos
 | .frT is it b,st=>.For (.Tuple (bN N is (ek (sk st 0))) (kd (sk st 0)) (sk st 0).pos) (bI N it (sk st 1)) (Df N b (sb st).1) [] st.pos
noncomputable def Df (N:NW):fh->List Stmt->List Stmt
 | .nil,_=>[]
 | .cons c r,ss=>bS N c (ss.headD default)::Df N r ss.tail
end
mutual
noncomputable def oS (sc:Scope) (N:NW):Sx->Stmt->Bool
 | .asg i e,st=>(decide (i < N.length) && iB sc (nx N i)) && ((!iO e || (!vm e && lF sc (aY (sk st 1)) (nx N i) (sk st 0).pos (sk st 1).pos)) && oE sc N e (sk st 1))
 | .exp e,st=>!iO e && oE sc N e (sk st 0)
 | .ret e,st=>oE sc N e (sk st 0)
 | .retK e _ _,st=>gu sc "sorted" && oE sc N e (aR (sk st 0) 1)
 | .iff c a b,st=>oE sc N c (sk st 0) && (C3 sc N a (sb st).1 && C3 sc N b (sb st).2)
 | .whl c b,st=>oE sc N c (sk st 0) && C3 sc N b (sb st).1
 | .fr i it b,st=>(decide (i < N.length) && iB sc (nx N i)) && (oI sc N it (sk st 1) && C3 sc N b (sb st).1)
 | .sto o i e,st=>(!iO e && oE sc N o (aR (sk st 0) 0)) && (oE sc N i (aR (sk st 0) 1) && oE sc N e (sk st 1))
 | .asgT is e,st=>((!iO e && !isTup e) && oN sc N is) && oE sc N e (sk st 1)
 | .frT is it b,st=>oN sc N is && (oI sc N it (sk st 1) && C3 sc N b (sb st).1)
noncomputable def C3 (sc:Scope) (N:NW):fh->List Stmt->Bool
 | .nil,_=>true
 | .cons c r,ss=>oS sc N c (ss.headD default) && C3 sc N r ss.tail
end
noncomputable def mI (sc:Scope) (N:NW) (b:fh) (ss:List Stmt):Prop:=Df N b ss=ss/\C3 sc N b ss=true
noncomputable abbrev St:=L2.St
noncomputable abbrev XS:=Value->Option Addr->St->Hp->Prop
noncomputable def X0:XS:=fun _ _ _ _=>False
noncomputable abbrev Tb:=Addr × Pos × Str
noncomputable def TabAt (H:Hp) (t:Tb):Prop:=H t.1=some (.tbl #[])\/∃c',H t.1=some (.tbl #[rawInt t.2.1.line,rawInt t.2.1.col,.ref c'])/\H c'=some (.cod t.2.2)
structure eK (M:Mo) (H H':Hp):Prop where
 same:∀a o,H a=some o->(∀ ps,o ≠ .tbl ps)->H' a=some o
 off:∀a,M a ≠ none->H a=none->H' a=none
 Hb:∀a,H a ≠ none->H' a ≠ none
structure jH where
 T:Addr
 pos:Pos
 iq:Str
 x:Str
 args:Arguments
 body:Expr
 scope:Scope
noncomputable def jH.le (D:jH):Expr:=.Lambda D.args D.body D.scope D.pos
noncomputable def km (H:Hp) (y:Addr × Str):Prop:=∃w q xs,H y.1=some (.tup [w,.ref q])/\H q=some (.lst (.str y.2::xs))
noncomputable def E9 (a b:Addr × Str):Prop:=PySem.Spec.ltCps b.2.cps.toList a.2.cps.toList=false
structure b0 where
 con:Str->Option V
 mod:Mo
 has:Str->Bool
 fn:Str->Sp
 cm:Bool:=true
 /-- what a call of the function at an address promises -/
 lm:Option (jH × List Tb):=none
 vc:Addr->Sp:=fun _ _ _ _ _=>False
 /-- the module's dicts -/
 gd:Str->Option (List (Key × V)):=fun _=>none
noncomputable def keyOf:V->Option Key
 | .int i=>some (.inl i)
 | .str x=>some (.inr x)
 | _=>none
noncomputable def o5:V->Option Str
 | .str x=>some x
 | _=>none
noncomputable def p7 (x:V) (H:Hp):Bool:=match x with
 | .ref p=>(match H p with | some (.dK _)=>true | _=>false)
 | _=>false
noncomputable def cg (M:Mo) (H:Hp):V->Option (Str × Str)
 | .ref p=>match rd M H p with
  | some (.tup [.str w,.ref q])=>(match rd M H q with
   | some (.lst xs)=>(match allM o5 xs with | some (h::_)=>some (w,h) | _=>none)
   | _=>none)
  | _=>none
 | _=>none
noncomputable def B9 (M:Mo) (H:Hp):V->Bool
 | .ref p=>match rd M H p with
  | some (.tup [.int _,.int _])=>true
  | _=>false
 | _=>false
noncomputable def bq (M:Mo) (H:Hp):V->Option (Str × Str)
 | .ref p=>match rd M H p with
  | some (.tup [.str a,.str b])=>some (a,b)
  | _=>none
 | _=>none
noncomputable def eS (x y:Str × Str):Bool:=if x.1=y.1 then decide (x.2.cps.toList < y.2.cps.toList)else decide (x.1.cps.toList < y.1.cps.toList)
noncomputable def rY (M:Mo) (H:Hp):V->Bool
 | .ref p=>match rd M H p with
  | some (.tup [.int _,r])=>(bq M H r).isSome
  | _=>false
 | _=>false
section
variable (M:Mo)
noncomputable def cI (ts:NW) (H:Hp) (Q:VK):Prop:=ts.length < 64/\∀ss l,List.Perm ss ts->sortedS ss=true->H l=none->M l=none->Q (.ref l) (upd H l (.lst (ss.map V.str)))
noncomputable def gN (f:Bf) (vs:List V) (H:Hp) (Q:VK):Prop:=match f,vs with
 | .len,[.str y]=>y.length<=sizeLine/\Q (.int y.length) H
 | .len,[.ref p]=>match rd M H p with
  | some (.lst xs)=>Q (.int xs.length) H
  | some (.tup xs)=>Q (.int xs.length) H
  | _=>False
 | .list,[.ref p]=>match rd M H p with
  | some (.lst xs)=>∀l,H l=none->M l=none->Q (.ref l) (upd H l (.lst xs))
  | some (.tup xs)=>∀l,H l=none->M l=none->Q (.ref l) (upd H l (.lst xs))
  | _=>False
 | .dsorted,[.ref p]=>match H p with
  | some (.dK kvs)=>match allM o5 (kvs.map fun y=>kV y.1)with
   | some ts=>cI M ts H Q
   | none=>False
  | _=>False
 | .smin,[.str i,.str j]=>Q (.str (if j.cps.toList < i.cps.toList then j else i)) H
 | _,_=>False
noncomputable def fq (m:Mf) (x:V) (vs:List V) (H:Hp) (Q:VK):Prop:=match m,x,vs with
 | .join,.str x,[.ref p]=>match rd M H p with
  | some (.lst xs)=>match allM o5 xs with
   | some ts=>JoinOk x ts=true/\Q (.str (Txt.join x ts)) H
   | none=>False
  | _=>False
 | .append,.ref p,[v]=>match H p with
  | some (.lst xs)=>xs.length < sizeLine/\Q .aQ (upd H p (.lst (xs++[v])))
  | _=>False
 | .extend,.ref p,[.ref b]=>match H p,H b with
  | some (.lst xs),some (.lst ys)=>xs.length + ys.length<=sizeLine/\Q .aQ (upd H p (.lst (xs++ys)))
  | _,_=>False
 | .dpop,.ref p,[y]=>match H p with
  | some (.dK kvs)=>(match keyOf y with | some k=>(match bQ kvs k with | some v=>Q v (upd H p (.dK (iE kvs k))) | none=>False) | none=>False)
  | _=>False
 | .get,.ref p,[y]=>match H p with
  | some (.dK kvs)=>(match keyOf y with | some k=>Q ((bQ kvs k).getD .aQ) H | none=>False)
  | _=>False
 | _,_,_=>False
noncomputable def D_ (m:Mf) (x:V) (H:Hp):Bool:=match m with
 | .append=>(match x with | .ref p=>(match rd M H p with | some (.lst _)=>true | _=>false) | _=>false)
 | .pop=>(match x with | .ref p=>(match rd M H p with | some (.lst _)=>true | _=>false) | _=>false)
 | .extend=>(match x with | .ref p=>(match rd M H p with | some (.lst _)=>true | _=>false) | _=>false)
 | .clear=>(match x with | .ref p=>(match rd M H p with | some (.lst _)=>true | _=>false) | _=>false)
 | .dclear=>p7 x H
 | .copy=>p7 x H
 | .dpop=>p7 x H
 | .setdefault=>p7 x H
 | .get=>p7 x H
 | _=>(match x with | .str _=>true | _=>false)
noncomputable def Bk (x:V) (lo hi:Option Int) (H:Hp) (Q:VK):Prop:=match x with
 | .ref p=>match rd M H p with
  | some (.lst xs)=>∀l,H l=none->M l=none->Q (.ref l) (upd H l (.lst (iw xs lo hi)))
  | _=>False
 | _=>False
noncomputable def mN (x:V) (H:Hp) (k:List V->(Hp->Prop)->Prop):Prop:=match x with
 | .ref p=>match rd M H p with
  | some (.lst xs)=>k xs (fun H'=>rd M H' p=some (.lst xs))
  | _=>False
 | _=>False
end
noncomputable def eA (te:TE) (tt:TT) (fvs:St) (D:Addr) (aq:Hp->Prop):List V->List V->Hp->(Hp->Prop)->Prop
 | [],acc,H,k=>aq H/\H D=some (.lst acc)/\k H
 | v::r,acc,H,k=>aq H/\tt (some v::fvs) H fun ok H1=>
  if ok=true then te (some v::fvs) H1 fun y H2=>H2 D=some (.lst acc)/\acc.length < sizeLine/\eA te tt fvs D aq r (acc++[y]) (upd H2 D (.lst (acc++[y]))) k
  else eA te tt fvs D aq r acc H1 k
noncomputable def cK (bd:V->Hp->Option St) (te:TE) (tt:TT) (fvs:St) (D:Addr) (aq:Hp->Prop):List V->List V->Hp->(Hp->Prop)->Prop
 | [],acc,H,k=>aq H/\H D=some (.lst acc)/\k H
 | v::r,acc,H,k=>aq H/\match bd v H with
  | some w=>tt (w++fvs) H fun ok H1=>if ok=true then te (w++fvs) H1 fun y H2=>H2 D=some (.lst acc)/\acc.length < sizeLine/\cK bd te tt fvs D aq r (acc++[y]) (upd H2 D (.lst (acc++[y]))) k
   else cK bd te tt fvs D aq r acc H1 k
  | none=>False
noncomputable def cB {ι:Type} (nxt:ι->Hp->(St->Hp->Prop)->Prop) (te:TE) (tt:TT) (fvs:St) (D:Addr) (aq:Hp->Prop):List ι->List V->Hp->(Hp->Prop)->Prop
 | [],acc,H,k=>aq H/\H D=some (.lst acc)/\k H
 | v::r,acc,H,k=>aq H/\nxt v H fun w H0=>tt (w++fvs) H0 fun ok H1=>if ok=true then te (w++fvs) H1 fun y H2=>H2 D=some (.lst acc)/\acc.length < sizeLine/\cB nxt te tt fvs D aq r (acc++[y]) (upd H2 D (.lst (acc++[y]))) k
   else cB nxt te tt fvs D aq r acc H1 k
noncomputable def wF (M:Mo) (p:V × V) (H:Hp) (R:St->Hp->Prop):Prop:=∀t,H t=none->M t=none->R [some p.1,some p.2] (upd H t (.tup [p.1,p.2]))
noncomputable def sJ (M:Mo) (x y:V) (H:Hp) (k:List (V × V)->(Hp->Prop)->Prop):Prop:=match x,y with
 | .ref p,.ref q=>(match rd M H p,rd M H q with
  | some (.lst xs),some (.lst ys)=>k (xs.zip ys) (fun H'=>rd M H' p=some (.lst xs)/\rd M H' q=some (.lst ys))
  | _,_=>False)
 | _,_=>False
noncomputable def oU (M:Mo) (op:CmpOp) (x y:V) (H:Hp) (Q:VK):Prop:=match y with
 | .ref p=>(match rd M H p with
  | some (.lst xs)=>(match data M H 8 x,allM (data M H 8) xs with
   | some d,some ds=>(match op with
    | .In=>Q (.bl (ds.any fun e=>PyData.eqv e d)) H
    | .NotIn=>Q (.bl (!ds.any fun e=>PyData.eqv e d)) H
    | _=>False)
   | _,_=>False)
  | _=>False)
 | _=>False
noncomputable def vO (M:Mo) (n:Nat) (v:V) (H:Hp):Option St:=match v with
 | .ref p=>(match rd M H p with
  | some (.tup xs)=>if xs.length=n then some (xs.map some)else none
  | _=>none)
 | _=>none
noncomputable def Dg (M:Mo) (f:B2) (x:V) (H:Hp) (Q:VK):Prop:=match x with
 | .ref p=>(match rd M H p with
  | some (.lst xs)=>(match f with
   | .sortT=>(xs.length < 64/\xs.all (fun x=>(bq M H x).isSome)=true)/\∀ws l,List.Perm ws xs->ws.Pairwise (fun x y=>∀a b,bq M H x=some a->bq M H y=some b->eS b a=false)->H l=none->M l=none->Q (.ref l) (upd H l (.lst ws))
   | .sortM=>xs.all (rY M H)=true/\∀ws l,List.Perm ws xs->H l=none->M l=none->Q (.ref l) (upd H l (.lst ws))
   | .sortN=>xs.all (B9 M H)=true/\∀ws l,List.Perm ws xs->H l=none->M l=none->Q (.ref l) (upd H l (.lst ws))
   | .sortP=>(xs.length < 64/\xs.all (fun x=>(cg M H x).isSome)=true/\∀x ∈ xs,∀y ∈ xs,∀a b,cg M H x=some a->cg M H y=some b->a.2=b.2->x=y)/\∀ws l,List.Perm ws xs->ws.Pairwise (fun x y=>∀a b,cg M H x=some a->cg M H y=some b->eS b a=false)->H l=none->M l=none->Q (.ref l) (upd H l (.lst ws)))
  | _=>False)
 | _=>False
noncomputable def CP (M:Mo) (x y:V) (H:Hp) (Q:VK):Prop:=∃ (p q:Addr) (ts us:NW),x=.ref p/\y=.ref q/\(∃ kvs,H p=some (.dK kvs)/\kvs.map (·.1)=ts.map Sum.inr)/\(∃ kvs,H q=some (.dK kvs)/\kvs.map (·.1)=us.map Sum.inr)/\ts.length < 32/\us.length < 32/\
 ∀ss l,ss.Nodup->(∀ z,z ∈ ss ↔ (z ∈ ts/\z ∉ us)\/(z ∈ us/\z ∉ ts))->sortedS ss=true->H l=none->M l=none->Q (.ref l) (upd H l (.lst (ss.map V.str)))
noncomputable def uL (x y:V) (H:Hp) (Q:VK):Prop:=match x,y with
 | .str a,.str b=>Q (.str (if a.cps.toList < b.cps.toList then b else a)) H
 | _,_=>False
noncomputable def vL (M:Mo) (x y:V) (H:Hp) (Q:VK):Prop:=match bq M H x,bq M H y with
 | some a,some b=>Q (.bl (!eS a b)) H
 | _,_=>False
noncomputable def p9 (i:Nat) (tb:TS) (aq:Hp->Prop):List V->TS
 | [],D,σ,H=>aq H/\D.nx σ H
 | v::r,D,σ,H=>aq H/\tb {D with nx:=p9 i tb aq r D,ct:=p9 i tb aq r D,bk:=D.nx} (σ.set i (some v)) H
noncomputable def eQ:St->List Nat->List V->St
 | σ,i::is,x::xs=>eQ (σ.set i (some x)) is xs
 | σ,_,_=>σ
noncomputable def iD (M:Mo) (is:List Nat) (tb:TS) (aq:Hp->Prop):List V->TS
 | [],D,σ,H=>aq H/\D.nx σ H
 | v::r,D,σ,H=>aq H/\match v with
  | .ref p=>(match rd M H p with
   | some (.tup xs)=>xs.length=is.length/\tb {D with nx:=iD M is tb aq r D,ct:=iD M is tb aq r D,bk:=D.nx} (eQ σ is xs) H
   | _=>False)
  | _=>False
noncomputable def vV (x k v:V) (H:Hp) (Q:Hp->Prop):Prop:=match x with
 | .ref p=>(match H p with
  | some (.lst xs)=>(match k with | .int j=>(match oF xs.length j with | some n=>Q (upd H p (.lst (xs.set n v))) | none=>False) | _=>False)
  | some (.dK kvs)=>(match keyOf k with | some kk=>kvs.length < sizeLine/\Q (upd H p (.dK (putK kvs kk v))) | none=>False)
  | _=>False)
 | _=>False
noncomputable def rS (M:Mo) (x y:V) (H:Hp) (Q:VK):Prop:=match x with
 | .ref p=>(match rd M H p with
  | some (.dK kvs)=>(match keyOf y with | some k=>(match bQ kvs k with | some v=>Q v H | none=>False) | none=>False)
  | _=>False)
 | _=>False
noncomputable def AU (M:Mo) (H:Hp):V->Option (List (Key × V))
 | .ref p=>(match rd M H p with | some (.dK kvs)=>some kvs | _=>none)
 | _=>none
noncomputable def sh (M:Mo) (op:CmpOp) (x y:V) (H:Hp) (Q:VK):Prop:=match op with
 | .In=>(match AU M H y,keyOf x with | some kvs,some k=>Q (.bl (bQ kvs k).isSome) H | _,_=>False)
 | .NotIn=>(match AU M H y,keyOf x with | some kvs,some k=>Q (.bl (!(bQ kvs k).isSome)) H | _,_=>False)
 | _=>False
noncomputable def vars (σ:St) (fv:List (Str × Nat)):St:=fv.map fun y=>(σ[y.2]?).join
mutual
noncomputable def wE (Γ:b0):Ex->XS->TE
 | .var i,_=>fun σ H Q=>match σ[i]? with | some (some v)=>Q v H | _=>False
 | .con v,_=>fun _ H Q=>Q v H
 | .glob x,_=>fun _ H Q=>match Γ.con x with | some v=>Q v H | none=>False
 | .bin op a b,Ξ=>fun σ H Q=>wE Γ a Ξ σ H fun x H1=>wE Γ b Ξ σ H1 fun y H2=>nh Γ.mod op x y H2 Q
 | .neg a,Ξ=>fun σ H Q=>wE Γ a Ξ σ H fun x H1=>match x with | .int i=>Q (.int (-i)) H1 | _=>False
 | .cmp op a b,Ξ=>fun σ H Q=>wE Γ a Ξ σ H fun x H1=>wE Γ b Ξ σ H1 fun y H2=>cT Γ.mod op x y H2 Q
 | .and a b,Ξ=>fun σ H Q=>wE Γ a Ξ σ H fun x H1=>dS Γ.mod x H1 fun k=>if k=true then wE Γ b Ξ σ H1 Q else Q x H1
 | .or a b,Ξ=>fun σ H Q=>wE Γ a Ξ σ H fun x H1=>dS Γ.mod x H1 fun k=>if k=true then Q x H1 else wE Γ b Ξ σ H1 Q
 | .not a,Ξ=>fun σ H Q=>wE Γ a Ξ σ H fun x H1=>dS Γ.mod x H1 fun k=>Q (.bl (!k)) H1
 | .ite c a b,Ξ=>fun σ H Q=>wT Γ c Ξ σ H fun k H1=>if k=true then wE Γ a Ξ σ H1 Q else wE Γ b Ξ σ H1 Q
 | .call f args,Ξ=>fun σ H Q=>(Γ.cm=true/\Γ.has f=true)/\wEs Γ args Ξ σ H fun vs H1=>Γ.fn f vs H1 Q fun C d H'=>Ξ C d σ H'
 | .blt f args,Ξ=>fun σ H Q=>Γ.cm=true/\wEs Γ args Ξ σ H fun vs H1=>gN Γ.mod f vs H1 Q
 | .mth m o args,Ξ=>fun σ H Q=>wE Γ o Ξ σ H fun x H1=>D_ Γ.mod m x H1=true/\wEs Γ args Ξ σ H1 fun vs H2=>fq Γ.mod m x vs H2 Q
 | .idx a b,Ξ=>fun σ H Q=>wE Γ a Ξ σ H fun x H1=>wE Γ b Ξ σ H1 fun y H2=>c_ Γ.mod x y H2 Q
 | .slc a lo hi,Ξ=>fun σ H Q=>wE Γ a Ξ σ H fun x H1=>wP Γ lo Ξ σ H1 fun l H2=>wP Γ hi Ξ σ H2 fun u H3=>Bk Γ.mod x l u H3 Q
 | .tup es,Ξ=>fun σ H Q=>wEs Γ es Ξ σ H fun xs H1=>xs.length<=sizeLine/\∀p,H1 p=none->Γ.mod p=none->Q (.ref p) (upd H1 p (.tup xs))
 | .lst es,Ξ=>fun σ H Q=>wEs Γ es Ξ σ H fun xs H1=>xs.length<=sizeLine/\∀p,H1 p=none->Γ.mod p=none->Q (.ref p) (upd H1 p (.lst xs))
 | .comp _ fv it elt ifs,Ξ=>fun σ H Q=>Γ.cm=true/\wI Γ it Ξ σ H fun xs aq H1=>∀D,H1 D=none->Γ.mod D=none->
  eA (wE Γ elt fun C d _ H'=>Ξ C d σ H') (wTs Γ ifs X0) (vars σ fv) D aq xs [] (upd H1 D (.lst [])) fun H'=>Q (.ref D) H'
 | .cmpD op a b,Ξ=>fun σ H Q=>wE Γ a Ξ σ H fun x H1=>wE Γ b Ξ σ H1 fun y H2=>sh Γ.mod op x y H2 Q
 | .idxD a b,Ξ=>fun σ H Q=>wE Γ a Ξ σ H fun x H1=>wE Γ b Ξ σ H1 fun y H2=>rS Γ.mod x y H2 Q
 | .dnew,_=>fun _ H Q=>∀p,H p=none->Γ.mod p=none->Q (.ref p) (upd H p (.dK []))
 | .blt2 f a,Ξ=>fun σ H Q=>Γ.cm=true/\wE Γ a Ξ σ H fun x H1=>Dg Γ.mod f x H1 Q
 | .smax a b,Ξ=>fun σ H Q=>Γ.cm=true/\wE Γ a Ξ σ H fun x H1=>wE Γ b Ξ σ H1 fun y H2=>uL x y H2 Q
 | .cmpP a b,Ξ=>fun σ H Q=>wE Γ a Ξ σ H fun x H1=>wE Γ b Ξ σ H1 fun y H2=>vL Γ.mod x y H2 Q
 | .cmpI op a b,Ξ=>fun σ H Q=>wE Γ a Ξ σ H fun x H1=>wE Γ b Ξ σ H1 fun y H2=>oU Γ.mod op x y H2 Q
 | .xors i j,_=>fun σ H Q=>Γ.cm=true/\∃x y,σ[i]?=some (some x)/\σ[j]?=some (some y)/\CP Γ.mod x y H Q
 | .compZ _ fv a b elt,Ξ=>fun σ H Q=>Γ.cm=true/\wE Γ a Ξ σ H fun x H1=>wE Γ b Ξ σ H1 fun y H2=>sJ Γ.mod x y H2 fun ps aq=>∀D,H2 D=none->Γ.mod D=none->
  cB (wF Γ.mod) (wE Γ elt fun C d _ H'=>Ξ C d σ H') (fun _ H Q=>Q true H) (vars σ fv) D aq ps [] (upd H2 D (.lst [])) fun H'=>Q (.ref D) H'
 | .compU xs fv it elt ifs,Ξ=>fun σ H Q=>Γ.cm=true/\wI Γ it Ξ σ H fun vs aq H1=>∀D,H1 D=none->Γ.mod D=none->
  cK (vO Γ.mod xs.length) (wE Γ elt fun C d _ H'=>Ξ C d σ H') (wTs Γ ifs X0) (vars σ fv) D aq vs [] (upd H1 D (.lst [])) fun H'=>Q (.ref D) H'
noncomputable def wT (Γ:b0):Ex->XS->TT
 | .and a b,Ξ=>fun σ H Q=>wT Γ a Ξ σ H fun k H1=>if k=true then wT Γ b Ξ σ H1 Q else Q false H1
 | .or a b,Ξ=>fun σ H Q=>wT Γ a Ξ σ H fun k H1=>if k=true then Q true H1 else wT Γ b Ξ σ H1 Q
 | .not a,Ξ=>fun σ H Q=>wT Γ a Ξ σ H fun k H1=>Q (!k) H1
 | .ite c a b,Ξ=>fun σ H Q=>wT Γ c Ξ σ H fun k H1=>if k=true then wT Γ a Ξ σ H1 Q else wT Γ b Ξ σ H1 Q
 | .var i,_=>fun σ H Q=>match σ[i]? with | some (some v)=>dS Γ.mod v H fun k=>Q k H | _=>False
 | .cmp op a b,Ξ=>fun σ H Q=>wE Γ a Ξ σ H fun x H1=>wE Γ b Ξ σ H1 fun y H2=>cT Γ.mod op x y H2 fun x H'=>∃k,x=.bl k/\Q k H'
 | .call f args,Ξ=>fun σ H Q=>(Γ.cm=true/\Γ.has f=true)/\wEs Γ args Ξ σ H fun vs H1=>Γ.fn f vs H1 (fun x H1=>dS Γ.mod x H1 fun k=>Q k H1) fun C d H'=>Ξ C d σ H'
 | .blt f args,Ξ=>fun σ H Q=>Γ.cm=true/\wEs Γ args Ξ σ H fun vs H1=>gN Γ.mod f vs H1 fun x H1=>dS Γ.mod x H1 fun k=>Q k H1
 | .mth m o args,Ξ=>fun σ H Q=>wE Γ o Ξ σ H fun x H1=>D_ Γ.mod m x H1=true/\wEs Γ args Ξ σ H1 fun vs H2=>fq Γ.mod m x vs H2 fun x H1=>dS Γ.mod x H1 fun k=>Q k H1
 | .idx a b,Ξ=>fun σ H Q=>wE Γ a Ξ σ H fun x H1=>wE Γ b Ξ σ H1 fun y H2=>c_ Γ.mod x y H2 fun x H1=>dS Γ.mod x H1 fun k=>Q k H1
 | .con v,_=>fun _ H Q=>dS Γ.mod v H fun k=>Q k H
 | .cmpP a b,Ξ=>fun σ H Q=>wE Γ a Ξ σ H fun x H1=>wE Γ b Ξ σ H1 fun y H2=>vL Γ.mod x y H2 fun x H'=>∃k,x=.bl k/\Q k H'
 | .cmpI op a b,Ξ=>fun σ H Q=>wE Γ a Ξ σ H fun x H1=>wE Γ b Ξ σ H1 fun y H2=>oU Γ.mod op x y H2 fun x H'=>∃k,x=.bl k/\Q k H'
 | .cmpD op a b,Ξ=>fun σ H Q=>wE Γ a Ξ σ H fun x H1=>wE Γ b Ξ σ H1 fun y H2=>sh Γ.mod op x y H2 fun x H'=>∃k,x=.bl k/\Q k H'
 | _,_=>fun _ _ _=>False
noncomputable def wEs (Γ:b0):lq->XS->TA
 | .nil,_=>fun _ H Q=>Q [] H
 | .cons e r,Ξ=>fun σ H Q=>wE Γ e Ξ σ H fun x H1=>wEs Γ r Ξ σ H1 fun xs H2=>Q (x::xs) H2
noncomputable def wP (Γ:b0):lq->XS->St->Hp->(Option Int->Hp->Prop)->Prop
 | .nil,_=>fun _ H Q=>Q none H
 | .cons e .nil,Ξ=>fun σ H Q=>wE Γ e Ξ σ H fun x H1=>match x with | .int i=>Q (some i) H1 | _=>False
 | _,_=>fun _ _ _=>False
noncomputable def wTs (Γ:b0):lq->XS->TT
 | .nil,_=>fun _ H Q=>Q true H
 | .cons e _,Ξ=>wT Γ e Ξ
noncomputable def wI (Γ:b0):Ix->XS->St->Hp->(List V->(Hp->Prop)->Hp->Prop)->Prop
 | .ex e,Ξ,σ,H,k=>wE Γ e Ξ σ H fun x H1=>mN Γ.mod x H1 fun xs aq=>k xs aq H1
 | .rng1 a,Ξ,σ,H,k=>wE Γ a Ξ σ H fun x H1=>match x with
  | .int j=>-(2 ^ 62)<=j/\j < 2 ^ 62/\k ((List.range j.toNat).map fun i:Nat=>.int i) (fun _=>True) H1
  | _=>False
end
mutual
noncomputable def wS:Sx->b0->XS->TS
 | .asg i e,Γ,Ξ=>fun D σ H=>wE Γ e Ξ σ H fun v H1=>D.nx (σ.set i (some v)) H1
 | .exp e,Γ,Ξ=>fun D σ H=>wE Γ e Ξ σ H fun _ H1=>D.nx σ H1
 | .ret e,Γ,Ξ=>fun D σ H=>wE Γ e Ξ σ H D.rt
 | .retK e _ le,Γ,Ξ=>fun D σ H=>match Γ.lm with
  | some (L,Ts)=>le=L.le/\Γ.cm=true/\wE Γ e Ξ σ H fun x H1=>(∀ t ∈ Ts,TabAt H1 t)/\∃ (p:Addr) (ys:List (Addr × Str)),x=.ref p/\H1 p=some (.lst (ys.map fun y=>.ref y.1))/\ys.length < 64/\(∀ y ∈ ys,km H1 y)/\
   ∀ (H2:Hp) (l:Addr) (zs:List (Addr × Str)),eK Γ.mod H1 H2->(∀ t ∈ Ts,TabAt H2 t)->H1 l=none->Γ.mod l=none->H2 l=some (.lst (zs.map fun z=>.ref z.1))->zs.Perm ys->zs.Pairwise E9->D.rt (.ref l) H2
  | none=>False
 | .iff c a b,Γ,Ξ=>fun D σ H=>wT Γ c Ξ σ H fun k H1=>if k=true then wSs a Γ Ξ D σ H1 else wSs b Γ Ξ D σ H1
 | .whl c b,Γ,_=>fun D σ H=>∃W:Nat->St->Hp->Prop,(∃ m,W m σ H)/\∀m σ H,W m σ H->wT Γ c X0 σ H fun k H1=>
  if k=true then ∃N:St->Hp->Prop,(∀ σ' H',N σ' H'->∃m',m' < m/\W m' σ' H')/\wSs b Γ X0 {D with nx:=N,ct:=N,bk:=D.nx} σ H1 else D.nx σ H1
 | .fr i it b,Γ,_=>fun D σ H=>Γ.cm=true/\wI Γ it X0 σ H fun xs aq H1=>p9 i (wSs b Γ X0) aq xs D σ H1
 | .sto o i e,Γ,Ξ=>fun D σ H=>wE Γ e Ξ σ H fun v H1=>wE Γ o Ξ σ H1 fun x H2=>wE Γ i Ξ σ H2 fun k H3=>vV x k v H3 (D.nx σ)
 | .asgT is e,Γ,Ξ=>fun D σ H=>Γ.cm=true/\wE Γ e Ξ σ H fun x H1=>match x with
  | .ref p=>(match rd Γ.mod H1 p with | some (.tup xs)=>xs.length=is.length/\D.nx (eQ σ is xs) H1 | _=>False)
  | _=>False
 | .frT is it b,Γ,_=>fun D σ H=>Γ.cm=true/\wI Γ it X0 σ H fun xs aq H1=>iD Γ.mod is (wSs b Γ X0) aq xs D σ H1
noncomputable def wSs:fh->b0->XS->TS
 | .nil,_,_=>fun D σ H=>D.nx σ H
 | .cons s r,Γ,Ξ=>fun D σ H=>wS s Γ Ξ {D with nx:=wSs r Γ Ξ D} σ H
end
structure o8 (J:It) (xs:List V) (aq:Hp->Prop):Prop where
 go:∀i H,aq H->i < xs.length->J.go i H
 uu:∀i H x H',i < xs.length->J.uu i H x H'->aq H->H'=H/\xs[i]?=some x
 stop:∀i H,aq H->xs.length<=i->J.stop i H
section
variable {X:Cx} {M:Mo} {pins:NT} {σ:L2.St} {H:Hp} {s:Shared} {p:Addr} {kvs:List (Key × V)} {A:Around} {E:NS}
theorem jv {x:V} {k:Key} (h:keyOf x=some k):x=kV k:=by
 cases x<;>first | (cases h;rfl) | cases h
theorem EE {k:Key} {u:Value} {Q:NS} (I:Inv X pins σ H s) (e:H p=some (.dK kvs)) (ry:RelV (kV k) u) (h:∀w' s',Inv X pins σ H s'->RelV ((bQ kvs k).getD .aQ) w'->Q w' s'):
  wpAny (model X.prog X.w) A (call (.builtin "dict.get") [.ref p,u]) Q E s:=by
 obtain⟨z,hd,vs,rel,dd⟩:=oR I.bB e;refine call_meetsIn PySem.F.slot_dict_get dd.typeIs PySem.F.entry_dict_get (PySem.F.args_dict_get_2 _ _) (meets_dict_get (aS X.prog X.w) p (mM ry) hd) ⟨_,dd.mapOf,?_⟩;refine h _ _ (I.tok _) ?_;cases l:bQ kvs k with
 | none=>have:=jG.none_of (o:=valueAt vs k) (by rw[<-l];exact rel.val k);rw[this];exact rfl
 | some y=>
  obtain⟨w',hw,rw'⟩:=jG.some_of (v:=y) (o:=valueAt vs k) (by rw[<-l];exact rel.val k);rw[hw];exact rw'
theorem o7:∀ {kvs:List (Key × V)} {ts:NW},allM o5 (kvs.map fun y=>kV y.1)=some ts->kvs.map (·.1)=ts.map Sum.inr
 | [],ts,h=>by rw[allM_nil h];rfl
 | y::r,ts,h=>by
  obtain⟨a,t,h1,h2,rfl⟩:=allM_cons (x:=kV y.1) (r:=r.map fun y=>kV y.1) h;obtain⟨k,v⟩:=y;cases k with
  | inl i=>cases h1
  | inr x=>cases h1;rw[JF,JF,o7 h2]
end
section
variable {X:Cx} {M:Mo} {pins:NT} {σ:L2.St} {H:Hp} {s:Shared}
noncomputable def IL:Bf->Value
 | .str=>.type "str" | .int=>.type "int" | .list=>.type "list" | .tuple=>.type "tuple"
 | .len=>.builtin "len" | .all=>.builtin "all" | .any=>.builtin "any" | .abs=>.builtin "abs" | .sorted=>.builtin "sorted" | .sortset=>.builtin "sorted"
 | .max=>.builtin "max" | .min=>.builtin "min" | .sum=>.builtin "sum" | .dlen=>.builtin "len" | .dsorted=>.builtin "sorted" | .smin=>.builtin "min"
theorem fP:∀ {aA:NX} {ts:NW},StrsAre aA ts->Vals (ts.map V.str) aA
 | _,_,.nil=>.nil
 | _,_,.cons y t r=>.cons ⟨t,rfl⟩ (fP r)
theorem Inv.Ej {s':Shared} (I:Inv X pins σ H s) (h1:s'.heap=s.heap) (h2:s'.gens=s.gens) (h3:s'.os=s.os):Inv X pins σ H s':=by
 obtain⟨hp,g,d,tk,os⟩:=s';obtain⟨hp',g',d',tk',os'⟩:=s;dsimp only at h1 h2 h3;subst h1;subst h2;subst h3;exact⟨I.ok,I.os,I.bare,I.base,I.loc,I.cell,I.free,I.fz,I.pin,I.bB,I.len⟩
theorem mC (mo:av X.K M) {s':Shared} {l:Addr} {out:NV} {e:Nat} {ys:List V} {Q:VK} (I:Inv X pins σ H s) (kp:∀b o,s.heap.get? b=some o->s'.heap.get? b=some o) (hg:s'.gens=s.gens) (ho:s'.os=s.os) (hl:s.heap.objs.size<=l)
  (hn:s'.heap.get? l=some (seqObj "list" out e)) (hv:Vals ys out.toList) (hz:ys.length<=sizeLine) (h:H l=none->M l=none->Q (.ref l) (upd H l (.lst ys))):EP X pins σ Q (.ref l) s':=by
 have J:Inv X pins σ (upd H l (.lst ys)) {s with heap:=s'.heap,toks:=s'.toks}:=I.laid (t':=s'.toks) kp hl (show cA X.prog X.w _ s'.heap l (.lst ys)from⟨hz,out.toList,e,hv,by rw[hn]⟩);have J':Inv X pins σ (upd H l (.lst ys)) s':=Inv.Ej J rfl hg ho;exact⟨.ref l,_,J',rfl,h (I.bB.fresh hl) (iU.new (Inv.tE mo J'))⟩
theorem s_ (hc:X.calm=true) (mo:av X.K M) {p:Addr} {kvs:List (Key × V)} {ts:NW} {Q:VK} (I:Inv X pins σ H s) (e:H p=some (.dK kvs)) (et:allM o5 (kvs.map fun y=>kV y.1)=some ts) (h:cI M ts H Q):wpAny (model X.prog X.w) X.A (call (.builtin "sorted") [.ref p]) (EP X pins σ Q) X.xe s:=by
 obtain⟨z,hd,vs,rel,dd⟩:=oR I.bB e;obtain⟨h64,h⟩:=h;refine PySem.Sg.qL (I.ok.hd hc) h64 hd dd (by rw[<-rel.keys];exact o7 et) fun s' l out ss e kp2 eg eo _ hl hn a1 a2 a3=>?_;refine mC mo I kp2 eg eo hl hn (fP a1) ?_ (h ss _ a2 a3);rw[Jk,a2.length_eq,Jy];omega
theorem EJ (hc:X.calm=true) (m:av X.K M) (f:Bf):pg X (IL f) (gN M f):=by
 intro pins s σ H xs us Q I r h;cases f with
 | len=>
  cases xs with
  | nil=>exact False.elim h
  | cons x t=>
   cases t with
   | cons _ _=>first | exact False.elim h | (cases x<;>exact False.elim h)
   | nil=>
    cases x with
    | str y=>
     exact qg pins s σ H _ _ Q I r ⟨_,rfl,h.1,h.2⟩
    | ref p=>
     unfold gN at h;dsimp only at h;split at h
     ·rename_i e;exact jB pins s σ H _ _ Q I r ⟨_,_,rfl,.inl (bg m e),h⟩
     ·rename_i e;exact jB pins s σ H _ _ Q I r ⟨_,_,rfl,.inr (cD m e),h⟩
     ·exact h.elim
    | _=>exact False.elim h
 | list=>
  cases xs with
  | nil=>exact False.elim h
  | cons x t=>
   cases t with
   | cons _ _=>first | exact False.elim h | (cases x<;>exact False.elim h)
   | nil=>
    cases x with
    | ref p=>
     unfold gN at h;dsimp only at h;split at h
     ·rename_i e;exact cz (jA pins s σ H _ _ (fun v H'=>iU M H'->Q v H') I r ⟨_,_,rfl,.inl (bg m e),fun l hl of=>h l hl of.new⟩) fun _ _=>p_ m
     ·rename_i e;exact cz (jA pins s σ H _ _ (fun v H'=>iU M H'->Q v H') I r ⟨_,_,rfl,.inr (cD m e),fun l hl of=>h l hl of.new⟩) fun _ _=>p_ m
     ·exact h.elim
    | _=>exact False.elim h
 | dsorted=>
  cases xs with
  | nil=>exact False.elim h
  | cons x t=>
   cases t with
   | cons _ _=>first | exact False.elim h | (cases x<;>exact False.elim h)
   | nil=>
    cases x with
    | ref p=>
     obtain⟨u,rfl,ru⟩:=vals1 r;cases ru
     unfold gN at h;dsimp only at h;split at h
     ·rename_i e;split at h
      ·rename_i et;exact s_ hc m I e et h
      ·exact h.elim
     ·exact h.elim
    | _=>exact False.elim h
 | smin=>
  cases xs with
  | nil=>exact False.elim h
  | cons x t=>
   cases x with
   | str i=>
    cases t with
    | nil=>exact False.elim h
    | cons y t=>
     cases t with
     | cons _ _=>first | exact False.elim h | (cases y<;>exact False.elim h)
     | nil=>
      cases y with
      | str j=>
       obtain⟨u,w',rfl,⟨t,rfl⟩,⟨t',rfl⟩⟩:=vals2 r;refine PySem.Sg.pQ (I.ok.hd hc) fun h' tk k=>⟨_,H,I.kept k,?_,h⟩
       by_cases hj:j.cps.toList < i.cps.toList
       ·rw[Jj hj,Jj hj];exact⟨_,rfl⟩
       ·rw[Ji hj,Ji hj];exact⟨_,rfl⟩
      | _=>exact False.elim h
   | _=>exact False.elim h
 | _=>exact False.elim h
noncomputable def HE:Mf->String
 | .append=> "list" | .pop=> "list" | .extend=> "list" | .clear=> "list" | .dpop=> "dict" | .dclear=> "dict" | .copy=> "dict" | .setdefault=> "dict" | .get=> "dict" | _=> "str"
noncomputable def Ec:Mf->String
 | .startswith=> "str.startswith" | .endswith=> "str.endswith" | .split=> "str.split" | .join=> "str.join" | .append=> "list.append" | .pop=> "list.pop" | .extend=> "list.extend" | .clear=> "list.clear" | .dpop=> "dict.pop" | .dclear=> "dict.clear" | .copy=> "dict.copy" | .setdefault=> "dict.setdefault" | .get=> "dict.get"
theorem uE:∀ {xs:List V} {us:NX} {ts:NW},Vals xs us->allM o5 xs=some ts->∃l:List (Str × Tok),strValues l=us/\l.map (·.1)=ts
 | [],_,ts,.nil,h=>by rw[allM_nil h];exact⟨[],rfl,rfl⟩
 | x::xs,_,ts,.cons r t,h=>by
  obtain⟨a,l,h1,h2,rfl⟩:=allM_cons h;obtain⟨q,e1,e2⟩:=uE t h2;cases x<;>first | cases h1 | skip
  obtain⟨tk,rfl⟩:=r;exact⟨(_,tk)::q,by rw[<-e1];rfl,by rw[<-e2];rfl⟩
theorem zx (mo:av X.K M) (m:Mf):Jc X (Ec m) (fq M m):=by
 intro pins s σ H x xs v us Q I rx r h;cases m with
 | join=>
  cases x with
  | str x=>
   cases xs with
   | nil=>exact False.elim h
   | cons y t=>
    cases t with
    | cons _ _=>first | exact False.elim h | (cases y<;>exact False.elim h)
    | nil=>
     cases y with
     | ref p=>
      obtain⟨u,rfl,ru⟩:=vals1 r;obtain⟨t,rfl⟩:=rx;cases ru
      unfold fq at h;dsimp only at h;split at h
      ·rename_i e;split at h
       ·rename_i ts et;obtain⟨aA,rv,pl,_⟩:=I.list (bg mo e);obtain⟨l,e1,e2⟩:=uE rv et;exact PySem.SC.join (l:=l) (texts:=ts) (by rw[e1];exact pl.isList) e2 h.1 fun t' k=>⟨.str _,H,I.tok _,⟨_,rfl⟩,h.2⟩
       ·exact h.elim
      ·exact h.elim
     | _=>exact False.elim h
  | _=>exact False.elim h
 | append=>
  cases x with
  | ref p=>
   cases xs with
   | nil=>exact False.elim h
   | cons y t=>
    cases t with
    | cons _ _=>first | exact False.elim h | (cases y<;>exact False.elim h)
    | nil=>
     obtain⟨u,rfl,ru⟩:=vals1 r;unfold fq at h;dsimp only at h;split at h
     ·rename_i e;exact oB pins s σ H _ _ _ _ Q I rx r ⟨_,_,_,rfl,rfl,e,h.1,h.2⟩
     ·exact h.elim
  | _=>exact False.elim h
 | extend=>
  cases x with
  | ref p=>
   cases xs with
   | nil=>exact False.elim h
   | cons y t=>
    cases t with
    | cons _ _=>first | exact False.elim h | (cases y<;>exact False.elim h)
    | nil=>
     cases y with
     | ref b=>
      unfold fq at h;dsimp only at h;split at h
      ·rename_i e1 e2;exact wG pins s σ H _ _ _ _ Q I rx r ⟨_,_,_,_,rfl,rfl,e1,e2,h.1,h.2⟩
      ·exact h.elim
     | _=>exact False.elim h
  | _=>exact False.elim h
 | dpop=>
  cases x with
  | ref p=>
   cases xs with
   | nil=>exact False.elim h
   | cons y t=>
    cases t with
    | cons _ _=>exact False.elim h
    | nil=>
     unfold fq at h;dsimp only at h;obtain⟨u,rfl,ru⟩:=vals1 r;cases rx
     split at h
     ·rename_i e1;split at h
      ·rename_i ek;split at h
       ·rename_i ev;rw[jv ek]at ru;exact Gn I e1 ru ev (.inl rfl) fun w' s' I' rw'=>⟨_,_,I',rw',h⟩
       ·exact h.elim
      ·exact h.elim
     ·exact h.elim
  | _=>exact False.elim h
 | get=>
  cases x with
  | ref p=>
   cases xs with
   | nil=>exact False.elim h
   | cons y t=>
    cases t with
    | cons _ _=>exact False.elim h
    | nil=>
     unfold fq at h;dsimp only at h;obtain⟨u,rfl,ru⟩:=vals1 r;cases rx
     split at h
     ·rename_i e1;split at h
      ·rename_i ek;rw[jv ek]at ru;exact EE I e1 ru fun w' s' I' rw'=>⟨_,_,I',rw',h⟩
      ·exact h.elim
     ·exact h.elim
  | _=>exact False.elim h
 | _=>exact False.elim h
theorem p5 {K:PySem.W.Frag} (mo:av K M) {x:V} {H:Hp} (h:(match x with | .ref p=>(match rd M H p with | some (.lst _)=>true | _=>false) | _=>false)=true):GW K "list" x H:=by
 cases x with
 | ref p=>
  dsimp only at h;split at h
  ·rename_i e;exact .inl ⟨rfl,_,bg mo e⟩
  ·cases h
 | _=>cases h
theorem mO {K:PySem.W.Frag} {x:V} {H:Hp} (h:p7 x H=true):GW K "dict" x H:=by
 unfold p7 at h;cases x with
 | ref p=>
  dsimp only at h;split at h
  ·rename_i e;exact .inr (.inr (.inl ⟨rfl,.inl ⟨_,e⟩⟩))
  ·cases h
 | _=>cases h
theorem zw {K:PySem.W.Frag} (mo:av K M) {m:Mf} {x:V} {H:Hp} (h:D_ M m x H=true):GW K (HE m) x H:=by
 cases m with
 | append=>exact p5 mo h
 | extend=>exact p5 mo h
 | pop=>exact p5 mo h
 | clear=>exact p5 mo h
 | dclear=>exact mO h
 | copy=>exact mO h
 | dpop=>exact mO h
 | setdefault=>exact mO h
 | get=>exact mO h
 | _=>cases x<;>first | exact rfl | cases h
theorem Dw (m:av X.K M):Ii X (Bk M):=by
 intro pins s σ H x v vl vu lo hi sl Q I rx hs pl pu h;unfold Bk at h;split at h
 ·split at h
  ·rename_i e;obtain⟨T,id,h1,h2,h3⟩:=Bl pins s σ H _ v vl vu lo hi sl (fun v H'=>iU M H'->Q v H') I rx hs pl pu ⟨_,_,rfl,bg m e,fun p hp of=>h p hp of.new⟩;exact⟨T,id,h1,h2,cz h3 fun _ _=>p_ m⟩
  ·exact h.elim
 ·exact h.elim
end
theorem yt {K:PySem.W.Frag} {M:Mo} (m:av K M) {a:Addr} {xs:List V}:o8 (IS K a) xs (fun H=>rd M H a=some (.lst xs)) where
 go:=fun i H st e=>⟨xs,xs[i],bg m st,Jl e⟩
 uu:=fun i H x H' _ y st=>⟨y.1,y.2 xs (bg m st)⟩
 stop:=fun i H st h=>⟨xs,bg m st,h⟩
theorem vX (lo:Int) (n:Nat):o8 (Iz lo n) ((List.range n).map fun i:Nat=>.int (lo + i)) (fun _=>True) where
 go:=fun i H st e=>by
  show i < n;simpa using e
 uu:=fun i H x H' e y st=>by
  obtain⟨y1,y2⟩:=y;subst y2;refine⟨y1,?_⟩;have e:i < n:=by simpa using e
  rw[JJ,M0 e];rfl
 stop:=fun i H st h=>by
  show n<=i;simpa using h
section
variable {X:Cx} {tg:Expr}
noncomputable def p8 (wi:L2.St->Hp->(List V->(Hp->Prop)->Hp->Prop)->Prop):TI:=fun σ H R=>∃k,wi σ H k/\∀J xs aq H1,o8 J xs aq->k xs aq H1->R J H1
theorem tS {M:Mo} {x:V} {H:Hp} {k k':List V->(Hp->Prop)->Prop} (h:mN M x H k) (hk:∀xs aq,k xs aq->k' xs aq):mN M x H k':=by
 unfold mN at h ⊢;split at h
 ·split at h
  ·first | exact hk _ _ h | (rename_i e;rw[e];exact hk _ _ h)
  ·exact h.elim
 ·exact h.elim
theorem DL {M:Mo} (m:av X.K M) {pins:NT} {σ:L2.St} {H:Hp} {s:Shared} {R:It->Hp->Prop} {x:V} {v:Value} (I:Inv X pins σ H s) (rx:RelV x v)
  (h:mN M x H fun xs aq=>∀J,o8 J xs aq->R J H):wpAny (model X.prog X.w) X.A (pyIter v) (Il X pins σ tg R) X.xe s:=by
 unfold mN at h;split at h
 ·cases rx
  split at h
  ·rename_i xs e;obtain⟨aA,rv,p,hz⟩:=I.list (bg m e);refine wpAny_pyIter_list p.isList ?_;refine⟨s.heap.objs.size,[s.heap.objs.size],_,_,H,rfl,I.kept (t':=s.toks) fun b o e=>Jq _ e,vS _ _,⟨_,JE _ rfl,rfl,rfl⟩,fun b hb=>?_,h _ (yt m)⟩;have e:b=s.heap.objs.size:=by simpa using hb
   subst e;exact I.Ct (JG _) (I.bB.fresh (JG _))
  ·exact h.elim
 ·exact h.elim
end
theorem t_ (env:Env):∀ (names:List (Str × NameKind)) (acc:List (Str × Addr)),(∀ y ∈ names,y.2=.free->∃c,env.cells.lookup y.1=some c)->
  ∃cl,((forIn names acc (fun(x:Str × NameKind) (r:List (Str × Addr))=>if(x.2 == .free)=true then(do let a<-cellOf env x.1;pure (ForInStep.yield ((x.1,a)::r)))else pure (ForInStep.yield r)):Sem (List (Str × Addr)))=pure (cl++acc))/\
   (∀ y ∈ cl,env.cells.lookup y.1=some y.2)/\(∀ y ∈ names,y.2=.free->∃c,(y.1,c) ∈ cl):=by
 intro names
 induction names with
 | nil=>intro acc _;exact⟨[],rfl,(fun _ h=>by cases h),(fun _ h=>by cases h)⟩
 | cons x r ih=>
  intro acc h;obtain⟨n,k⟩:=x;cases hk:(k == NameKind.free)with
  | false=>
   obtain⟨cl,e,h1,h2⟩:=ih acc fun y hy=>h y (Jo _ hy);refine⟨cl,?_,h1,fun y hy hf=>?_⟩
   ·simp only[LD,hk,Ke,Lj];exact e
   ·rcases Jx.mp hy with rfl | hy
    ·have hf:k=.free:=hf;rw[hf]at hk;cases hk
    ·exact h2 y hy hf
  | true=>
   have hkf:k=.free:=by simpa using hk
   obtain⟨c,hc⟩:=h (n,k) Js hkf;obtain⟨cl,e,h1,h2⟩:=ih ((n,c)::acc) fun y hy=>h y (Jo _ hy);refine⟨cl++[(n,c)],?_,fun y hy=>?_,fun y hy hf=>?_⟩
   ·simp only[LD,hk,Mz];unfold cellOf;have hc':env.cells.lookup n=some c:=hc;rw[hc'];simp only[JM,List.singleton_append];exact e
   ·rcases JB.mp hy with hy | hy
    ·exact h1 y hy
    ·have ey:y=(n,c):=by simpa using hy
     subst ey;exact hc
   ·rcases Jx.mp hy with rfl | hy
    ·exact⟨c,JQ _ (by simp)⟩
    ·obtain⟨d,hd⟩:=h2 y hy hf;exact⟨d,Ka _ hd⟩
theorem t9 {env:Env} {aY:Scope} (h:∀y ∈ aY.names,y.2=.free->∃c,env.cells.lookup y.1=some c):
  ∃cl,closureFor aY env=pure cl/\(∀ y c,cl.lookup y=some c->env.cells.lookup y=some c)/\(∀ y,(y,NameKind.free) ∈ aY.names->∃c,cl.lookup y=some c):=by
 obtain⟨cl,e,h1,h2⟩:=t_ env aY.names [] h;refine⟨cl,?_,fun y c hl=>h1 (y,c) (Lp hl),fun y hy=>?_⟩
 ·rw[LV]at e;unfold closureFor;simp only[e];rfl
 ·obtain⟨c,hc⟩:=h2 (y,.free) hy rfl;cases q:cl.lookup y with
  | some d=>exact⟨d,rfl⟩
  | none=>
   exfalso;clear h1 h2 e
   induction cl with
   | nil=>cases hc
   | cons z r ih=>
    obtain⟨a,b⟩:=z;simp only[JU]at q;cases hb:(y == a)with
    | true=>rw[hb]at q;cases q
    | false=>
     rw[hb]at q;rcases Jx.mp hc with hc | hc
     ·cases hc
      simp at hb
     ·exact ih hc q
theorem gC {aY:Scope} {env:Env} {y:Str}:(relabel aY env).names.lookup y=(aY.names.lookup y).map fun k=>if(k == .free && env.scope.kind == .function && env.kindOf y == some .cell)then .cell else k:=by
 unfold relabel;dsimp only;generalize aY.names=names
 induction names with
 | nil=>rfl
 | cons z r ih=>
  obtain⟨n,k⟩:=z;simp only[JF,JU];cases hb:(y == n)with
  | true=>
   have e:y=n:=by simpa using hb
   subst e
   by_cases hc:(k == NameKind.free && env.scope.kind == .function && env.kindOf y == some .cell)=true
   ·simp only[hc,Mz,JU,hb,K5]
   ·simp only[hc,Lj,JU,hb,K5,Ke]
  | false=>
   by_cases hc:(k == NameKind.free && env.scope.kind == .function && env.kindOf n == some .cell)=true
   ·simp only[hc,Mz,JU,hb];exact ih
   ·simp only[hc,Lj,JU,hb,Ke];exact ih
theorem gG {α β:Type} [BEq α] [LawfulBEq α] {l:List (α × β)} {a:α} {b:β} (h:l.lookup a=some b):(a,b) ∈ l:=by
 induction l with
 | nil=>cases h
 | cons x r ih=>
  obtain⟨c,d⟩:=x;simp only[JU]at h;cases hb:(a == c)with
  | true=>
   rw[hb]at h;have e:a=c:=by simpa using hb
   subst e;cases h
   exact Js
  | false=>rw[hb]at h;exact Jo _ (ih h)
structure bj (X X':Cx) (aY:Scope) (N':NW):Prop where
 prog:X'.prog=X.prog
 w:X'.w=X.w
 K:X'.K=X.K
 mg:X'.mg=X.mg
 base:X'.base=X.base
 A:X'.A=X.A
 calm:X'.calm=true
 stack:X'.stack=X.stack
 frame:X'.env.frame=X.env.frame
 N:X'.N=N'
 scope:X'.env.scope=relabel aY X.env
noncomputable def sH (X:Cx) (ifs:NZ) (tt:TT):Prop:=
 ∀ (pins:NT) (s:Shared) (σ:L2.St) (H:Hp) (Q:Bool->Hp->Prop),Inv X pins σ H s->tt σ H Q->
  wpAny (model X.prog X.w) X.A (forIn ifs true fun c r=>if r=true then do let ok<-isTrue c X.env (eval c X.env);pure (ForInStep.yield ok)else pure (ForInStep.yield r)) (TP X pins σ Q) X.xe s
theorem xY {σ:L2.St} {fv:List (Str × Nat)} {i:Nat} {v:V} (h:(vars σ fv)[i]?=some (some v)):∃y,fv[i]?=some y/\σ[y.2]?=some (some v):=by
 unfold vars at h;rw[JJ]at h;cases e:fv[i]? with
 | none=>rw[e]at h;cases h
 | some y=>
  rw[e]at h;refine⟨y,rfl,?_⟩;have h:(σ[y.2]?).join=some v:=by simpa using h
  cases q:σ[y.2]? with
  | none=>rw[q]at h;cases h
  | some z=>rw[q]at h;simp at h;rw[h]
set_option maxHeartbeats 8000000 in
theorem Inv.oD {X:Cx} {pins:NT} {σ:L2.St} {H:Hp} {s:Shared} {C:Addr} {h':Heap} (I:Inv X pins σ H s) (f:kD X pins H C) (sb:Heap.SameBut C s.heap h'):Inv X pins σ H {s with heap:=h'}:=by
 have same:∀b o,b ≠ C->s.heap.get? b=some o->h'.get? b=some o:=fun b o hb e=>sb.extBut b o hb e;obtain⟨f0,f1,f2,f3,f4,f5⟩:=f;refine I.De (ch:=[C]) (s':={s with heap:=h'}) rfl ⟨fun b o e n hb hx=>same b o (by simpa using hx) e,fun b o e n hb hx=>⟨o.slots,same b o (by simpa using hx) e⟩,fun b o e n _=>n,fun b o e hb=>⟨o,same b o (by simpa using hb) e⟩,fun _ _ q=>q,fun _ _ _ q=>q,fun b ps q=>⟨#[],by simpa using q⟩⟩ (fun b o e=>?_) I.bare (fun b hb=>?_)
 ·refine(I.bB b o e).aq (fun c u hcu q=>same c u (fun z=>?_) q) (fun _ q=>q) fun _ _ q=>q;subst z;rcases hcu with z | z
  ·rw[<-z,f0]at e;cases e
  ·rw[f0]at z;cases z
 ·rw[show b=C by simpa using hb];exact⟨f3,f1,f4,f5⟩
noncomputable def qy (P:Program) (w:World):xM:=fun _ _ _ _ _ _=>False
noncomputable def cV (X:Cx) (Ξ:XS):Prop:=True
theorem cV.no {X:Cx} {Ξ:XS}:cV X Ξ:=trivial
section
variable {X:Cx} {pins:NT} {σ:L2.St} {H:Hp} {s s':Shared}
theorem uQ {Q:VK} {us:NX} {vs:List V} {k:Nat} {f:Addr} {fd:FuncData} {ps:NW} {sp:Sp} {Ξ:XS} (F:eG X.prog X.w X.K X.mg X.base (qy X.prog X.w) k f fd ps sp) (hr:dM k X.A) (hb:Binds X.K fd ps []) (xo:cV X Ξ)
  (I:Inv X pins σ H s) (r:Vals vs us) (h:sp vs H Q fun C d H'=>Ξ C d σ H'):wpAny (model X.prog X.w) X.A (call (.ref f) us) (EP X pins σ Q) X.xe s:=by
 have hl:(us++[]).length=ps.length:=by rw[LV,<-r.length];exact F.len _ _ _ _ h
 refine wpAny_call (Mw (F.run X.A X.stack s H ⟨us,[]⟩ us vs Q (fun C d H'=>Ξ C d σ H') hr I.Gh (by have:=hb s us I.zQ hl;rwa[LV]at this) r h) fun r s' hq=>?_);cases r with
 | error e=>exact False.elim hq
 | ok fl=>
  cases fl with
  | ret u=>exact I.after hq
  | next=>exact False.elim hq
  | brk=>exact False.elim hq
  | cont=>exact False.elim hq
end
theorem ux {P:Program} {w:World} {K:PySem.W.Frag} {mg:NY} {base:Heap} {N:NW} {qual:Str} {scope:Scope} {f:Addr} {cd:Value} {A:Around} {outer:List Env} {s:Shared} {H:Hp} {E:XK}:
  cV (kB (qy P w) P w K mg base N qual scope f cd A outer s H E) (fun C d _ H'=>E C d H'):=trivial
noncomputable def fM (X:Cx):Prop:=∃e0 o0 L,X.stack=e0::o0/\e0.frame=some L/\X.env.frame=some L
structure Ij {ι:Type} (J:It) (xs:List ι) (aq:Hp->Prop) (nxt:ι->Hp->(L2.St->Hp->Prop)->Prop) (g:TG) (n:Nat):Prop where
 go:∀i H,aq H->i < xs.length->J.go i H
 uu:∀i a H y H' R,xs[i]?=some a->J.uu i H y H'->aq H->nxt a H R->∃w,w.length=n/\R w H'/\∀ (w0 f:L2.St) (Q:L2.St->Hp->Prop),w0.length=n->Q (w++f) H'->g y (w0++f) H' Q
 stop:∀i H,aq H->xs.length<=i->J.stop i H
theorem m7 {X:Cx} {M:Mo} (mo:av X.K M) {sc aY:Scope} {elt iter tg:Expr} {ifs:NZ} {ns:NW} {pos:Pos} {fv:List (Str × Nat)} {te:TE} {tt:TT} {ι:Type} {nxt:ι->Hp->(L2.St->Hp->Prop)->Prop} {g:TG} {wi:TI} (hc:X.calm=true)
  (hcf:∀y,(sc.names.lookup y=some .cell\/sc.names.lookup y=some .free)->X.env.kindOf y=some .cell\/X.env.kindOf y=some .free)
  (ok:bM sc aY X.N ns fv=true) (hi:PI X tg iter wi) (hg:∀X',bj X X' aY (ns++fv.map (·.1))->(ns++fv.map (·.1)).Nodup->(∀ x ∈ ns,X'.env.scope.names.lookup x=some .local)->PG X' tg g)
  (top:fM X) {Ξ:XS} (xo:cV X Ξ) {use:Option (Value->Sem Unit)} {R:NS} {pins:NT} {s:Shared} {σ:L2.St} {H:Hp} {Q:V->Hp->Prop}
  (he:∀X',bj X X' aY (ns++fv.map (·.1))->cV X' (fun C d _ H'=>Ξ C d σ H')->PE X' elt te) (ht:∀X',bj X X' aY (ns++fv.map (·.1))->sH X' ifs tt)
  (hs:∀v,foldedSetIterable iter X.env v=pure v) (I:Inv X pins σ H s)
  (h:wi σ H fun J H1=>∃ (xs:List ι) (aq:Hp->Prop),Ij J xs aq nxt g ns.length/\∃kf:Addr->Hp->Prop,(∀ D H',kf D H'->Q (.ref D) H')/\∀D,H1 D=none->M D=none->cB nxt te tt (vars σ fv) D aq xs [] (upd H1 D (.lst [])) (kf D))
  (hfin:∀D C s' H',Inv X pins σ H' s'->kD X pins H' C->(∃ m,s'.heap.Ns C m)->Q (.ref D) H'->compPost (model X.prog X.w) X.A X.xe use R (.ref D) C (.ok .next) s'):
  wpAny (model X.prog X.w) X.A (comprehension (.ListComp elt [⟨tg,iter,ifs,0⟩] aY pos) aY X.env (firstIterPos [⟨tg,iter,ifs,0⟩] pos) (newList []) (firstAsync [⟨tg,iter,ifs,0⟩]) (firstIter [⟨tg,iter,ifs,0⟩] X.env) use) R X.xe s:=by
 unfold bM at ok;simp only[J6,KQ,KA,Bool.or_eq_true]at ok;obtain⟨⟨⟨⟨⟨hkind,hxl⟩,hsk⟩,hnames⟩,hfv⟩,hND⟩:=ok
 have hfr:∀y ∈ aY.names,y.2=.free->X.env.kindOf y.1=some .cell\/X.env.kindOf y.1=some .free:=fun y hy hf=>by
  rcases(hnames y hy).2 with q | q
  ·exact absurd hf q
  ·exact hcf _ q
 obtain⟨cl,hclos,hcl1,hcl2⟩:=t9 (env:=X.env) (aY:=aY) fun y hy hf=>I.ok.has _ (hfr y hy hf);refine wpAny_comprehension_free (cl:=cl) rfl hs hclos hkind (fun y hy hl=>?_) ?_
 ·rcases(hnames y hy).1.2 with q | q
  ·exact absurd hl q
  ·exact q
 show wpAny _ _ (eval iter X.env) _ _ _;refine cz (hi pins s σ H _ I h) fun v s1 h1=>cz h1 fun itv s2 h2=>?_;obtain⟨it,fp,tn,J,H2,rfl,I2,T,st2,f2,xs,aq,SQ,kf,hkf,hW⟩:=h2;refine KG (wpAny_newFunctionEnv (fun y hy=>(hnames y hy).1.1) (by intro y hy;simp at hy) (fun h₁ hns₁ hsb₁=>?_) hkind);dsimp only at hns₁ hsb₁ ⊢;generalize hG:s2.heap.push {cls:=.type "list",dict:=none,data:=.seq ([]:NX).toArray}=G at hns₁ hsb₁ ⊢;have hC:G.objs.size=s2.heap.objs.size + 1:=by rw[<-hG,KH]
 have old:∀b o,s2.heap.get? b=some o->h₁.get? b=some o:=fun b o e=>
  hsb₁.extBut b o (by rw[hC];exact JC (J0 (Ju e))) (Jq _ (hG ▸ Jq _ e))
 have hD1:h₁.get? s2.heap.objs.size=some {cls:=.type "list",data:=.seq ([]:NX).toArray 0}:=
  hsb₁.extBut _ _ (by rw[hC];exact JC (Kg _)) (Jq _ (hG ▸ JE _ rfl))
 have fD:H2 s2.heap.objs.size=none:=I2.bB.fresh (JG _);have fC:H2 G.objs.size=none:=I2.bB.fresh (by rw[hC];exact K8 _)
 have fpLt:∀b ∈ fp,b < s2.heap.objs.size:=fun b hb=>by
  obtain⟨o,e,_⟩:=T.obj 0 _ st2 b hb;exact Ju e
 have clLt:∀y c,cl.lookup y=some c->c < s2.heap.objs.size:=fun y c e=>by
  obtain⟨v,q⟩:=I2.cell y c (hcl1 y c e);exact q.lt
 let X':Cx:={prog:=X.prog,w:=X.w,K:=X.K,mg:=X.mg,base:=X.base,A:=X.A,N:=ns++fv.map (·.1),s₀:=s2,H₀:=H2,env:=compEnvC aY cl G.objs.size X.env,outer:=X.stack,stack:=X.stack,ex:=fp,fn:=fun _=>false,calm:=true,pn:=[],xe:=notedBy (model X.prog X.w) X.A (compEnvC aY cl G.objs.size X.env) fun e s'=>compPost (model X.prog X.w) X.A X.xe use R (.ref s2.heap.objs.size) G.objs.size (.error e) s'}
 have CO:bj X X' aY (ns++fv.map (·.1)):=⟨rfl,rfl,rfl,rfl,rfl,rfl,rfl,rfl,rfl,rfl,rfl⟩
 have okX:X'.Ok:=by
  refine⟨I.ok.mod,hkind,I.ok.glob,I.ok.blt,(by show s2.heap.objs.size<=G.objs.size;rw[hC];exact K8 _),fun y z c e1 e2=>I.ok.inj y z c (hcl1 _ _ e1) (hcl1 _ _ e2),fun y hy=>?_,fun y c hf=>absurd (show false=true from hf) JO,fun _=>I.ok.hd hc,I.ok.frames,.inl rfl,
   fun b hb=>⟨?_,fun y c e=>?_⟩,I2.bs,?_,fun b o e hb=>?_,fun b hb hm=>?_,I2.stack,I2.uG⟩
  ·have hy:(relabel aY X.env).names.lookup y=some .cell\/(relabel aY X.env).names.lookup y=some .free:=hy;rw[gC]at hy;cases q:aY.names.lookup y with
   | none=>rw[q]at hy;rcases hy with hy | hy<;>cases hy
   | some k=>
    have hm:=gG q
    have kf:k=.free:=by
     rw[q]at hy;simp only[K5]at hy
     by_cases hk:k=.free
     ·exact hk
     ·have e:(k == NameKind.free)=false:=by simpa using hk
      simp only[e,Bool.false_and,Ke,Lj]at hy;rcases hy with hy | hy
      ·exact absurd (JL hy) (hnames _ hm).1.1
      ·exact JL hy
    subst kf;exact hcl2 y hm
  ·exact JC (JD (fpLt b hb) (by show _<=G.objs.size;rw[hC];exact K8 _))
  ·exact(f2 b hb).2.2.2.2.1 y c (hcl1 y c e)
  ·exact JS I.ok.Cz I2.sz
  ·rcases(f2 b hb).2.2.2.1 with z | z
   ·exact I.ok.zr b o e z
   ·exact absurd (JD (Ju e) I.ok.Cz) (MA.mpr z)
  ·rcases Jx.mp (I2.pF b hm)with z | z
   ·exact(f2 b hb).2.1 z
   ·exact(f2 b hb).2.2.1 z
 have loc0:∀ (s':Shared) (H':Hp),(∀ y c,cl.lookup y=some c->s'.heap.get? c=s2.heap.get? c)->∀ (m:NY) (i:Nat) (y:Str) (v:V),(ns++fv.map (·.1))[i]?=some y->(List.replicate ns.length none++vars σ fv)[i]?=some (some v)->∃u,RelV v u/\Look X'.env s'.heap m y u:=by
  intro s' H' hkc m i y v e1 e2
  by_cases mQ:i < ns.length
  ·rw[JP (by rw[LA];exact mQ),NG,Jj mQ]at e2;cases e2
  ·have hge:ns.length<=i:=MJ mQ;rw[J1 hge]at e1;rw[J1 (by rw[LA];exact hge),LA]at e2;obtain⟨z,ez,sz⟩:=xY e2;rw[JJ,ez]at e1;have ey:z.1=y:=by simpa using e1
   subst ey;obtain⟨hN,hlf⟩:=hfv z (Jp ez);obtain⟨m2,hn2,hl2⟩:=I2.loc;have hkz:X.env.kindOf z.1=some .cell\/X.env.kindOf z.1=some .free:=hfr _ (gG hlf) rfl
   have hvz:CG X.env.scope z.1:=by
    rcases hkz with q | q
    ·exact .inr (.inl q)
    ·exact .inr (.inr q)
   obtain⟨u,ru,lk⟩:=hl2 z.2 z.1 v hN sz hvz;refine⟨u,ru,.inr ⟨?_,?_⟩⟩
   ·show(relabel aY X.env).names.lookup z.1=some .cell\/(relabel aY X.env).names.lookup z.1=some .free;rw[gC,hlf];simp only[K5]
    by_cases q:((NameKind.free == NameKind.free) && X.env.scope.kind == .function && X.env.kindOf z.1 == some .cell)=true
    ·rw[Jj q];exact .inl rfl
    ·rw[Ji q];exact .inr rfl
   ·obtain⟨c,hcz⟩:=hcl2 z.1 (gG hlf);rcases lk with ⟨q,_⟩ | ⟨_,c',hc',cell⟩
    ·rcases hkz with z1 | z1<;>(rw[z1]at q;cases q)
    ·have:c'=c:=by
      have:=hcl1 _ _ hcz;rw[hc']at this;exact JL this
     subst this;refine⟨c',hcz,?_⟩;obtain⟨o,ho,hd⟩:=cell;exact⟨o,by rw[hkc _ _ hcz];exact ho,hd⟩
 have hxr:∀x ∈ ns,(relabel aY X.env).names.lookup x=some .local:=fun x hx=>lookup_relabel_local (hxl x hx)
 have I0:∀tk0,Inv X' [] (List.replicate ns.length none++vars σ fv) (upd H2 s2.heap.objs.size (.lst [])) {s2 with heap:=h₁,toks:=tk0}:=fun tk0=>by
  refine⟨okX,rfl,I2.bare,Un.laid old (JG _) fD,⟨_,hns₁,fun i y v e1 e2 _=>loc0 {s2 with heap:=h₁,toks:=tk0} H2 (fun y c e=>?_) _ i y v e1 e2⟩,fun y c e=>?_,?_,fun y c e=>?_,fun p hp=>absurd (show p ∈ ([]:NT)from hp) (by simp),I2.bB.laid old (JG _) ⟨J3 _,[],0,.nil,hD1⟩,?_⟩
  ·obtain⟨v,o,ho,hd⟩:=I2.cell y c (hcl1 y c e);exact(old c o ho).trans ho.symm
  ·obtain⟨v,o,ho,hd⟩:=I2.cell y c (hcl1 y c e);exact⟨v,o,old c o ho,hd⟩
  ·show upd H2 s2.heap.objs.size (.lst []) G.objs.size=none;rw[af (by rw[hC];exact KS (Kg _))];exact fC
  ·rw[af (JC (clLt y c e))];exact I2.fz y c (hcl1 y c e)
  ·show(List.replicate ns.length none++vars σ fv).length=(ns++fv.map (·.1)).length;simp[vars]
 have fpN:∀b ∈ fp,∀o,(upd H2 s2.heap.objs.size o) b=none:=fun b hb o=>by
  rw[af (JC (fpLt b hb))];exact(f2 b hb).1
 have fpX:∀ {H':Hp},(∀ b ∈ fp,H' b=none)->∀b ∈ fp,kD X' [] H' b:=fun hn b hb=>by
  refine⟨hn b hb,(okX.G_ b hb).1,okX.Al b hb,.inl hb,(okX.G_ b hb).2,fun p hp=>absurd (show p ∈ ([]:NT)from hp) (by simp)⟩
 have toOut:∀ (s':Shared) (σ':L2.St) (H':Hp) (pins':NT),Inv X' pins' σ' H' s'->Inv X pins σ H' s':=fun s' σ' H' pins' I'=>by
  have B:=I'.base;refine I2.De (ch:=fp) (s':=s') I'.os ⟨fun b o e n hb hx=>B.keep b o e n hb hx,fun b o e n hb hx=>B.slot b o e n hb hx,B.free,fun b o e hx=>B.there b o e hx,B.lH,B.kz,B.kq⟩ I'.bB I'.bare (fun b hb=>?_);obtain⟨f0,f1,f2',f3,f4,f5⟩:=f2 b hb;exact⟨f3,f1,f4,f5⟩
 have xoC:cV X' (fun C d _ H'=>Ξ C d σ H'):=trivial
 have fin:∀ (s':Shared) (σ':L2.St) (H':Hp),Inv X' [] σ' H' s'->Q (.ref s2.heap.objs.size) H'->compPost (model X.prog X.w) X.A X.xe use R (.ref s2.heap.objs.size) G.objs.size (.ok .next) s':=by
  intro s' σ' H' I' q;obtain⟨m,hm,_⟩:=id I'.loc;have I3:Inv X pins σ H' s':=toOut s' σ' H' [] I';exact hfin _ _ s' H' I3 (I2.Ct (by rw[hC];exact K8 _) I'.free) ⟨m,hm⟩ q
 have loop:∀s₃:Shared,(∃ tk0,s₃={s2 with heap:=h₁,toks:=tk0})->
   codeAny (model X.prog X.w) X.A (.compLoop (.ListComp elt [⟨tg,iter,ifs,0⟩] aY pos) 0 (.ref it) (.ref s2.heap.objs.size) (compEnvC aY cl G.objs.size X.env))
    (compPost (model X.prog X.w) X.A X.xe use R (.ref s2.heap.objs.size) G.objs.size) s₃:=by
  rintro s₃ ⟨tk0,rfl⟩
  refine codeAny_loop rfl (fun n s'=>∃i acc H' v0,v0.length=ns.length/\Inv X' [] (v0++vars σ fv) H' s'/\tn i s'.heap/\(∀ b ∈ fp,H' b=none)/\i + n=xs.length/\cB nxt te tt (vars σ fv) s2.heap.objs.size aq (xs.drop i) acc H' (kf s2.heap.objs.size))
   (fun n s' hI=>?_) xs.length ⟨0,[],_,_,LA,I0 tk0,T.keep 0 _ _ st2 (fun b hb o e=>old b o e),fun b hb=>fpN b hb _,by omega,by simpa using hW _ fD (iU.new (Inv.tE (X:=X') mo (I0 tk0)))⟩
  obtain⟨i,acc,H',v0,hv0,I',st',fr',mQ,cw⟩:=hI;show wpAny _ _ ((compTurn (.ListComp elt [⟨tg,iter,ifs,0⟩] aY pos) 0 (.ref it) (.ref s2.heap.objs.size) (compEnvC aY cl G.objs.size X.env)).onRaise (fun x=>do noteFrame x (compEnvC aY cl G.objs.size X.env);theTreesLotGoes x)) _ _ _;refine wpAny_noted ?_;rw[compTurn_list];refine Jh (LU (Jh ?_));cases ed:xs.drop i with
  | nil=>
   rw[ed]at cw;obtain⟨hst,hD,hq⟩:=cw;have hle:xs.length<=i:=by simpa using ed
   refine KW (T.done X' rfl rfl rfl rfl i [] s' _ H' (fun _ _=>False) I' (fpX fr') st' (SQ.stop i H' hst hle)) (fun r s4 ⟨hr,I4⟩=>?_) fun _ _ z=>z.elim;subst hr;exact Jm (fin s4 _ H' I4 (hkf _ _ hq))
  | cons v r=>
   rw[ed]at cw;obtain⟨hst,cw⟩:=cw
   have hlt:i < xs.length:=by
    have:=congrArg List.length ed;simp at this;omega
   have hvi:xs[i]?=some v:=by
    have:=congrArg (fun l=>l[0]?) ed;simpa using this
   have hdr:xs.drop (i + 1)=r:=by
    have:=congrArg List.tail ed;simpa[Lr]using this
   refine KW (T.item X' rfl rfl rfl rfl i [] s' _ H' (fun _ _=>False) I' (fpX fr') st' (SQ.go i H' hst hlt)) (fun r' s4 ⟨u,hr,h4⟩=>?_) fun _ _ z=>z.elim;subst hr;refine Jh (KW h4 (fun _ s5 ⟨y,H5,I5,r5,y5,st5,fr5⟩=>?_) fun _ _ z=>z.elim);obtain⟨w,hwl,cw,hgw⟩:=SQ.uu i v H' y H5 _ hvi y5 hst cw;have I5':=I5.pinned (fpX fr5) (T.obj _ _ st5);refine Jh (KW (hg X' CO hND (fun x hx=>hxr x hx) _ s5 _ H5 y u (fun σ6 H6=>σ6=w++vars σ fv/\H6=H5) I5' r5 (hgw v0 _ _ hv0 ⟨rfl,rfl⟩)) (fun _ s6 ⟨σ6,H6,I6,e6,e6'⟩=>?_) fun _ _ z=>z);subst e6 e6';refine Jh (KW (ht X' CO _ s6 _ H6 _ I6 cw) (fun okb s7 ⟨H7,I7,q7⟩=>?_) fun _ _ z=>z)
   have again:∀ {s8:Shared} {H8:Hp} {acc':List V},Inv X' ([]++lZ fp s5.heap) (w++vars σ fv) H8 s8->cB nxt te tt (vars σ fv) s2.heap.objs.size aq r acc' H8 (kf s2.heap.objs.size)->
     ∃m,m < n/\∃i acc H' v0,v0.length=ns.length/\Inv X' [] (v0++vars σ fv) H' s8/\tn i s8.heap/\(∀ b ∈ fp,H' b=none)/\i + m=xs.length/\cB nxt te tt (vars σ fv) s2.heap.objs.size aq (xs.drop i) acc H' (kf s2.heap.objs.size):=by
    intro s8 H8 acc' I8 c8;refine⟨n - 1,by omega,i + 1,acc',H8,w,hwl,I8.i8,T.keep _ _ _ st5 fun b hb o e=>(I8.pin (b,o) (JQ _ (JQ _ (fY hb e)))).1,fun b hb=>?_,by omega,by rw[hdr];exact c8⟩;obtain⟨o,e,d⟩:=T.obj _ _ st5 b hb;exact(I8.pin (b,o) (JQ _ (JQ _ (fY hb e)))).2.1
   cases okb with
   | false=>
    simp only[Ke,Lj]at q7 ⊢;exact Jm ⟨rfl,again I7 q7⟩
   | true=>
    simp only[Mz]at q7 ⊢;refine Jh (Jh (KW (he X' CO xoC _ s7 _ H7 _ I7 q7) (fun yv s8 ⟨yy,H8,I8,r8,hD8,hz8,q8⟩=>?_) fun _ _ z=>z));refine Jh (KW (oB (X:=X') _ s8 _ H8 (.ref s2.heap.objs.size) [yy] (.ref s2.heap.objs.size) [yv] (fun _ H9=>H9=upd H8 s2.heap.objs.size (.lst (acc++[yy]))) I8 rfl (.cons r8 .nil) ⟨_,acc,yy,rfl,rfl,hD8,hz8,rfl⟩) (fun _ s9 ⟨_,H9,I9,_,e9⟩=>?_) fun _ _ z=>z);subst e9;exact Jm (Jm ⟨rfl,again I9 q8⟩)
 exact codeAny_compStart_list (loop _ ⟨_,rfl⟩) (T.self _ 0 _ _ _ (T.keep 0 _ _ st2 (fun b hb o e=>old b o e)) (loop _ ⟨_,rfl⟩))
noncomputable def D5 (bd:V->Hp->Option L2.St) (v:V) (H:Hp) (R:L2.St->Hp->Prop):Prop:=match bd v H with
 | some w=>R w H
 | none=>False
theorem oT {bd:V->Hp->Option L2.St} {te:TE} {tt:TT} {fvs:L2.St} {D:Addr} {aq:Hp->Prop} {k:Hp->Prop}:∀ (xs acc:List V) (H:Hp),cK bd te tt fvs D aq xs acc H k=cB (D5 bd) te tt fvs D aq xs acc H k
 | [],_,_=>rfl
 | v::r,acc,H=>by
  unfold cK cB;simp only[oT r];rfl
theorem ie {X:Cx} {M:Mo} (mo:av X.K M) {sc aY:Scope} {elt iter tg:Expr} {ifs:NZ} {ns:NW} {pos:Pos} {fv:List (Str × Nat)} {te:TE} {tt:TT} {bd:V->Hp->Option L2.St} {g:TG} {wi:L2.St->Hp->(List V->(Hp->Prop)->Hp->Prop)->Prop} (hc:X.calm=true)
  (hcf:∀y,(sc.names.lookup y=some .cell\/sc.names.lookup y=some .free)->X.env.kindOf y=some .cell\/X.env.kindOf y=some .free)
  (ok:bM sc aY X.N ns fv=true) (hi:PI X tg iter (p8 wi)) (hg:∀X',bj X X' aY (ns++fv.map (·.1))->(ns++fv.map (·.1)).Nodup->(∀ x ∈ ns,X'.env.scope.names.lookup x=some .local)->PG X' tg g) (hgb:∀v w w0 f H Q,bd v H=some w->w0.length=ns.length->Q (w++f) H->g v (w0++f) H Q) (hgl:∀v w H,bd v H=some w->w.length=ns.length)
  (top:fM X) {Ξ:XS} (xo:cV X Ξ) {use:Option (Value->Sem Unit)} {R:NS} {pins:NT} {s:Shared} {σ:L2.St} {H:Hp} {Q:V->Hp->Prop}
  (he:∀X',bj X X' aY (ns++fv.map (·.1))->cV X' (fun C d _ H'=>Ξ C d σ H')->PE X' elt te) (ht:∀X',bj X X' aY (ns++fv.map (·.1))->sH X' ifs tt)
  (hs:∀v,foldedSetIterable iter X.env v=pure v) (I:Inv X pins σ H s)
  {kk:List V->(Hp->Prop)->Hp->Prop} (h:wi σ H kk) (hkk:∀xs aq H1,kk xs aq H1->∃kf:Addr->Hp->Prop,(∀ D H',kf D H'->Q (.ref D) H')/\∀D,H1 D=none->M D=none->cK bd te tt (vars σ fv) D aq xs [] (upd H1 D (.lst [])) (kf D))
  (hfin:∀D C s' H',Inv X pins σ H' s'->kD X pins H' C->(∃ m,s'.heap.Ns C m)->Q (.ref D) H'->compPost (model X.prog X.w) X.A X.xe use R (.ref D) C (.ok .next) s'):
  wpAny (model X.prog X.w) X.A (comprehension (.ListComp elt [⟨tg,iter,ifs,0⟩] aY pos) aY X.env (firstIterPos [⟨tg,iter,ifs,0⟩] pos) (newList []) (firstAsync [⟨tg,iter,ifs,0⟩]) (firstIter [⟨tg,iter,ifs,0⟩] X.env) use) R X.xe s:=by
 refine m7 (nxt:=D5 bd) mo hc hcf ok hi hg top xo he ht hs I ⟨kk,h,fun J xs aq H1 sq q=>⟨xs,aq,⟨sq.go,fun i a H y H' R e y1 st nx=>?_,sq.stop⟩,?_⟩⟩ hfin
 ·obtain⟨hlt,_⟩:=Jv.mp e;obtain⟨eH,ev⟩:=sq.uu i H y H' hlt y1 st;subst eH;rw[e]at ev;obtain rfl:a=y:=JL ev;unfold D5 at nx;split at nx
  ·rename_i w ew;exact⟨w,hgl _ _ _ ew,nx,fun w0 f Q hw q=>hgb _ _ _ _ _ _ ew hw q⟩
  ·exact nx.elim
 ·obtain⟨kf,k1,k2⟩:=hkk xs aq H1 q;exact⟨kf,k1,fun D h1 h2=>by rw[<-oT];exact k2 D h1 h2⟩
noncomputable def gb:List Nat->Dh
 | []=>Gf
 | i::is=>C9 (mS i) (gb is)
theorem cS:∀ {is:List Nat} {xs:List V} {σ:L2.St} {H:Hp} {Q:L2.St->Hp->Prop},xs.length=is.length->Q (eQ σ is xs) H->gb is xs σ H Q
 | [],[],σ,H,Q,_,q=>⟨rfl,q⟩
 | i::is,x::xs,σ,H,Q,hl,q=>⟨x,xs,rfl,cS (by simpa using hl) q⟩
 | [],_::_,_,_,_,hl,_=>by simp at hl
 | _::_,[],_,_,_,hl,_=>by simp at hl
theorem uc:∀ (is:List Nat) {ts:NZ} {N:NW} {env:Env},assignEach (bN N is ts) env=(bN N is ts).map fun t=>(false,assign t env)
 | [],_,_,_=>rfl
 | _::is,ts,N,env=>congrArg (_::·) (uc is (ts:=ts.tail) (N:=N) (env:=env))
theorem o4:∀ (is:List Nat) {ts:NZ} {N:NW},(bN N is ts).length=is.length
 | [],_,_=>rfl
 | _::is,_,_=>congrArg (·+ 1) (o4 is)
theorem nj {is:List Nat} {ts:NZ} {N:NW} {env:Env}:(assignEach (bN N is ts) env).length=is.length:=by
 rw[uc,Jk,o4]
theorem jC {is:List Nat} {ts:NZ} {N:NW} {env:Env}:(assignEach (bN N is ts) env).findIdx? (·.1)=none:=by
 rw[uc,LJ];intro x hx;obtain⟨t,_,rfl⟩:=Jn.mp hx;rfl
theorem fS:∀ (xs:List V) (k:Nat) (σ:L2.St),k + xs.length<=σ.length->eQ σ (List.range' k xs.length) xs=σ.take k++(xs.map some++σ.drop (k + xs.length))
 | [],k,σ,h=>by
  show σ=_;simp
 | x::xs,k,σ,h=>by
  rw[J5]at h;show eQ (σ.set k (some x)) (List.range' (k + 1) xs.length) xs=_;rw[fS xs (k + 1) (σ.set k (some x)) (by rw[Mr];omega)]
  have e:(σ.set k (some x)).take (k + 1)=σ.take k++[some x]:=by
   rw[MC,List.take_set_of_le (JG _),K7 (by omega)];rfl
  rw[e,List.drop_set_of_lt (by omega),JM,JF,J5,show k + (xs.length + 1)=k + 1 + xs.length by omega];rfl
theorem FR {N:NW} {i:Nat} (h:i < N.length):N[i]?=some (nx N i):=by
 unfold nx;rw[Kw,Jl h];rfl
section
variable {X':Cx}
theorem g_ (nd:X'.N.Nodup):∀ {is:List Nat} {ts:NZ},(∀ i ∈ is,i < X'.N.length/\X'.env.scope.names.lookup (nx X'.N i)=some .local)->EU X' (bN X'.N is ts) (gb is)
 | [],_,_=>u3
 | i::is,_,h=>q_ (jh nd (FR (h i Js).1) (.inl (h i Js).2) (.inr (h i Js).2)) (g_ nd fun j hj=>h j (Jo _ hj)) rfl
end
theorem m_ {te:TE} {tt:TT} {fvs:L2.St} {D:Addr} {aq:Hp->Prop} {k:Hp->Prop}:∀ (xs acc:List V) (H:Hp),eA te tt fvs D aq xs acc H k=cK (fun v _=>some [some v]) te tt fvs D aq xs acc H k
 | [],_,_=>rfl
 | v::r,acc,H=>by
  show(aq H/\tt (some v::fvs) H fun ok H1=>if ok=true then te (some v::fvs) H1 fun y H2=>H2 D=some (.lst acc)/\acc.length < sizeLine/\eA te tt fvs D aq r (acc++[y]) (upd H2 D (.lst (acc++[y]))) k else eA te tt fvs D aq r acc H1 k)=(aq H/\tt (some v::fvs) H fun ok H1=>if ok=true then te (some v::fvs) H1 fun y H2=>H2 D=some (.lst acc)/\acc.length < sizeLine/\cK (fun v _=>some [some v]) te tt fvs D aq r (acc++[y]) (upd H2 D (.lst (acc++[y]))) k else cK (fun v _=>some [some v]) te tt fvs D aq r acc H1 k);simp only[m_ r]
theorem yG {X:Cx}:sH X [] (fun _ H Q=>Q true H):=fun pins s σ H Q I q=>by
 show wpAny _ _ (pure true) _ _ _;exact Jm ⟨H,I,q⟩
theorem u5 {v:V} {w w0 f:L2.St} {H:Hp} {Q:L2.St->Hp->Prop} (e:(some [some v]:Option L2.St)=some w) (hw:w0.length=([0]:List Nat).length) (q:Q (w++f) H):mS 0 v (w0++f) H Q:=by
 cases e
 match w0,hw with
 | [a],_=>exact q
section
variable {X:Cx} {M:Mo} {sc aY:Scope} {elt iter:Expr} {ifs:NZ} {x:Str} {px pos:Pos} {fv:List (Str × Nat)} {te:L2.St->TE} {tt:TT} {wi:L2.St->Hp->(List V->(Hp->Prop)->Hp->Prop)->Prop} {Ξ:XS}
theorem BV (mo:av X.K M) (hc:X.calm=true) (top:fM X) (xo:cV X Ξ)
  (hcf:∀y,(sc.names.lookup y=some .cell\/sc.names.lookup y=some .free)->X.env.kindOf y=some .cell\/X.env.kindOf y=some .free)
  (ok:bM sc aY X.N [x] fv=true) (hi:PI X (.Name x px) iter (p8 wi))
  (he:∀σ X',bj X X' aY (x::fv.map (·.1))->cV X' (fun C d _ H'=>Ξ C d σ H')->PE X' elt (te σ)) (ht:∀X',bj X X' aY (x::fv.map (·.1))->sH X' ifs tt)
  (hs:∀v,foldedSetIterable iter X.env v=pure v):
  PE X (.ListComp elt [⟨.Name x px,iter,ifs,0⟩] aY pos) (fun σ H Q=>wi σ H fun xs aq H1=>∀D,H1 D=none->M D=none->eA (te σ) tt (vars σ fv) D aq xs [] (upd H1 D (.lst [])) fun H'=>Q (.ref D) H'):=by
 intro pins s σ H Q I h;rw[eval_ListComp];refine ie (bd:=fun v _=>some [some v]) (g:=mS 0) mo hc hcf ok hi (fun X' c nd hl=>jh (by rw[c.N];exact nd) (by rw[c.N];rfl) (.inl (hl x (by simp))) (.inr (hl x (by simp)))) (fun v w w0 f H Q e hw q=>u5 e hw q) (fun v w H e=>by cases e;rfl) top xo (he σ) ht hs (use:=none) (R:=EP X pins σ Q) I h (fun xs aq H1 q=>⟨fun D H'=>Q (.ref D) H',fun _ _ z=>z,fun D h1 h2=>(m_ _ _ _).mp (q D h1 h2)⟩) fun D C s' H' I' f ⟨m,hm⟩ q=>?_;refine⟨m,hm,fun h' sb=>⟨.ref D,H',?_,rfl,q⟩⟩;exact Inv.oD I' f sb
theorem Bz (mo:av X.K M) (hc:X.calm=true) (top:fM X) (xo:cV X Ξ)
  (hcf:∀y,(sc.names.lookup y=some .cell\/sc.names.lookup y=some .free)->X.env.kindOf y=some .cell\/X.env.kindOf y=some .free)
  (ok:bM sc aY X.N [x] fv=true) (hi:PI X (.Name x px) iter (p8 wi))
  (he:∀σ X',bj X X' aY (x::fv.map (·.1))->cV X' (fun C d _ H'=>Ξ C d σ H')->PE X' elt (te σ)) (ht:∀X',bj X X' aY (x::fv.map (·.1))->sH X' ifs tt)
  (hs:∀v,foldedSetIterable iter X.env v=pure v) {i:Nat} {t:Str} {tp spos:Pos} (hN:X.N.Nodup) (hit:X.N[i]?=some t) (hx:Loc X.env.scope t) (hf:X.fn t=true\/X.env.scope.names.lookup t=some .local)
  (hsw:swapsWith (.ListComp elt [⟨.Name x px,iter,ifs,0⟩] aY pos) (some (.Name t tp)) spos.line X.env=pure true):
  PS X (.Assign [.Name t tp] (.ListComp elt [⟨.Name x px,iter,ifs,0⟩] aY pos) spos) (fun D σ H=>wi σ H fun xs aq H1=>∀B,H1 B=none->M B=none->eA (te σ) tt (vars σ fv) B aq xs [] (upd H1 B (.lst [])) fun H'=>D.nx (σ.set i (some (.ref B))) H'):=by
 intro pins s σ H D I h;rw[ML _ _ _ _ hsw];refine Jh (LU (Jh ?_));show wpAny _ _ (do let _<-comprehension _ _ _ _ _ _ _ (some _)) _ _ _;refine Jh ?_;refine ie (bd:=fun v _=>some [some v]) (g:=mS 0) mo hc hcf ok hi (fun X' c nd hl=>jh (by rw[c.N];exact nd) (by rw[c.N];rfl) (.inl (hl x (by simp))) (.inr (hl x (by simp)))) (fun v w w0 f H Q e hw q=>u5 e hw q) (fun v w H e=>by cases e;rfl) top xo (he σ) ht hs (Q:=fun v H'=>D.nx (σ.set i (some v)) H') I h (fun xs aq H1 q=>⟨fun B H'=>D.nx (σ.set i (some (.ref B))) H',fun _ _ z=>z,fun D h1 h2=>(m_ _ _ _).mp (q D h1 h2)⟩) fun B C s' H' I' f ⟨m,hm⟩ q=>?_;show wpAny _ _ (assign (.Name t tp) X.env (.ref B)) _ _ _;refine Jh (LU ?_);unfold bindName;refine Jh (Kd (Mm ?_));refine Jh (gZ I' hN hit hx (v:=.ref B) rfl (fun s2 I2 ⟨a,sb,ha⟩=>?_) hf);refine Mm ?_
 have hne:C ≠ a:=fun z=>by
  subst z;rcases ha with z | z
  ·exact f.2.1 z
  ·exact f.2.2.2.2.1 _ _ z rfl
 obtain⟨o,es,ep,ho,r⟩:=hm;have ho2:s2.heap.get? C=some o:=(sb.2 C hne).trans ho;refine⟨m,⟨o,es,ep,ho2,r⟩,fun h' sb2=>?_⟩;exact Jm (Jm ⟨_,H',Inv.oD I2 f sb2,q⟩)
theorem yY {xs:NW} {ts:NZ} {kt} {pt:Pos} (mo:av X.K M) (hc:X.calm=true) (top:fM X) (xo:cV X Ξ)
  (hcf:∀y,(sc.names.lookup y=some .cell\/sc.names.lookup y=some .free)->X.env.kindOf y=some .cell\/X.env.kindOf y=some .free)
  (ok:bM sc aY X.N xs fv=true) (h0:xs.length ≠ 0) (hi:PI X (.Tuple (bN (ff fv xs) (List.range xs.length) ts) kt pt) iter (p8 wi))
  (he:∀σ X',bj X X' aY (ff fv xs)->cV X' (fun C d _ H'=>Ξ C d σ H')->PE X' elt (te σ))
  (ht:∀X',bj X X' aY (ff fv xs)->sH X' ifs tt) (hs:∀v,foldedSetIterable iter X.env v=pure v):
  PE X (.ListComp elt [⟨.Tuple (bN (ff fv xs) (List.range xs.length) ts) kt pt,iter,ifs,0⟩] aY pos) (fun σ H Q=>wi σ H fun vs aq H1=>∀D,H1 D=none->M D=none->cK (vO M xs.length) (te σ) tt (vars σ fv) D aq vs [] (upd H1 D (.lst [])) fun H'=>Q (.ref D) H'):=by
 intro pins s σ H Q I h;rw[eval_ListComp];refine ie (bd:=vO M xs.length) (g:=Ac X.K xs.length (gb (List.range xs.length))) mo hc hcf ok hi (fun X' c nd hl=>?_) (fun v w w0 f H Q e hw q=>?_) (fun v w H e=>?_) top xo (he σ) ht hs (use:=none) (R:=EP X pins σ Q) I h (fun xs aq H1 q=>⟨fun D H'=>Q (.ref D) H',fun _ _ z=>z,q⟩) fun D C s' H' I' f ⟨m,hm⟩ q=>?_
 ·have cN:X'.N=ff fv xs:=c.N;rw[<-c.K,<-cN];have ln:xs.length<=X'.N.length:=by rw[cN];unfold ff;rw[Jw];omega
  refine l_ c.calm (g_ (by rw[cN];exact nd) fun i hi=>?_) (by rw[nj,J8]) jC;have hi':=L_.mp hi;refine⟨JD hi' ln,hl _ ?_⟩
  have:nx X'.N i=xs[i]:=by
   unfold nx;rw[cN,Kw];unfold ff;rw[JP hi',Jl hi'];rfl
  rw[this];exact KJ hi'
 ·cases v with
  | ref p=>
   unfold vO at e;dsimp only at e;split at e
   ·rename_i ys ey;split at e
    ·rename_i ly;cases e
     refine⟨p,ys,rfl,cD mo ey,ly,cS (by rw[J8];exact ly) ?_⟩;rw[<-ly,List.range_eq_range',fS ys 0 _ (by rw[Jw];omega),Kf,M7,Kk,MY (by omega),K9 (by omega),Kk];exact q
    ·cases e
   ·cases e
  | _=>cases e
 ·cases v with
  | ref p=>
   unfold vO at e;dsimp only at e;split at e
   ·split at e
    ·rename_i ly;cases e
     rw[Jk];exact ly
    ·cases e
   ·cases e
  | _=>cases e
 refine⟨m,hm,fun h' sb=>⟨.ref D,H',?_,rfl,q⟩⟩;exact Inv.oD I' f sb
theorem By {xs:NW} {ts:NZ} {kt} {pt:Pos} (mo:av X.K M) (hc:X.calm=true) (top:fM X) (xo:cV X Ξ)
  (hcf:∀y,(sc.names.lookup y=some .cell\/sc.names.lookup y=some .free)->X.env.kindOf y=some .cell\/X.env.kindOf y=some .free)
  (ok:bM sc aY X.N xs fv=true) (h0:xs.length ≠ 0) (hi:PI X (.Tuple (bN (ff fv xs) (List.range xs.length) ts) kt pt) iter (p8 wi))
  (he:∀σ X',bj X X' aY (ff fv xs)->cV X' (fun C d _ H'=>Ξ C d σ H')->PE X' elt (te σ))
  (ht:∀X',bj X X' aY (ff fv xs)->sH X' ifs tt) (hs:∀v,foldedSetIterable iter X.env v=pure v) {i:Nat} {t:Str} {tp spos:Pos} (hN:X.N.Nodup) (hit:X.N[i]?=some t) (hx:Loc X.env.scope t) (hf:X.fn t=true\/X.env.scope.names.lookup t=some .local)
  (hsw:swapsWith (.ListComp elt [⟨.Tuple (bN (ff fv xs) (List.range xs.length) ts) kt pt,iter,ifs,0⟩] aY pos) (some (.Name t tp)) spos.line X.env=pure true):
  PS X (.Assign [.Name t tp] (.ListComp elt [⟨.Tuple (bN (ff fv xs) (List.range xs.length) ts) kt pt,iter,ifs,0⟩] aY pos) spos) (fun D σ H=>wi σ H fun vs aq H1=>∀B,H1 B=none->M B=none->cK (vO M xs.length) (te σ) tt (vars σ fv) B aq vs [] (upd H1 B (.lst [])) fun H'=>D.nx (σ.set i (some (.ref B))) H'):=by
 intro pins s σ H D I h;rw[ML _ _ _ _ hsw];refine Jh (LU (Jh ?_));show wpAny _ _ (do let _<-comprehension _ _ _ _ _ _ _ (some _)) _ _ _;refine Jh ?_;refine ie (bd:=vO M xs.length) (g:=Ac X.K xs.length (gb (List.range xs.length))) mo hc hcf ok hi (fun X' c nd hl=>?_) (fun v w w0 f H Q e hw q=>?_) (fun v w H e=>?_) top xo (he σ) ht hs (Q:=fun v H'=>D.nx (σ.set i (some v)) H') I h (fun xs aq H1 q=>⟨fun B H'=>D.nx (σ.set i (some (.ref B))) H',fun _ _ z=>z,q⟩) fun B C s' H' I' f ⟨m,hm⟩ q=>?_
 ·have cN:X'.N=ff fv xs:=c.N;rw[<-c.K,<-cN];have ln:xs.length<=X'.N.length:=by rw[cN];unfold ff;rw[Jw];omega
  refine l_ c.calm (g_ (by rw[cN];exact nd) fun i hi=>?_) (by rw[nj,J8]) jC;have hi':=L_.mp hi;refine⟨JD hi' ln,hl _ ?_⟩
  have:nx X'.N i=xs[i]:=by
   unfold nx;rw[cN,Kw];unfold ff;rw[JP hi',Jl hi'];rfl
  rw[this];exact KJ hi'
 ·cases v with
  | ref p=>
   unfold vO at e;dsimp only at e;split at e
   ·rename_i ys ey;split at e
    ·rename_i ly;cases e
     refine⟨p,ys,rfl,cD mo ey,ly,cS (by rw[J8];exact ly) ?_⟩;rw[<-ly,List.range_eq_range',fS ys 0 _ (by rw[Jw];omega),Kf,M7,Kk,MY (by omega),K9 (by omega),Kk];exact q
    ·cases e
   ·cases e
  | _=>cases e
 ·cases v with
  | ref p=>
   unfold vO at e;dsimp only at e;split at e
   ·split at e
    ·rename_i ly;cases e
     rw[Jk];exact ly
    ·cases e
   ·cases e
  | _=>cases e
 show wpAny _ _ (assign (.Name t tp) X.env (.ref B)) _ _ _;refine Jh (LU ?_);unfold bindName;refine Jh (Kd (Mm ?_));refine Jh (gZ I' hN hit hx (v:=.ref B) rfl (fun s2 I2 ⟨a,sb,ha⟩=>?_) hf);refine Mm ?_
 have hne:C ≠ a:=fun z=>by
  subst z;rcases ha with z | z
  ·exact f.2.1 z
  ·exact f.2.2.2.2.1 _ _ z rfl
 obtain⟨o,es,ep,ho,r⟩:=hm;have ho2:s2.heap.get? C=some o:=(sb.2 C hne).trans ho;refine⟨m,⟨o,es,ep,ho2,r⟩,fun h' sb2=>?_⟩;exact Jm (Jm ⟨_,H',Inv.oD I2 f sb2,q⟩)
end
open PySem.W (Frag keepIn ktsIn mroIn kitOne)
noncomputable def eB:NW:=["len","all","any","str","int","abs","sorted","list","tuple","max","min","sum","isinstance","range","bool","dict","set","ValueError","reversed","zip"]
structure kC (P:Program) (w:World) (K:Frag) (mg:NY) (base:Heap) (k:Nat) (vc:Addr->Sp):Prop where
 run:∀ (A:Around) (outer:List Env) (s:Shared) (H:Hp) (f:Addr) (us:NX) (vs:List V) (Q:VK) (E:XK),dM k A->xK P w K mg base A outer s H->Vals vs us->vc f vs H Q E->
  codeAny (model P w) A (.call (.ref f) ⟨us,[]⟩) (CR (qy P w) outer P w H s Q E) s
 HY:∀ (s:Shared) (H:Hp) (f:Addr) (vs:List V) (Q:VK) (E:XK),K.In s.heap->i4 P w H s.heap->vc f vs H Q E->PySem.W.FnAt f s.heap
theorem kC.mono {P:Program} {w:World} {K:Frag} {mg:NY} {base:Heap} {j k:Nat} {vc:Addr->Sp} (F:kC P w K mg base j vc) (h:j<=k):kC P w K mg base k vc:=
 ⟨fun A outer s H f us vs Q E hr=>F.run A outer s H f us vs Q E (hr.mono h),F.HY⟩
theorem kC.none {P:Program} {w:World} {K:Frag} {mg:NY} {base:Heap} {k:Nat}:kC P w K mg base k (fun _ _ _ _ _=>False):=
 ⟨fun _ _ _ _ _ _ _ _ _ _ _ _ h=>h.elim,fun _ _ _ _ _ _ _ _ h=>h.elim⟩
noncomputable def GS (P:Program) (w:World) (mg:NY) (base:Heap) (x:Str) (kvs:List (Key × V)):Prop:=∃a vs,mg x=some (.ref a)/\KV kvs vs/\base.DictOf (aS P w) a vs
structure b9 (P:Program) (w:World) (K:Frag) (mg:NY) (base:Heap) (Γ:b0) (k:Nat):Prop where
 mod:av K Γ.mod
 con:∀x v,Γ.con x=some v->∃u,mg x=some u/\RelV v u
 fn:∀f,Γ.has f=true->∃fa fd ps,mg f=some (.ref fa)/\keepIn K (.ref fa)=true/\eG P w K mg base (qy P w) k fa fd ps (Γ.fn f)/\Binds K fd ps []
 no:∀x ∈ eB,mg x=none
 vc:kC P w K mg base k Γ.vc
 gd:∀x kvs,Γ.gd x=some kvs->GS P w mg base x kvs
structure Ctx (X:Cx) (Γ:b0) (sc:Scope) (k:Nat):Prop where
 g:b9 X.prog X.w X.K X.mg X.base Γ k
 room:Γ.cm=true->dM (k + 1) X.A
 calm:Γ.cm=true->X.calm=true
 un:X.A.units + 64 < cLine
 GV:∀x,gK sc x=true->CG X.env.scope x
 gl:∀x,gu sc x=true->Gl X x
 cf:∀y,(sc.names.lookup y=some .cell\/sc.names.lookup y=some .free)->X.env.kindOf y=some .cell\/X.env.kindOf y=some .free
 top:fM X
section
variable {X:Cx} {a b e:Expr} {rest:NZ} {ta tb:TE} {pos:Pos} {M:Mo}
theorem PE.of {t t':TE} (h:PE X e t) (i:∀σ H Q,t' σ H Q->t σ H Q):PE X e t':=fun pins s σ H Q I q=>h pins s σ H Q I (i σ H Q q)
theorem PT.of {t t':TT} (h:PT X e t) (i:∀σ H Q,t' σ H Q->t σ H Q):PT X e t':=fun pins s σ H Q I q=>h pins s σ H Q I (i σ H Q q)
theorem PT.never {t:TT} (i:∀σ H Q,¬t σ H Q):PT X e t:=fun pins s σ H Q I q=>(i σ H Q q).elim
theorem vT {x:V} {H:Hp} {Q Q':Bool->Prop} (h:dS M x H Q) (i:∀k,Q k->Q' k):dS M x H Q':=by
 unfold dS at h ⊢;cases x with
 | aQ=>exact i _ h
 | bl b=>exact i _ h
 | int j=>exact i _ h
 | str y=>exact⟨h.1,i _ h.2⟩
 | ref p=>
  dsimp only at h ⊢;split at h
  ·exact i _ h
  ·exact i _ h
  ·exact h.elim
 | _=>exact h.elim
theorem kF (m:av X.K M) {pins:NT} {s:Shared} {σ:L2.St} {H:Hp} {x:V} {v:Value} {Q:Bool->Prop} {Q':Bool->Shared->Prop} (I:Inv X pins σ H s) (rx:RelV x v) (q:dS M x H Q)
  (h:∀k s',Inv X pins σ H s'->Q k->Q' k s'):wpAny (model X.prog X.w) X.A (truthy v) Q' X.xe s:=by
 refine cz (Ds m pins s σ H x v (fun k H2=>H2=H/\Q k) I rx (vT q fun k z=>⟨rfl,z⟩)) fun k s2 ⟨H2,I2,e2,q2⟩=>?_;subst e2;exact h k s2 I2 q2
theorem u4 (m:av X.K M) (ha:PE X a ta) (hb:PE X (.BoolOp .And (b::rest) pos) tb):PE X (.BoolOp .And (a::b::rest) pos) (fun σ H Q=>ta σ H fun x H1=>dS M x H1 fun k=>if k=true then tb σ H1 Q else Q x H1):=by
 intro pins s σ H Q I h;refine BoolOp_and (cz (ha pins s σ H _ I h) fun v s1 ⟨x,H1,I1,r1,q1⟩=>kF m I1 r1 q1 fun k s2 I2 q2=>?_);cases k with
 | true=>exact hb pins s2 σ H1 Q I2 q2
 | false=>exact⟨x,H1,I2,r1,q2⟩
theorem yP (m:av X.K M) (ha:PE X a ta) (hb:PE X (.BoolOp .Or (b::rest) pos) tb):PE X (.BoolOp .Or (a::b::rest) pos) (fun σ H Q=>ta σ H fun x H1=>dS M x H1 fun k=>if k=true then Q x H1 else tb σ H1 Q):=by
 intro pins s σ H Q I h;refine BoolOp_or (cz (ha pins s σ H _ I h) fun v s1 ⟨x,H1,I1,r1,q1⟩=>kF m I1 r1 q1 fun k s2 I2 q2=>?_);cases k with
 | false=>exact hb pins s2 σ H1 Q I2 q2
 | true=>exact⟨x,H1,I2,r1,q2⟩
theorem BP (m:av X.K M) (ha:PE X a ta):PE X (.UnaryOp .Not a pos) (fun σ H Q=>ta σ H fun x H1=>dS M x H1 fun k=>Q (.bl (!k)) H1):=by
 intro pins s σ H Q I h;refine UnaryOp_ (cz (ha pins s σ H _ I h) fun v s1 ⟨x,H1,I1,r1,q1⟩=>not_of (kF m I1 r1 q1 fun k s2 I2 q2=>⟨.bl (!k),H1,I2,rfl,q2⟩))
theorem DE (m:av X.K M) (ha:PE X a ta) (he:∀whole,isTrue a X.env whole=(do let v<-whole;standAt a.pos;holding [v] (truthy v))):PT X a (fun σ H Q=>ta σ H fun x H1=>dS M x H1 fun k=>Q k H1):=by
 intro pins s σ H Q I h;exact isTrue_plain (cz (ha pins s σ H _ I h) fun v s1 ⟨x,H1,I1,r1,q1⟩=>kF m I1 r1 q1 fun k s2 I2 q2=>⟨H1,I2,q2⟩) (he _)
theorem DG {c:Expr} {tc:TT} {t u:TT} (hc:PT X c tc) (ha:PT X a t) (hb:PT X b u):PT X (.IfExp c a b pos) (fun σ H Q=>tc σ H fun k H1=>if k=true then t σ H1 Q else u σ H1 Q):=by
 intro pins s σ H Q I h;show wpAny _ _ (do if<-isTrue c X.env (eval c X.env)then isTrue a X.env (eval a X.env)else isTrue b X.env (eval b X.env)) _ _ _;refine Jh (cz (hc pins s σ H _ I h) fun k s1 ⟨H1,I1,q1⟩=>?_);cases k with
 | true=>exact ha pins s1 σ H1 Q I1 q1
 | false=>exact hb pins s1 σ H1 Q I1 q1
end
section
variable {X:Cx}
theorem bz {e:Expr} {es:NZ} {env:Env} (h:aW e=true):starEach (e::es) env=(false,eval e env)::starEach es env:=by
 cases e<;>first | rfl | cases h
theorem plain_any:∀ {es:NZ} {env:Env} {pos:Pos},(∀ e ∈ es,aW e=true)->(backTo pos (starEach es env)).any (·.1)=false
 | [],_,_,_=>rfl
 | e::es,env,pos,h=>by
  rw[bz (h e Js)];show(false || (backTo pos (starEach es env)).any (·.1))=false;rw[plain_any fun e he=>h e (Jo _ he)];rfl
theorem plain_all:∀ {es:NZ} {env:Env} {pos:Pos},(∀ e ∈ es,aW e=true)->(backTo pos (starEach es env)).all (fun x=>!x.1)=true
 | [],_,_,_=>rfl
 | e::es,env,pos,h=>by
  rw[bz (h e Js)];show((!false) && (backTo pos (starEach es env)).all (fun x=>!x.1))=true;rw[plain_all fun e he=>h e (Jo _ he)];rfl
theorem a2 {a b:Bool} (h:(a && b)=true):a=true/\b=true:=Bool.and_eq_true_iff.mp h
theorem eR {N:NW} {i:Nat} (h:decide (i < N.length)=true):N[i]?=some (nx N i):=by
 have h:=JX h;unfold nx;rw[Kw,Jl h];rfl
theorem aO {N:NW} (e:Ex) {a:Expr}:aW (bE N e a)=true:=by cases e<;>rfl
theorem fL {N:NW} (it:Ix) {a:Expr}:aW (bI N it a)=true:=by
 cases it with
 | ex e=>exact aO e
 | rng1 _=>rfl
theorem ik {N:NW}:∀ (cs:lq) {es:NZ},∀e ∈ nW N cs es,aW e=true
 | .nil,_=>fun e h=>nomatch (show e ∈ []from h)
 | .cons c r,es=>fun e h=>(Jx.mp (show e ∈ bE N c (es.headD default)::nW N r es.tail from h)).elim (fun q=>q ▸ aO c) (ik r e)
theorem qm {N:NW}:∀ (cs:lq) {es:NZ},(nW N cs es).length=cs.len
 | .nil,_=>rfl
 | .cons _ r,_=>congrArg (·+ 1) (qm r)
theorem dQ {x:Str} (h:cF x=true):(x == ("__debug__" :Str))=false/\(x == ("__classdict__" :Str))=false/\x ≠ "__name__" :=by
 unfold cF at h;simp only[J6,LH,MD]at h;exact⟨h.1.1,h.1.2,h.2⟩
end
theorem CA (f:Bf):bootBuiltins f.name=some (IL f):=by cases f<;>kernel_rfl
theorem GB (f:Bf):f.name ∈ eB:=by cases f<;>decide +kernel
theorem zX:("zip" :Str) ∈ eB:=by decide +kernel
theorem GD (f:B2):f.name ∈ eB:=by cases f<;>decide +kernel
theorem zY:("range" :Str) ∈ eB:=by decide +kernel
section
variable {X:Cx} {Γ:b0} {sc:Scope} {k:Nat} {Ξ:XS}
theorem Ctx.comp {X':Cx} {aY:Scope} {N':NW} (C:Ctx X Γ sc k) (c:bj X X' aY N') (hc:Γ.cm=true):Ctx X' Γ aY k:=by
 have look:∀y,X'.env.scope.names.lookup y=(aY.names.lookup y).map fun k=>if(k == .free && X.env.scope.kind == .function && X.env.kindOf y == some .cell)then .cell else k:=fun y=>by
  rw[c.scope];exact gC
 refine⟨by rw[c.prog,c.w,c.K,c.mg,c.base];exact C.g,fun h=>by rw[c.A];exact C.room h,fun _=>c.calm,by rw[c.A];exact C.un,fun x h=>?_,fun x h=>?_,fun y h=>?_,let ⟨e0,o0,L,t1,t2,t3⟩:=C.top;⟨e0,o0,L,c.stack.trans t1,t2,c.frame.trans t3⟩⟩
 ·have l:=look x;unfold gK at h;unfold CG;split at h
  ·rename_i e;rw[e]at l;exact .inl l
  ·rename_i e;rw[e]at l;exact .inr (.inl l)
  ·rename_i e;rw[e]at l;simp only[K5]at l
   by_cases q:((NameKind.free == NameKind.free) && X.env.scope.kind == .function && X.env.kindOf x == some .cell)=true
   ·rw[Jj q]at l;exact .inr (.inl l)
   ·rw[Ji q]at l;exact .inr (.inr l)
  ·cases h
 ·have l:=look x;unfold gu at h;split at h
  ·rename_i e;rw[e]at l;exact l
  ·cases h
 ·have l:=look y;rcases h with h | h
  ·rw[h]at l;exact .inl l
  ·rw[h]at l;simp only[K5]at l
   by_cases q:((NameKind.free == NameKind.free) && X.env.scope.kind == .function && X.env.kindOf y == some .cell)=true
   ·rw[Jj q]at l;exact .inl l
   ·rw[Ji q]at l;exact .inr l
end
section
open PySem.SeqAt
variable {X:Cx} {M:Mo} {pins:NT} {σ:L2.St} {H:Hp} {s:Shared}
theorem CY {K:Frag} (m:av K M) {p:Addr} {kvs:List (Key × V)} (h:rd M H p=some (.dK kvs)):Rd H p (.dK kvs):=by
 rcases lV h with h | ⟨_,h⟩
 ·exact h
 ·exact(m p _ h).elim
theorem vI {K:Frag} (m:av K M) {x:V} {kvs:List (Key × V)} (h:AU M H x=some kvs):∃p,x=.ref p/\Rd H p (.dK kvs):=by
 unfold AU at h;cases x with
 | ref p=>
  dsimp only at h;split at h
  ·rename_i e;cases h;exact⟨p,rfl,CY m e⟩
  ·cases h
 | _=>cases h
theorem Cr (m:av X.K M):AR X (rS M):=by
 intro value slice pins s σ H x y v u Q I rx ry h hs;unfold rS at h;cases x with
 | ref p=>
  dsimp only at h;cases (show v=Value.ref p from rx)
  split at h
  ·rename_i kvs e;split at h
   ·rename_i k ek;split at h
    ·rename_i y' ev;obtain⟨z,hd,vs,rel,dd⟩:=vD I.bB (CY m e);obtain⟨w',hw,rw'⟩:=jG.some_of (v:=y') (o:=valueAt vs k) (by rw[<-ev];exact rel.val k);rw[jv ek]at ry;exact tail_any dd.mapOf.typeIs PySem.F.slot_dict_getitem.lookup (wpAny_getItem_of (mM ry) dd.mapOf hw ⟨y',H,I.tok _,rw',h⟩) hs
    ·exact h.elim
   ·exact h.elim
  ·exact h.elim
 | _=>exact h.elim
theorem vN (hu:X.A.units + 64 < cLine) (m:av X.K M) (op:CmpOp):jI X (compareOp op) (sh M op):=by
 intro pins s σ H x y v u Q I rx ry h;cases op with
 | In=>
  have h:(match AU M H y,keyOf x with | some kvs,some k=>Q (.bl (bQ kvs k).isSome) H | _,_=>False):=h
  revert h
  split
  ·rename_i kvs k e ek;intro h0;obtain⟨p,rfl,rd⟩:=vI m e;cases (show u=Value.ref p from ry)
   exact H_ (by omega) I (.inl ⟨kvs,k,rd,jv ek,rfl⟩) rx fun s' I'=>⟨.bl _,H,I',rfl,h0⟩
  ·exact fun h=>h.elim
 | NotIn=>
  have h:(match AU M H y,keyOf x with | some kvs,some k=>Q (.bl (!(bQ kvs k).isSome)) H | _,_=>False):=h
  revert h
  split
  ·rename_i kvs k e ek;intro h0;obtain⟨p,rfl,rd⟩:=vI m e;cases (show u=Value.ref p from ry)
   exact Cw (by omega) I (.inl ⟨kvs,k,rd,jv ek,rfl⟩) rx fun s' I'=>⟨.bl _,H,I',rfl,h0⟩
  ·exact fun h=>h.elim
 | _=>exact h.elim
end
end Sw
namespace Tm
open PySem PyProof.Rows
noncomputable def eO:Bool->Keyed->Array Keyed->Nat->Nat->Nat->StateT SortSt Sem (Option Nat):=sortPriv% PySem.Builtin.gallop
noncomputable def beyond (left:Bool) (key:Keyed) (arr:Array Keyed) (base i:Nat):StateT SortSt Sem (Option Bool):=do
 let x<-elem' arr (base + i)
 if left then lt' x key else(do let r<-lt' key x;pure (r.map (!·)))
theorem tW (left:Bool) (key:Keyed) (arr:Array Keyed) (base n hint:Nat):eO left key arr base n hint=(do
 let bey:=beyond left key arr base
 let mut (last,o):=(0,1)
 let mut (l,h):=(0,0)
 let some right<-bey hint | return none
 if right then
  let mo:=n - hint
  for _ in [0:n] do
   if o ≥ mo then break
   let some more<-bey (hint + o) | return none
   if !more then break
   last:=o
   o:=2 * o + 1
  l:=hint + last + 1
  h:=hint + min o mo
 else
  let mo:=hint + 1
  for _ in [0:n] do
   if o ≥ mo then break
   let some found<-bey (hint - o) | return none
   if found then break
   last:=o
   o:=2 * o + 1
  l:=hint + 1 - min o mo
  h:=hint - last
 for _ in [0:n] do
  if l ≥ h then break
  let m:=l + (h - l) / 2
  let some more<-bey m | return none
  if more then l:=m + 1 else h:=m
 return some h):=rfl
noncomputable def pick {α β:Type _} (x:Option α) (f:α->β) (g:Unit->β):β:=Break.runK.match_1 (fun _=>β) x f g
structure jJ (prog:Program) (w:World) (A:Around) (E:NS) (s:Shared) (κ:SortKind) (D:Keyed->Prop) (less:Keyed->Keyed->Bool):Prop where
 run:∀ (st:SortSt) (x y:Keyed) (Q:Option Bool->SortSt->Prop),kindOf st=κ->D x->D y->Q (some (less x y)) st->wpS (model prog w) A E s (lt' x y) Q st
section
variable {prog:Program} {w:World} {A:Around} {E:NS} {s:Shared} {κ:SortKind} {D:Keyed->Prop} {less:Keyed->Keyed->Bool}
noncomputable def aV (D:Keyed->Prop) (xs:Array Keyed):Prop:=∀x ∈ xs.toList,D x
theorem aV.at {xs:Array Keyed} (h:aV D xs) {i:Nat} (hi:i < xs.size):D xs[i]:=h _ (by simp)
theorem aI {arr:Array Keyed} {i:Nat} {st:SortSt} {Q:Keyed->SortSt->Prop} (h:i < arr.size) (q:Q arr[i] st):wpS (model prog w) A E s (elem' arr i) Q st:=by
 rw[elem'_eq,Me arr i h];exact Jt q
theorem fO (C:jJ prog w A E s κ D less) {left:Bool} {key:Keyed} {arr:Array Keyed} {base i:Nat} {st:SortSt} {Q:Option Bool->SortSt->Prop} (hk:kindOf st=κ) (ha:aV D arr) (kd:D key) (h:base + i < arr.size) (q:∀b,Q (some b) st):wpS (model prog w) A E s (beyond left key arr base i) Q st:=by
 unfold beyond;refine Jr (aI h ?_);cases left with
 | true=>
  rw[Jj rfl];exact C.run st _ _ _ hk (ha.at h) kd (q _)
 | false=>
  rw[Ji (by decide)];refine Jr (C.run st _ _ _ hk kd (ha.at h) (Jt (q _)))
theorem cM (C:jJ prog w A E s κ D less) {left:Bool} {key:Keyed} {arr:Array Keyed} {base n hint:Nat} {st:SortSt} {Q:Option Nat->SortSt->Prop} (hk:kindOf st=κ) (ha:aV D arr) (kd:D key) (hn:base + n<=arr.size) (hh:hint < n) (q:∀k,k<=n->Q (some k) st):
  wpS (model prog w) A E s (eO left key arr base n hint) Q st:=by
 rw[tW];dsimp only
 have last:∀ (l h:Nat),h<=n->wpS (model prog w) A E s (do
   let __s<-forIn [:n] ((none,l,h):Option (Option Nat) × Nat × Nat) fun x __s=>
    if __s.snd.fst ≥ __s.snd.snd then pure (ForInStep.done (none,__s.snd.fst,__s.snd.snd))
    else do
     let __x<-beyond left key arr base (__s.snd.fst + (__s.snd.snd - __s.snd.fst) / 2)
     match __x with
     | some more=>if more=true then pure (ForInStep.yield (none,__s.snd.fst + (__s.snd.snd - __s.snd.fst) / 2 + 1,__s.snd.snd))else pure (ForInStep.yield (none,__s.snd.fst,__s.snd.fst + (__s.snd.snd - __s.snd.fst) / 2))
     | x=>pure (ForInStep.done (some none,__s.snd.fst,__s.snd.snd))
   pick __s.fst (fun r=>pure r) (fun _=>pure (some __s.snd.snd))) Q st:=fun l h hl=>by
  refine Jr (J9 (J_ (I:=fun x c st'=>st'=st/\c.1=none/\c.2.2<=n) (Q:=fun c st'=>st'=st/\c.1=none/\c.2.2<=n) ?_ (fun _ _ hh=>hh) ⟨rfl,rfl,hl⟩) ?_)
  ·rintro x ⟨c1,c2,c3⟩ st' _ _ ⟨rfl,rfl,h3⟩
   dsimp only at h3 ⊢
   by_cases hc:c2 ≥ c3
   ·rw[Jj hc];exact Jt ⟨rfl,rfl,h3⟩
   ·rw[Ji hc];refine Jr (fO C hk ha kd (by omega) fun b=>?_);dsimp only;cases b with
    | true=>rw[Jj rfl];exact Jt ⟨rfl,rfl,h3⟩
    | false=>rw[Ji (by decide)];exact Jt ⟨rfl,rfl,by dsimp only;omega⟩
  ·rintro⟨c1,c2,c3⟩ st' ⟨rfl,h2,h3⟩
   dsimp only at h2 h3;subst h2;exact Jt (q _ h3)
 refine Jr (fO C hk ha kd (by omega) fun right=>?_);dsimp only;cases right with
 | true=>
  rw[Jj rfl];refine Jr (J9 (J_ (I:=fun x c st'=>st'=st/\c.1=none) (Q:=fun c st'=>st'=st/\c.1=none) ?_ (fun _ _ hh=>hh) ⟨rfl,rfl⟩) ?_)
  ·rintro x ⟨c1,c2,c3⟩ st' _ _ ⟨rfl,rfl⟩
   dsimp only
   by_cases hc:c3 ≥ n - hint
   ·rw[Jj hc];exact Jt ⟨rfl,rfl⟩
   ·rw[Ji hc];refine Jr (fO C hk ha kd (by omega) fun b=>?_);dsimp only;cases b with
    | true=>exact Jt ⟨rfl,rfl⟩
    | false=>exact Jt ⟨rfl,rfl⟩
  ·rintro⟨c1,c2,c3⟩ st' ⟨rfl,h2⟩
   dsimp only at h2;subst h2;dsimp only;exact last (hint + c2 + 1) (hint + min c3 (n - hint)) (by omega)
 | false=>
  rw[Ji (by decide)];refine Jr (J9 (J_ (I:=fun x c st'=>st'=st/\c.1=none) (Q:=fun c st'=>st'=st/\c.1=none) ?_ (fun _ _ hh=>hh) ⟨rfl,rfl⟩) ?_)
  ·rintro x ⟨c1,c2,c3⟩ st' _ _ ⟨rfl,rfl⟩
   dsimp only
   by_cases hc:c3 ≥ hint + 1
   ·rw[Jj hc];exact Jt ⟨rfl,rfl⟩
   ·rw[Ji hc];refine Jr (fO C hk ha kd (by omega) fun b=>?_);dsimp only;cases b with
    | true=>exact Jt ⟨rfl,rfl⟩
    | false=>exact Jt ⟨rfl,rfl⟩
  ·rintro⟨c1,c2,c3⟩ st' ⟨rfl,h2⟩
   dsimp only at h2;subst h2;dsimp only;exact last (hint + 1 - min c3 (hint + 1)) (hint - c2) (by omega)
end
noncomputable def mE:Array Keyed->Array Keyed->StateT SortSt Sem (Array Keyed):=sortPriv% PySem.Builtin.mergeLo
noncomputable def b7:Nat->StateT SortSt Sem Unit:=sortPriv% PySem.Builtin.setMinGallop
theorem jP (g:Nat):b7 g=modify fun s=>SortSt.mk' (kindOf s) (arrOf s) (pendingOf s) g (failedOf s):=rfl
noncomputable abbrev G3:=Option (Array Keyed) × Array Keyed × Nat × Nat × Nat × Nat × Nat
noncomputable abbrev G2:=Option (Array Keyed) × Array Keyed × Nat × Nat × Nat × Nat
noncomputable abbrev G1:=Option (Array Keyed) × Array Keyed × Nat × Nat × Nat
section lo
variable (a b:Array Keyed)
noncomputable def fin (out:Array Keyed) (i j:Nat):Array Keyed:=out++a.extract i a.size++b.extract j b.size
noncomputable def iu (out:Array Keyed) (i j:Nat):Array Keyed:=out++b.extract j b.size++a.extract i a.size
noncomputable def G6 (out:Array Keyed) (i j mg ca cb:Nat):StateT SortSt Sem (ForInStep G3):=do
 let x<-elem' a i
 if(i + 1 + 1 == a.size)=true then pure (.done (some (iu a b (out.push x) (i + 1) j),out.push x,i + 1,j,mg,ca,cb))
 else if(decide (ca < 7) && decide (cb < 7))=true then pure (.done (none,out.push x,i + 1,j,mg,ca,cb))
 else pure (.yield (none,out.push x,i + 1,j,mg,ca,cb))
noncomputable def G7 (out:Array Keyed) (i j mg ca cb:Nat):StateT SortSt Sem (ForInStep G3):=do
 let x<-elem' b j
 if(j + 1 == b.size)=true then pure (.done (some (fin a b (out.push x) i (j + 1)),out.push x,i,j + 1,mg,ca,cb))
 else do
  let y<-elem' a i
  let r<-eO true y b (j + 1) (b.size - (j + 1)) 0
  match r with
  | some k=>
   if k > 0 then
    if(j + 1 + k == b.size)=true then pure (.done (some (fin a b (out.push x++b.extract (j + 1) (j + 1 + k)) i (j + 1 + k)),out.push x++b.extract (j + 1) (j + 1 + k),i,j + 1 + k,mg,ca,k))
    else G6 a b (out.push x++b.extract (j + 1) (j + 1 + k)) i (j + 1 + k) mg ca k
   else G6 a b (out.push x) i (j + 1) mg ca k
  | _=>pure (.done (some (fin a b (out.push x) i (j + 1)),out.push x,i,j + 1,mg,ca,cb))
noncomputable def lo1 (out:Array Keyed) (i j mg ca cb:Nat):StateT SortSt Sem (ForInStep G3):=do
 b7 mg
 let x<-elem' b j
 let r<-eO false x a i (a.size - i) 0
 match r with
 | some k=>
  if k > 0 then
   if(i + k + 1 == a.size)=true then pure (.done (some (iu a b (out++a.extract i (i + k)) (i + k) j),out++a.extract i (i + k),i + k,j,mg,k,cb))
   else if(i + k == a.size)=true then pure (.done (some (fin a b (out++a.extract i (i + k)) (i + k) j),out++a.extract i (i + k),i + k,j,mg,k,cb))
   else G7 a b (out++a.extract i (i + k)) (i + k) j mg k cb
  else G7 a b out i j mg k cb
 | _=>pure (.done (some (fin a b out i j),out,i,j,mg,ca,cb))
noncomputable def HG (mg:Nat) (out:Array Keyed) (i j ca cb:Nat):StateT SortSt Sem (ForInStep G2):=do
 let x<-elem' b j
 let y<-elem' a i
 let r<-lt' x y
 match r with
 | some bw=>
  if bw=true then do
   let x<-elem' b j
   if(j + 1 == b.size)=true then pure (.done (some (fin a b (out.push x) i (j + 1)),out.push x,i,j + 1,0,cb + 1))
   else if cb + 1 ≥ mg then pure (.done (none,out.push x,i,j + 1,0,cb + 1))
   else pure (.yield (none,out.push x,i,j + 1,0,cb + 1))
  else do
   let x<-elem' a i
   if(i + 1 + 1 == a.size)=true then pure (.done (some (iu a b (out.push x) (i + 1) j),out.push x,i + 1,j,ca + 1,0))
   else if ca + 1 ≥ mg then pure (.done (none,out.push x,i + 1,j,ca + 1,0))
   else pure (.yield (none,out.push x,i + 1,j,ca + 1,0))
 | _=>pure (.done (some (fin a b out i j),out,i,j,ca,cb))
noncomputable def HF (all:Nat) (c:G1):StateT SortSt Sem (ForInStep G1):=do
 let d<-forIn [0:all] ((none,c.2.1,c.2.2.1,c.2.2.2.1,0,0):G2) fun _ d=>HG a b c.2.2.2.2 d.2.1 d.2.2.1 d.2.2.2.1 d.2.2.2.2.1 d.2.2.2.2.2
 pick d.1 (fun r=>pure (.done (some r,d.2.1,d.2.2.1,d.2.2.2.1,c.2.2.2.2))) fun _=>do
  liftM (rule "list.sort.gallop")
  let e<-forIn [0:all] ((none,d.2.1,d.2.2.1,d.2.2.2.1,c.2.2.2.2 + 1,d.2.2.2.2.1,d.2.2.2.2.2):G3) fun _ e=>if e.2.2.2.2.1 > 1 then lo1 a b e.2.1 e.2.2.1 e.2.2.2.1 (e.2.2.2.2.1 - 1) e.2.2.2.2.2.1 e.2.2.2.2.2.2 else lo1 a b e.2.1 e.2.2.1 e.2.2.2.1 e.2.2.2.2.1 e.2.2.2.2.2.1 e.2.2.2.2.2.2
  pick e.1 (fun r=>pure (.done (some r,e.2.1,e.2.2.1,e.2.2.2.1,e.2.2.2.2.1))) fun _=>do
   b7 (e.2.2.2.2.1 + 1)
   pure (.yield (none,e.2.1,e.2.2.1,e.2.2.2.1,e.2.2.2.2.1 + 1))
theorem rA:mE a b=(do
 liftM (rule "list.sort.merge-lo")
 let x<-elem' b 0
 if(1 == b.size)=true then pure (fin a b #[x] 0 1)
 else if(0 + 1 == a.size)=true then pure (iu a b #[x] 0 1)
 else do
  let st<-get
  let c<-forIn [0:a.size + b.size] ((none,#[x],0,1,gallopOf st):G1) fun _ c=>HF a b (a.size + b.size) c
  pick c.1 (fun r=>pure r) fun _=>liftM (unsupported "internal:list.sort.merge-bound" :Sem (Array Keyed))):=rfl
end lo
theorem dP {α β:Type _} {x:α} {f:α->β} {g:Unit->β}:pick (some x) f g=f x:=rfl
theorem aU {α β:Type _} {f:α->β} {g:Unit->β}:pick none f g=g ():=rfl
structure bZ (st st':SortSt):Prop where
 kind:kindOf st'=kindOf st
 arr:arrOf st'=arrOf st
 pend:pendingOf st'=pendingOf st
 fail:failedOf st'=failedOf st
theorem bZ.refl {st:SortSt}:bZ st st:=⟨rfl,rfl,rfl,rfl⟩
theorem bZ.trans {a b c:SortSt} (h:bZ a b) (k:bZ b c):bZ a c:=⟨k.kind.trans h.kind,k.arr.trans h.arr,k.pend.trans h.pend,k.fail.trans h.fail⟩
section perm
variable {a b:Array Keyed}
noncomputable def Tk (a b out:Array Keyed) (i j:Nat):Prop:=out.toList.Perm (a.toList.take i++b.toList.take j)
theorem take_one {α:Type} {l:List α} {i:Nat} {x:α} (h:l[i]?=some x):l.take (i + 1)=l.take i++[x]:=by
 rw[MC,h];rfl
theorem Tk.q5 {out:Array Keyed} {i j:Nat} (h:Tk a b out i j) (hi:i < a.size):Tk a b (out.push a[i]) (i + 1) j:=by
 unfold Tk at h ⊢;rw[KP,take_one (x:=a[i]) (by simp[hi]),JM];refine(h.append_right _).trans ?_;rw[JM];exact(Kt (l₁:=b.toList.take j)).append_left _
theorem Tk.qZ {out:Array Keyed} {i j:Nat} (h:Tk a b out i j) (hj:j < b.size):Tk a b (out.push b[j]) i (j + 1):=by
 unfold Tk at h ⊢;rw[KP,take_one (x:=b[j]) (by simp[hj]),<-JM];exact h.append_right _
theorem r9 (a:Array Keyed) (i k:Nat):(a.extract i (i + k)).toList=(a.toList.drop i).take k:=by
 rw[KY,Le]
 congr 1
 omega
theorem oo (a:Array Keyed) (i:Nat):(a.extract i a.size).toList=a.toList.drop i:=by
 rw[KY,Le];refine Lv ?_;simp
theorem take_add {α:Type} (l:List α) (i k:Nat):l.take (i + k)=l.take i++(l.drop i).take k:=List.take_add
theorem Tk.xm {out:Array Keyed} {i j k:Nat} (h:Tk a b out i j):Tk a b (out++a.extract i (i + k)) (i + k) j:=by
 unfold Tk at h ⊢;rw[JY,r9,take_add,JM];refine(h.append_right _).trans ?_;rw[JM];exact Kt.append_left _
theorem Tk.xj {out:Array Keyed} {i j k:Nat} (h:Tk a b out i j):Tk a b (out++b.extract j (j + k)) i (j + k):=by
 unfold Tk at h ⊢;rw[JY,r9,take_add,<-JM];exact h.append_right _
theorem C1 {α:Type} (p q r t:List α):((p++q)++(r++t)).Perm ((p++r)++(q++t)):=by
 rw[JM,JM];refine List.Perm.append_left _ ?_;rw[<-JM,<-JM];exact Kt.append_right _
theorem Tk.fin {out:Array Keyed} {i j:Nat} (h:Tk a b out i j):(Tm.fin a b out i j).toList.Perm (a.toList++b.toList):=by
 unfold Tm.fin;rw[JY,JY,oo,oo,JM];refine(h.append_right _).trans ?_;refine(C1 _ _ _ _).trans ?_;rw[Kl,Kl]
theorem Tk.iu {out:Array Keyed} {i j:Nat} (h:Tk a b out i j):(Tm.iu a b out i j).toList.Perm (a.toList++b.toList):=by
 refine List.Perm.trans ?_ h.fin;unfold Tm.iu Tm.fin;rw[JY,JY,JY,JY,JM,JM];exact Kt.append_left _
end perm
section
variable {prog:Program} {w:World} {A:Around} {E:NS} {s:Shared} {κ:SortKind} {D:Keyed->Prop} {less:Keyed->Keyed->Bool} {a b:Array Keyed} {st:SortSt}
theorem fN {g:Nat} {Q:Unit->SortSt->Prop} {st:SortSt} (h:∀st',bZ st st'->Q () st'):wpS (model prog w) A E s (b7 g) Q st:=by
 rw[jP];exact LW (h _ ⟨rfl,rfl,rfl,rfl⟩)
noncomputable def Hh (a b:Array Keyed) (st:SortSt) (n0:Nat) (r:ForInStep G3) (st':SortSt):Prop:=bZ st st'/\match r with
 | .done c=>(∃ m,c.1=some m/\m.toList.Perm (a.toList++b.toList))\/(c.1=none/\Tk a b c.2.1 c.2.2.1 c.2.2.2.1/\c.2.2.1 + 1 < a.size/\c.2.2.2.1 < b.size/\n0<=c.2.2.1 + c.2.2.2.1)
 | .yield c=>c.1=none/\Tk a b c.2.1 c.2.2.1 c.2.2.2.1/\c.2.2.1 + 1 < a.size/\c.2.2.2.1 < b.size/\n0<=c.2.2.1 + c.2.2.2.1
theorem uz {out:Array Keyed} {i j mg ca cb n0:Nat} {st':SortSt} (ss:bZ st st') (t:Tk a b out i j) (hi:i + 1 < a.size) (hj:j < b.size) (hn:n0<=i + j):wpS (model prog w) A E s (G6 a b out i j mg ca cb) (Hh a b st n0) st':=by
 unfold G6;have hi':i < a.size:=by omega
 refine Jr (aI hi' ?_);have t':=t.q5 hi'
 by_cases h:(i + 1 + 1 == a.size)=true
 ·rw[Jj h];exact Jt ⟨ss,.inl ⟨_,rfl,t'.iu⟩⟩
 ·rw[Ji h];have h':i + 1 + 1 ≠ a.size:=by simpa using h
  by_cases h2:(decide (ca < 7) && decide (cb < 7))=true
  ·rw[Jj h2];exact Jt ⟨ss,.inr ⟨rfl,t',by dsimp only;omega,hj,by dsimp only;omega⟩⟩
  ·rw[Ji h2];exact Jt ⟨ss,rfl,t',by dsimp only;omega,hj,by dsimp only;omega⟩
theorem uA (C:jJ prog w A E s κ D less) (hk:kindOf st=κ) (da:aV D a) (db:aV D b) {out:Array Keyed} {i j mg ca cb n0:Nat} {st':SortSt} (ss:bZ st st') (t:Tk a b out i j) (hi:i + 1 < a.size) (hj:j < b.size) (hn:n0<=i + j):wpS (model prog w) A E s (G7 a b out i j mg ca cb) (Hh a b st n0) st':=by
 unfold G7;have hi':i < a.size:=by omega
 refine Jr (aI hj ?_);have t':=t.qZ hj
 by_cases h:(j + 1 == b.size)=true
 ·rw[Jj h];exact Jt ⟨ss,.inl ⟨_,rfl,t'.fin⟩⟩
 ·rw[Ji h];have h':j + 1 ≠ b.size:=by simpa using h
  refine Jr (aI hi' (Jr (cM C (ss.kind.trans hk) db (da.at hi') (by omega) (by omega) fun k kl=>?_)));dsimp only
  by_cases hk0:k > 0
  ·rw[Jj hk0]
   by_cases h2:(j + 1 + k == b.size)=true
   ·rw[Jj h2];exact Jt ⟨ss,.inl ⟨_,rfl,t'.xj.fin⟩⟩
   ·rw[Ji h2];have h2':j + 1 + k ≠ b.size:=by simpa using h2
    exact uz ss t'.xj hi (by omega) (by omega)
  ·rw[Ji hk0];exact uz ss t' hi (by omega) (by omega)
theorem A1 (C:jJ prog w A E s κ D less) (hk:kindOf st=κ) (da:aV D a) (db:aV D b) {out:Array Keyed} {i j mg ca cb n0:Nat} {st':SortSt} (ss:bZ st st') (t:Tk a b out i j) (hi:i + 1 < a.size) (hj:j < b.size) (hn:n0<=i + j):wpS (model prog w) A E s (lo1 a b out i j mg ca cb) (Hh a b st n0) st':=by
 unfold lo1;refine Jr (fN fun st2 s2=>?_);have ss:=ss.trans s2;refine Jr (aI hj (Jr (cM C (ss.kind.trans hk) da (db.at hj) (by omega) (by omega) fun k kl=>?_)));dsimp only
 by_cases hk0:k > 0
 ·rw[Jj hk0]
  by_cases h1:(i + k + 1 == a.size)=true
  ·rw[Jj h1];exact Jt ⟨ss,.inl ⟨_,rfl,t.xm.iu⟩⟩
  ·rw[Ji h1];have h1':i + k + 1 ≠ a.size:=by simpa using h1
   by_cases h2:(i + k == a.size)=true
   ·rw[Jj h2];exact Jt ⟨ss,.inl ⟨_,rfl,t.xm.fin⟩⟩
   ·rw[Ji h2];have h2':i + k ≠ a.size:=by simpa using h2
    exact uA C hk da db ss t.xm (by omega) hj (by omega)
 ·rw[Ji hk0];exact uA C hk da db ss t hi hj hn
noncomputable def Je (a b:Array Keyed) (st:SortSt) (n0:Nat) (r:ForInStep G2) (st':SortSt):Prop:=bZ st st'/\match r with
 | .done c=>(∃ m,c.1=some m/\m.toList.Perm (a.toList++b.toList))\/(c.1=none/\Tk a b c.2.1 c.2.2.1 c.2.2.2.1/\c.2.2.1 + 1 < a.size/\c.2.2.2.1 < b.size/\n0<=c.2.2.1 + c.2.2.2.1)
 | .yield c=>c.1=none/\Tk a b c.2.1 c.2.2.1 c.2.2.2.1/\c.2.2.1 + 1 < a.size/\c.2.2.2.1 < b.size/\n0<=c.2.2.1 + c.2.2.2.1
theorem A2 (C:jJ prog w A E s κ D less) (hk:kindOf st=κ) (da:aV D a) (db:aV D b) {out:Array Keyed} {i j mg ca cb n0:Nat} {st':SortSt} (ss:bZ st st') (t:Tk a b out i j) (hi:i + 1 < a.size) (hj:j < b.size) (hn:n0<=i + j):wpS (model prog w) A E s (HG a b mg out i j ca cb) (Je a b st (n0 + 1)) st':=by
 unfold HG;have hi':i < a.size:=by omega
 refine Jr (aI hj (Jr (aI hi' (Jr (C.run st' _ _ _ (ss.kind.trans hk) (db.at hj) (da.at hi') ?_)))));dsimp only;cases less b[j] a[i]with
 | true=>
  rw[Jj rfl];refine Jr (aI hj ?_);have t':=t.qZ hj
  by_cases h:(j + 1 == b.size)=true
  ·rw[Jj h];exact Jt ⟨ss,.inl ⟨_,rfl,t'.fin⟩⟩
  ·rw[Ji h];have h':j + 1 ≠ b.size:=by simpa using h
   by_cases h2:cb + 1 ≥ mg
   ·rw[Jj h2];exact Jt ⟨ss,.inr ⟨rfl,t',hi,by dsimp only;omega,by dsimp only;omega⟩⟩
   ·rw[Ji h2];exact Jt ⟨ss,rfl,t',hi,by dsimp only;omega,by dsimp only;omega⟩
 | false=>
  rw[Ji (by decide)];refine Jr (aI hi' ?_);have t':=t.q5 hi'
  by_cases h:(i + 1 + 1 == a.size)=true
  ·rw[Jj h];exact Jt ⟨ss,.inl ⟨_,rfl,t'.iu⟩⟩
  ·rw[Ji h];have h':i + 1 + 1 ≠ a.size:=by simpa using h
   by_cases h2:ca + 1 ≥ mg
   ·rw[Jj h2];exact Jt ⟨ss,.inr ⟨rfl,t',by dsimp only;omega,hj,by dsimp only;omega⟩⟩
   ·rw[Ji h2];exact Jt ⟨ss,rfl,t',by dsimp only;omega,hj,by dsimp only;omega⟩
theorem A0 (C:jJ prog w A E s κ D less) (hk:kindOf st=κ) (da:aV D a) (db:aV D b) {all n0:Nat} {c:G1} {st':SortSt} (h0:0 < all) (ss:bZ st st') (t:Tk a b c.2.1 c.2.2.1 c.2.2.2.1) (hi:c.2.2.1 + 1 < a.size) (hj:c.2.2.2.1 < b.size) (hn:n0<=c.2.2.1 + c.2.2.2.1):
  wpS (model prog w) A E s (HF a b all c) (fun r st'=>bZ st st'/\match r with
   | .done c=>∃m,c.1=some m/\m.toList.Perm (a.toList++b.toList)
   | .yield c=>c.1=none/\Tk a b c.2.1 c.2.2.1 c.2.2.2.1/\c.2.2.1 + 1 < a.size/\c.2.2.2.1 < b.size/\n0 + 1<=c.2.2.1 + c.2.2.2.1) st':=by
 unfold HF
 refine Jr (J9 (J_
  (I:=fun x c st'=>bZ st st'/\c.1=none/\Tk a b c.2.1 c.2.2.1 c.2.2.2.1/\c.2.2.1 + 1 < a.size/\c.2.2.2.1 < b.size/\n0 + min x 1<=c.2.2.1 + c.2.2.2.1)
  (Q:=fun c st'=>bZ st st'/\((∃ m,c.1=some m/\m.toList.Perm (a.toList++b.toList))\/(c.1=none/\Tk a b c.2.1 c.2.2.1 c.2.2.2.1/\c.2.2.1 + 1 < a.size/\c.2.2.2.1 < b.size/\n0 + 1<=c.2.2.1 + c.2.2.2.1))) ?_ ?_ ⟨ss,rfl,t,hi,hj,by dsimp only;omega⟩) ?_)
 ·rintro x d st2 _ _ ⟨h1,h2,h3,h4,h5,h6⟩
  refine J9 (A2 (n0:=n0) C hk da db h1 h3 h4 h5 (by omega)) fun r st3 hr=>?_;obtain⟨k1,k2⟩:=hr;cases r with
  | done d=>exact⟨k1,k2⟩
  | yield d=>exact⟨k1,k2.1,k2.2.1,k2.2.2.1,k2.2.2.2.1,by have:=k2.2.2.2.2;omega⟩
 ·rintro d st2 ⟨h1,h2,h3,h4,h5,h6⟩
  exact⟨h1,.inr ⟨h2,h3,h4,h5,by omega⟩⟩
 ·rintro d st2 ⟨h1,⟨m,e,hm⟩ | ⟨e,h3,h4,h5,h6⟩⟩
  ·rw[e,dP];exact Jt ⟨h1,m,rfl,hm⟩
  ·rw[e,aU];refine Jr (LN (Kr ⟨rfl,?_⟩))
   refine Jr (J9 (J_
    (I:=fun x c st'=>bZ st st'/\c.1=none/\Tk a b c.2.1 c.2.2.1 c.2.2.2.1/\c.2.2.1 + 1 < a.size/\c.2.2.2.1 < b.size/\n0 + 1<=c.2.2.1 + c.2.2.2.1)
    (Q:=fun c st'=>bZ st st'/\((∃ m,c.1=some m/\m.toList.Perm (a.toList++b.toList))\/(c.1=none/\Tk a b c.2.1 c.2.2.1 c.2.2.2.1/\c.2.2.1 + 1 < a.size/\c.2.2.2.1 < b.size/\n0 + 1<=c.2.2.1 + c.2.2.2.1))) ?_ ?_ ⟨h1,rfl,h3,h4,h5,h6⟩) ?_)
   ·rintro x e st3 _ _ ⟨g1,g2,g3,g4,g5,g6⟩
    have go:∀mg,wpS (model prog w) A E s (lo1 a b e.2.1 e.2.2.1 e.2.2.2.1 mg e.2.2.2.2.2.1 e.2.2.2.2.2.2) (Hh a b st (n0 + 1)) st3:=fun mg=>A1 (n0:=n0 + 1) C hk da db g1 g3 g4 g5 g6;split
    ·refine J9 (go _) fun r st4 hr=>?_;obtain⟨k1,k2⟩:=hr;cases r with
     | done d=>exact⟨k1,k2⟩
     | yield d=>exact⟨k1,k2⟩
    ·refine J9 (go _) fun r st4 hr=>?_;obtain⟨k1,k2⟩:=hr;cases r with
     | done d=>exact⟨k1,k2⟩
     | yield d=>exact⟨k1,k2⟩
   ·rintro e st3 ⟨g1,g2,g3,g4,g5,g6⟩
    exact⟨g1,.inr ⟨g2,g3,g4,g5,g6⟩⟩
   ·rintro e st3 ⟨g1,⟨m,e1,hm⟩ | ⟨e1,g3,g4,g5,g6⟩⟩
    ·rw[e1,dP];exact Jt ⟨g1,m,rfl,hm⟩
    ·rw[e1,aU];exact Jr (fN fun st4 s4=>Jt ⟨g1.trans s4,rfl,g3,g4,g5,g6⟩)
theorem qC (C:jJ prog w A E s κ D less) (hk:kindOf st=κ) (da:aV D a) (db:aV D b) (ha:1<=a.size) (hb:1<=b.size) {Q:Array Keyed->SortSt->Prop} (q:∀m st',bZ st st'->m.toList.Perm (a.toList++b.toList)->Q m st'):
  wpS (model prog w) A E s (mE a b) Q st:=by
 rw[rA];refine Jr (LN (Kr ⟨rfl,?_⟩));have hb':0 < b.size:=by omega
 refine Jr (aI hb' ?_)
 have t:Tk a b #[b[0]] 0 1:=by
  unfold Tk;have:=take_one (l:=b.toList) (i:=0) (x:=b[0]) (by simp[hb']);rw[this];simp
 by_cases h1:(1 == b.size)=true
 ·rw[Jj h1];exact Jt (q _ _ .refl t.fin)
 ·rw[Ji h1];have h1':1 ≠ b.size:=by simpa using h1
  by_cases h2:(0 + 1 == a.size)=true
  ·rw[Jj h2];exact Jt (q _ _ .refl t.iu)
  ·rw[Ji h2];have h2':0 + 1 ≠ a.size:=by simpa using h2
   refine Jr (Ln (Jr (J9 (J_
    (I:=fun x c st'=>bZ st st'/\c.1=none/\Tk a b c.2.1 c.2.2.1 c.2.2.2.1/\c.2.2.1 + 1 < a.size/\c.2.2.2.1 < b.size/\x + 1<=c.2.2.1 + c.2.2.2.1)
    (Q:=fun c st'=>bZ st st'/\∃m,c.1=some m/\m.toList.Perm (a.toList++b.toList)) ?_ ?_ ⟨.refl,rfl,t,by dsimp only;omega,by dsimp only;omega,by dsimp only;omega⟩) ?_)))
   ·rintro x c st2 _ _ ⟨g1,g2,g3,g4,g5,g6⟩
    refine J9 (A0 (n0:=x + 1) C hk da db (by omega) g1 g3 g4 g5 g6) fun r st3 hr=>?_;obtain⟨k1,k2⟩:=hr;cases r with
    | done d=>exact⟨k1,k2⟩
    | yield d=>exact⟨k1,k2⟩
   ·rintro c st2 ⟨g1,g2,g3,g4,g5,g6⟩
    omega
   ·rintro c st2 ⟨g1,m,e,hm⟩
    rw[e,dP];exact Jt (q m _ g1 hm)
end
noncomputable def mF:Array Keyed->Array Keyed->StateT SortSt Sem (Array Keyed):=sortPriv% PySem.Builtin.mergeHi
noncomputable abbrev H3:=Option (Array Keyed) × Nat × Nat × Array Keyed × Nat × Nat × Nat
noncomputable abbrev H2:=Option (Array Keyed) × Nat × Nat × Array Keyed × Nat × Nat
noncomputable abbrev H1:=Option (Array Keyed) × Nat × Nat × Array Keyed × Nat
section hi
variable (a b:Array Keyed)
noncomputable def mQ (i j:Nat) (out:Array Keyed):Array Keyed:=a.extract 0 i++b.extract 0 j++out.reverse
noncomputable def w5 (i j:Nat) (out:Array Keyed):Array Keyed:=b.extract 0 j++a.extract 0 i++out.reverse
noncomputable def G9 (i j:Nat) (out:Array Keyed) (mg ca cb:Nat):StateT SortSt Sem (ForInStep H3):=do
 let x<-elem' a (i - 1)
 if(i - 1 == 0)=true then pure (.done (some (mQ a b (i - 1) j (out.push x)),i - 1,j,out.push x,mg,ca,cb))
 else if(decide (ca < 7) && decide (cb < 7))=true then pure (.done (none,i - 1,j,out.push x,mg,ca,cb))
 else pure (.yield (none,i - 1,j,out.push x,mg,ca,cb))
noncomputable def EA (i j:Nat) (out:Array Keyed) (mg ca cb:Nat):StateT SortSt Sem (ForInStep H3):=do
 let x<-elem' b (j - 1)
 if(j - 1 == 1)=true then pure (.done (some (w5 a b i (j - 1) (out.push x)),i,j - 1,out.push x,mg,ca,cb))
 else do
  let y<-elem' a (i - 1)
  let r<-eO true y b 0 (j - 1) (j - 1 - 1)
  match r with
  | some k=>
   if j - 1 - k > 0 then
    if(k == 1)=true then pure (.done (some (w5 a b i k (out.push x++(b.extract k (j - 1)).reverse)),i,k,out.push x++(b.extract k (j - 1)).reverse,mg,ca,j - 1 - k))
    else if(k == 0)=true then pure (.done (some (mQ a b i k (out.push x++(b.extract k (j - 1)).reverse)),i,k,out.push x++(b.extract k (j - 1)).reverse,mg,ca,j - 1 - k))
    else G9 a b i k (out.push x++(b.extract k (j - 1)).reverse) mg ca (j - 1 - k)
   else G9 a b i (j - 1) (out.push x) mg ca (j - 1 - k)
  | _=>pure (.done (some (mQ a b i (j - 1) (out.push x)),i,j - 1,out.push x,mg,ca,cb))
noncomputable def xP (i j:Nat) (out:Array Keyed) (mg ca cb:Nat):StateT SortSt Sem (ForInStep H3):=do
 b7 mg
 let x<-elem' b (j - 1)
 let r<-eO false x a 0 i (i - 1)
 match r with
 | some k=>
  if i - k > 0 then
   if(k == 0)=true then pure (.done (some (mQ a b k j (out++(a.extract k i).reverse)),k,j,out++(a.extract k i).reverse,mg,i - k,cb))
   else EA a b k j (out++(a.extract k i).reverse) mg (i - k) cb
  else EA a b i j out mg (i - k) cb
 | _=>pure (.done (some (mQ a b i j out),i,j,out,mg,ca,cb))
noncomputable def F5 (mg:Nat) (i j:Nat) (out:Array Keyed) (ca cb:Nat):StateT SortSt Sem (ForInStep H2):=do
 let x<-elem' b (j - 1)
 let y<-elem' a (i - 1)
 let r<-lt' x y
 match r with
 | some aw=>
  if aw=true then do
   let x<-elem' a (i - 1)
   if(i - 1 == 0)=true then pure (.done (some (mQ a b (i - 1) j (out.push x)),i - 1,j,out.push x,ca + 1,0))
   else if ca + 1 ≥ mg then pure (.done (none,i - 1,j,out.push x,ca + 1,0))
   else pure (.yield (none,i - 1,j,out.push x,ca + 1,0))
  else do
   let x<-elem' b (j - 1)
   if(j - 1 == 1)=true then pure (.done (some (w5 a b i (j - 1) (out.push x)),i,j - 1,out.push x,0,cb + 1))
   else if cb + 1 ≥ mg then pure (.done (none,i,j - 1,out.push x,0,cb + 1))
   else pure (.yield (none,i,j - 1,out.push x,0,cb + 1))
 | _=>pure (.done (some (mQ a b i j out),i,j,out,ca,cb))
noncomputable def HL (all:Nat) (c:H1):StateT SortSt Sem (ForInStep H1):=do
 let d<-forIn [0:all] ((none,c.2.1,c.2.2.1,c.2.2.2.1,0,0):H2) fun _ d=>F5 a b c.2.2.2.2 d.2.1 d.2.2.1 d.2.2.2.1 d.2.2.2.2.1 d.2.2.2.2.2
 pick d.1 (fun r=>pure (.done (some r,d.2.1,d.2.2.1,d.2.2.2.1,c.2.2.2.2))) fun _=>do
  liftM (rule "list.sort.gallop")
  let e<-forIn [0:all] ((none,d.2.1,d.2.2.1,d.2.2.2.1,c.2.2.2.2 + 1,d.2.2.2.2.1,d.2.2.2.2.2):H3) fun _ e=>if e.2.2.2.2.1 > 1 then xP a b e.2.1 e.2.2.1 e.2.2.2.1 (e.2.2.2.2.1 - 1) e.2.2.2.2.2.1 e.2.2.2.2.2.2 else xP a b e.2.1 e.2.2.1 e.2.2.2.1 e.2.2.2.2.1 e.2.2.2.2.2.1 e.2.2.2.2.2.2
  pick e.1 (fun r=>pure (.done (some r,e.2.1,e.2.2.1,e.2.2.2.1,e.2.2.2.2.1))) fun _=>do
   b7 (e.2.2.2.2.1 + 1)
   pure (.yield (none,e.2.1,e.2.2.1,e.2.2.2.1,e.2.2.2.2.1 + 1))
theorem rB:mF a b=(do
 liftM (rule "list.sort.merge-hi")
 let x<-elem' a (a.size - 1)
 if(a.size - 1 == 0)=true then pure (mQ a b (a.size - 1) b.size #[x])
 else if(b.size == 1)=true then pure (w5 a b (a.size - 1) b.size #[x])
 else do
  let st<-get
  let c<-forIn [0:a.size + b.size] ((none,a.size - 1,b.size,#[x],gallopOf st):H1) fun _ c=>HL a b (a.size + b.size) c
  pick c.1 (fun r=>pure r) fun _=>liftM (unsupported "internal:list.sort.merge-bound" :Sem (Array Keyed))):=rfl
end hi
section perm
variable {a b:Array Keyed}
noncomputable def Th (a b:Array Keyed) (i j:Nat) (out:Array Keyed):Prop:=out.toList.Perm (a.toList.drop i++b.toList.drop j)
theorem drop_one {α:Type} {l:List α} {i:Nat} {x:α} (h:l[i]?=some x):l.drop i=x::l.drop (i + 1):=by
 obtain⟨h1,h2⟩:=Jv.mp h;rw[Ko h1,h2]
theorem Th.q5 {out:Array Keyed} {i j:Nat} (h:Th a b i j out) (h0:0 < i) (hi:i - 1 < a.size):Th a b (i - 1) j (out.push a[i - 1]):=by
 unfold Th at h ⊢;rw[KP,drop_one (l:=a.toList) (i:=i - 1) (x:=a[i - 1]) (by simp[hi])];have e:i - 1 + 1=i:=by omega
 rw[e];exact(Kt (l₁:=out.toList) (l₂:=[a[i - 1]])).trans (h.cons _)
theorem Th.qZ {out:Array Keyed} {i j:Nat} (h:Th a b i j out) (h0:0 < j) (hj:j - 1 < b.size):Th a b i (j - 1) (out.push b[j - 1]):=by
 unfold Th at h ⊢;rw[KP,drop_one (l:=b.toList) (i:=j - 1) (x:=b[j - 1]) (by simp[hj])];have e:j - 1 + 1=j:=by omega
 rw[e];exact(Kt (l₁:=out.toList) (l₂:=[b[j - 1]])).trans ((h.cons _).trans LO.symm)
theorem jf (a:Array Keyed) {k i:Nat} (h:k<=i):(a.extract k i).toList++a.toList.drop i=a.toList.drop k:=by
 rw[KY,Le];have e:a.toList.drop i=(a.toList.drop k).drop (i - k):=by rw[List.drop_drop];congr 1;omega
 rw[e,Kl]
theorem Th.xm {out:Array Keyed} {i j k:Nat} (h:Th a b i j out) (hk:k<=i):Th a b k j (out++(a.extract k i).reverse):=by
 unfold Th at h ⊢;rw[JY,MS,<-jf a hk,JM];exact((h.append (Nq _)).trans Kt)
theorem Th.xj {out:Array Keyed} {i j k:Nat} (h:Th a b i j out) (hk:k<=j):Th a b i k (out++(b.extract k j).reverse):=by
 unfold Th at h ⊢;rw[JY,MS,<-jf b hk];refine(h.append (Nq _)).trans ?_;rw[JM];exact Kt.append_left _
theorem mT (a:Array Keyed) (i:Nat):(a.extract 0 i).toList=a.toList.take i:=by
 rw[KY,Le];simp
theorem Th.fin {out:Array Keyed} {i j:Nat} (h:Th a b i j out):(mQ a b i j out).toList.Perm (a.toList++b.toList):=by
 unfold mQ;rw[JY,JY,MS,mT,mT];refine(((Nq _).trans h).append_left _).trans ?_;refine(C1 _ _ _ _).trans ?_;rw[Kl,Kl]
theorem Th.iu {out:Array Keyed} {i j:Nat} (h:Th a b i j out):(w5 a b i j out).toList.Perm (a.toList++b.toList):=by
 refine List.Perm.trans ?_ h.fin;unfold w5 mQ;rw[JY,JY,JY,JY];exact Kt.append_right _
end perm
section
variable {prog:Program} {w:World} {A:Around} {E:NS} {s:Shared} {κ:SortKind} {D:Keyed->Prop} {less:Keyed->Keyed->Bool} {a b:Array Keyed} {st:SortSt}
structure nF (a b:Array Keyed) (n0 i j:Nat) (out:Array Keyed):Prop where
 t:Th a b i j out
 i0:0 < i
 i1:i<=a.size
 j0:1 < j
 j1:j<=b.size
 n:n0 + i + j<=a.size + b.size
noncomputable def Hg (a b:Array Keyed) (st:SortSt) (n0:Nat) (r:ForInStep H3) (st':SortSt):Prop:=bZ st st'/\match r with
 | .done c=>(∃ m,c.1=some m/\m.toList.Perm (a.toList++b.toList))\/(c.1=none/\nF a b n0 c.2.1 c.2.2.1 c.2.2.2.1)
 | .yield c=>c.1=none/\nF a b n0 c.2.1 c.2.2.1 c.2.2.2.1
theorem uB {out:Array Keyed} {i j mg ca cb n0:Nat} {st':SortSt} (ss:bZ st st') (t:nF a b n0 i j out):wpS (model prog w) A E s (G9 a b i j out mg ca cb) (Hg a b st n0) st':=by
 unfold G9;obtain⟨t,i0,i1,j0,j1,n⟩:=t;have hi':i - 1 < a.size:=by omega
 refine Jr (aI hi' ?_);have t':=t.q5 i0 hi'
 by_cases h:(i - 1 == 0)=true
 ·rw[Jj h];exact Jt ⟨ss,.inl ⟨_,rfl,t'.fin⟩⟩
 ·rw[Ji h];have h':i - 1 ≠ 0:=by simpa using h
  have I:nF a b n0 (i - 1) j (out.push a[i - 1]):=⟨t',by omega,by omega,j0,j1,by omega⟩
  by_cases h2:(decide (ca < 7) && decide (cb < 7))=true
  ·rw[Jj h2];exact Jt ⟨ss,.inr ⟨rfl,I⟩⟩
  ·rw[Ji h2];exact Jt ⟨ss,rfl,I⟩
theorem uC (C:jJ prog w A E s κ D less) (hk:kindOf st=κ) (da:aV D a) (db:aV D b) {out:Array Keyed} {i j mg ca cb n0:Nat} {st':SortSt} (ss:bZ st st') (t:nF a b n0 i j out):wpS (model prog w) A E s (EA a b i j out mg ca cb) (Hg a b st n0) st':=by
 unfold EA;obtain⟨t,i0,i1,j0,j1,n⟩:=t;have hi':i - 1 < a.size:=by omega
 have hj':j - 1 < b.size:=by omega
 refine Jr (aI hj' ?_);have t':=t.qZ (by omega) hj'
 by_cases h:(j - 1 == 1)=true
 ·rw[Jj h];exact Jt ⟨ss,.inl ⟨_,rfl,t'.iu⟩⟩
 ·rw[Ji h];have h':j - 1 ≠ 1:=by simpa using h
  refine Jr (aI hi' (Jr (cM C (ss.kind.trans hk) db (da.at hi') (by omega) (by omega) fun k kl=>?_)));dsimp only
  by_cases hk0:j - 1 - k > 0
  ·rw[Jj hk0]
   by_cases h2:(k == 1)=true
   ·rw[Jj h2];exact Jt ⟨ss,.inl ⟨_,rfl,(t'.xj kl).iu⟩⟩
   ·rw[Ji h2]
    by_cases h3:(k == 0)=true
    ·rw[Jj h3];exact Jt ⟨ss,.inl ⟨_,rfl,(t'.xj kl).fin⟩⟩
    ·rw[Ji h3];have h2':k ≠ 1:=by simpa using h2
     have h3':k ≠ 0:=by simpa using h3
     exact uB ss ⟨t'.xj kl,i0,i1,by omega,by omega,by omega⟩
  ·rw[Ji hk0];exact uB ss ⟨t',i0,i1,by omega,by omega,by omega⟩
theorem A4 (C:jJ prog w A E s κ D less) (hk:kindOf st=κ) (da:aV D a) (db:aV D b) {out:Array Keyed} {i j mg ca cb n0:Nat} {st':SortSt} (ss:bZ st st') (t:nF a b n0 i j out):wpS (model prog w) A E s (xP a b i j out mg ca cb) (Hg a b st n0) st':=by
 unfold xP;refine Jr (fN fun st2 s2=>?_);have ss:=ss.trans s2;have tt:=t;obtain⟨t,i0,i1,j0,j1,n⟩:=t;have hj':j - 1 < b.size:=by omega
 refine Jr (aI hj' (Jr (cM C (ss.kind.trans hk) da (db.at hj') (by omega) (by omega) fun k kl=>?_)));dsimp only
 by_cases hk0:i - k > 0
 ·rw[Jj hk0]
  by_cases h1:(k == 0)=true
  ·rw[Jj h1];exact Jt ⟨ss,.inl ⟨_,rfl,(t.xm kl).fin⟩⟩
  ·rw[Ji h1];have h1':k ≠ 0:=by simpa using h1
   exact uC C hk da db ss ⟨t.xm kl,by omega,by omega,j0,j1,by omega⟩
 ·rw[Ji hk0];exact uC C hk da db ss tt
noncomputable def Jd (a b:Array Keyed) (st:SortSt) (n0:Nat) (r:ForInStep H2) (st':SortSt):Prop:=bZ st st'/\match r with
 | .done c=>(∃ m,c.1=some m/\m.toList.Perm (a.toList++b.toList))\/(c.1=none/\nF a b n0 c.2.1 c.2.2.1 c.2.2.2.1)
 | .yield c=>c.1=none/\nF a b n0 c.2.1 c.2.2.1 c.2.2.2.1
theorem A5 (C:jJ prog w A E s κ D less) (hk:kindOf st=κ) (da:aV D a) (db:aV D b) {out:Array Keyed} {i j mg ca cb n0:Nat} {st':SortSt} (ss:bZ st st') (t:nF a b n0 i j out):wpS (model prog w) A E s (F5 a b mg i j out ca cb) (Jd a b st (n0 + 1)) st':=by
 unfold F5;obtain⟨t,i0,i1,j0,j1,n⟩:=t;have hi':i - 1 < a.size:=by omega
 have hj':j - 1 < b.size:=by omega
 refine Jr (aI hj' (Jr (aI hi' (Jr (C.run st' _ _ _ (ss.kind.trans hk) (db.at hj') (da.at hi') ?_)))));dsimp only;cases less b[j - 1] a[i - 1]with
 | true=>
  rw[Jj rfl];refine Jr (aI hi' ?_);have t':=t.q5 i0 hi'
  by_cases h:(i - 1 == 0)=true
  ·rw[Jj h];exact Jt ⟨ss,.inl ⟨_,rfl,t'.fin⟩⟩
  ·rw[Ji h];have h':i - 1 ≠ 0:=by simpa using h
   have I:nF a b (n0 + 1) (i - 1) j (out.push a[i - 1]):=⟨t',by omega,by omega,j0,j1,by omega⟩
   by_cases h2:ca + 1 ≥ mg
   ·rw[Jj h2];exact Jt ⟨ss,.inr ⟨rfl,I⟩⟩
   ·rw[Ji h2];exact Jt ⟨ss,rfl,I⟩
 | false=>
  rw[Ji (by decide)];refine Jr (aI hj' ?_);have t':=t.qZ (by omega) hj'
  by_cases h:(j - 1 == 1)=true
  ·rw[Jj h];exact Jt ⟨ss,.inl ⟨_,rfl,t'.iu⟩⟩
  ·rw[Ji h];have h':j - 1 ≠ 1:=by simpa using h
   have I:nF a b (n0 + 1) i (j - 1) (out.push b[j - 1]):=⟨t',i0,i1,by omega,by omega,by omega⟩
   by_cases h2:cb + 1 ≥ mg
   ·rw[Jj h2];exact Jt ⟨ss,.inr ⟨rfl,I⟩⟩
   ·rw[Ji h2];exact Jt ⟨ss,rfl,I⟩
theorem nF.le {n0 n1 i j:Nat} {out:Array Keyed} (t:nF a b n1 i j out) (h:n0<=n1):nF a b n0 i j out:=⟨t.t,t.i0,t.i1,t.j0,t.j1,by have:=t.n;omega⟩
theorem A3 (C:jJ prog w A E s κ D less) (hk:kindOf st=κ) (da:aV D a) (db:aV D b) {all n0:Nat} {c:H1} {st':SortSt} (h0:0 < all) (ss:bZ st st') (t:nF a b n0 c.2.1 c.2.2.1 c.2.2.2.1):
  wpS (model prog w) A E s (HL a b all c) (fun r st'=>bZ st st'/\match r with
   | .done c=>∃m,c.1=some m/\m.toList.Perm (a.toList++b.toList)
   | .yield c=>c.1=none/\nF a b (n0 + 1) c.2.1 c.2.2.1 c.2.2.2.1) st':=by
 unfold HL
 refine Jr (J9 (J_
  (I:=fun x (c:H2) st'=>bZ st st'/\c.1=none/\nF a b (n0 + min x 1) c.2.1 c.2.2.1 c.2.2.2.1)
  (Q:=fun c st'=>bZ st st'/\((∃ m,c.1=some m/\m.toList.Perm (a.toList++b.toList))\/(c.1=none/\nF a b (n0 + 1) c.2.1 c.2.2.1 c.2.2.2.1))) ?_ ?_ ⟨ss,rfl,t.le (My (by omega))⟩) ?_)
 ·rintro x d st2 _ _ ⟨h1,h2,h3⟩
  refine J9 (A5 (n0:=n0) C hk da db h1 (h3.le (by omega))) fun r st3 hr=>?_;obtain⟨k1,k2⟩:=hr;cases r with
  | done d=>exact⟨k1,k2⟩
  | yield d=>exact⟨k1,k2.1,k2.2.le (by omega)⟩
 ·rintro d st2 ⟨h1,h2,h3⟩
  exact⟨h1,.inr ⟨h2,h3.le (by omega)⟩⟩
 ·rintro d st2 ⟨h1,⟨m,e,hm⟩ | ⟨e,h3⟩⟩
  ·rw[e,dP];exact Jt ⟨h1,m,rfl,hm⟩
  ·rw[e,aU];refine Jr (LN (Kr ⟨rfl,?_⟩))
   refine Jr (J9 (J_
    (I:=fun x c st'=>bZ st st'/\c.1=none/\nF a b (n0 + 1) c.2.1 c.2.2.1 c.2.2.2.1)
    (Q:=fun c st'=>bZ st st'/\((∃ m,c.1=some m/\m.toList.Perm (a.toList++b.toList))\/(c.1=none/\nF a b (n0 + 1) c.2.1 c.2.2.1 c.2.2.2.1))) ?_ ?_ ⟨h1,rfl,h3⟩) ?_)
   ·rintro x e st3 _ _ ⟨g1,g2,g3⟩
    have go:∀mg,wpS (model prog w) A E s (xP a b e.2.1 e.2.2.1 e.2.2.2.1 mg e.2.2.2.2.2.1 e.2.2.2.2.2.2) (Hg a b st (n0 + 1)) st3:=fun mg=>A4 (n0:=n0 + 1) C hk da db g1 g3;split
    ·refine J9 (go _) fun r st4 hr=>?_;obtain⟨k1,k2⟩:=hr;cases r with
     | done d=>exact⟨k1,k2⟩
     | yield d=>exact⟨k1,k2⟩
    ·refine J9 (go _) fun r st4 hr=>?_;obtain⟨k1,k2⟩:=hr;cases r with
     | done d=>exact⟨k1,k2⟩
     | yield d=>exact⟨k1,k2⟩
   ·rintro e st3 ⟨g1,g2,g3⟩
    exact⟨g1,.inr ⟨g2,g3⟩⟩
   ·rintro e st3 ⟨g1,⟨m,e1,hm⟩ | ⟨e1,g3⟩⟩
    ·rw[e1,dP];exact Jt ⟨g1,m,rfl,hm⟩
    ·rw[e1,aU];exact Jr (fN fun st4 s4=>Jt ⟨g1.trans s4,rfl,g3⟩)
theorem qD (C:jJ prog w A E s κ D less) (hk:kindOf st=κ) (da:aV D a) (db:aV D b) (ha:1<=a.size) (hb:1<=b.size) {Q:Array Keyed->SortSt->Prop} (q:∀m st',bZ st st'->m.toList.Perm (a.toList++b.toList)->Q m st'):
  wpS (model prog w) A E s (mF a b) Q st:=by
 rw[rB];refine Jr (LN (Kr ⟨rfl,?_⟩));have ha':a.size - 1 < a.size:=by omega
 refine Jr (aI ha' ?_)
 have t:Th a b (a.size - 1) b.size #[a[a.size - 1]]:=by
  unfold Th;have:=drop_one (l:=a.toList) (i:=a.size - 1) (x:=a[a.size - 1]) (by simp[ha']);rw[this];have e:a.size - 1 + 1=a.size:=by omega
  rw[e];simp
 by_cases h1:(a.size - 1 == 0)=true
 ·rw[Jj h1];exact Jt (q _ _ .refl t.fin)
 ·rw[Ji h1];have h1':a.size - 1 ≠ 0:=by simpa using h1
  by_cases h2:(b.size == 1)=true
  ·rw[Jj h2];exact Jt (q _ _ .refl t.iu)
  ·rw[Ji h2];have h2':b.size ≠ 1:=by simpa using h2
   have I0:nF a b (0 + 1) (a.size - 1) b.size #[a[a.size - 1]]:=⟨t,by omega,by omega,by omega,JG _,by omega⟩
   refine Jr (Ln (Jr (J9 (J_
    (I:=fun x c st'=>bZ st st'/\c.1=none/\nF a b (x + 1) c.2.1 c.2.2.1 c.2.2.2.1)
    (Q:=fun c st'=>bZ st st'/\∃m,c.1=some m/\m.toList.Perm (a.toList++b.toList)) ?_ ?_ ⟨.refl,rfl,I0⟩) ?_)))
   ·rintro x c st2 _ _ ⟨g1,g2,g3⟩
    refine J9 (A3 (n0:=x + 1) C hk da db (by omega) g1 g3) fun r st3 hr=>?_;obtain⟨k1,k2⟩:=hr;cases r with
    | done d=>exact⟨k1,k2⟩
    | yield d=>exact⟨k1,k2⟩
   ·rintro c st2 ⟨g1,g2,g3⟩
    have:=g3.n;have:=g3.i0;omega
   ·rintro c st2 ⟨g1,m,e,hm⟩
    rw[e,dP];exact Jt (q m _ g1 hm)
end
noncomputable def up (lo:Nat) (c:Option (Option Nat) × Nat):StateT SortSt Sem (ForInStep (Option (Option Nat) × Nat)):=do
 let x<-ltAt' (lo + c.2) (lo + c.2 - 1)
 match x with
 | some sm=>if sm=true then pure (.done (none,c.2))else pure (.yield (none,c.2 + 1))
 | _=>pure (.done (some none,c.2))
noncomputable def Gu (lo nrem n:Nat):StateT SortSt Sem (Option Nat):=do
 let c<-forIn [n:nrem] ((none,n):Option (Option Nat) × Nat) fun _ c=>up lo c
 pick c.1 (fun r=>pure r) fun _=>pure (some c.2)
noncomputable def E_ (lo nrem n:Nat):StateT SortSt Sem (Option Nat):=do
 reverseSlice' lo (lo + n)
 Gu lo nrem n
noncomputable def down (lo:Nat) (c:Option (Option Nat) × Nat × Nat):StateT SortSt Sem (ForInStep (Option (Option Nat) × Nat × Nat)):=do
 let x<-ltAt' (lo + c.2.1) (lo + c.2.1 - 1)
 match x with
 | some sm=>
  if sm=true then
   if c.2.2 > 0 then do
    reverseSlice' (lo + c.2.1 - (c.2.2 + 1)) (lo + c.2.1)
    pure (.yield (none,c.2.1 + 1,0))
   else pure (.yield (none,c.2.1 + 1,0))
  else do
   let y<-ltAt' (lo + c.2.1 - 1) (lo + c.2.1)
   match y with
   | some lg=>if lg=true then pure (.done (none,c.2.1,c.2.2))else pure (.yield (none,c.2.1 + 1,c.2.2 + 1))
   | _=>pure (.done (some none,c.2.1,c.2.2))
 | _=>pure (.done (some none,c.2.1,c.2.2))
noncomputable def Gv (lo nrem n:Nat):StateT SortSt Sem (Option Nat):=do
 let c<-forIn [n:nrem] ((none,n,0):Option (Option Nat) × Nat × Nat) fun _ c=>down lo c
 pick c.1 (fun r=>pure r) fun _=>if c.2.2 > 0 then(do
  reverseSlice' (lo + c.2.1 - (c.2.2 + 1)) (lo + c.2.1)
  E_ lo nrem c.2.1)else E_ lo nrem c.2.1
noncomputable def AV (lo nrem n:Nat):StateT SortSt Sem (Option Nat):=do
 liftM (rule "list.sort.descending-run")
 Gv lo nrem (n + 1)
theorem jx (lo nrem:Nat):countRun' lo nrem=(do
 let c<-forIn [1:nrem] ((none,1):Option (Option Nat) × Nat) fun _ c=>up lo c
 pick c.1 (fun r=>pure r) fun _=>if(c.2 == nrem)=true then pure (some c.2)else if c.2 > 1 then(do
  let x<-ltAt' lo (lo + c.2 - 1)
  match x with
  | some rose=>if rose=true then pure (some c.2)else(do
   reverseSlice' lo (lo + c.2)
   AV lo nrem c.2)
  | _=>pure none)else AV lo nrem c.2):=rfl
noncomputable def Ai (lo k:Nat) (c:Option Bool × Nat × Nat):StateT SortSt Sem (ForInStep (Option Bool × Nat × Nat)):=
 if c.2.1 ≥ c.2.2 then pure (.done (none,c.2.1,c.2.2))else do
  let x<-ltAt' (lo + k) (lo + (c.2.1 + c.2.2) / 2)
  match x with
  | some ls=>if ls=true then pure (.yield (none,c.2.1,(c.2.1 + c.2.2) / 2))else pure (.yield (none,(c.2.1 + c.2.2) / 2 + 1,c.2.2))
  | _=>pure (.done (some false,c.2.1,c.2.2))
noncomputable def Ey (lo k:Nat):StateT SortSt Sem (ForInStep (Option Bool × Unit)):=do
 let c<-forIn [0:k] ((none,0,k):Option Bool × Nat × Nat) fun _ c=>Ai lo k c
 pick c.1 (fun r=>pure (.done (some r,()))) fun _=>do
  moveDown' (lo + k) (lo + c.2.1)
  pure (.yield (none,()))
theorem gO (lo n ok:Nat):binarySort' lo n ok=(do
 let c<-forIn [max ok 1:n] ((none,()):Option Bool × Unit) fun k _=>Ey lo k
 pick c.1 (fun r=>pure r) fun _=>pure true):=rfl
theorem rC (i:Nat):mergeAt' i=(do
 let s<-get
 let (some (sa,na,pw),some (sb,nb,_)):=((pendingOf s)[i]?,(pendingOf s)[i + 1]?) | unsupported "internal:list.sort.pending"
 set (setPending s (((pendingOf s).setIfInBounds i (sa,na + nb,pw)).eraseIdxIfInBounds (i + 1)))
 let some k<-eO false (<-elem' (arrOf s) sb) (arrOf s) sa na 0 | return false
 let (sa,na):=(sa + k,na - k)
 if na == 0 then return true
 let some nb<-eO true (<-elem' (arrOf s) (sa + na - 1)) (arrOf s) sb nb (nb - 1) | return false
 if nb == 0 then return true
 let x:=(arrOf s).extract sa sb
 let y:=(arrOf s).extract sb (sb + nb)
 let merged<-if na<=nb then mE x y else mF x y
 modify fun s=>setArr s (merged.toList.zipIdx.foldl (fun a (p,j)=>a.setIfInBounds (sa + j) p) (arrOf s))
 return (failedOf (<-get)).isNone):=rfl
noncomputable def Chain:Nat->List (Nat × Nat × Nat)->Nat->Prop
 | a,[],b=>a=b
 | a,x::r,b=>x.1=a/\1<=x.2.1/\Chain (a + x.2.1) r b
theorem Chain.le:∀ {l:List (Nat × Nat × Nat)} {a b:Nat},Chain a l b->a<=b
 | [],a,b,h=>My h
 | x::r,a,b,h=>JS (Nat.le_add_right _ _) (Chain.le h.2.2)
theorem Chain.app:∀ {l m:List (Nat × Nat × Nat)} {a b:Nat},Chain a (l++m) b ↔ ∃c,Chain a l c/\Chain c m b
 | [],m,a,b=>⟨fun h=>⟨a,rfl,h⟩,fun⟨c,h1,h2⟩=>by cases (show a=c from h1);exact h2⟩
 | x::r,m,a,b=>by
  constructor
  ·intro h;obtain⟨h1,h2,h3⟩:=(show x.1=a/\1<=x.2.1/\Chain (a + x.2.1) (r++m) b from h);obtain⟨c,h4,h5⟩:=Chain.app.mp h3;exact⟨c,⟨h1,h2,h4⟩,h5⟩
  ·rintro⟨c,⟨h1,h2,h4⟩,h5⟩
   exact⟨h1,h2,Chain.app.mpr ⟨c,h4,h5⟩⟩
theorem cO {α:Type} {l:List α} {i:Nat} (h:i + 1 < l.length):∃l1 x y l2,l=l1++x::y::l2/\l1.length=i:=by
 refine⟨l.take i,l[i],l[i + 1],l.drop (i + 2),?_,by rw[J4];omega⟩;have e1:l=l.take i++l.drop i:=(Kl i l).symm;have e2:l.drop i=l[i]::l.drop (i + 1):=Ko (by omega);have e3:l.drop (i + 1)=l[i + 1]::l.drop (i + 2):=Ko h;rw[e2,e3]at e1;exact e1
theorem oy {α:Type} {l2:List α} {x y v:α}:∀ {l1:List α},((l1++x::y::l2).set l1.length v).eraseIdx (l1.length + 1)=l1++v::l2
 | []=>rfl
 | a::r=>by
  show a::((r++x::y::l2).set r.length v).eraseIdx (r.length + 1)=_;rw[oy];rfl
theorem jL {α:Type} (p:Array α) (i:Nat) (v:α) (h:i + 1 < p.size):((p.setIfInBounds i v).eraseIdxIfInBounds (i + 1)).toList=(p.toList.set i v).eraseIdx (i + 1):=by
 rw[Array.eraseIdxIfInBounds];have h':i + 1 < (p.setIfInBounds i v).size:=by rw[NA];exact h
 rw[dif_pos h',Array.toList_eraseIdx,Nj]
theorem uU (sa:Nat):∀ (l:List Keyed) (k:Nat) (arr:Array Keyed),sa + k + l.length<=arr.size->
  ((l.zipIdx k).foldl (fun a (p,j)=>a.setIfInBounds (sa + j) p) arr).toList=arr.toList.take (sa + k)++l++arr.toList.drop (sa + k + l.length)
 | [],k,arr,_=>by simp
 | x::r,k,arr,h=>by
  rw[List.zipIdx_cons,NM];have hs:(arr.setIfInBounds (sa + k) x).size=arr.size:=NA;rw[J5]at h;rw[uU sa r (k + 1) _ (by rw[hs];omega),Nj];have hk:sa + k < arr.toList.length:=by rw[JK];omega
  have e1:(arr.toList.set (sa + k) x).take (sa + (k + 1))=arr.toList.take (sa + k)++[x]:=by
   rw[<-Nat.add_assoc,take_one (x:=x) (K7 hk),List.take_set_of_le (JG _)]
  have e2:(arr.toList.set (sa + k) x).drop (sa + (k + 1) + r.length)=arr.toList.drop (sa + k + (x::r).length):=by
   rw[List.drop_set_of_lt (by omega),J5]
   congr 1
   omega
  rw[e1,e2];simp
structure Ok (κ:SortKind) (a₀:Array Keyed) (lo:Nat) (st:SortSt):Prop where
 perm:(arrOf st).Perm a₀
 kind:kindOf st=κ
 fail:failedOf st=none
 ch:Chain 0 (pendingOf st).toList lo
section
variable {prog:Program} {w:World} {A:Around} {E:NS} {s:Shared} {κ:SortKind} {D:Keyed->Prop} {less:Keyed->Keyed->Bool} {a₀:Array Keyed} {st:SortSt}
theorem AZ {t:SortSt} {Q:PUnit->SortSt->Prop} {st:SortSt} (h:Q ⟨⟩ t):wpS (model prog w) A E s (set t:StateT SortSt Sem PUnit) Q st:=by
 unfold wpS;rw[StateT.run_set];exact Jm ⟨rfl,h⟩
theorem aV.perm {xs ys:Array Keyed} (h:aV D ys) (p:xs.Perm ys):aV D xs:=fun x hx=>h x ((K_.mp p).mem_iff.mp hx)
theorem aV.cut {xs:Array Keyed} (h:aV D xs) (i j:Nat):aV D (xs.extract i j):=fun x hx=>by
 rw[KY,Le]at hx;exact h x (MT (KZ hx))
theorem Bn (arr:Array Keyed) {i j k:Nat} (h1:i<=j) (h2:j<=k) (h3:k<=arr.size):arr.toList.take i++((arr.extract i j).toList++(arr.extract j k).toList)++arr.toList.drop k=arr.toList:=by
 rw[JM,JM,jf arr h2,jf arr h1,Kl]
theorem j7 (C:jJ prog w A E s κ D less) (hd:aV D a₀) {lo i:Nat} (ok:Ok κ a₀ lo st) (hi:i + 1 < (pendingOf st).size) (hlo:lo<=a₀.size) {Q:Bool->SortSt->Prop} (q:∀st',Ok κ a₀ lo st'->(pendingOf st').size + 1=(pendingOf st).size->Q true st'):
  wpS (model prog w) A E s (mergeAt' i) Q st:=by
 rw[rC];refine Jr (Ln ?_);obtain⟨l1,⟨sa,na,pw⟩,⟨sb,nb,pb⟩,l2,hl,xP⟩:=cO (l:=(pendingOf st).toList) (i:=i) (by rw[JK];exact hi);have ch:=ok.ch;rw[hl,Chain.app]at ch;obtain⟨c,c1,c2,c3,c4,c5,c6⟩:=ch;dsimp only at c2 c3 c4 c5 c6;subst c2;subst c4;have p1:(pendingOf st)[i]?=some (sa,na,pw):=by rw[<-Ld,hl];simp[<-xP]
 have p2:(pendingOf st)[i + 1]?=some (sa + na,nb,pb):=by rw[<-Ld,hl];simp[<-xP]
 rw[p1,p2];dsimp only;have le6:=c6.le;have sz:(arrOf st).size=a₀.size:=ok.perm.size_eq;have da:aV D (arrOf st):=hd.perm ok.perm
 have np:((((pendingOf st).setIfInBounds i (sa,na + nb,pw)).eraseIdxIfInBounds (i + 1))).toList=l1++(sa,na + nb,pw)::l2:=by
  rw[jL _ _ _ hi,hl,<-xP];exact oy
 have nch:Chain 0 ((((pendingOf st).setIfInBounds i (sa,na + nb,pw)).eraseIdxIfInBounds (i + 1))).toList lo:=by
  rw[np,Chain.app];refine⟨sa,c1,rfl,by dsimp only;omega,?_⟩;dsimp only;rw[<-Nat.add_assoc];exact c6
 have nsz:((((pendingOf st).setIfInBounds i (sa,na + nb,pw)).eraseIdxIfInBounds (i + 1))).size + 1=(pendingOf st).size:=by
  rw[<-JK,np,<-JK,hl];simp;omega
 refine Jr (AZ ?_);have ok1:Ok κ a₀ lo (setPending st (((pendingOf st).setIfInBounds i (sa,na + nb,pw)).eraseIdxIfInBounds (i + 1))):=⟨ok.perm,ok.kind,ok.fail,nch⟩;have hsb:sa + na < (arrOf st).size:=by omega
 refine Jr (aI hsb (Jr (cM C ok.kind da (da.at hsb) (by omega) (by omega) fun k kl=>?_)));dsimp only
 by_cases h0:(na - k == 0)=true
 ·rw[Jj h0];exact Jt (q _ ok1 nsz)
 ·rw[Ji h0];have h0':na - k ≠ 0:=by simpa using h0
  have hl2:sa + k + (na - k) - 1 < (arrOf st).size:=by omega
  refine Jr (aI hl2 (Jr (cM C ok.kind da (da.at hl2) (by omega) (by omega) fun nb' nl=>?_)));dsimp only
  by_cases h1:(nb' == 0)=true
  ·rw[Jj h1];exact Jt (q _ ok1 nsz)
  ·rw[Ji h1];have h1':nb' ≠ 0:=by simpa using h1
   have fin:∀ (m:Array Keyed) (st2:SortSt),bZ (setPending st (((pendingOf st).setIfInBounds i (sa,na + nb,pw)).eraseIdxIfInBounds (i + 1))) st2->m.toList.Perm (((arrOf st).extract (sa + k) (sa + na)).toList++((arrOf st).extract (sa + na) (sa + na + nb')).toList)->
     wpS (model prog w) A E s (do
      modify fun s=>setArr s (m.toList.zipIdx.foldl (fun a (p,j)=>a.setIfInBounds (sa + k + j) p) (arrOf s))
      let __do_lift<-get
      pure (failedOf __do_lift).isNone) Q st2:=fun m st2 ss pm=>by
    refine Jr (LW (Jr (Ln (Jt ?_))));have ml:=pm.length_eq;rw[Jw,JK,JK,JK,Lx,Lx]at ml;have ea:arrOf st2=arrOf st:=ss.arr;have ps:=uU (sa + k) m.toList 0 (arrOf st) (by rw[JK];omega)
    have pp:(m.toList.zipIdx.foldl (fun a (p,j)=>a.setIfInBounds (sa + k + j) p) (arrOf st)).Perm a₀:=by
     refine Array.Perm.trans ?_ ok.perm;rw[K_,ps];have e:=Bn (arrOf st) (i:=sa + k) (j:=sa + na) (k:=sa + na + nb') (by omega) (by omega) (by omega);have e2:sa + k + 0 + m.toList.length=sa + na + nb':=by rw[JK];omega
     rw[e2,Nat.add_zero];refine List.Perm.trans ?_ (List.Perm.of_eq e);exact(pm.append_left _).append_right _
    show Q (failedOf st2).isNone (setArr st2 _);rw[ss.fail,ea];show Q (failedOf st).isNone (setArr st2 _);rw[ok.fail];refine q _ ⟨pp,ss.kind.trans ok.kind,ss.fail.trans ok.fail,?_⟩ ?_
    ·show Chain 0 (pendingOf st2).toList lo;rw[ss.pend];exact nch
    ·show(pendingOf st2).size + 1=_;rw[ss.pend];exact nsz
   have s1:1<=((arrOf st).extract (sa + k) (sa + na)).size:=by rw[Lx];omega
   have s2:1<=((arrOf st).extract (sa + na) (sa + na + nb')).size:=by rw[Lx];omega
   by_cases hm:na - k<=nb'
   ·rw[Jj hm];exact Jr (qC C ok1.kind (da.cut _ _) (da.cut _ _) s1 s2 fun m st2 ss pm=>fin m st2 ss pm)
   ·rw[Ji hm];exact Jr (qD C ok1.kind (da.cut _ _) (da.cut _ _) s1 s2 fun m st2 ss pm=>fin m st2 ss pm)
end
noncomputable def jO (lo n:Nat):StateT SortSt Sem (ForInStep (Option Unit × Nat)):=do
 modify fun s=>setPending s ((pendingOf s).push (lo,n,0))
 pure (.yield (none,lo + n))
noncomputable def CU (pw:Nat):StateT SortSt Sem (ForInStep (Option Unit × Unit)):=do
 let st<-get
 match(if(pendingOf st).size > 1 then(pendingOf st)[(pendingOf st).size - 2]? else none)with
 | some (_,_,older)=>if older<=pw then pure (.done (none,()))else(do
  let b<-mergeAt' ((pendingOf st).size - 2)
  if(!b)=true then pure (.done (some (),()))else pure (.yield (none,())))
 | _=>pure (.done (none,()))
noncomputable def og (size lo n:Nat):StateT SortSt Sem (ForInStep (Option Unit × Nat)):=do
 let st<-get
 match(pendingOf st).back? with
 | some (s1,n1,_)=>do
  let c<-forIn [0:size] ((none,()):Option Unit × Unit) fun _ _=>CU (power' size (2 * s1 + n1) (2 * s1 + n1 + n1 + n) size)
  pick c.1 (fun r=>pure (.done (some r,lo))) fun _=>do
   modify fun s=>setPending s ((pendingOf s).modify ((pendingOf s).size - 1) fun(st,len,_)=>(st,len,power' size (2 * s1 + n1) (2 * s1 + n1 + n1 + n) size))
   jO lo n
 | _=>jO lo n
noncomputable def pG (size minrun lo:Nat):StateT SortSt Sem (ForInStep (Option Unit × Nat)):=if lo ≥ size then pure (.done (none,lo))else do
 let r<-countRun' lo (size - lo)
 match r with
 | some n=>if n < minrun then(do
   liftM (rule "list.sort.binary-insertion")
   let b<-binarySort' lo (min (size - lo) minrun) n
   if(!b)=true then pure (.done (some (),lo))else og size lo (min (size - lo) minrun))else og size lo n
 | _=>pure (.done (some (),lo))
noncomputable def sX:StateT SortSt Sem (ForInStep (Option Unit × Unit)):=do
 let st<-get
 if(pendingOf st).size<=1 then pure (.done (none,()))else(do
  let p:=pendingOf st
  let i:=p.size - 2
  let before:=if i > 0 then p[i - 1]?.map (·.2.1)else none
  let b<-mergeAt' (if before.any (·< (p[i + 1]?.elim 0 (·.2.1)))then i - 1 else i)
  if(!b)=true then pure (.done (some (),()))else pure (.yield (none,())))
theorem jc:sortRuns'=(do
 let st<-get
 let size:=(arrOf st).size
 let c<-forIn [0:size] ((none,0):Option Unit × Nat) fun _ c=>pG size (minRun' size size 0) c.2
 pick c.1 (fun r=>pure r) fun _=>do
  let d<-forIn [0:size] ((none,()):Option Unit × Unit) fun _ _=>sX
  pick d.1 (fun r=>pure r) fun _=>pure ()):=rfl
section
variable {prog:Program} {w:World} {A:Around} {E:NS} {s:Shared} {κ:SortKind} {D:Keyed->Prop} {less:Keyed->Keyed->Bool} {a₀:Array Keyed} {st:SortSt} {lw:Nat}
theorem fj (C:jJ prog w A E s κ D less) (hd:aV D a₀) (ok:Ok κ a₀ lw st) {i j:Nat} (hi:i < a₀.size) (hj:j < a₀.size) {Q:Option Bool->SortSt->Prop} (q:∀b,Q (some b) st):wpS (model prog w) A E s (ltAt' i j) Q st:=by
 rw[ltAt'_eq];have sz:=ok.perm.size_eq;have da:aV D (arrOf st):=hd.perm ok.perm;have hi':i < (arrOf st).size:=by omega
 have hj':j < (arrOf st).size:=by omega
 refine Jr (Ln ?_);exact Jr (aI hi' (Jr (aI hj' (C.run st _ _ _ ok.kind (da.at hi') (da.at hj') (q _)))))
theorem Ok.arr (ok:Ok κ a₀ lw st) {xs:Array Keyed} (h:xs.Perm (arrOf st)):Ok κ a₀ lw (setArr st xs):=⟨h.trans ok.perm,ok.kind,ok.fail,ok.ch⟩
theorem kE (ok:Ok κ a₀ lw st) {i j:Nat} {Q:Unit->SortSt->Prop} (q:∀st',Ok κ a₀ lw st'->Q () st'):wpS (model prog w) A E s (reverseSlice' i j) Q st:=by
 rw[reverseSlice'_eq];exact LW (q _ (ok.arr (mirror_perm _ _ _ _)))
theorem vR (ok:Ok κ a₀ lw st) {i j:Nat} {Q:Unit->SortSt->Prop} (q:∀st',Ok κ a₀ lw st'->Q () st'):wpS (model prog w) A E s (moveDown' i j) Q st:=by
 rw[moveDown'_eq];exact LW (q _ (ok.arr (bubble_perm _ _ _)))
theorem lC (C:jJ prog w A E s κ D less) (hd:aV D a₀) (ok:Ok κ a₀ lw st) {lo nrem n:Nat} (h1:1<=n) (hn:n<=nrem) (hs:lo + nrem<=a₀.size) {Q:Option Nat->SortSt->Prop} {f:Nat->StateT SortSt Sem (Option Nat)} (q:∀m,n<=m->m<=nrem->wpS (model prog w) A E s (f m) Q st):
  wpS (model prog w) A E s (do
   let c<-forIn [n:nrem] ((none,n):Option (Option Nat) × Nat) fun _ c=>up lo c
   pick c.1 (fun r=>pure r) fun _=>f c.2) Q st:=by
 refine Jr (J9 (J_ (I:=fun x c st'=>st'=st/\c.1=none/\c.2=x) (Q:=fun c st'=>st'=st/\c.1=none/\n<=c.2/\c.2<=nrem) ?_ ?_ ⟨rfl,rfl,rfl⟩) ?_)
 ·rintro x ⟨c1,c2⟩ st' hx hx2 ⟨rfl,rfl,rfl⟩
  unfold up;refine Jr (fj C hd ok (by dsimp only;omega) (by dsimp only;omega) fun b=>?_);dsimp only;cases b with
  | true=>rw[Jj rfl];exact Jt ⟨rfl,rfl,hx,by dsimp only;omega⟩
  | false=>rw[Ji (by decide)];exact Jt ⟨rfl,rfl,rfl⟩
 ·rintro⟨c1,c2⟩ st' ⟨rfl,rfl,h⟩
  dsimp only at h;exact⟨rfl,rfl,by dsimp only;omega,by dsimp only;omega⟩
 ·rintro⟨c1,c2⟩ st' ⟨rfl,h1,h2,h3⟩
  dsimp only at h1 h2 h3;subst h1;rw[aU];exact q _ h2 h3
theorem nJ (C:jJ prog w A E s κ D less) (hd:aV D a₀) (ok:Ok κ a₀ lw st) {lo nrem:Nat} (hn:1<=nrem) (hs:lo + nrem<=a₀.size) {Q:Option Nat->SortSt->Prop} (q:∀m st',Ok κ a₀ lw st'->1<=m->m<=nrem->Q (some m) st'):
  wpS (model prog w) A E s (countRun' lo nrem) Q st:=by
 have r4:∀n st',Ok κ a₀ lw st'->1<=n->n<=nrem->wpS (model prog w) A E s (Gu lo nrem n) Q st':=fun n st' ok' h1 h2=>by
  unfold Gu;exact lC C hd ok' h1 h2 hs (f:=fun m=>pure (some m)) fun m hm hm2=>Jt (q m st' ok' (by omega) hm2)
 have r3:∀n st',Ok κ a₀ lw st'->1<=n->n<=nrem->wpS (model prog w) A E s (E_ lo nrem n) Q st':=fun n st' ok' h1 h2=>by
  unfold E_;exact Jr (kE ok' fun st2 ok2=>r4 n st2 ok2 h1 h2)
 have r2:∀n st',Ok κ a₀ lw st'->1<=n->n<=nrem->wpS (model prog w) A E s (Gv lo nrem n) Q st':=fun n st' ok' h1 h2=>by
  unfold Gv;refine Jr (J9 (J_ (I:=fun x c st2=>Ok κ a₀ lw st2/\c.1=none/\c.2.1=x) (Q:=fun c st2=>Ok κ a₀ lw st2/\c.1=none/\n<=c.2.1/\c.2.1<=nrem) ?_ ?_ ⟨ok',rfl,rfl⟩) ?_)
  ·rintro x ⟨c1,c2,c3⟩ st2 hx hx2 ⟨ok2,rfl,rfl⟩
   unfold down;dsimp only at hx hx2 ⊢;refine Jr (fj C hd ok2 (by omega) (by omega) fun b=>?_);dsimp only;cases b with
   | true=>
    rw[Jj rfl]
    by_cases h3:c3 > 0
    ·rw[Jj h3];exact Jr (kE ok2 fun st3 ok3=>Jt ⟨ok3,rfl,rfl⟩)
    ·rw[Ji h3];exact Jt ⟨ok2,rfl,rfl⟩
   | false=>
    rw[Ji (by decide)];refine Jr (fj C hd ok2 (by omega) (by omega) fun b2=>?_);dsimp only;cases b2 with
    | true=>rw[Jj rfl];exact Jt ⟨ok2,rfl,hx,by dsimp only;omega⟩
    | false=>rw[Ji (by decide)];exact Jt ⟨ok2,rfl,rfl⟩
  ·rintro⟨c1,c2,c3⟩ st2 ⟨ok2,rfl,h⟩
   dsimp only at h;exact⟨ok2,rfl,by dsimp only;omega,by dsimp only;omega⟩
  ·rintro⟨c1,c2,c3⟩ st2 ⟨ok2,h3,h4,h5⟩
   dsimp only at h3 h4 h5;subst h3;rw[aU];dsimp only
   by_cases h6:c3 > 0
   ·rw[Jj h6];exact Jr (kE ok2 fun st3 ok3=>r3 c2 st3 ok3 (by omega) h5)
   ·rw[Ji h6];exact r3 c2 st2 ok2 (by omega) h5
 have r1:∀n st',Ok κ a₀ lw st'->n < nrem->wpS (model prog w) A E s (AV lo nrem n) Q st':=fun n st' ok' h2=>by
  unfold AV;exact Jr (LN (Kr ⟨rfl,r2 (n + 1) st' ok' (by omega) (by omega)⟩))
 rw[jx]
 refine lC C hd ok (JG 1) hn hs (f:=fun m=>if(m == nrem)=true then pure (some m)else if m > 1 then(do
  let x<-ltAt' lo (lo + m - 1)
  match x with
  | some rose=>if rose=true then pure (some m)else(do
   reverseSlice' lo (lo + m)
   AV lo nrem m)
  | _=>pure none)else AV lo nrem m) fun m hm hm2=>?_
 by_cases h:(m == nrem)=true
 ·rw[Jj h];exact Jt (q m st ok hm hm2)
 ·rw[Ji h];have h':m ≠ nrem:=by simpa using h
  by_cases h2:m > 1
  ·rw[Jj h2];refine Jr (fj C hd ok (by omega) (by omega) fun b=>?_);dsimp only;cases b with
   | true=>rw[Jj rfl];exact Jt (q m st ok hm hm2)
   | false=>
    rw[Ji (by decide)];exact Jr (kE ok fun st2 ok2=>r1 m st2 ok2 (by omega))
  ·rw[Ji h2];exact r1 m st ok (by omega)
theorem qF (C:jJ prog w A E s κ D less) (hd:aV D a₀) (ok:Ok κ a₀ lw st) {lo n k0:Nat} (hs:lo + n<=a₀.size) {Q:Bool->SortSt->Prop} (q:∀st',Ok κ a₀ lw st'->Q true st'):
  wpS (model prog w) A E s (binarySort' lo n k0) Q st:=by
 rw[gO];refine Jr (J9 (J_ (I:=fun x c st'=>Ok κ a₀ lw st'/\c.1=none) (Q:=fun c st'=>Ok κ a₀ lw st'/\c.1=none) ?_ (fun _ _ h=>h) ⟨ok,rfl⟩) ?_)
 ·rintro k c st' hk1 hk2 ⟨ok',h⟩
  unfold Ey;refine Jr (J9 (J_ (I:=fun x c st2=>st2=st'/\c.1=none/\c.2.2<=k) (Q:=fun c st2=>st2=st'/\c.1=none) ?_ (fun _ _ h=>⟨h.1,h.2.1⟩) ⟨rfl,rfl,JG _⟩) ?_)
  ·rintro x ⟨c1,c2,c3⟩ st2 _ _ ⟨rfl,rfl,h3⟩
   unfold Ai;dsimp only at h3 ⊢
   by_cases h4:c2 ≥ c3
   ·rw[Jj h4];exact Jt ⟨rfl,rfl⟩
   ·rw[Ji h4];refine Jr (fj C hd ok' (by omega) (by omega) fun b=>?_);dsimp only;cases b with
    | true=>rw[Jj rfl];exact Jt ⟨rfl,rfl,by dsimp only;omega⟩
    | false=>rw[Ji (by decide)];exact Jt ⟨rfl,rfl,h3⟩
  ·rintro⟨c1,c2,c3⟩ st2 ⟨rfl,h5⟩
   dsimp only at h5;subst h5;rw[aU];exact Jr (vR ok' fun st3 ok3=>Jt ⟨ok3,rfl⟩)
 ·rintro⟨c1,c2⟩ st' ⟨ok',h⟩
  dsimp only at h;subst h;rw[aU];exact Jt (q st' ok')
theorem ite_le (b:Bool) (k:Nat):(if b=true then k - 1 else k)<=k:=by cases b<;>simp
theorem Chain.mod:∀ {l:List (Nat × Nat × Nat)} {a b i pw:Nat},Chain a l b->Chain a (l.modify i fun(s,n,_)=>(s,n,pw)) b
 | [],a,b,i,pw,h=>by cases i<;>exact h
 | x::r,a,b,0,pw,h=>h
 | x::r,a,b,i + 1,pw,h=>⟨h.1,h.2.1,Chain.mod h.2.2⟩
theorem nH (C:jJ prog w A E s κ D less) (hd:aV D a₀) (ok:Ok κ a₀ 0 st) {Q:Unit->SortSt->Prop} (q:∀st',(arrOf st').Perm a₀->failedOf st'=none->Q () st'):wpS (model prog w) A E s sortRuns' Q st:=by
 rw[jc];refine Jr (Ln ?_);dsimp only;rw[ok.perm.size_eq]
 have push:∀lo n st',Ok κ a₀ lo st'->1<=n->lo + n<=a₀.size->wpS (model prog w) A E s (jO lo n) (fun r st2=>match r with
   | .done c=>∃l,c.1=none/\Ok κ a₀ l st2/\l<=a₀.size
   | .yield c=>c.1=none/\Ok κ a₀ c.2 st2/\c.2<=a₀.size) st':=fun lo n st' ok' h1 h2=>by
  unfold jO;refine Jr (LW (Jt ⟨rfl,⟨ok'.perm,ok'.kind,ok'.fail,?_⟩,h2⟩));show Chain 0 ((pendingOf st').push (lo,n,0)).toList (lo + n);rw[KP,Chain.app];exact⟨lo,ok'.ch,rfl,h1,rfl⟩
 have mid:∀lo n st',Ok κ a₀ lo st'->1<=n->lo + n<=a₀.size->wpS (model prog w) A E s (og a₀.size lo n) (fun r st2=>match r with
   | .done c=>∃l,c.1=none/\Ok κ a₀ l st2/\l<=a₀.size
   | .yield c=>c.1=none/\Ok κ a₀ c.2 st2/\c.2<=a₀.size) st':=fun lo n st' ok' h1 h2=>by
  unfold og;refine Jr (Ln ?_);split
  ·rename_i s1 n1 p1 hb;refine Jr (J9 (J_ (I:=fun x c st2=>Ok κ a₀ lo st2/\c.1=none) (Q:=fun c st2=>Ok κ a₀ lo st2/\c.1=none) ?_ (fun _ _ h=>h) ⟨ok',rfl⟩) ?_)
   ·rintro x c st2 _ _ ⟨ok2,h3⟩
    unfold CU;refine Jr (Ln ?_)
    by_cases hp:(pendingOf st2).size > 1
    ·rw[Jj hp];have e:(pendingOf st2)[(pendingOf st2).size - 2]?=some (pendingOf st2)[(pendingOf st2).size - 2]:=Me _ _ (by omega);rw[e];dsimp only
     by_cases h4:(pendingOf st2)[(pendingOf st2).size - 2].2.2<=power' a₀.size (2 * s1 + n1) (2 * s1 + n1 + n1 + n) a₀.size
     ·rw[Jj h4];exact Jt ⟨ok2,rfl⟩
     ·rw[Ji h4]
      exact Jr (j7 C hd ok2 (by omega) (by omega) fun st3 ok3 _=>by
       rw[Ji (by decide)];exact Jt ⟨ok3,rfl⟩)
    ·rw[Ji hp];exact Jt ⟨ok2,rfl⟩
   ·rintro⟨c1,c2⟩ st2 ⟨ok2,h3⟩
    dsimp only at h3;subst h3;rw[aU];refine Jr (LW (push lo n _ ⟨ok2.perm,ok2.kind,ok2.fail,?_⟩ h1 h2));show Chain 0 ((pendingOf st2).modify _ _).toList lo;rw[Array.toList_modify];exact ok2.ch.mod
  ·exact push lo n st' ok' h1 h2
 refine Jr (J9 (J_ (I:=fun x c st'=>c.1=none/\Ok κ a₀ c.2 st'/\c.2<=a₀.size) (Q:=fun c st'=>∃l,c.1=none/\Ok κ a₀ l st'/\l<=a₀.size) ?_ (fun c st' h=>⟨c.2,h⟩) ⟨rfl,ok,J3 _⟩) ?_)
 ·rintro x ⟨c1,lo⟩ st' _ _ ⟨h1,ok',h2⟩
  dsimp only at h1 ok' h2 ⊢;unfold pG
  by_cases h3:lo ≥ a₀.size
  ·rw[Jj h3];exact Jt ⟨lo,rfl,ok',h2⟩
  ·rw[Ji h3];refine Jr (nJ C hd ok' (by omega) (by omega) fun n st2 ok2 n1 n2=>?_);dsimp only
   by_cases h4:n < minRun' a₀.size a₀.size 0
   ·rw[Jj h4];refine Jr (LN (Kr ⟨rfl,?_⟩));refine Jr (qF C hd ok2 (by omega) fun st3 ok3=>?_);rw[Ji (by decide)];refine J9 (mid lo _ st3 ok3 (by omega) (by omega)) fun r st4 hr=>?_;cases r with
    | done d=>exact hr
    | yield d=>exact hr
   ·rw[Ji h4];refine J9 (mid lo n st2 ok2 n1 (by omega)) fun r st4 hr=>?_;cases r with
    | done d=>exact hr
    | yield d=>exact hr
 ·rintro⟨c1,c2⟩ st' ⟨l,h1,ok',h2⟩
  dsimp only at h1;subst h1;rw[aU];refine Jr (J9 (J_ (I:=fun x c st2=>Ok κ a₀ l st2/\c.1=none) (Q:=fun c st2=>Ok κ a₀ l st2/\c.1=none) ?_ (fun _ _ h=>h) ⟨ok',rfl⟩) ?_)
  ·rintro x c st2 _ _ ⟨ok2,h3⟩
   unfold sX;refine Jr (Ln ?_)
   by_cases hp:(pendingOf st2).size<=1
   ·rw[Jj hp];exact Jt ⟨ok2,rfl⟩
   ·rw[Ji hp];dsimp only;refine Jr (j7 C hd ok2 ?_ h2 fun st3 ok3 _=>?_)
    ·exact Nc (Nat.succ_le_succ (ite_le _ _)) (by omega)
    ·rw[Ji (by decide)];exact Jt ⟨ok3,rfl⟩
  ·rintro⟨d1,d2⟩ st2 ⟨ok2,h3⟩
   dsimp only at h3;subst h3;rw[aU];exact Jt (q st2 ok2.perm ok2.fail)
end
structure Ord (D:Keyed->Prop) (less:Keyed->Keyed->Bool):Prop where
 su:∀x y,D x->D y->less x y=true->less y x=false
 tr:∀x y z,D x->D y->D z->less y x=false->less z y=false->less z x=false
section
variable {D:Keyed->Prop} {less:Keyed->Keyed->Bool} {xs:Array Keyed}
noncomputable def gq (less:Keyed->Keyed->Bool) (xs:Array Keyed) (i j:Nat):Prop:=∀x y,xs[i]?=some x->xs[j]?=some y->less y x=false
theorem aV.get (h:aV D xs) {i:Nat} {x:Keyed} (e:xs[i]?=some x):D x:=by
 obtain⟨h1,h2⟩:=Array.getElem?_eq_some_iff.mp e;rw[<-h2];exact h.at h1
theorem gq.refl (O:Ord D less) (d:aV D xs) (i:Nat):gq less xs i i:=fun x y e1 e2=>by
 rw[e1]at e2;cases e2
 cases h:less x x with
 | false=>rfl
 | true=>exact h ▸ O.su x x (d.get e1) (d.get e1) h
theorem gq.trans (O:Ord D less) (d:aV D xs) {i j k:Nat} (hj:j < xs.size) (h1:gq less xs i j) (h2:gq less xs j k):gq less xs i k:=fun x z e1 e3=>by
 have e2:xs[j]?=some xs[j]:=Me xs j hj;exact O.tr x _ z (d.get e1) (d.get e2) (d.get e3) (h1 x _ e1 e2) (h2 _ z e2 e3)
noncomputable def Up (less:Keyed->Keyed->Bool) (xs:Array Keyed) (n:Nat):Prop:=∀i j,i<=j->j < n->gq less xs i j
noncomputable def Dn (less:Keyed->Keyed->Bool) (xs:Array Keyed) (n:Nat):Prop:=∀i j,i<=j->j < n->gq less xs j i
theorem Up.one (O:Ord D less) (d:aV D xs):Up less xs 1:=fun i j h1 h2=>by
 have:i=j:=by omega
 subst this;exact .refl O d _
theorem Up.more (O:Ord D less) (d:aV D xs) {n:Nat} (h0:1<=n) (hn:n < xs.size) (h:Up less xs n) (hl:gq less xs (n - 1) n):Up less xs (n + 1):=fun i j h1 h2=>by
 by_cases e:j < n
 ·exact h i j h1 e
 ·have:j=n:=by omega
  subst this
  by_cases e2:i=j
  ·subst e2;exact .refl O d _
  ·exact(h i (j - 1) (by omega) (by omega)).trans O d (by omega) hl
theorem Dn.more (O:Ord D less) (d:aV D xs) {n:Nat} (h0:1<=n) (hn:n < xs.size) (h:Dn less xs n) (hl:gq less xs n (n - 1)):Dn less xs (n + 1):=fun i j h1 h2=>by
 by_cases e:j < n
 ·exact h i j h1 e
 ·have:j=n:=by omega
  subst this
  by_cases e2:i=j
  ·subst e2;exact .refl O d _
  ·exact hl.trans O d (by omega) (h i (j - 1) (by omega) (by omega))
theorem gq.congr {ys:Array Keyed} {i j i' j':Nat} (h:gq less xs i' j') (e1:ys[i]?=xs[i']?) (e2:ys[j]?=xs[j']?):gq less ys i j:=fun x y a b=>h x y (by rw[<-e1];exact a) (by rw[<-e2];exact b)
theorem dE {i j:Nat} (hj:j<=xs.size) (k:Nat):(mirror xs i j ((j - i) / 2))[k]?=if i<=k/\k < j then xs[i + j - 1 - k]? else xs[k]?:=getElem?_mirror_all hj k
theorem Dn.turn {n:Nat} (hn:n<=xs.size) (h:Dn less xs n):Up less (mirror xs 0 n ((n - 0) / 2)) n:=fun i j h1 h2=>by
 refine(h (n - 1 - j) (n - 1 - i) (by omega) (by omega)).congr ?_ ?_
 ·rw[dE hn,Jj (by omega)];congr 1;omega
 ·rw[dE hn,Jj (by omega)];congr 1;omega
theorem Dn.same (O:Ord D less) (d:aV D xs) {n i:Nat} (hn:n<=xs.size) (h:Dn less xs n) (h0:1<=n) (eq:∀k,i<=k->k < n->gq less xs k (n - 1)):Dn less (mirror xs i n ((n - i) / 2)) n:=fun a b h1 h2=>by
 have any:∀k l,i<=k->k < n->i<=l->l < n->gq less xs k l:=fun k l k1 k2 l1 l2=>(eq k k1 k2).trans O d (by omega) (h l (n - 1) (by omega) (by omega))
 by_cases ha:i<=a
 ·refine(any (i + n - 1 - b) (i + n - 1 - a) (by omega) (by omega) (by omega) (by omega)).congr ?_ ?_
  ·rw[dE hn,Jj (by omega)]
  ·rw[dE hn,Jj (by omega)]
 ·by_cases hb:i<=b
  ·refine(h a (i + n - 1 - b) (by omega) (by omega)).congr ?_ ?_
   ·rw[dE hn,Jj (by omega)]
   ·rw[dE hn,Ji (by omega)]
  ·refine(h a b h1 h2).congr ?_ ?_
   ·rw[dE hn,Ji (by omega)]
   ·rw[dE hn,Ji (by omega)]
end
section
variable {prog:Program} {w:World} {A:Around} {E:NS} {s:Shared} {κ:SortKind} {D:Keyed->Prop} {less:Keyed->Keyed->Bool} {a₀:Array Keyed} {st:SortSt} {lw:Nat}
theorem fi (C:jJ prog w A E s κ D less) (hd:aV D a₀) (ok:Ok κ a₀ lw st) {i j:Nat} (hi:i < a₀.size) (hj:j < a₀.size) {Q:Option Bool->SortSt->Prop} (q:∀x y,(arrOf st)[i]?=some x->(arrOf st)[j]?=some y->Q (some (less x y)) st):wpS (model prog w) A E s (ltAt' i j) Q st:=by
 rw[ltAt'_eq];have sz:=ok.perm.size_eq;have da:aV D (arrOf st):=hd.perm ok.perm;have hi':i < (arrOf st).size:=by omega
 have hj':j < (arrOf st).size:=by omega
 refine Jr (Ln ?_);exact Jr (aI hi' (Jr (aI hj' (C.run st _ _ _ ok.kind (da.at hi') (da.at hj') (q _ _ (Me (arrOf st) i hi') (Me (arrOf st) j hj'))))))
theorem gJ {less:Keyed->Keyed->Bool} {xs:Array Keyed} {i j:Nat} {x y:Keyed} (e1:xs[i]?=some x) (e2:xs[j]?=some y) (h:less y x=false):gq less xs i j:=fun a b h1 h2=>by
 rw[e1]at h1;rw[e2]at h2;cases h1;cases h2
 exact h
theorem uy (C:jJ prog w A E s κ D less) (O:Ord D less) (hd:aV D a₀) (ok:Ok κ a₀ lw st) {nrem n:Nat} (h1:1<=n) (hn:n<=nrem) (hs:nrem<=a₀.size) (hu:Up less (arrOf st) n) {Q:Option Nat->SortSt->Prop} {f:Nat->StateT SortSt Sem (Option Nat)} (q:∀m,n<=m->m<=nrem->Up less (arrOf st) m->(m=nrem\/∃x y:Keyed,(arrOf st)[m]?=some x/\(arrOf st)[m - 1]?=some y/\less x y=true)->wpS (model prog w) A E s (f m) Q st):
  wpS (model prog w) A E s (do
   let c<-forIn [n:nrem] ((none,n):Option (Option Nat) × Nat) fun _ c=>up 0 c
   pick c.1 (fun r=>pure r) fun _=>f c.2) Q st:=by
 have sz:=ok.perm.size_eq;have da:aV D (arrOf st):=hd.perm ok.perm;refine Jr (J9 (J_ (I:=fun x c st'=>st'=st/\c.1=none/\c.2=x/\Up less (arrOf st) x) (Q:=fun c st'=>st'=st/\c.1=none/\n<=c.2/\c.2<=nrem/\Up less (arrOf st) c.2/\(c.2=nrem\/∃x y,(arrOf st)[c.2]?=some x/\(arrOf st)[c.2 - 1]?=some y/\less x y=true)) ?_ ?_ ⟨rfl,rfl,rfl,hu⟩) ?_)
 ·rintro x ⟨c1,c2⟩ st' hx hx2 ⟨rfl,rfl,rfl,hu'⟩
  unfold up;dsimp only at hx hx2 hu' ⊢;rw[Kf];refine Jr (fi C hd ok (by omega) (by omega) fun u v e1 e2=>?_);dsimp only;cases hb:less u v with
  | true=>rw[Jj rfl];exact Jt ⟨rfl,rfl,hx,by dsimp only;omega,hu',.inr ⟨u,v,e1,e2,hb⟩⟩
  | false=>rw[Ji (by decide)];exact Jt ⟨rfl,rfl,rfl,hu'.more O da (by omega) (by omega) (gJ e2 e1 hb)⟩
 ·rintro⟨c1,c2⟩ st' ⟨rfl,rfl,h,hu'⟩
  dsimp only at h;have e:max n nrem=nrem:=by omega
  rw[e]at h hu';exact⟨rfl,rfl,by dsimp only;omega,by dsimp only;omega,by dsimp only;rw[h];exact hu',.inl h⟩
 ·rintro⟨c1,c2⟩ st' ⟨rfl,h1,h2,h3,h4,h5⟩
  dsimp only at h1 h2 h3 h4 h5;subst h1;rw[aU];exact q _ h2 h3 h4 h5
theorem i6 (ok:Ok κ a₀ lw st) {i j:Nat} {Q:Unit->SortSt->Prop} (q:Ok κ a₀ lw (setArr st (mirror (arrOf st) i j ((j - i) / 2)))->Q () (setArr st (mirror (arrOf st) i j ((j - i) / 2)))):wpS (model prog w) A E s (reverseSlice' i j) Q st:=by
 rw[reverseSlice'_eq];exact LW (q (ok.arr (mirror_perm _ _ _ _)))
theorem nI (C:jJ prog w A E s κ D less) (O:Ord D less) (hd:aV D a₀) (ok:Ok κ a₀ lw st) {nrem:Nat} (hn:1<=nrem) (hs:nrem<=a₀.size) {Q:Option Nat->SortSt->Prop} (q:∀m st',Ok κ a₀ lw st'->1<=m->m<=nrem->Up less (arrOf st') m->Q (some m) st'):
  wpS (model prog w) A E s (countRun' 0 nrem) Q st:=by
 have r4:∀n st',Ok κ a₀ lw st'->1<=n->n<=nrem->Up less (arrOf st') n->wpS (model prog w) A E s (Gu 0 nrem n) Q st':=fun n st' ok' h1 h2 hu=>by
  unfold Gu;exact uy C O hd ok' h1 h2 hs hu (f:=fun m=>pure (some m)) fun m hm hm2 hu' _=>Jt (q m st' ok' (by omega) hm2 hu')
 have r3:∀n st',Ok κ a₀ lw st'->1<=n->n<=nrem->Dn less (arrOf st') n->wpS (model prog w) A E s (E_ 0 nrem n) Q st':=fun n st' ok' h1 h2 hdn=>by
  have sz:=ok'.perm.size_eq;unfold E_;rw[Kf];exact Jr (i6 ok' fun ok2=>r4 n _ ok2 h1 h2 (hdn.turn (by omega)))
 have r2:∀n st',Ok κ a₀ lw st'->1<=n->n<=nrem->Dn less (arrOf st') n->wpS (model prog w) A E s (Gv 0 nrem n) Q st':=fun n st' ok' h1 h2 hdn=>by
  unfold Gv
  have i0:∀k,n - (0 + 1)<=k->k < n->gq less (arrOf st') k (n - 1):=fun k k1 k2=>by
   have:k=n - 1:=by omega
   subst this;exact .refl O (hd.perm ok'.perm) _
  refine Jr (J9 (J_ (I:=fun x c st2=>Ok κ a₀ lw st2/\c.1=none/\c.2.1=x/\c.2.2 + 1<=x/\Dn less (arrOf st2) x/\∀k,x - (c.2.2 + 1)<=k->k < x->gq less (arrOf st2) k (x - 1)) (Q:=fun c st2=>Ok κ a₀ lw st2/\c.1=none/\n<=c.2.1/\c.2.1<=nrem/\c.2.2 + 1<=c.2.1/\Dn less (arrOf st2) c.2.1/\∀k,c.2.1 - (c.2.2 + 1)<=k->k < c.2.1->gq less (arrOf st2) k (c.2.1 - 1)) ?_ ?_ ⟨ok',rfl,rfl,by dsimp only;omega,hdn,i0⟩) ?_)
  ·rintro x ⟨c1,c2,c3⟩ st2 hx hx2 ⟨ok2,rfl,rfl,g1,g2,g3⟩
   have sz:=ok2.perm.size_eq;have da:aV D (arrOf st2):=hd.perm ok2.perm;unfold down;dsimp only at hx hx2 g1 g2 g3 ⊢;rw[Kf];refine Jr (fi C hd ok2 (by omega) (by omega) fun u v e1 e2=>?_);dsimp only;cases hb:less u v with
   | true=>
    have du:D u:=da.get e1;have dv:D v:=da.get e2;have lt:gq less (arrOf st2) c2 (c2 - 1):=gJ e1 e2 (O.su u v du dv hb);rw[Jj rfl]
    by_cases h3:c3 > 0
    ·rw[Jj h3];refine Jr (i6 ok2 fun ok3=>Jt ?_);have d1:=g2.same O da (by omega) (by omega) g3;have da3:aV D (arrOf (setArr st2 (mirror (arrOf st2) (c2 - (c3 + 1)) c2 ((c2 - (c2 - (c3 + 1))) / 2)))):=hd.perm ok3.perm;have sz3:=ok3.perm.size_eq
     have l3:gq less (mirror (arrOf st2) (c2 - (c3 + 1)) c2 ((c2 - (c2 - (c3 + 1))) / 2)) c2 (c2 - 1):=by
      have base:gq less (arrOf st2) c2 (c2 - (c3 + 1)):=lt.trans O da (by omega) (g2 _ _ (by omega) (by omega));refine base.congr ?_ ?_
      ·rw[dE (by omega),Ji (by omega)]
      ·rw[dE (by omega),Jj (by omega)];congr 1;omega
     refine⟨ok3,rfl,rfl,by dsimp only;omega,Dn.more O da3 (by omega) (by omega) d1 l3,fun k k1 k2=>?_⟩;have:k=c2:=by dsimp only at k1 k2;omega
     subst this;exact .refl O da3 _
    ·rw[Ji h3];refine Jt ⟨ok2,rfl,rfl,by dsimp only;omega,g2.more O da (by omega) (by omega) lt,fun k k1 k2=>?_⟩;have:k=c2:=by dsimp only at k1 k2;omega
     subst this;exact .refl O da _
   | false=>
    rw[Ji (by decide)];refine Jr (fi C hd ok2 (by omega) (by omega) fun u' v' f1 f2=>?_);rw[e2]at f1;rw[e1]at f2;cases f1
    cases f2
    dsimp only;cases hb2:less v u with
    | true=>rw[Jj rfl];exact Jt ⟨ok2,rfl,hx,by dsimp only;omega,g1,g2,g3⟩
    | false=>
     rw[Ji (by decide)];have l1:gq less (arrOf st2) c2 (c2 - 1):=gJ e1 e2 hb2;have l2:gq less (arrOf st2) (c2 - 1) c2:=gJ e2 e1 hb;refine Jt ⟨ok2,rfl,rfl,by dsimp only;omega,g2.more O da (by omega) (by omega) l1,fun k k1 k2=>?_⟩;dsimp only at k1 k2 ⊢
     by_cases ek:k=c2
     ·subst ek;exact .refl O da _
     ·exact(g3 k (by omega) (by omega)).trans O da (by omega) l2
  ·rintro⟨c1,c2,c3⟩ st2 ⟨ok2,rfl,h,g1,g2,g3⟩
   dsimp only at h;have e:max n nrem=nrem:=by omega
   rw[e]at h g1 g2 g3;subst h;exact⟨ok2,rfl,h2,JG _,g1,g2,g3⟩
  ·rintro⟨c1,c2,c3⟩ st2 ⟨ok2,h3,h4,h5,g1,g2,g3⟩
   dsimp only at h3 h4 h5 g1 g2 g3;have sz:=ok2.perm.size_eq;have da:aV D (arrOf st2):=hd.perm ok2.perm;subst h3;rw[aU];dsimp only
   by_cases h6:c3 > 0
   ·rw[Jj h6,Kf];exact Jr (i6 ok2 fun ok3=>r3 c2 _ ok3 (by omega) h5 (g2.same O da (by omega) (by omega) g3))
   ·rw[Ji h6];exact r3 c2 st2 ok2 (by omega) h5 g2
 have r1:∀n st',Ok κ a₀ lw st'->n < nrem->Dn less (arrOf st') (n + 1)->wpS (model prog w) A E s (AV 0 nrem n) Q st':=fun n st' ok' h2 hdn=>by
  unfold AV;exact Jr (LN (Kr ⟨rfl,r2 (n + 1) st' ok' (by omega) (by omega) hdn⟩))
 have sz:=ok.perm.size_eq;have da:aV D (arrOf st):=hd.perm ok.perm;rw[jx]
 refine uy C O hd ok (JG 1) hn hs (Up.one O da) (f:=fun m=>if(m == nrem)=true then pure (some m)else if m > 1 then(do
  let x<-ltAt' 0 (0 + m - 1)
  match x with
  | some rose=>if rose=true then pure (some m)else(do
   reverseSlice' 0 (0 + m)
   AV 0 nrem m)
  | _=>pure none)else AV 0 nrem m) fun m hm hm2 hu br=>?_
 by_cases h:(m == nrem)=true
 ·rw[Jj h];exact Jt (q m st ok hm hm2 hu)
 ·rw[Ji h];have h':m ≠ nrem:=by simpa using h
  obtain⟨x,y,e1,e2,hb⟩:=br.resolve_left h';have lt:gq less (arrOf st) m (m - 1):=gJ e1 e2 (O.su x y (da.get e1) (da.get e2) hb)
  by_cases h2:m > 1
  ·rw[Jj h2,Kf];refine Jr (fi C hd ok (by omega) (by omega) fun u v f1 f2=>?_);dsimp only;cases hb2:less u v with
   | true=>rw[Jj rfl];exact Jt (q m st ok hm hm2 hu)
   | false=>
    rw[Ji (by decide)];have le0:gq less (arrOf st) (m - 1) 0:=gJ f2 f1 hb2;have dn:Dn less (arrOf st) m:=fun i j h3 h4=>((hu j (m - 1) (by omega) (by omega)).trans O da (by omega) le0).trans O da (by omega) (hu 0 i (by omega) (by omega));refine Jr (i6 ok fun ok2=>?_);have d1:=dn.same O da (i:=0) (by omega) (by omega) fun k _ k2=>hu k (m - 1) (by omega) (by omega);have da2:aV D (arrOf (setArr st (mirror (arrOf st) 0 m ((m - 0) / 2)))):=hd.perm ok2.perm;have sz2:=ok2.perm.size_eq
    have l2:gq less (mirror (arrOf st) 0 m ((m - 0) / 2)) m (m - 1):=by
     have base:gq less (arrOf st) m 0:=lt.trans O da (by omega) le0;refine base.congr ?_ ?_
     ·rw[dE (by omega),Ji (by omega)]
     ·rw[dE (by omega),Jj (by omega)];congr 1;omega
    exact r1 m _ ok2 (by omega) (Dn.more O da2 (by omega) (by omega) d1 l2)
  ·rw[Ji h2];have:m=1:=by omega
   subst this;refine r1 1 st ok (by omega) (Dn.more O da (by omega) (by omega) (fun i j h3 h4=>?_) lt);have:i=j:=by omega
   subst this;exact .refl O da _
end
section
variable {prog:Program} {w:World} {A:Around} {E:NS} {s:Shared} {κ:SortKind} {D:Keyed->Prop} {less:Keyed->Keyed->Bool} {a₀:Array Keyed} {st:SortSt} {lw:Nat}
theorem Up.put (O:Ord D less) {xs:Array Keyed} (d:aV D xs) {k l:Nat} (hk:k < xs.size) (hl:l<=k) (h:Up less xs k) (h1:∀i,i < l->gq less xs i k) (h2:∀i,l<=i->i < k->gq less xs k i):Up less (bubble xs k (k - l)) (k + 1):=by
 have at_:∀i,(bubble xs k (k - l))[i]?=if i=l then xs[k]? else if l < i/\i<=k then xs[i - 1]? else xs[i]?:=fun i=>by
  rw[getElem?_bubble hk (k - l) (by omega)];have e:k - (k - l)=l:=by omega
  rw[e]
 intro i j hij hj
 by_cases ei:i=l
 ·subst ei
  by_cases ej:j=i
  ·subst ej;exact(gq.refl O d k).congr (by rw[at_,Jj rfl]) (by rw[at_,Jj rfl])
  ·exact(h2 (j - 1) (by omega) (by omega)).congr (by rw[at_,Jj rfl]) (by rw[at_,Ji ej,Jj (by omega)])
 ·by_cases il:i < l
  ·have e1:(bubble xs k (k - l))[i]?=xs[i]?:=by rw[at_,Ji ei,Ji (by omega)]
   by_cases ej:j=l
   ·exact(h1 i il).congr e1 (by rw[at_,Jj ej])
   ·by_cases jl:j < l
    ·exact(h i j hij (by omega)).congr e1 (by rw[at_,Ji ej,Ji (by omega)])
    ·exact(h i (j - 1) (by omega) (by omega)).congr e1 (by rw[at_,Ji ej,Jj (by omega)])
  ·have e1:(bubble xs k (k - l))[i]?=xs[i - 1]?:=by rw[at_,Ji ei,Jj (by omega)]
   exact(h (i - 1) (j - 1) (by omega) (by omega)).congr e1 (by rw[at_,Ji (by omega),Jj (by omega)])
theorem qE (C:jJ prog w A E s κ D less) (O:Ord D less) (hd:aV D a₀) (ok:Ok κ a₀ lw st) {n k0:Nat} (hs:n<=a₀.size) (h0:1<=k0) (hkn:k0<=n) (hu:Up less (arrOf st) k0) {Q:Bool->SortSt->Prop} (q:∀st',Ok κ a₀ lw st'->Up less (arrOf st') n->Q true st'):
  wpS (model prog w) A E s (binarySort' 0 n k0) Q st:=by
 rw[gO];have e0:max k0 1=k0:=by omega
 rw[e0];refine Jr (J9 (J_ (I:=fun x c st'=>Ok κ a₀ lw st'/\c.1=none/\Up less (arrOf st') x) (Q:=fun c st'=>Ok κ a₀ lw st'/\c.1=none/\Up less (arrOf st') n) ?_ (fun c st' h=>⟨h.1,h.2.1,by have:=h.2.2;rw[show max k0 n=n by omega]at this;exact this⟩) ⟨ok,rfl,hu⟩) ?_)
 ·rintro k c st' hk1 hk2 ⟨ok',h,hu'⟩
  have sz:=ok'.perm.size_eq;have da:aV D (arrOf st'):=hd.perm ok'.perm;unfold Ey
  refine Jr (J9 (J_ (I:=fun x c st2=>st2=st'/\c.1=none/\c.2.1<=c.2.2/\c.2.2<=k/\c.2.2 - c.2.1<=k - x/\(∀ i,i < c.2.1->gq less (arrOf st') i k)/\∀i,c.2.2<=i->i < k->gq less (arrOf st') k i)
   (Q:=fun c st2=>st2=st'/\c.1=none/\c.2.1<=k/\(∀ i,i < c.2.1->gq less (arrOf st') i k)/\∀i,c.2.1<=i->i < k->gq less (arrOf st') k i) ?_ ?_ ⟨rfl,rfl,J3 _,JG _,by dsimp only;omega,fun i hi=>by dsimp only at hi;omega,fun i h1 h2=>by dsimp only at h1;omega⟩) ?_)
  ·rintro x ⟨c1,c2,c3⟩ st2 _ hx ⟨rfl,rfl,g1,g2,g3,g4,g5⟩
   unfold Ai;dsimp only at g1 g2 g3 g4 g5 ⊢
   by_cases h4:c2 ≥ c3
   ·rw[Jj h4];have:c2=c3:=by omega
    subst this;exact Jt ⟨rfl,rfl,g2,g4,g5⟩
   ·rw[Ji h4,Kf,Kf];have m1:(c2 + c3) / 2 < c3:=by omega
    have m2:c2<=(c2 + c3) / 2:=by omega
    generalize hm:(c2 + c3) / 2=m at m1 m2 ⊢;refine Jr (fi C hd ok' (by omega) (by omega) fun u v e1 e2=>?_);dsimp only;cases hb:less u v with
    | true=>
     rw[Jj rfl];have lm:gq less (arrOf st2) k m:=gJ e1 e2 (O.su u v (da.get e1) (da.get e2) hb);refine Jt ⟨rfl,rfl,m2,by dsimp only;omega,by dsimp only;omega,g4,fun i h1 h2=>?_⟩;exact lm.trans O da (by omega) (hu' m i h1 h2)
    | false=>
     rw[Ji (by decide)];have lm:gq less (arrOf st2) m k:=gJ e2 e1 hb;refine Jt ⟨rfl,rfl,by dsimp only;omega,g2,by dsimp only;omega,fun i h1=>?_,g5⟩;dsimp only at h1;exact(hu' i m (by omega) (by omega)).trans O da (by omega) lm
  ·rintro⟨c1,c2,c3⟩ st2 ⟨rfl,rfl,g1,g2,g3,g4,g5⟩
   dsimp only at g1 g2 g3 g4 g5;have:c2=c3:=by omega
   subst this;exact⟨rfl,rfl,g2,g4,g5⟩
  ·rintro⟨c1,c2,c3⟩ st2 ⟨rfl,g1,g2,g3,g4⟩
   dsimp only at g1 g2 g3 g4;subst g1;rw[aU,Kf,Kf,moveDown'_eq];exact Jr (LW (Jt ⟨ok'.arr (bubble_perm _ _ _),rfl,hu'.put O da (by omega) g2 g3 g4⟩))
 ·rintro⟨c1,c2⟩ st' ⟨ok',h,hu'⟩
  dsimp only at h;subst h;rw[aU];exact Jt (q st' ok' hu')
theorem nG (C:jJ prog w A E s κ D less) (O:Ord D less) (hd:aV D a₀) (ok:Ok κ a₀ 0 st) (hp:pendingOf st=#[]) (h2:1<=a₀.size) (h64:a₀.size < 64) {Q:Unit->SortSt->Prop} (q:∀st',(arrOf st').Perm a₀->failedOf st'=none->Up less (arrOf st') a₀.size->Q () st'):wpS (model prog w) A E s sortRuns' Q st:=by
 rw[jc];refine Jr (Ln ?_);dsimp only;rw[ok.perm.size_eq]
 have hmr:minRun' a₀.size a₀.size 0=a₀.size:=by
  obtain⟨f,hf⟩:∃f,a₀.size=f + 1:=⟨a₀.size - 1,by omega⟩;have:minRun' (f + 1) a₀.size 0=a₀.size:=by rw[minRun'_succ,Jj h64];rfl
  rwa[<-hf]at this
 rw[hmr]
 have mid:∀n st',Ok κ a₀ 0 st'->n=a₀.size->Up less (arrOf st') n->wpS (model prog w) A E s (og a₀.size 0 n) (fun r st2=>match r with
   | .done c=>False
   | .yield c=>c=(none,a₀.size)/\(arrOf st2).Perm a₀/\failedOf st2=none/\Up less (arrOf st2) a₀.size/\(pendingOf st2).size=1) st':=fun n st' ok' hn hu=>by
  subst hn
  have pe:pendingOf st'=#[]:=by
   have:=ok'.ch;cases e:(pendingOf st').toList with
   | nil=>exact Array.toList_eq_nil_iff.mp e
   | cons x r=>
    rw[e]at this;obtain⟨a,b,c⟩:=this;have:=c.le;omega
  unfold og;refine Jr (Ln ?_);rw[pe];show wpS _ _ _ _ (jO 0 a₀.size) _ _;unfold jO;refine Jr (LW (Jt ⟨by rw[Kf],ok'.perm,ok'.fail,hu,?_⟩));show((pendingOf st').push _).size=1;rw[pe];rfl
 refine Jr (J9 (J_
  (I:=fun x c st'=>(x=0/\c=(none,0)/\Ok κ a₀ 0 st')\/(1<=x/\c=(none,a₀.size)/\(arrOf st').Perm a₀/\failedOf st'=none/\Up less (arrOf st') a₀.size/\(pendingOf st').size=1))
  (Q:=fun c st'=>c=(none,a₀.size)/\(arrOf st').Perm a₀/\failedOf st'=none/\Up less (arrOf st') a₀.size/\(pendingOf st').size=1) ?_ ?_ (.inl ⟨rfl,rfl,ok⟩)) ?_)
 ·rintro x c st' _ hx (⟨rfl,rfl,ok'⟩ | ⟨hx1,rfl,h1,h2,h3,h4⟩)
  ·dsimp only;unfold pG;rw[Ji (by omega),Nat.sub_zero];refine Jr (nI C O hd ok' h2 (JG _) fun n st2 ok2 n1 n2 hu=>?_);dsimp only
   by_cases h4:n < a₀.size
   ·rw[Jj h4,Nat.min_self];refine Jr (LN (Kr ⟨rfl,?_⟩));refine Jr (qE C O hd ok2 (JG _) n1 n2 hu fun st3 ok3 hu3=>?_);rw[Ji (by decide)];refine J9 (mid a₀.size st3 ok3 rfl hu3) fun r st4 hr=>?_;cases r with
    | done d=>exact hr.elim
    | yield d=>exact .inr ⟨by omega,hr⟩
   ·rw[Ji h4];refine J9 (mid n st2 ok2 (by omega) hu) fun r st4 hr=>?_;cases r with
    | done d=>exact hr.elim
    | yield d=>exact .inr ⟨by omega,hr⟩
  ·dsimp only;unfold pG;rw[Jj (JG _)];exact Jt ⟨rfl,h1,h2,h3,h4⟩
 ·rintro c st' (⟨hx,_,_⟩ | ⟨_,h⟩)
  ·omega
  ·exact h
 ·rintro c st' ⟨rfl,h1,h2,h3,h4⟩
  rw[aU];refine Jr (J9 (J_ (I:=fun x c st2=>st2=st'/\c.1=none) (Q:=fun c st2=>st2=st'/\c.1=none) ?_ (fun _ _ h=>h) ⟨rfl,rfl⟩) ?_)
  ·rintro x c st2 _ _ ⟨rfl,h5⟩
   unfold sX;refine Jr (Ln ?_);rw[Jj (by omega)];exact Jt ⟨rfl,rfl⟩
  ·rintro⟨d1,d2⟩ st2 ⟨rfl,h5⟩
   dsimp only at h5;subst h5;rw[aU];exact Jt (q st2 h1 h2 h3)
end
open PySem PyProof.Rows PySem.SeqAt
open PySem.AutoSeq1 (wpAny_loadPart')
open PySem.MeetsSeq PySem.MeetsSeq2 PySem.MeetsSeq3 PySem.SeqRoads2
noncomputable def AQ (A:Around) (s:Shared) (y x:Value) (b:Bool):Prop:=
 ∀ (prog:Program) (w:World) (E:NS) (Q:NS),Q (.bool b) s->wpAny (model prog w) A (richCompare .Lt y x) Q E s
noncomputable def mK (e f:Nat->Bool) (fin:Bool):List Nat->Bool
 | []=>fin
 | i::r=>if e i=true then mK e f fin r else f i
theorem sM (l b:Addr) (xs ys:NV) (n n2:Nat) (dd dd2:Option Addr) (sl sl2:Array (Option Value)) (e f:Nat->Bool):
  Meets (Builtin.«tuple.__lt__» ⟨[.ref l,.ref b],[]⟩)
   (fun A R s=>s.heap.get? l=some {cls:=.type "tuple",dict:=dd,data:=.seq xs n,slots:=sl}/\s.heap.get? b=some {cls:=.type "tuple",dict:=dd2,data:=.seq ys n2,slots:=sl2}/\
    (∀ j (h1:j < xs.size) (h2:j < ys.size),EqAt A.in1 s xs[j] ys[j] (e j)/\(e j=false->AQ A.in1 s xs[j] ys[j] (f j)))/\
    R (.ok (.ret (.bool (mK e f (decide (xs.size < ys.size)) (List.range (min xs.size ys.size)))))) s):=
 .of_wp fun prog w A R s h=>by
  obtain⟨hp,g,d,tk,os⟩:=s;obtain⟨hl,hb,he,h⟩:=h;have f2:=AutoSeq1.sub_tuple_tuple;have zl:(xs.toList.zip ys.toList).length=min xs.size ys.size:=by simp
  wp_walk using KR hl,KR hb,wpAny_forIn_list _ (fun rest c st=>c.1=none/\st=⟨hp,g,d,tk,os⟩/\∃i,rest=(xs.toList.zip ys.toList).drop i/\
   R (.ok (.ret (.bool (mK e f (decide (xs.size < ys.size)) ((List.range (min xs.size ys.size)).drop i))))) ⟨hp,g,d,tk,os⟩) _
  case turn=>
   rintro⟨y,x⟩ rest c st ⟨_,rfl,i,hz,hR⟩
   have lt:i < (xs.toList.zip ys.toList).length:=by
    by_cases q:i < (xs.toList.zip ys.toList).length
    ·exact q
    ·rw[K9 (MJ q)]at hz;cases hz
   have h1:i < xs.size:=by omega
   have h2:i < ys.size:=by omega
   rw[Ko lt]at hz;injection hz with z1 z2
   rw[List.getElem_zip]at z1;injection z1 with z3 z4
   have z3:y=xs[i]:=by rw[z3];simp
   have z4:x=ys[i]:=by rw[z4];simp
   subst z3 z4
   have rg:(List.range (min xs.size ys.size)).drop i=i::(List.range (min xs.size ys.size)).drop (i + 1):=by
    rw[Ko (by rw[J8];omega),Nd]
   rw[rg]at hR;unfold mK at hR;refine Jh ((he i h1 h2).1 prog w _ _ ?_);cases q:e i with
   | true=>
    rw[q,Jj rfl]at hR
    wp_walk
    exact⟨rfl,rfl,i + 1,z2,hR⟩
   | false=>
    rw[q,Ji (by decide)]at hR;rw[Jj (by rfl)];refine Jh (Kr ?_);refine Jh ((he i h1 h2).2 q prog w _ _ ?_)
    wp_walk
    exact⟨_,rfl,hR⟩
  case fin=>
   rintro⟨c1,c2⟩ st ⟨hc,rfl,i,hz,hR⟩
   simp only at hc;subst hc
   have ge:min xs.size ys.size<=i:=by
    have:=congrArg List.length hz;rw[Ny,zl]at this;simp at this;omega
   rw[K9 (by rw[J8];exact ge)]at hR
   wp_walk
   exact⟨_,rfl,hR⟩
  exact⟨rfl,rfl,0,rfl,h⟩
section
variable {prog:Program} {w:World} {A:Around} {E:NS} {s:Shared} {κ:SortKind}
theorem yn {a:Addr} {vs:NX} {n:Nat} {P:PySem.Fin->Shared->Prop} {Post:SortSt->Prop} (ho:s.heap.get? a=some (seqObj "list" vs.toArray n)) (hz:vs.length<=sizeLine)
  (h0:vs.length < 2->∀st,arrOf st=pairsOf vs->Post st)
  (hk:2<=vs.length->∀h',(∀ b o,b ≠ a->s.heap.get? b=some o->h'.get? b=some o)->∀Q:SortKind->Shared->Prop,Q κ {s with heap:=h'}->wpAny (model prog w) A (keyKind' vs.toArray) Q E {s with heap:=h'})
  (hr:2<=vs.length->∀h',(∀ b o,b ≠ a->s.heap.get? b=some o->h'.get? b=some o)->∀ (Q:Unit->SortSt->Prop) st,Ok κ (pairsOf vs) 0 st->pendingOf st=#[]->(∀ st',(arrOf st').Perm (pairsOf vs)->failedOf st'=none->Post st'->Q () st')->wpS (model prog w) A E {s with heap:=h'} sortRuns' Q st)
  (h:∀st':SortSt,(arrOf st').Perm (pairsOf vs)->Post st'->P (.done (.ret .none)) {s with heap:=sortedHeap s.heap a vs ((arrOf st').map (·.2))}):
  wpAny (model prog w) A (Builtin.«list.sort» ⟨[.ref a],[]⟩) P E s:=by
 rw[list_sort_plain];have sz:vs.toArray.size=vs.length:=by simp
 have al:a < s.heap.objs.size:=Ju ho;obtain⟨e1,o1⟩:∃e1,(s.heap.update a (Obj.mapSeq fun _=>#[])).get? a=some (seqObj "list" #[] e1):=⟨_,get?_update_seq ho _⟩;refine Jh (listItems_at ho rfl (Jh (Ml ho rfl (Jh (seqEpoch_at o1 rfl (Jh (wpAny_newTuple (Jh (Mk (Kd ?_) (J3 _))) (by rw[JK,sz];exact hz))))) (by rw[sz];exact hz) (J3 _))));generalize hg:((s.heap.update a (Obj.mapSeq fun _=>#[])).push (seqObj "tuple" vs.toArray 0)).push (seqObj "list" #[] 0)=h6
 have o6:h6.get? a=some (seqObj "list" #[] e1):=by
  rw[<-hg];exact Jq _ (Jq _ o1)
 have k6:∀b o,b ≠ a->s.heap.get? b=some o->h6.get? b=some o:=fun b o hb e=>by
  rw[<-hg];exact Jq _ (Jq _ ((Kh _ _ (Kv hb)).trans e))
 have fin:∀st':SortSt,(arrOf st').Perm (pairsOf vs)->failedOf st'=none->Post st'->wpAny (model prog w) A (do
   let touched:=(<-seqEpoch a) != e1
   Builtin.List.listUpdate (.ref a) fun _=>(arrOf st').map (·.2)
   if let some e:=failedOf st' then rule "list.sort.comparison-raised";throw e
   if touched then rule "list.sort.modified";raiseError "ValueError" "list modified during sort"
   ret .none) P E {s with heap:=h6}:=fun st' p1 p2 p3=>by
  refine Jh (seqEpoch_at o6 rfl (Jh (Ml o6 rfl ?_ (J3 _) ?_)))
  ·rw[p2];simp only[MF,Ke,Lj];have:=h st' p1 p3;unfold sortedHeap at this;rw[hg]at this;exact Jm this
  ·rw[Array.size_map,p1.size_eq,pairsOf_size];exact Nat.le_succ_of_le hz
 show wpAny (model prog w) A _ P E {s with heap:=h6};dsimp only
 by_cases h2:vs.toArray.size < 2
 ·rw[Jj h2,Jj h2];refine Jh (Jm ?_);rw[StateT.run_pure];refine Jh (Jm ?_);exact fin (SortSt.mk' general' (vs.toArray.zip vs.toArray) #[] 7 none) (MU _) rfl (h0 (by omega) _ rfl)
 ·rw[Ji h2,Ji h2];refine Jh (hk (by omega) h6 k6 _ ?_);refine Jh (KW (hr (by omega) h6 k6 (fun _ st'=>(arrOf st').Perm (pairsOf vs)/\failedOf st'=none/\Post st') (SortSt.mk' κ (vs.toArray.zip vs.toArray) #[] 7 none) ⟨MU _,rfl,rfl,rfl⟩ rfl fun st' a1 a2 a3=>⟨a1,a2,a3⟩) ?_ fun _ _ e=>e)
  rintro⟨⟨⟩,st'⟩ s' ⟨rfl,q1,q2,q3⟩
  exact fin st' q1 q2 q3
theorem sZ {l:Addr} {vs:NX} {Q:NS} {Post:SortSt->Prop} (hl:s.heap.IsList l vs.toArray) (hz:vs.length<=sizeLine)
  (h0:vs.length < 2->∀st,arrOf st=pairsOf vs->Post st)
  (hk:2<=vs.length->∀h',(∀ b o,s.heap.get? b=some o->h'.get? b=some o)->∀Q:SortKind->Shared->Prop,Q κ {s with heap:=h'}->wpAny (model prog w) A.in1.in1 (keyKind' vs.toArray) Q E {s with heap:=h'})
  (hr:2<=vs.length->∀h',(∀ b o,s.heap.get? b=some o->h'.get? b=some o)->∀ (Q:Unit->SortSt->Prop) st,Ok κ (pairsOf vs) 0 st->pendingOf st=#[]->(∀ st',(arrOf st').Perm (pairsOf vs)->failedOf st'=none->Post st'->Q () st')->wpS (model prog w) A.in1.in1 E {s with heap:=h'} sortRuns' Q st)
  (h:∀st':SortSt,(arrOf st').Perm (pairsOf vs)->Post st'->Q (.ref (s.heap.objs.size + 1)) {s with heap:=sortedAll s.heap vs ((arrOf st').map (·.2))}):
  wpAny (model prog w) A (call (.builtin "sorted") [.ref l]) Q E s:=by
 refine Ms kind_sorted plain_sorted entry_sorted (args_sorted1 _) ?_;unfold Builtin.«sorted»;refine Jh (m:=checkCount "sorted" 1 1 _) (Jm (Jh (collect_list hl (Jh (Mk ?_ hz)))));have z1:((s.heap.push (seqObj "list" #[] 0)).update s.heap.objs.size (Obj.mapSeq (·++vs.toArray))).objs.size=s.heap.objs.size + 1:=by rw[NB,size_push']
 generalize hG:((s.heap.push (seqObj "list" #[] 0)).update s.heap.objs.size (Obj.mapSeq (·++vs.toArray))).push (seqObj "list" vs.toArray 0)=G;have oL:G.get? (s.heap.objs.size + 1)=some (seqObj "list" vs.toArray 0):=by rw[<-hG,<-z1];exact JE _ rfl
 have kG:∀b o,s.heap.get? b=some o->G.get? b=some o:=fun b o e=>by
  rw[<-hG];have hb:=Ju e;exact Jq _ ((Kh _ _ (KS hb)).trans (Jq _ e))
 have ne:∀b o,s.heap.get? b=some o->b ≠ s.heap.objs.size + 1:=fun b o e=>JC (J0 (Ju e));show wpAny _ _ _ _ _ {s with heap:=G};rw[z1];refine Jh (Kd (KN M6 ⟨_,oL,rfl⟩ MR (yn (s:={s with heap:=G}) (κ:=κ) (Post:=Post) oL hz h0 (fun z h' k=>hk z h' fun b o e=>k b o (ne b o e) (kG b o e)) (fun z h' k=>hr z h' fun b o e=>k b o (ne b o e) (kG b o e)) fun st' a1 a2=>⟨_,rfl,Jm ⟨_,rfl,?_⟩⟩) (args_list_sort _)));have:=h st' a1 a2;unfold sortedAll at this;rw[hG]at this;exact this
end
end Tm
namespace Sw
open PySem PySem.Spec PyProof.Rows L2
theorem cZ {M:Mo} {H:Hp} {p:Addr} {a b:Str} (h:bq M H (.ref p)=some (a,b)):rd M H p=some (.tup [.str a,.str b]):=by
 unfold bq at h;dsimp only at h;split at h
 ·rename_i e;cases h;exact e
 ·cases h
noncomputable def iH:Value->Addr
 | .ref a=>a
 | _=>0
section
variable {X:Cx} {M:Mo} {pins:NT} {σ:L2.St} {H:Hp} {s:Shared}
theorem d_ (mo:av X.K M) (I:Inv X pins σ H s) {p:Addr} {a b:Str} (h:rd M H p=some (.tup [.str a,.str b])):∃o n t u,s.heap.get? p=some o/\o.cls=.type "tuple" /\o.data=.seq #[.str a t,.str b u] n:=by
 obtain⟨aA,rv,⟨o,ho,hc,n,hd⟩,_⟩:=I.tuple (cD mo h);cases rv with
 | cons r1 rv=>
  cases rv with
  | cons r2 rv=>
   cases rv
   obtain⟨t,rfl⟩:=r1;obtain⟨u,rfl⟩:=r2;exact⟨o,n,t,u,ho,hc,hd⟩
noncomputable def kk (M:Mo) (H:Hp) (v:Value):Str × Str:=(bq M H (.ref (iH v))).getD (Str.empty,Str.empty)
noncomputable def AL (M:Mo) (H:Hp) (k:Keyed):Prop:=∃p ab,k.1=.ref p/\bq M H (.ref p)=some ab
theorem vd {M:Mo} {H:Hp} {p:Addr} {ab:Str × Str} (h:bq M H (.ref p)=some ab):kk M H (.ref p)=ab:=by
 unfold kk iH;rw[h];rfl
theorem jW {A:Around} {s:Shared} {a b:Str} {t u:Tok} {prog:Program} {w:World} {E:NS} {Q:Bool->Shared->Prop} (q:Q (a == b) s):wpAny (model prog w) A (eqBool (.str a t) (.str b u)) Q E s:=Lc a t b u prog w E Q q
theorem zD {prog:Program} {w:World} {A:Around} {s:Shared} {a b c d:Str} {t u t' u':Tok} {Q:Bool->Shared->Prop} (q:Q (eS (a,b) (c,d)) s):
  PySem.W.KatLex prog w A true false Q [(.str a t,.str c t'),(.str b u,.str d u')] 0 s:=by
 refine Lb (jW (Ls (fun e=>Ll ?_) fun e=>Lu ?_))
 ·have e:a=c:=by simpa using e
  unfold eS at q;rw[Jj e]at q;refine Lb (jW (Ls (fun e2=>Ll (MV ?_)) fun e2=>Lu ?_))
  ·have e2:b=d:=by simpa using e2
   subst e2;have:decide (b.cps.toList < b.cps.toList)=false:=JR (K0 _);dsimp only at q;rw[this]at q;exact q
  ·show wpAny _ _ (oneLt' false _ _) _ _ _;exact MW _ _ (MB q)
 ·have e:a ≠ c:=by simpa using e
  unfold eS at q;rw[Ji e]at q;show wpAny _ _ (oneLt' true _ _) _ _ _;exact oneLt_str q
theorem xB (mo:av X.K M) (I:Inv X pins σ H s) (A':Around) (E':NS):Tm.jJ X.prog X.w A' E' s (tuples' true) (AL M H) (fun x y=>eS (kk M H x.1) (kk M H y.1)):=by
 refine⟨fun st x y Q hk dx dy q=>?_⟩;obtain⟨p,⟨a,b⟩,ex,hp⟩:=dx;obtain⟨r,⟨c,d⟩,ey,hr⟩:=dy;obtain⟨o1,n1,t1,u1,g1,c1,d1⟩:=d_ mo I (cZ hp);obtain⟨o2,n2,t2,u2,g2,c2,d2⟩:=d_ mo I (cZ hr);rw[lt'_eq];refine Jr (Ln ?_);rw[hk,ex,ey];rw[ex,ey,vd hp,vd hr]at q;refine Jr (LN (Lo (M8 g1 d1 g2 d2 ?_)));exact zD ⟨rfl,Jt q⟩
theorem Cc (x:Str × Str):eS x x=false:=by
 unfold eS;rw[Jj rfl];exact JR (K0 _)
theorem Bb {a b:Str} (h1:¬a.cps.toList < b.cps.toList) (h2:¬b.cps.toList < a.cps.toList):a=b:=by
 have e:a.cps.toList=b.cps.toList:=NC (LM.mp h2) (LM.mp h1);obtain⟨x⟩:=a;obtain⟨y⟩:=b
 congr 1
 exact Array.toList_inj.mp e
theorem rK {x y:Str × Str} (h:eS x y=true):eS y x=false:=by
 unfold eS at h ⊢
 by_cases e:x.1=y.1
 ·rw[Jj e]at h;rw[Jj e.symm];have h:=JX h;exact JR fun z=>K0 _ (Nk h z)
 ·rw[Ji e]at h;rw[Ji fun z=>e z.symm];have h:=JX h;exact JR fun z=>K0 _ (Nk h z)
theorem zE {x y z:Str × Str} (h:eS y x=false) (k:eS z y=false):eS z x=false:=by
 unfold eS at h k ⊢;have le:∀ {a b c:List Nat},¬b < a->¬c < b->¬c < a:=fun h1 h2=>LM.mpr (List.le_trans (LM.mp h1) (LM.mp h2))
 by_cases e1:y.1=x.1
 ·rw[Jj e1]at h
  by_cases e2:z.1=y.1
  ·rw[Jj e2]at k;rw[Jj (e2.trans e1)];exact JR (le (LX h) (LX k))
  ·rw[Ji e2]at k;rw[Ji fun q=>e2 (q.trans e1.symm),<-e1];exact k
 ·rw[Ji e1]at h
  by_cases e2:z.1=y.1
  ·rw[Ji fun q=>e1 (e2.symm.trans q),e2];exact h
  ·rw[Ji e2]at k;have h:=LX h;have k:=LX k
   by_cases e3:z.1=x.1
   ·exfalso;rw[e3]at k;exact e1 (Bb h k)
   ·rw[Ji e3];exact JR (le h k)
theorem wx:Tm.Ord (AL M H) (fun x y=>eS (kk M H x.1) (kk M H y.1)):=⟨fun x y _ _ h=>rK h,fun x y z _ _ _ h k=>zE h k⟩
theorem ou:∀ {xs:List V} {us:NX},Vals xs us->(∀ x ∈ xs,∃p,x=.ref p)->us=xs.map (fun x=>match x with | .ref p=>Value.ref p | _=>Value.none)
 | _,_,.nil,_=>rfl
 | x::xs,_,.cons r t,h=>by
  obtain⟨p,rfl⟩:=h x Js;cases r
  rw[ou t fun y hy=>h y (Jo _ hy)];rfl
noncomputable def iG (v:Value):V:=.ref (iH v)
theorem n_:∀ {us:NX},(∀ u ∈ us,∃p,u=Value.ref p)->Vals (us.map iG) us
 | [],_=>.nil
 | u::us,h=>by
  obtain⟨p,rfl⟩:=h u Js;exact .cons rfl (n_ fun y hy=>h y (Jo _ hy))
theorem zB {xs:List V} (h:∀x ∈ xs,∃p,x=.ref p):(xs.map (fun x=>match x with | .ref p=>Value.ref p | _=>Value.none)).map iG=xs:=by
 rw[JT];refine(KD fun x hx=>?_).trans (List.map_id _);obtain⟨p,rfl⟩:=h x hx;rfl
theorem Bq {xs:List V} {us:NX} (r:Vals xs us) (h:∀x ∈ xs,∃p,x=.ref p):(∀ u ∈ us,∃p,u=Value.ref p)/\us.map iG=xs:=by
 rw[ou r h];refine⟨fun u hu=>?_,zB h⟩;obtain⟨x,hx,rfl⟩:=Jn.mp hu;obtain⟨p,rfl⟩:=h x hx;exact⟨p,rfl⟩
theorem y_ {us:NX} (h:∀u ∈ us,∃p,u=Value.ref p) {arr:Array Keyed} (p:arr.Perm (pairsOf us)):(arr.map (·.2)).toList.Perm us/\∀u ∈ (arr.map (·.2)).toList,∃p,u=Value.ref p:=by
 have hl:arr.toList.Perm (us.zip us):=by rw[<-pairsOf_toList];exact K_.mp p
 have e:(arr.map (·.2)).toList.Perm us:=by
  rw[Array.toList_map];have z:=hl.map (·.2);rw[List.map_snd_zip (JG _)]at z;exact z
 exact⟨e,fun u hu=>h u (e.mem_iff.mp hu)⟩
theorem vf (mo:av X.K M) (I:Inv X pins σ H s):∀ {us:NX},(∀ u ∈ us,∃p o n xs f,u=Value.ref p/\s.heap.get? p=some o/\o.cls=.type "tuple" /\o.data=.seq xs n/\xs[0]?=some f/\∃T,f=T)->∃fs,PySem.W.KatTups s.heap us fs/\fs.length=us.length/\∀f ∈ fs,∃u ∈ us,∃p o n xs,u=Value.ref p/\s.heap.get? p=some o/\o.data=.seq xs n/\xs[0]?=some f
 | [],_=>⟨[],.nil,rfl,fun f hf=>by cases hf⟩
 | u::us,h=>by
  obtain⟨p,o,n,xs,f,rfl,h1,h2,h3,h4,_⟩:=h u Js;obtain⟨fs,k1,k2,k3⟩:=vf mo I (us:=us) fun y hy=>h y (Jo _ hy);refine⟨f::fs,.cons h1 h2 h3 h4 k1,by rw[J5,J5,k2],fun g hg=>?_⟩;rcases Jx.mp hg with rfl | hg
  ·exact⟨_,Js,p,o,n,xs,rfl,h1,h3,h4⟩
  ·obtain⟨u,hu,r⟩:=k3 g hg;exact⟨u,Jo _ hu,r⟩
end
section
variable {X:Cx} {M:Mo} {pins:NT} {σ:L2.St} {H:Hp} {s:Shared}
theorem wu {xs:List V} (h:xs.all (fun x=>(bq M H x).isSome)=true):∀x ∈ xs,∃p ab,x=.ref p/\bq M H (.ref p)=some ab:=fun x hx=>by
 have z:=KA.mp h x hx;obtain⟨ab,e⟩:=Lh.mp z;cases x with
 | ref p=>exact⟨p,ab,rfl,e⟩
 | _=>cases e
theorem xF {us:NX} {arr:Array Keyed} (p:arr.Perm (pairsOf us)) {k:Keyed} (h:k ∈ arr.toList):k.1=k.2/\k.1 ∈ us:=by
 have hl:arr.toList.Perm (us.zip us):=by rw[<-pairsOf_toList];exact K_.mp p
 exact mem_zip_self (hl.mem_iff.mp h)
theorem ug {us:NX} {D:Keyed->Prop} (h:∀u ∈ us,∀v,D (u,v)):Tm.aV D (pairsOf us):=fun k hk=>by
 rw[pairsOf_toList]at hk;obtain⟨a,b⟩:=k;exact h a (mem_zip_self hk).2 b
theorem jd (mo:av X.K M) (hu:X.A.units + 64 < cLine) (I:Inv X pins σ H s) {p:Addr} {xs:List V} {Q:VK} {D:Keyed->Prop} {less:Keyed->Keyed->Bool} {T:Value} (hT:tuples' (T != .type "tuple")=tuples' true) (hTT:(T == T)=true) (hq:j5 X.K H p xs)
  (dx:∀x ∈ xs,∃q,x=.ref q/\∀v,D (.ref q,v))
  (ob:∀s',Inv X pins σ H s'->∀q v,D (.ref q,v)->∃o n f r,s'.heap.get? q=some o/\o.cls=.type "tuple" /\o.data=.seq #[f,r] n/\PySem.W.Looks (model X.prog X.w) s'.heap (typeOf f) T)
  (cm:∀s',Inv X pins σ H s'->∀A' E',A'.units + 8 < cLine->Tm.jJ X.prog X.w A' E' s' (tuples' true) D less)
  (h:∀ws l,List.Perm ws xs->(xs.length < 64->Tm.Ord D less->ws.Pairwise fun x y=>∀a b,x=.ref a->y=.ref b->less (.ref b,.ref b) (.ref a,.ref a)=false)->H l=none->M l=none->Q (.ref l) (upd H l (.lst ws))):
  wpAny (model X.prog X.w) X.A (call (.builtin "sorted") [.ref p]) (EP X pins σ Q) X.xe s:=by
 obtain⟨aA,rv,pl,hz⟩:=I.list hq;obtain⟨ru,eb⟩:=Bq rv fun x hx=>let ⟨q,e,_⟩:=dx x hx;⟨q,e⟩
 have ln:aA.length=xs.length:=by rw[<-eb,Jk]
 have us:∀u ∈ aA,∃q,u=Value.ref q/\∀v,D (.ref q,v):=fun u hu=>by
  obtain⟨q,rfl⟩:=ru u hu;have:iG (Value.ref q) ∈ xs:=by rw[<-eb];exact Jn.mpr ⟨_,hu,rfl⟩
  obtain⟨p',e,k⟩:=dx _ this;cases (show V.ref q=V.ref p' from e)
  exact⟨q,rfl,k⟩
 have ad:Tm.aV D (pairsOf aA):=ug fun u hu v=>by
  obtain⟨q,rfl,k⟩:=us u hu;exact k v
 refine Tm.sZ (κ:=tuples' true) (Post:=fun st=>xs.length < 64->Tm.Ord D less->Tm.Up less (arrOf st) (pairsOf aA).size) pl.isList (by rw[ln];exact hz) (fun h2 st e _ or=>?_) (fun _ h' k Q' q=>?_) (fun h2 h' k Q' st ok hp q=>?_) fun st pm up=>?_
 ·rw[e];intro i j h3 h4;rw[pairsOf_size]at h4;have:i=j:=by omega
  subst this;exact Tm.gq.refl or ad i
 ·have I':Inv X pins σ H {s with heap:=h'}:=I.kept (t':=s.toks) k
  obtain⟨fs,k1,k2,k3⟩:=vf mo I' (us:=aA) fun u hu=>by
   obtain⟨q,rfl,d⟩:=us u hu;obtain⟨o,n,f,r,g1,g2,g3,_⟩:=ob _ I' q .none (d _);exact⟨q,o,n,_,_,rfl,g1,g2,g3,rfl,_,rfl⟩
  refine PySem.W.kat_kind (T:=T) k1 (by omega) (fun f hf=>?_) hTT (by rw[hT];exact q);obtain⟨u,hu,q,o,n,zs,rfl,g1,g2,g3⟩:=k3 f hf;obtain⟨q',e1,d⟩:=us _ hu;cases e1
  obtain⟨o',n',f',r',g4,g5,g6,g7⟩:=ob _ I' q .none (d _);rw[g1]at g4;cases g4
  rw[g2]at g6;cases g6
  have g3:some f'=some f:=g3;cases g3
  exact g7
 ·have I':Inv X pins σ H {s with heap:=h'}:=I.kept (t':=s.toks) k;have c:=cm _ I' X.A.in1.in1 X.xe (by show X.A.units + 1 + 1 + 8 < cLine;omega)
  by_cases w:xs.length < 64/\Tm.Ord D less
  ·exact Tm.nG c w.2 ad ok hp (by rw[pairsOf_size];omega) (by rw[pairsOf_size];omega) fun st' a1 a2 a3=>q st' a1 a2 fun _ _=>a3
  ·exact Tm.nH c ad ok fun st' a1 a2=>q st' a1 a2 fun b1 b2=>absurd ⟨b1,b2⟩ w
 ·obtain⟨o1,o2⟩:=y_ ru pm;obtain⟨c,hc⟩:=sortedAll_at s.heap aA ((arrOf st).map (·.2));have wp:((((arrOf st).map (·.2)).toList).map iG).Perm xs:=by rw[<-eb];exact o1.map iG
  refine mC mo I (fun b o q=>sortedAll_old q) rfl rfl (K8 _) hc (n_ o2) (by rw[wp.length_eq];exact hz) (h _ _ wp fun b1 b2=>?_);have up:=up b1 b2;rw[Kp];intro i j hi hj hij a b ha hb;have hi':i < (arrOf st).size:=by simpa using hi
  have hj':j < (arrOf st).size:=by simpa using hj
  have ky:∀ (i:Nat) (hi':i < (arrOf st).size) (a:Addr) (hi:i < ((((arrOf st).map (·.2)).toList).map iG).length),((((arrOf st).map (·.2)).toList).map iG)[i]=.ref a->(arrOf st)[i]=(.ref a,.ref a):=fun i hi' a hi ea=>by
   have si:=xF pm (k:=(arrOf st)[i]) (by simp);obtain⟨q,e1,_⟩:=us _ si.2;have e2:((((arrOf st).map (·.2)).toList).map iG)[i]=.ref (iH (arrOf st)[i].2):=by simp[iG]
   rw[e2,<-si.1,e1]at ea;have ea:q=a:=by injection ea
   subst ea;exact Prod.ext e1 (si.1.symm.trans e1)
  have le:=up i j (Lw hij) (by rw[<-pm.size_eq];exact hj') _ _ (Me (arrOf st) i hi') (Me (arrOf st) j hj');rw[ky i hi' a hi ha,ky j hj' b hj hb]at le;exact le
theorem yo (mo:av X.K M) (hu:X.A.units + 64 < cLine) (I:Inv X pins σ H s) {p:Addr} {xs:List V} {Q:VK} (hq:j5 X.K H p xs) (all:xs.all (fun x=>(bq M H x).isSome)=true) (h64:xs.length < 64)
  (h:∀ws l,List.Perm ws xs->ws.Pairwise (fun x y=>∀a b,bq M H x=some a->bq M H y=some b->eS b a=false)->H l=none->M l=none->Q (.ref l) (upd H l (.lst ws))):
  wpAny (model X.prog X.w) X.A (call (.builtin "sorted") [.ref p]) (EP X pins σ Q) X.xe s:=by
 have pr:=wu all;refine jd (D:=AL M H) (less:=fun x y=>eS (kk M H x.1) (kk M H y.1)) (T:=.type "str") mo hu I rfl rfl hq (fun x hx=>let ⟨q,ab,e,k⟩:=pr x hx;⟨q,e,fun v=>⟨q,ab,rfl,k⟩⟩) (fun s' I' q v d=>?_) (fun s' I' A' E' _=>xB mo I' A' E') fun ws l pm up=>h ws l pm ((up h64 wx).imp_of_mem fun{x y} hx hy z a b ha hb=>?_)
 ·obtain⟨q',⟨a,b⟩,e1,e2⟩:=d;cases e1
  obtain⟨o,n,t,u,g4,g5,g6⟩:=d_ mo I' (cZ e2);exact⟨o,n,_,_,g4,g5,g6,.now⟩
 ·obtain⟨q,_,rfl,_⟩:=pr x (pm.mem_iff.mp hx);obtain⟨r,_,rfl,_⟩:=pr y (pm.mem_iff.mp hy);have:=z q r rfl rfl;dsimp only at this;rw[vd ha,vd hb]at this;exact this
noncomputable def dk (M:Mo) (H:Hp) (v:Value):Int × Str × Str:=match rd M H (iH v)with
 | some (.tup [.int i,r])=>(i,(bq M H r).getD (Str.empty,Str.empty))
 | _=>(0,Str.empty,Str.empty)
noncomputable def Dk (M:Mo) (H:Hp) (k:Keyed):Prop:=∃p i r ab,k.1=.ref p/\rd M H p=some (.tup [.int i,.ref r])/\bq M H (.ref r)=some ab
theorem Dd {p:Addr} {i:Int} {r:Addr} {ab:Str × Str} (h:rd M H p=some (.tup [.int i,.ref r])) (k:bq M H (.ref r)=some ab):dk M H (.ref p)=(i,ab):=by
 unfold dk iH;dsimp only;rw[h];dsimp only;rw[k];rfl
noncomputable def G5 (x y:Int × Str × Str):Bool:=if x.1=y.1 then eS x.2 y.2 else decide (x.1 < y.1)
theorem mX (mo:av X.K M) (I:Inv X pins σ H s) {p r:Addr} {i:Int} (h:rd M H p=some (.tup [.int i,.ref r])):∃o n t,s.heap.get? p=some o/\o.cls=.type "tuple" /\o.data=.seq #[.int i t,.ref r] n:=by
 obtain⟨aA,rv,⟨o,ho,hc,n,hd⟩,_⟩:=I.tuple (cD mo h);cases rv with
 | cons r1 rv=>
  cases rv with
  | cons r2 rv=>
   cases rv
   obtain⟨t,rfl⟩:=r1;cases r2
   exact⟨o,n,t,ho,hc,hd⟩
theorem tM (mo:av X.K M) (I:Inv X pins σ H s) {p r:Addr} {ab cd:Str × Str} (hp:bq M H (.ref p)=some ab) (hr:bq M H (.ref r)=some cd) {A:Around} (hu:A.units < cLine):Tm.AQ A s (.ref p) (.ref r) (eS ab cd):=fun prog w E Q q=>by
 obtain⟨a,b⟩:=ab;obtain⟨c,d⟩:=cd;obtain⟨⟨c1,dd1,da1,sl1⟩,n1,t1,u1,g1,e1,d1⟩:=d_ mo I (cZ hp);obtain⟨⟨c2,dd2,da2,sl2⟩,n2,t2,u2,g2,e2,d2⟩:=d_ mo I (cZ hr);simp only at e1 d1 e2 d2;subst e1 d1 e2 d2
 let e:Nat->Bool:=fun j=>if j=0 then a == c else b == d
 let f:Nat->Bool:=fun j=>if j=0 then decide (a.cps.toList < c.cps.toList)else decide (b.cps.toList < d.cps.toList)
 have lx:Tm.mK e f (decide ((#[Value.str a t1,Value.str b u1]:NV).size < (#[Value.str c t2,Value.str d u2]:NV).size)) (List.range (min (#[Value.str a t1,Value.str b u1]:NV).size (#[Value.str c t2,Value.str d u2]:NV).size))=eS (a,b) (c,d):=by
  show Tm.mK e f false [0,1]=_;unfold eS;show(if(a == c)=true then(if(b == d)=true then false else decide (b.cps.toList < d.cps.toList))else decide (a.cps.toList < c.cps.toList))=_
  by_cases h1:a=c
  ·rw[Jj (by simp[h1]),Jj h1]
   by_cases h2:b=d
   ·rw[Jj (by simp[h2])];subst h2;exact(JR (K0 _)).symm
   ·rw[Ji (by simp[h2])]
  ·rw[Ji (by simp[h1]),Ji h1]
 refine MI (op:=.Lt) ⟨_,g1,rfl⟩ ⟨_,g2,rfl⟩ F.slot_tuple_lt F.entry_tuple_lt (F.args_tuple_lt_2 _ _) (Tm.sM p r _ _ n1 n2 dd1 dd2 sl1 sl2 e f) ⟨g1,g2,fun j h1 h2=>?_,?_⟩ hu
 ·match j,h1,h2 with
  | 0,_,_=>exact⟨Lc a t1 c t2,fun _ prog w E Q q=>MB q⟩
  | 1,_,_=>exact⟨Lc b u1 d u2,fun _ prog w E Q q=>MB q⟩
  | n + 2,h1,_=>exact absurd h1 (by simp)
 ·rw[lx];exact⟨(fun x=>nomatch x),q⟩
theorem xC (mo:av X.K M) (I:Inv X pins σ H s) (A':Around) (E':NS) (hu:A'.units + 8 < cLine):Tm.jJ X.prog X.w A' E' s (tuples' true) (Dk M H) (fun x y=>G5 (dk M H x.1) (dk M H y.1)):=by
 refine⟨fun st x y Q hk dx dy q=>?_⟩;obtain⟨p,i,r,ab,ex,hp,hr⟩:=dx;obtain⟨p',j,r',cd,ey,hp',hr'⟩:=dy;obtain⟨o1,n1,t1,g1,c1,d1⟩:=mX mo I hp;obtain⟨o2,n2,t2,g2,c2,d2⟩:=mX mo I hp';rw[lt'_eq];refine Jr (Ln ?_);rw[hk,ex,ey];rw[ex,ey,Dd hp hr,Dd hp' hr']at q;refine Jr (LN (Lo (M8 g1 d1 g2 d2 ?_)));show PySem.W.KatLex _ _ _ true false _ [(.int i t1,.int j t2),(.ref r,.ref r')] 0 _;refine Lb (Mv i t1 j t2 _ _ _ _ (Ls (fun e=>Ll ?_) fun e=>Lu ?_))
 ·have e:i=j:=by simpa using e
  unfold G5 at q;rw[Jj e]at q;obtain⟨a,b⟩:=ab;obtain⟨c,d⟩:=cd
  have da:∀ {z:Addr} {a b:Str},bq M H (.ref z)=some (a,b)->data M H 1 (.ref z)=some (.tuple [.str a,.str b]):=fun h=>by
   unfold data;rw[cZ h];rfl
  refine Lb (hZ mo I 1 A' (.ref r) (.ref r') _ _ _ _ (by omega) rfl rfl (da hr) (da hr') _ _ _ _ (Ls (fun e2=>Ll (MV ?_)) fun e2=>Lu ?_))
  ·have e2:((a == c) && ((b == d) && true))=true:=e2;simp only[Bool.and_true,J6,LK]at e2;obtain⟨rfl,rfl⟩:=e2;dsimp only at q;rw[Cc]at q;exact⟨rfl,Jt q⟩
  ·show wpAny _ _ (oneLt' false _ _) _ _ _;refine MW _ _ (tM mo I hr hr' (by omega) _ _ _ _ ?_);exact⟨rfl,Jt q⟩
 ·have e:i ≠ j:=by simpa using e
  unfold G5 at q;rw[Ji e]at q;show wpAny _ _ (oneLt' true _ _) _ _ _;exact oneLt_int ⟨rfl,Jt q⟩
theorem xq {xs:List V} (h:xs.all (rY M H)=true):∀x ∈ xs,∃p i r ab,x=.ref p/\rd M H p=some (.tup [.int i,.ref r])/\bq M H (.ref r)=some ab:=fun x hx=>by
 have z:=KA.mp h x hx;cases x with
 | ref p=>
  unfold rY at z;dsimp only at z;split at z
  ·rename_i i r e;cases r with
   | ref q=>
    obtain⟨ab,k⟩:=Lh.mp z;exact⟨p,i,q,ab,rfl,e,k⟩
   | _=>cases z
  ·cases z
 | _=>cases z
theorem yr (mo:av X.K M) (hu:X.A.units + 64 < cLine) (I:Inv X pins σ H s) {p:Addr} {xs:List V} {Q:VK} (hq:j5 X.K H p xs) (all:xs.all (rY M H)=true)
  (h:∀ws l,List.Perm ws xs->H l=none->M l=none->Q (.ref l) (upd H l (.lst ws))):
  wpAny (model X.prog X.w) X.A (call (.builtin "sorted") [.ref p]) (EP X pins σ Q) X.xe s:=by
 have pr:=xq all;refine jd (D:=Dk M H) (less:=fun x y=>G5 (dk M H x.1) (dk M H y.1)) (T:=.type "int") mo hu I rfl rfl hq (fun x hx=>let ⟨q,i,r,ab,e,k,k2⟩:=pr x hx;⟨q,e,fun v=>⟨q,i,r,ab,rfl,k,k2⟩⟩) (fun s' I' q v d=>?_) (fun s' I' A' E' hu'=>xC mo I' A' E' hu') fun ws l pm _=>h ws l pm;obtain⟨q',i,r,ab,e1,e2,_⟩:=d;cases e1
 obtain⟨o,n,t,g4,g5,g6⟩:=mX mo I' e2;exact⟨o,n,_,_,g4,g5,g6,.now⟩
end
end Sw
namespace Tm
open PySem PyProof.Rows PySem.SeqAt
open PySem.AutoSeq1 (wpAny_loadPart')
open PySem.MeetsSeq PySem.MeetsSeq2 PySem.MeetsSeq3 PySem.SeqRoads2
theorem wM (l b:Addr) (xs ys:NV) (n n2:Nat) (dd dd2:Option Addr) (sl sl2:Array (Option Value)) (f:Bool):
  Meets (Builtin.«list.__eq__.loop» ⟨[.ref l,.ref b,rawInt 0,rawInt 0],[]⟩)
   (fun A R s=>s.heap.get? l=some {cls:=.type "list",dict:=dd,data:=.seq xs n,slots:=sl}/\s.heap.get? b=some {cls:=.type "list",dict:=dd2,data:=.seq ys n2,slots:=sl2}/\
    (∃ (h1:0 < xs.size) (h2:0 < ys.size),EqAt A.in1 s xs[0] ys[0] false/\AQ A.in1 s xs[0] ys[0] f)/\R (.ok (.ret (.bool f))) s):=by
 intro prog w A R s h;obtain⟨hp,g,d,tk,os⟩:=s;obtain⟨hl,hb,⟨h1,h2,he,hlt⟩,h⟩:=h;have xP:xs[((0:Nat):Int).toNat]?=some xs[0]:=by simp[h1]
 have EA:ys[((0:Nat):Int).toNat]?=some ys[0]:=by simp[h2]
 wp_walk using KR hl,KR hb
 rw[show xs[(0:Int).toNat]?=some xs[0]from xP,show ys[(0:Int).toNat]?=some ys[0]from EA];refine Jh (he prog w _ _ ?_)
 wp_walk using KR hl,KR hb
 rw[show xs[(0:Int).toNat]?=some xs[0]from xP,show ys[(0:Int).toNat]?=some ys[0]from EA];refine Jh (hlt prog w _ _ ?_)
 wp_walk
 exact h
theorem wO (l b:Addr) (xs ys:NV) (n n2:Nat) (dd dd2:Option Addr) (sl sl2:Array (Option Value)) (f:Bool):
  Meets (Builtin.«list.__lt__» ⟨[.ref l,.ref b],[]⟩)
   (fun A R s=>s.heap.get? l=some {cls:=.type "list",dict:=dd,data:=.seq xs n,slots:=sl}/\s.heap.get? b=some {cls:=.type "list",dict:=dd2,data:=.seq ys n2,slots:=sl2}/\
    (∃ (h1:0 < xs.size) (h2:0 < ys.size),EqAt A.in1 s xs[0] ys[0] false/\AQ A.in1 s xs[0] ys[0] f)/\R (.ok (.ret (.bool f))) s):=by
 intro prog w A R s h;obtain⟨hp,g,d,tk,os⟩:=s;obtain⟨hl,hb,hq,h⟩:=h;have f3:=AutoSeq1.sub_list_list
 wp_walk using KR hl,KR hb
 exact⟨Mj plain_eq_loop _,LC entry_eq_loop (by
  rw[Lk plain_eq_loop _];exact wM l b xs ys n n2 dd dd2 sl sl2 f prog w A R _ ⟨hl,hb,hq,h⟩)⟩
end Tm
namespace Sw
open PySem PySem.Spec PyProof.Rows L2
section
variable {X:Cx} {M:Mo} {pins:NT} {σ:L2.St} {H:Hp} {s:Shared}
theorem mh {p:Addr} {w h:Str} (e:cg M H (.ref p)=some (w,h)):∃q xs cs,rd M H p=some (.tup [.str w,.ref q])/\rd M H q=some (.lst xs)/\allM o5 xs=some (h::cs):=by
 unfold cg at e;dsimp only at e;split at e
 ·rename_i w' q e1;split at e
  ·rename_i xs e2;split at e
   ·rename_i h' cs e3;cases e
    exact⟨q,xs,cs,e1,e2,e3⟩
   ·cases e
  ·cases e
 ·cases e
theorem sO (mo:av X.K M) (I:Inv X pins σ H s) {p q:Addr} {a:Str} (h:rd M H p=some (.tup [.str a,.ref q])):∃o n t,s.heap.get? p=some o/\o.cls=.type "tuple" /\o.data=.seq #[.str a t,.ref q] n:=by
 obtain⟨aA,rv,⟨o,ho,hc,n,hd⟩,_⟩:=I.tuple (cD mo h);cases rv with
 | cons r1 rv=>
  cases rv with
  | cons r2 rv=>
   cases rv
   obtain⟨t,rfl⟩:=r1;cases r2
   exact⟨o,n,t,ho,hc,hd⟩
theorem sQ (mo:av X.K M) (I:Inv X pins σ H s) {p:Addr} {a b:Int} (h:rd M H p=some (.tup [.int a,.int b])):∃o n t u,s.heap.get? p=some o/\o.cls=.type "tuple" /\o.data=.seq #[.int a t,.int b u] n:=by
 obtain⟨aA,rv,⟨o,ho,hc,n,hd⟩,_⟩:=I.tuple (cD mo h);cases rv with
 | cons r1 rv=>
  cases rv with
  | cons r2 rv=>
   cases rv
   obtain⟨t,rfl⟩:=r1;obtain⟨u,rfl⟩:=r2;exact⟨o,n,t,u,ho,hc,hd⟩
theorem jM:∀ {xs:List V} {ts:NW},allM o5 xs=some ts->xs=ts.map V.str
 | [],ts,h=>by rw[allM_nil h];rfl
 | x::xs,ts,h=>by
  obtain⟨a,l,h1,h2,rfl⟩:=allM_cons h;cases x<;>cases h1
  rw[jM h2];rfl
theorem mJ {q:Addr} {cs:NW} (h:rd M H q=some (.lst (cs.map V.str))):data M H 1 (.ref q)=some (.list (cs.map PyData.str)):=by
 unfold data;rw[h];dsimp only
 have:∀l:NW,allM (data M H 0) (l.map V.str)=some (l.map PyData.str):=fun l=>by
  induction l with
  | nil=>rfl
  | cons a r ih=>
   rw[JF];unfold allM;rw[ih];rfl
 rw[this];rfl
theorem tN (mo:av X.K M) (I:Inv X pins σ H s) {p r:Addr} {a b:Str} {as bs:NW} (hp:rd M H p=some (.lst ((a::as).map V.str))) (hr:rd M H r=some (.lst ((b::bs).map V.str))) (ne:a ≠ b) {A:Around} (hu:A.units < cLine):Tm.AQ A s (.ref p) (.ref r) (decide (a.cps.toList < b.cps.toList)):=fun prog w E Q q=>by
 obtain⟨aA,r1,p1,_⟩:=I.list (bg mo hp);obtain⟨its2,r2,p2,_⟩:=I.list (bg mo hr);obtain⟨⟨c1,d1,da1,sl1⟩,n1,o1,hc1,hd1,hda1⟩:=p1;obtain⟨⟨c2,d2,da2,sl2⟩,n2,o2,hc2,hd2,hda2⟩:=p2;simp only at hc1 hda1 hc2 hda2;subst hc1 hda1 hc2 hda2;cases r1 with
 | cons x1 rv1=>
  cases r2 with
  | cons x2 rv2=>
   obtain⟨t1,rfl⟩:=x1;obtain⟨t2,rfl⟩:=x2;refine MI (op:=.Lt) ⟨_,o1,rfl⟩ ⟨_,o2,rfl⟩ F.slot_list_lt F.entry_list_lt (F.args_list_lt_2 _ _) (Tm.wO p r _ _ n1 n2 d1 d2 sl1 sl2 _) ⟨o1,o2,⟨by simp,by simp,?_,fun prog w E Q q=>MB q⟩,(fun x=>nomatch x),q⟩ hu;have e:(a == b)=false:=by simpa using ne
   have:=Lc (A:=A.in1) (s:=s) a t1 b t2;rw[e]at this;exact this
noncomputable def GN (M:Mo) (H:Hp) (k:Keyed):Prop:=∃p i j,k.1=.ref p/\rd M H p=some (.tup [.int i,.int j])
noncomputable def nn (M:Mo) (H:Hp) (v:Value):Int × Int:=match rd M H (iH v)with
 | some (.tup [.int i,.int j])=>(i,j)
 | _=>(0,0)
noncomputable def ltN (x y:Int × Int):Bool:=if x.1=y.1 then decide (x.2 < y.2)else decide (x.1 < y.1)
theorem C4 {p:Addr} {i j:Int} (h:rd M H p=some (.tup [.int i,.int j])):nn M H (.ref p)=(i,j):=by
 unfold nn iH;dsimp only;rw[h]
theorem AF (mo:av X.K M) (I:Inv X pins σ H s) (A':Around) (E':NS):Tm.jJ X.prog X.w A' E' s (tuples' true) (GN M H) (fun x y=>ltN (nn M H x.1) (nn M H y.1)):=by
 refine⟨fun st x y Q hk dx dy q=>?_⟩;obtain⟨p,i,a,ex,hp⟩:=dx;obtain⟨p',j,b,ey,hp'⟩:=dy;obtain⟨o1,n1,t1,u1,g1,c1,d1⟩:=sQ mo I hp;obtain⟨o2,n2,t2,u2,g2,c2,d2⟩:=sQ mo I hp';rw[lt'_eq];refine Jr (Ln ?_);rw[hk,ex,ey];rw[ex,ey,C4 hp,C4 hp']at q;refine Jr (LN (Lo (M8 g1 d1 g2 d2 ?_)));show PySem.W.KatLex _ _ _ true false _ [(.int i t1,.int j t2),(.int a u1,.int b u2)] 0 _;refine Lb (Mv i t1 j t2 _ _ _ _ (Ls (fun e=>Ll ?_) fun e=>Lu ?_))
 ·have e:i=j:=by simpa using e
  unfold ltN at q;rw[Jj e]at q;refine Lb (Mv a u1 b u2 _ _ _ _ (Ls (fun e2=>Ll (MV ?_)) fun e2=>Lu ?_))
  ·have e2:a=b:=by simpa using e2
   dsimp only at q;rw[JR (by omega)]at q;exact⟨rfl,Jt q⟩
  ·show wpAny _ _ (oneLt' false _ _) _ _ _;refine MW _ _ (PySem.P.lt_int ?_);exact⟨rfl,Jt q⟩
 ·have e:i ≠ j:=by simpa using e
  unfold ltN at q;rw[Ji e]at q;show wpAny _ _ (oneLt' true _ _) _ _ _;exact oneLt_int ⟨rfl,Jt q⟩
theorem yq (mo:av X.K M) (hu:X.A.units + 64 < cLine) (I:Inv X pins σ H s) {p:Addr} {xs:List V} {Q:VK} (hq:j5 X.K H p xs) (all:xs.all (B9 M H)=true)
  (h:∀ws l,List.Perm ws xs->H l=none->M l=none->Q (.ref l) (upd H l (.lst ws))):
  wpAny (model X.prog X.w) X.A (call (.builtin "sorted") [.ref p]) (EP X pins σ Q) X.xe s:=by
 refine jd (D:=GN M H) (less:=fun x y=>ltN (nn M H x.1) (nn M H y.1)) (T:=.type "int") mo hu I rfl rfl hq (fun x hx=>?_) (fun s' I' q v d=>?_) (fun s' I' A' E' _=>AF mo I' A' E') fun ws l pm _=>h ws l pm
 ·have z:=KA.mp all x hx;cases x with
  | ref q=>
   unfold B9 at z;dsimp only at z;split at z
   ·rename_i i j e;exact⟨q,rfl,fun v=>⟨q,i,j,rfl,e⟩⟩
   ·cases z
  | _=>cases z
 ·obtain⟨q',i,j,e1,e2⟩:=d;cases e1
  obtain⟨o,n,t,u,g4,g5,g6⟩:=sQ mo I' e2;exact⟨o,n,_,_,g4,g5,g6,.now⟩
noncomputable def Di (M:Mo) (H:Hp) (xs:List V) (k:Keyed):Prop:=∃p wh,k.1=.ref p/\V.ref p ∈ xs/\cg M H (.ref p)=some wh
noncomputable def pk (M:Mo) (H:Hp) (v:Value):Str × Str:=(cg M H (.ref (iH v))).getD (Str.empty,Str.empty)
theorem uY {p:Addr} {ab:Str × Str} (h:cg M H (.ref p)=some ab):pk M H (.ref p)=ab:=by
 unfold pk iH;rw[h];rfl
theorem xA (mo:av X.K M) {xs:List V} (inj:∀x ∈ xs,∀y ∈ xs,∀a b,cg M H x=some a->cg M H y=some b->a.2=b.2->x=y) (I:Inv X pins σ H s) (A':Around) (E':NS) (hu:A'.units + 8 < cLine):Tm.jJ X.prog X.w A' E' s (tuples' true) (Di M H xs) (fun x y=>eS (pk M H x.1) (pk M H y.1)):=by
 refine⟨fun st x y Q hk dx dy q=>?_⟩;obtain⟨p,⟨w,a⟩,ex,mp,hp⟩:=dx;obtain⟨p',⟨w',b⟩,ey,mp',hp'⟩:=dy;obtain⟨r,ys,as,e1,e2,e3⟩:=mh hp;obtain⟨r',ys',bs,f1,f2,f3⟩:=mh hp';rw[jM e3]at e2;rw[jM f3]at f2;obtain⟨o1,n1,t1,g1,c1,d1⟩:=sO mo I e1;obtain⟨o2,n2,t2,g2,c2,d2⟩:=sO mo I f1;rw[lt'_eq];refine Jr (Ln ?_);rw[hk,ex,ey];rw[ex,ey,uY hp,uY hp']at q;refine Jr (LN (Lo (M8 g1 d1 g2 d2 ?_)));show PySem.W.KatLex _ _ _ true false _ [(.str w t1,.str w' t2),(.ref r,.ref r')] 0 _;refine Lb (jW (Ls (fun e=>Ll ?_) fun e=>Lu ?_))
 ·have e:w=w':=by simpa using e
  unfold eS at q;rw[Jj e]at q;refine Lb (hZ mo I 1 A' (.ref r) (.ref r') _ _ _ _ (by omega) rfl rfl (mJ e2) (mJ f2) _ _ _ _ (Ls (fun ee=>Ll (MV ?_)) fun ee=>Lu ?_))
  ·have eab:a=b:=by
    by_cases z:a=b
    ·exact z
    ·exfalso;have ee:PyData.eqv (.list ((a::as).map PyData.str)) (.list ((b::bs).map PyData.str))=true:=ee;simp[PyData.eqv,PyData.eqvAll,z]at ee
   subst eab;dsimp only at q;rw[JR (K0 _)]at q;exact⟨rfl,Jt q⟩
  ·have nab:a ≠ b:=fun z=>by
    have:=inj _ mp _ mp' _ _ hp hp' z;cases this
    have er:r=r':=by rw[e1]at f1;cases f1;rfl
    subst er;rw[e2]at f2;have ee:PyData.eqv (.list ((a::as).map PyData.str)) (.list ((b::bs).map PyData.str))=false:=ee;have el:(a::as).map V.str=(b::bs).map V.str:=by injection f2 with f2;injection f2
    have el:a::as=b::bs:=(List.map_inj_right (fun x y h=>by injection h)).mp el;rw[el,jY 1 _ _ (mJ (M:=M) (H:=H) (q:=r) (by rw[<-el];exact e2))]at ee;cases ee
   show wpAny _ _ (oneLt' false _ _) _ _ _;refine MW _ _ (tN mo I e2 f2 nab (by omega) _ _ _ _ ?_);exact⟨rfl,Jt q⟩
 ·have e:w ≠ w':=by simpa using e
  unfold eS at q;rw[Ji e]at q;show wpAny _ _ (oneLt' true _ _) _ _ _;exact oneLt_str ⟨rfl,Jt q⟩
theorem yp (mo:av X.K M) (hu:X.A.units + 64 < cLine) (I:Inv X pins σ H s) {p:Addr} {xs:List V} {Q:VK} (hq:j5 X.K H p xs) (h64:xs.length < 64) (all:xs.all (fun x=>(cg M H x).isSome)=true) (inj:∀x ∈ xs,∀y ∈ xs,∀a b,cg M H x=some a->cg M H y=some b->a.2=b.2->x=y)
  (h:∀ws l,List.Perm ws xs->ws.Pairwise (fun x y=>∀a b,cg M H x=some a->cg M H y=some b->eS b a=false)->H l=none->M l=none->Q (.ref l) (upd H l (.lst ws))):
  wpAny (model X.prog X.w) X.A (call (.builtin "sorted") [.ref p]) (EP X pins σ Q) X.xe s:=by
 have pr:∀x ∈ xs,∃q ab,x=.ref q/\cg M H (.ref q)=some ab:=fun x hx=>by
  obtain⟨ab,e⟩:=Lh.mp (KA.mp all x hx);cases x with
  | ref q=>exact⟨q,ab,rfl,e⟩
  | _=>cases e
 refine jd (D:=Di M H xs) (less:=fun x y=>eS (pk M H x.1) (pk M H y.1)) (T:=.type "str") mo hu I rfl rfl hq (fun x hx=>let ⟨q,ab,e,k⟩:=pr x hx;⟨q,e,fun v=>⟨q,ab,rfl,e ▸ hx,k⟩⟩) (fun s' I' q v d=>?_) (fun s' I' A' E' hu'=>xA mo inj I' A' E' hu') fun ws l pm up=>h ws l pm ((up h64 ⟨fun x y _ _ h=>rK h,fun x y z _ _ _ h k=>zE h k⟩).imp_of_mem fun{x y} hx hy z a b ha hb=>?_)
 ·obtain⟨q',⟨a,b⟩,e1,_,e2⟩:=d;cases e1
  obtain⟨r,ys,as,k1,_⟩:=mh e2;obtain⟨o,n,t,g4,g5,g6⟩:=sO mo I' k1;exact⟨o,n,_,_,g4,g5,g6,.now⟩
 ·obtain⟨q,_,rfl,_⟩:=pr x (pm.mem_iff.mp hx);obtain⟨r,_,rfl,_⟩:=pr y (pm.mem_iff.mp hy);have:=z q r rfl rfl;dsimp only at this;rw[uY ha,uY hb]at this;exact this
end
section
variable {X:Cx} {M:Mo} {pins:NT} {σ:L2.St} {H:Hp} {s:Shared} {p:Addr}
noncomputable def GF:B2->String
 | .sortT=> "sorted" | .sortM=> "sorted" | .sortN=> "sorted" | .sortP=> "sorted"
theorem GC (mo:av X.K M) (hc:X.calm=true) (hu:X.A.units + 64 < cLine) (f:B2) {x:V} {v:Value} {Q:VK} (I:Inv X pins σ H s) (r:RelV x v) (h:Dg M f x H Q):
  wpAny (model X.prog X.w) X.A (call (.builtin (GF f)) [v]) (EP X pins σ Q) X.xe s:=by
 unfold Dg at h;cases x with
 | ref q=>
  cases (show v=Value.ref q from r)
  dsimp only at h;split at h
  ·rename_i e;have hq:=bg mo e;cases f with
   | sortT=>exact yo mo hu I hq h.1.2 h.1.1 h.2
   | sortM=>exact yr mo hu I hq h.1 h.2
   | sortN=>exact yq mo hu I hq h.1 h.2
   | sortP=>exact yp mo hu I hq h.1.1 h.1.2.1 h.1.2.2 h.2
  ·exact h.elim
 | _=>exact h.elim
end
end Sw
namespace Zl
open PySem
theorem nd {a b:Nat} (h:a < b\/b < a):@Ne Addr a b:=fun e=>by
 have e:(a:Nat)=b:=e;omega
end Zl
namespace Sw
open PySem PySem.Spec PyProof.Rows L2
noncomputable def IC:Value->V
 | .none=>.aQ
 | .bool b=>.bl b
 | .int i _=>.int i
 | .str x _=>.str x
 | .ref a=>.ref a
 | _=>.aQ
theorem yc {M:Mo} {H:Hp} {n:Nat} {x:V} {u:Value} {d:PyData} (r:RelV x u) (h:data M H n x=some d):IC u=x:=by
 cases x with
 | aQ=>rw[show u=Value.none from r];rfl
 | bl b=>rw[show u=Value.bool b from r];rfl
 | int i=>obtain⟨t,rfl⟩:=r;rfl
 | str y=>obtain⟨t,rfl⟩:=r;rfl
 | ref a=>rw[show u=Value.ref a from r];rfl
 | byt b=>cases n<;>cases h
 | flt b=>cases n<;>cases h
 | ty b=>cases n<;>cases h
noncomputable def Dc (M:Mo) (H:Hp) (d:PyData) (u:Value):Bool:=match data M H 8 (IC u)with
 | some e=>PyData.eqv e d
 | none=>false
section
variable {X:Cx} {M:Mo} {pins:NT} {σ:L2.St} {H:Hp} {s:Shared}
theorem Ap (mo:av X.K M) (I:Inv X pins σ H s) {A:Around} (hu:A.units + 8 < cLine) {x:V} {v:Value} {d:PyData} (rx:RelV x v) (hx:data M H 8 x=some d):
  ∀ {ys:List V} {us:NX} {ds:List PyData},Vals ys us->allM (data M H 8) ys=some ds->∀u ∈ us,SeqAt.EqAt A s u v (Dc M H d u)
 | _,_,_,.nil,_=>fun u hu=>by cases hu
 | y::ys,u::us,ds,.cons r t,h=>fun u' hm=>by
  obtain⟨e,es,h1,h2,rfl⟩:=allM_cons h;rcases Jx.mp hm with rfl | hm
  ·have q:Dc M H d u'=PyData.eqv e d:=by
    unfold Dc;rw[yc r h1,h1]
   rw[q];exact hZ mo I 8 A y x u' v e d hu r rx h1 hx
  ·exact Ap mo I hu rx hx t h2 u' hm
theorem vv {d:PyData}:∀ {ys:List V} {us:NX} {ds:List PyData},Vals ys us->allM (data M H 8) ys=some ds->us.map (Dc M H d)=ds.map (fun e=>PyData.eqv e d)
 | _,_,ds,.nil,h=>by rw[allM_nil h];rfl
 | y::ys,u::us,ds,.cons r t,h=>by
  obtain⟨e,es,h1,h2,rfl⟩:=allM_cons h;rw[JF,JF,vv t h2]
  congr 1
  unfold Dc;rw[yc r h1,h1]
end
end Sw
namespace Tm
open PySem PyProof.Rows PySem.SeqAt
open PySem.AutoSeq1 (wpAny_loadPart')
open PySem.MeetsSeq PySem.MeetsSeq2 PySem.MeetsSeq3 PySem.SeqRoads2
noncomputable def GR (A:Around) (s:Shared) (y x:Value) (b:Bool):Prop:=
 ∀ (prog:Program) (w:World) (E:NS) (Q:NS),Q (.bool b) s->wpAny (model prog w) A (richCompare .GtE y x) Q E s
theorem sN (l b:Addr) (xs ys:NV) (n n2:Nat) (dd dd2:Option Addr) (sl sl2:Array (Option Value)) (e f:Nat->Bool):
  Meets (Builtin.«tuple.__ge__» ⟨[.ref l,.ref b],[]⟩)
   (fun A R s=>s.heap.get? l=some {cls:=.type "tuple",dict:=dd,data:=.seq xs n,slots:=sl}/\s.heap.get? b=some {cls:=.type "tuple",dict:=dd2,data:=.seq ys n2,slots:=sl2}/\
    (∀ j (h1:j < xs.size) (h2:j < ys.size),EqAt A.in1 s xs[j] ys[j] (e j)/\(e j=false->GR A.in1 s xs[j] ys[j] (f j)))/\
    R (.ok (.ret (.bool (mK e f (decide (ys.size<=xs.size)) (List.range (min xs.size ys.size)))))) s):=
 .of_wp fun prog w A R s h=>by
  obtain⟨hp,g,d,tk,os⟩:=s;obtain⟨hl,hb,he,h⟩:=h;have f2:=AutoSeq1.sub_tuple_tuple;have zl:(xs.toList.zip ys.toList).length=min xs.size ys.size:=by simp
  wp_walk using KR hl,KR hb,wpAny_forIn_list _ (fun rest c st=>c.1=none/\st=⟨hp,g,d,tk,os⟩/\∃i,rest=(xs.toList.zip ys.toList).drop i/\
   R (.ok (.ret (.bool (mK e f (decide (ys.size<=xs.size)) ((List.range (min xs.size ys.size)).drop i))))) ⟨hp,g,d,tk,os⟩) _
  case turn=>
   rintro⟨y,x⟩ rest c st ⟨_,rfl,i,hz,hR⟩
   have lt:i < (xs.toList.zip ys.toList).length:=by
    by_cases q:i < (xs.toList.zip ys.toList).length
    ·exact q
    ·rw[K9 (MJ q)]at hz;cases hz
   have h1:i < xs.size:=by omega
   have h2:i < ys.size:=by omega
   rw[Ko lt]at hz;injection hz with z1 z2
   rw[List.getElem_zip]at z1;injection z1 with z3 z4
   have z3:y=xs[i]:=by rw[z3];simp
   have z4:x=ys[i]:=by rw[z4];simp
   subst z3 z4
   have rg:(List.range (min xs.size ys.size)).drop i=i::(List.range (min xs.size ys.size)).drop (i + 1):=by
    rw[Ko (by rw[J8];omega),Nd]
   rw[rg]at hR;unfold mK at hR;refine Jh ((he i h1 h2).1 prog w _ _ ?_);cases q:e i with
   | true=>
    rw[q,Jj rfl]at hR
    wp_walk
    exact⟨rfl,rfl,i + 1,z2,hR⟩
   | false=>
    rw[q,Ji (by decide)]at hR;rw[Jj (by rfl)];refine Jh (Kr ?_);refine Jh ((he i h1 h2).2 q prog w _ _ ?_)
    wp_walk
    exact⟨_,rfl,hR⟩
  case fin=>
   rintro⟨c1,c2⟩ st ⟨hc,rfl,i,hz,hR⟩
   simp only at hc;subst hc
   have ge:min xs.size ys.size<=i:=by
    have:=congrArg List.length hz;rw[Ny,zl]at this;simp at this;omega
   rw[K9 (by rw[J8];exact ge)]at hR
   wp_walk
   exact⟨_,rfl,hR⟩
  exact⟨rfl,rfl,0,rfl,h⟩
end Tm
namespace PySem.Sg
open PySem PySem.Spec PyProof.Rows L2
section
variable {prog:Program} {w:World} {A:Around} {E:NS} {s:Shared}
theorem xy {P:Nat->Value->Prop} (val:Nat->Str) (hval:∀i v,P i v->∃t,v=.str (val i) t):
  CmpOf prog w A .Gt P (fun i j=>decide ((val j).cps.toList < (val i).cps.toList)):=fun i j vi vj s Q E hi hj h=>by
 obtain⟨t,rfl⟩:=hval i vi hi;obtain⟨u,rfl⟩:=hval j vj hj;exact PySem.P.gt_str h
theorem pR {a b:Str} {t u:Tok} {Q:NS} (hh:A.handled=none)
  (h:∀h' tk,(∀ c o,s.heap.get? c=some o->h'.get? c=some o)->Q (if a.cps.toList < b.cps.toList then .str b u else .str a t) {s with heap:=h',toks:=tk}):
  wpAny (model prog w) A (call (.builtin "max") [.str a t,.str b u]) Q E s:=by
 have hT:(s.heap.push {cls:=.type "tuple",data:=.seq #[.str a t,.str b u]}).IsTuple s.heap.objs.size (aT #[(a,t),(b,u)]):=⟨_,JE _ rfl,rfl,0,by simp[aT]⟩;refine call_max_two (wpAny_pyIter_tuple hT ?_);have hsz:(s.heap.push {cls:=.type "tuple",data:=.seq #[.str a t,.str b u]}).objs.size=s.heap.objs.size + 1:=KH ..
 refine⟨_,[_,s.heap.objs.size],[_],_,_,_,_,rfl,Walks.tuple (A:=A.in1) hh _ s.heap.objs.size (by rw[hsz];exact JC (Kg _)) (aT #[(a,t),(b,u)]),
  ⟨⟨_,JE _ rfl,rfl,rfl⟩,hT.push _⟩,fun c hc=>?_,by simp[aT],xy (bO #[(a,t),(b,u)]) (fun _ _=>j9),fun v h' tk hP hk=>?_⟩
 ·show c < ((s.heap.push _).push _).objs.size;rw[KH,hsz];rcases Jx.mp hc with rfl | hc
  ·rw[hsz];exact Kg _
  ·rcases Jx.mp hc with rfl | hc
   ·exact J0 (Kg _)
   ·cases hc
 ·have hold:∀c o,s.heap.get? c=some o->h'.get? c=some o:=fun c o e=>by
   refine hk c o (fun hm=>?_) (Jq _ (Jq _ e));rcases Jx.mp hm with e1 | hm
   ·have:=Ju e;rw[e1,hsz]at this;exact LS _ (Nat.lt_of_succ_lt this)
   ·cases hm
  have:=h h' tk hold
  have hv:v=if a.cps.toList < b.cps.toList then Value.str b u else Value.str a t:=by
   have hP':(aT #[(a,t),(b,u)])[argBest (fun i j=>decide ((bO #[(a,t),(b,u)] j).cps.toList < (bO #[(a,t),(b,u)] i).cps.toList)) 1]?=some v:=by
    have hsz2:(aT #[(a,t),(b,u)]).size - 1=1:=by simp[aT]
    rw[<-hsz2];exact hP
   by_cases hba:a.cps.toList < b.cps.toList
   ·have e:argBest (fun i j=>decide ((bO #[(a,t),(b,u)] j).cps.toList < (bO #[(a,t),(b,u)] i).cps.toList)) 1=1:=by simp[argBest,bO,hba]
    rw[e]at hP';simpa[aT,hba]using hP'.symm
   ·have e:argBest (fun i j=>decide ((bO #[(a,t),(b,u)] j).cps.toList < (bO #[(a,t),(b,u)] i).cps.toList)) 1=0:=by simp[argBest,bO,hba]
    rw[e]at hP';simpa[aT,hba]using hP'.symm
  rw[hv];exact this
end
end PySem.Sg
namespace Sw
open PySem PySem.Spec PyProof.Rows L2
section
variable {X:Cx} {M:Mo} {pins:NT} {σ:L2.St} {H:Hp} {s:Shared}
theorem Bj (hc:X.calm=true) {x y:V} {v u:Value} {Q:VK} (I:Inv X pins σ H s) (rx:RelV x v) (ry:RelV y u) (h:uL x y H Q):
  wpAny (model X.prog X.w) X.A (call (.builtin "max") [v,u]) (EP X pins σ Q) X.xe s:=by
 unfold uL at h;cases x with
 | str a=>
  cases y with
  | str b=>
   obtain⟨t,rfl⟩:=rx;obtain⟨t',rfl⟩:=ry;refine PySem.Sg.pR (I.ok.hd hc) fun h' tk k=>⟨_,H,I.kept k,?_,h⟩;split
   ·exact⟨_,rfl⟩
   ·exact⟨_,rfl⟩
  | _=>exact h.elim
 | _=>exact h.elim
theorem tV (mo:av X.K M) (I:Inv X pins σ H s) {p r:Addr} {ab cd:Str × Str} (hp:bq M H (.ref p)=some ab) (hr:bq M H (.ref r)=some cd) {A:Around} (hu:A.units < cLine):Tm.GR A s (.ref p) (.ref r) (!eS ab cd):=fun prog w E Q q=>by
 obtain⟨a,b⟩:=ab;obtain⟨c,d⟩:=cd;obtain⟨⟨c1,dd1,da1,sl1⟩,n1,t1,u1,g1,e1,d1⟩:=d_ mo I (cZ hp);obtain⟨⟨c2,dd2,da2,sl2⟩,n2,t2,u2,g2,e2,d2⟩:=d_ mo I (cZ hr);simp only at e1 d1 e2 d2;subst e1 d1 e2 d2
 let e:Nat->Bool:=fun j=>if j=0 then a == c else b == d
 let f:Nat->Bool:=fun j=>if j=0 then !decide (a.cps.toList < c.cps.toList)else !decide (b.cps.toList < d.cps.toList)
 have lx:Tm.mK e f (decide ((#[Value.str c t2,Value.str d u2]:NV).size<=(#[Value.str a t1,Value.str b u1]:NV).size)) (List.range (min (#[Value.str a t1,Value.str b u1]:NV).size (#[Value.str c t2,Value.str d u2]:NV).size))=!eS (a,b) (c,d):=by
  show Tm.mK e f true [0,1]=_;unfold eS;show(if(a == c)=true then(if(b == d)=true then true else !decide (b.cps.toList < d.cps.toList))else !decide (a.cps.toList < c.cps.toList))=_
  by_cases h1:a=c
  ·rw[Jj (by simp[h1]),Jj h1]
   by_cases h2:b=d
   ·rw[Jj (by simp[h2])];subst h2;rw[JR (K0 _)];rfl
   ·rw[Ji (by simp[h2])]
  ·rw[Ji (by simp[h1]),Ji h1]
 refine MI (op:=.GtE) ⟨_,g1,rfl⟩ ⟨_,g2,rfl⟩ F.slot_tuple_ge F.entry_tuple_ge (F.args_tuple_ge_2 _ _) (Tm.sN p r _ _ n1 n2 dd1 dd2 sl1 sl2 e f) ⟨g1,g2,fun j h1 h2=>?_,?_⟩ hu
 ·match j,h1,h2 with
  | 0,_,_=>exact⟨Lc a t1 c t2,fun _ prog w E Q q=>NO q⟩
  | 1,_,_=>exact⟨Lc b u1 d u2,fun _ prog w E Q q=>NO q⟩
  | n + 2,h1,_=>exact absurd h1 (by simp)
 ·rw[lx];exact⟨(fun x=>nomatch x),q⟩
theorem vK (hu:X.A.units + 64 < cLine) (mo:av X.K M):jI X (compareOp .GtE) (vL M):=by
 intro pins s σ H x y v u Q I rx ry h;unfold vL at h;split at h
 ·rename_i a b ea eb;cases x with
  | ref p=>
   cases y with
   | ref r=>
    cases (show v=Value.ref p from rx)
    cases (show u=Value.ref r from ry)
    exact tV mo I ea eb (by omega) X.prog X.w X.xe _ ⟨.bl _,H,I,rfl,h⟩
   | _=>cases eb
  | _=>cases ea
 ·exact h.elim
end
section
variable {X:Cx} {M:Mo} {pins:NT} {σ:L2.St} {H:Hp} {s:Shared}
theorem any_map {α:Type} (f:α->Bool) (l:List α):l.any f=(l.map f).any id:=by
 induction l with
 | nil=>rfl
 | cons a r ih=>rw[LF,JF,LF,ih];rfl
theorem vM (hu:X.A.units + 64 < cLine) (mo:av X.K M) (op:CmpOp):jI X (compareOp op) (oU M op):=by
 intro pins s σ H x y v u Q I rx ry h;unfold oU at h;cases y with
 | ref p=>
  cases (show u=Value.ref p from ry)
  dsimp only at h;split at h
  ·rename_i xs e;split at h
   ·rename_i d ds hd hds;obtain⟨aA,r,pl,hz⟩:=I.list (bg mo e);have he:=Ap mo I (A:=X.A.in1) (show X.A.in1.units + 8 < cLine by have:X.A.in1.units=X.A.units + 1:=rfl;omega) rx hd r hds
    have ea:aA.toArray.any (Dc M H d)=ds.any (fun e=>PyData.eqv e d):=by
     rw[List.any_toArray,any_map,any_map (fun e=>PyData.eqv e d),vv r hds]
    split at h
    ·refine SeqAt.in_listAt (Dc M H d) pl.isList (fun w hw=>he w (by simpa using hw)) ⟨.bl _,H,I,rfl,?_⟩;rw[ea];exact h
    ·refine SeqAt.notIn_listAt (Dc M H d) pl.isList (fun w hw=>he w (by simpa using hw)) ⟨.bl _,H,I,rfl,?_⟩;rw[ea];exact h
    ·exact h.elim
   ·exact h.elim
  ·exact h.elim
 | _=>exact h.elim
end
section
variable {X:Cx} {M:Mo} {pins:NT} {σ:L2.St} {H:Hp} {s:Shared}
theorem zip_get {xs ys:List V} {us ws:NX} {j:Nat} {u w:Value} (r1:Vals xs us) (r2:Vals ys ws) (e1:us[j]?=some u) (e2:ws[j]?=some w):∃x y,(xs.zip ys)[j]?=some (x,y)/\RelV x u/\RelV y w:=by
 obtain⟨x,ex,rx⟩:=Vals.back r1 e1;obtain⟨y,ey,ry⟩:=Vals.back r2 e2;exact⟨x,y,by rw[Nv];exact⟨ex,ey⟩,rx,ry⟩
theorem _root_.L2.Inv.uD {h':Heap} {t':Nat} {fp:List Addr} (I:Inv X pins σ H s) (f:∀b ∈ fp,kD X pins H b) (k:∀b o,b ∉ fp->s.heap.get? b=some o->h'.get? b=some o):Inv X pins σ H {s with heap:=h',toks:=t'}:=by
 have nf:∀b u,H b=some u->b ∉ fp:=fun b u e m=>by rw[(f b m).1]at e;cases e
 refine I.step (g':=s.gens) (d':=s.drawn) (ch:=fp) (fun b hb=>⟨(f b hb).2.2.2.1,(f b hb).2.1,(f b hb).2.2.2.2.1,(f b hb).2.2.2.2.2⟩) (fun b o _ _ m e _=>k b o m e) (fun b o _ _ m e _=>⟨o.slots,k b o m e⟩) (fun _ _ _ _ n=>n)
  (fun b o m e=>⟨o,k b o m e⟩) (fun _ _ e=>e) (fun _ _ _ e=>e) (fun b ps e=>⟨#[],by rw[e];simp⟩) (fun m hm=>?_) (fun b u e=>?_) I.bare
 ·obtain⟨o,es,ep,ho,r⟩:=hm;exact⟨o,es,ep,k _ o (fun z=>(f _ z).2.1 rfl) ho,r⟩
 ·refine(I.bB b u e).aq (fun c v q r=>k c v ?_ r) (fun _ q=>q) fun _ _ q=>q;rcases q with z | z
  ·rw[z];exact nf b u e
  ·exact nf c _ z
noncomputable def IQ (M:Mo) (p q:Addr) (xs ys:List V):It:=
 ⟨fun i H=>(rd M H p=some (.lst xs)/\rd M H q=some (.lst ys))/\i < (xs.zip ys).length,fun i H x H'=>∃t a,H t=none/\M t=none/\(xs.zip ys)[i]?=some a/\x=.ref t/\H'=upd H t (.tup [a.1,a.2]),
  fun i H=>(rd M H p=some (.lst xs)/\rd M H q=some (.lst ys))/\(xs.zip ys).length<=i⟩
theorem ye {P:Program} {w:World} {K:PySem.W.Frag} (mo:av K M) {ts:NZ} {kt} {pt:Pos} {z TI TO i1 i2 p q:Addr} {xs ys:List V} (D:ZipApart z TI TO i1 i2 p q):
  Turn P w K (.Tuple ts kt pt) (IQ M p q xs ys) [z,TI,TO,i1,i2] z (fun i h=>IsZip h z TI TO .none/\IsPair h TI (.ref i1) (.ref i2)/\(∃ a b,IsPair h TO a b)/\h.IsListIter i1 p i/\h.IsListIter i2 q i) where
 mem:=by simp
 obj:=fun i h st b hb=>by
  obtain⟨hz,hTI,⟨a,b',hTO⟩,⟨o1,e1,c1,d1⟩,o2,e2,c2,d2⟩:=st;simp only[Jx,Kz,L4]at hb;rcases hb with rfl | rfl | rfl | rfl | rfl
  ·exact⟨_,hz,fun v z=>by cases z⟩
  ·exact⟨_,hTI,fun v z=>by cases z⟩
  ·exact⟨_,hTO,fun v z=>by cases z⟩
  ·exact⟨_,e1,fun v z=>by rw[d1]at z;cases z⟩
  ·exact⟨_,e2,fun v z=>by rw[d2]at z;cases z⟩
 keep:=fun i h h' st k=>by
  obtain⟨hz,hTI,⟨a,b,hTO⟩,h1,h2⟩:=st;exact⟨k _ (by simp) _ hz,k _ (by simp) _ hTI,⟨a,b,k _ (by simp) _ hTO⟩,h1.at fun o e=>k _ (by simp) o e,h2.at fun o e=>k _ (by simp) o e⟩
 item:=by
  intro X hP hw hK hc i pins s σ H E I hf st hg;subst hP hw hK;obtain⟨⟨g1,g2⟩,lt⟩:=hg;obtain⟨hz,hTI,⟨a,b,hTO⟩,h1,h2⟩:=st;obtain⟨us,r1,l1,z1⟩:=I.list (bg mo g1);obtain⟨ws,r2,l2,z2⟩:=I.list (bg mo g2);have ln:=LY (l₁:=xs) (l₂:=ys);have le1:=r1.length;have le2:=r2.length;obtain⟨xv,hxv⟩:∃v,us[i]?=some v:=⟨_,Jl (by omega)⟩;obtain⟨yv,hyv⟩:∃v,ws[i]?=some v:=⟨_,Jl (by omega)⟩;have hx:us.toArray[i]?=some xv:=by simpa using hxv
  have hy:ws.toArray[i]?=some yv:=by simpa using hyv
  obtain⟨x,y,gz,rx,ry⟩:=zip_get r1 r2 hxv hyv;refine wpAny_pyNext_zip_item D hz hTI hTO h1 h2 l1.isList l2.isList hx hy fun h' a1 a2 a3 a4 a5 a6 k=>?_;refine⟨_,rfl,wpAny_letOwnedTupleGo_zip (s:={s with heap:=h'}) a1 fun h3 hz3 sb=>?_⟩
  have there:∀b ∈ [z,TI,TO,i1,i2],b < s.heap.objs.size:=fun b hb=>by
   simp only[Jx,Kz,L4]at hb;obtain⟨o1,e1,_⟩:=id h1;obtain⟨o2,e2,_⟩:=id h2;rcases hb with rfl | rfl | rfl | rfl | rfl
   ·exact Ju hz
   ·exact Ju hTI
   ·exact Ju hTO
   ·exact Ju e1
   ·exact Ju e2
  have up:∀b ∈ [z,TI,TO,i1,i2],upd H s.heap.objs.size (.tup [x,y]) b=none:=fun b hb=>by rw[af (JC (there b hb))];exact(hf b hb).1
  have I0:Inv X pins σ (upd H s.heap.objs.size (.tup [x,y])) {s with heap:=s.heap.push {cls:=.type "tuple",data:=.seq #[xv,yv]},toks:=s.toks}:=
   I.laid (fun b o e=>Jq _ e) (JG _) ⟨by rw[Jy];simp,_,.cons rx (.cons ry .nil),IsTup.new _ _⟩
  have I1:Inv X pins σ (upd H s.heap.objs.size (.tup [x,y])) {s with heap:=h3,toks:=s.toks}:=by
   refine L2.Inv.uD (s:={s with heap:=s.heap.push {cls:=.type "tuple",data:=.seq #[xv,yv]},toks:=s.toks}) (h':=h3) (fp:=[z,TI,TO,i1,i2]) I0 (fun b hb=>⟨up b hb,(hf b hb).2⟩) fun b o hb e=>?_;simp only[Jx,Kz,L4,not_or]at hb;rcases Heap.get?_push_cases e with ⟨rfl,rfl⟩ | e'
   ·exact(sb.2 _ hb.1).trans a5
   ·exact(sb.2 b hb.1).trans (k b _ hb.1 hb.2.2.1 hb.2.2.2.1 hb.2.2.2.2 e')
  refine⟨.ref s.heap.objs.size,_,I1,rfl,⟨s.heap.objs.size,(x,y),I.bB.fresh (JG _),iU.new (Inv.tE mo I1),gz,rfl,rfl⟩,⟨hz3,sb.extBut _ _ D.TIz (k _ _ D.TIz D.TITO D.TIi1 D.TIi2 hTI),⟨_,_,sb.extBut _ _ D.TOz a2⟩,a3.extBut sb.extBut D.i1z,a4.extBut sb.extBut D.i2z⟩,up⟩
 done:=by
  intro X hP hw hK hc i pins s σ H E I hf st hg;subst hP hw hK;obtain⟨⟨g1,g2⟩,le⟩:=hg;obtain⟨hz,hTI,⟨a,b,hTO⟩,h1,h2⟩:=st;obtain⟨us,r1,l1,z1⟩:=I.list (bg mo g1);obtain⟨ws,r2,l2,z2⟩:=I.list (bg mo g2);have ln:=LY (l₁:=xs) (l₂:=ys);have le1:=r1.length;have le2:=r2.length
  have no:us.toArray[i]?=none\/ws.toArray[i]?=none:=by
   rcases Nat.le_total us.length ws.length with c | c
   ·exact .inl (by simp;omega)
   ·exact .inr (by simp;omega)
  refine wpAny_pyNext_zip_end (I.ok.hd hc) D hz hTI hTO h1 h2 l1.isList l2.isList no fun h' k=>⟨rfl,I.uD (t':=s.toks) hf fun b o hb e=>?_⟩;simp only[Jx,Kz,L4,not_or]at hb;exact k b o hb.1 hb.2.2.1 hb.2.2.2.1 hb.2.2.2.2 e
 self:=fun _ _ _ _ _ st h=>wpAny_pyIter_zip st.1 h
end
end Sw
namespace PySem.Sx
open PySem PySem.SetTable
noncomputable def Bc (t:SetTable):Nat->Probe->Probe
 | 0,p=>p
 | n + 1,p=>Bc t n (t.advance p)
theorem uF (t:SetTable):∀ (a b:Nat) (p:Probe),Bc t (a + b) p=Bc t b (Bc t a p)
 | 0,b,p=>by rw[Kf];rfl
 | a + 1,b,p=>by rw[Nf];exact uF t a b _
theorem vp (t:SetTable) (hd:t.dummies=#[]) (h:Int):∀ (f:Nat) (p:Probe),probe.go t (fun _=>h + 1) h f p=none->∀n,n < f->∃i,t.slot (Bc t n p).j=.live i
 | 0,_,_,n,hn=>by omega
 | f + 1,p,e,n,hn=>by
  unfold probe.go at e;cases hs:t.slot p.j with
  | empty=>rw[hs]at e;cases e
  | dummy=>
   exfalso;unfold SetTable.slot at hs;dsimp only at hs;split at hs
   ·cases hs
   ·split at hs
    ·rename_i q;unfold SetTable.has at q;rw[hd]at q;simp at q
    ·cases hs
  | live i=>
   rw[hs]at e;dsimp only at e;rw[Ji (by simp;omega)]at e;cases n with
   | zero=>exact⟨i,hs⟩
   | succ n=>exact vp t hd h f _ e n (by omega)
noncomputable def oj (mask i pe:Nat):Probe:={j:=i,more:=runEnd mask i - i,i:=i,perturb:=pe,dummy:=none}
theorem uP (t:SetTable):∀ (m:Nat) (p:Probe),p.more=m->Bc t (m + 1) p={p with j:=(leap t.mask p.i p.perturb).1,more:=runEnd t.mask (leap t.mask p.i p.perturb).1 - (leap t.mask p.i p.perturb).1,i:=(leap t.mask p.i p.perturb).1,perturb:=(leap t.mask p.i p.perturb).2}
 | 0,p,e=>by
  show t.advance p=_;unfold SetTable.advance;rw[Ji (by omega)]
 | m + 1,p,e=>by
  have a:t.advance p={p with j:=p.j + 1,more:=m}:=by
   unfold SetTable.advance;rw[Jj (by omega),e];rfl
  show Bc t (m + 1) (t.advance p)=_;rw[uP t m (t.advance p) (by rw[a]),a]
theorem yA (t:SetTable) (i pe:Nat):∃n,n<=10/\Bc t n (oj t.mask i pe)=oj t.mask ((i * 5 + 1 + pe / 32) % (t.mask + 1)) (pe / 32):=by
 refine⟨runEnd t.mask i - i + 1,?_,uP t _ (oj t.mask i pe) rfl⟩;unfold runEnd;split<;>omega
noncomputable def aA (m:Nat):Nat->Nat × Nat->Nat × Nat
 | 0,x=>x
 | k + 1,x=>aA m k ((x.1 * 5 + 1 + x.2 / 32) % m,x.2 / 32)
theorem runs (t:SetTable):∀ (k i pe:Nat),∃n,n<=10 * k/\Bc t n (oj t.mask i pe)=oj t.mask (aA (t.mask + 1) k (i,pe)).1 (aA (t.mask + 1) k (i,pe)).2
 | 0,i,pe=>⟨0,by omega,rfl⟩
 | k + 1,i,pe=>by
  obtain⟨n1,h1,e1⟩:=yA t i pe;obtain⟨n2,h2,e2⟩:=runs t k ((i * 5 + 1 + pe / 32) % (t.mask + 1)) (pe / 32);exact⟨n1 + n2,by omega,by rw[uF,e1];exact e2⟩
theorem vk (m:Nat):∀ (a b:Nat) (x:Nat × Nat),aA m (a + b) x=aA m b (aA m a x)
 | 0,b,x=>by rw[Kf];rfl
 | a + 1,b,x=>by rw[Nf];exact vk m a b _
theorem vh (m:Nat):∀ (k:Nat) (x:Nat × Nat),(aA m k x).2=x.2 / 32 ^ k
 | 0,x=>by simp[aA]
 | k + 1,x=>by
  show(aA m k _).2=_;rw[vh m k];show x.2 / 32 / 32 ^ k=_;rw[Nat.div_div_eq_div_mul,Nat.pow_succ,Nat.mul_comm]
theorem zV (m:Nat) (hm:0 < m):∀ (k:Nat) (x:Nat × Nat),x.1 < m->(aA m k x).1 < m
 | 0,x,h=>h
 | k + 1,x,h=>zV m hm k _ (NP _ hm)
noncomputable def sG (m:Nat):Nat->Nat->Nat
 | 0,i=>i
 | k + 1,i=>sG m k ((i * 5 + 1) % m)
theorem rP (m:Nat):∀ (k i:Nat),aA m k (i,0)=(sG m k i,0)
 | 0,i=>rfl
 | k + 1,i=>by
  show aA m k ((i * 5 + 1 + 0 / 32) % m,0 / 32)=_;rw[Nat.zero_div,Nat.add_zero];exact rP m k _
theorem kY (m:Nat):∀ (a b i:Nat),sG m (a + b) i=sG m b (sG m a i)
 | 0,b,i=>by rw[Kf];rfl
 | a + 1,b,i=>by rw[Nf];exact kY m a b _
theorem Ia:(∀ j,j < 8->∃a,a < 8/\sG 8 a 0=j)/\sG 8 8 0=0:=by decide +kernel
theorem Gs:(∀ j,j < 16->∃a,a < 16/\sG 16 a 0=j)/\sG 16 16 0=0:=by decide +kernel
theorem Gq:(∀ j,j < 32->∃a,a < 32/\sG 32 a 0=j)/\sG 32 32 0=0:=by decide +kernel
theorem Gp:(∀ j,j < 64->∃a,a < 64/\sG 64 a 0=j)/\sG 64 64 0=0:=by decide +kernel
noncomputable def Dj (m:Nat):Prop:=m=7\/m=15\/m=31\/m=63
theorem full {m:Nat} (hm:Dj m) {i j:Nat} (hi:i < m + 1) (hj:j < m + 1):∃k,k < m + 1/\sG (m + 1) k i=j:=by
 have c:(∀ j,j < m + 1->∃a,a < m + 1/\sG (m + 1) a 0=j)/\sG (m + 1) (m + 1) 0=0:=by
  rcases hm with rfl | rfl | rfl | rfl
  ·exact Ia
  ·exact Gs
  ·exact Gq
  ·exact Gp
 obtain⟨a,ha,ea⟩:=c.1 i hi;obtain⟨b,hb,eb⟩:=c.1 j hj
 by_cases q:a<=b
 ·refine⟨b - a,by omega,?_⟩;rw[<-ea,<-kY,show a + (b - a)=b by omega];exact eb
 ·refine⟨m + 1 - a + b,by omega,?_⟩;rw[<-ea,<-kY,show a + (m + 1 - a + b)=m + 1 + b by omega,kY,c.2];exact eb
theorem CB (h:Int):bits h < 2 ^ 64:=by
 unfold bits;have:=Km h (show(2 ^ 64:Int) ≠ 0 by decide);have:=Ki h (show(0:Int) < 2 ^ 64 by decide);omega
theorem zG {t:SetTable} {j i:Nat} (h:t.slot j=.live i):j ∈ t.place.toList:=by
 unfold SetTable.slot at h;dsimp only at h;split at h
 ·rename_i q;have q:=LK.mp q;rw[<-Ld]at q;exact Jp q
 ·split at h<;>cases h
theorem w8 {t:SetTable} (h:Int) (hm:Dj t.mask) (hd:t.dummies=#[]) (hp:t.place.size<=t.mask):∃j,t.freeSlot h=some (j,false):=by
 have key:∀f p,probe.go t (fun _=>h + 1) h f p ≠ none->p.dummy=none->∃j,probe.go t (fun _=>h + 1) h f p=some (.empty j none):=by
  intro f
  induction f with
  | zero=>intro p e _;exact absurd rfl e
  | succ f ih=>
   intro p e hn;unfold probe.go at e ⊢;cases hs:t.slot p.j with
   | empty=>exact⟨p.j,by rw[hn]⟩
   | dummy=>
    exfalso;unfold SetTable.slot at hs;dsimp only at hs;split at hs
    ·cases hs
    ·split at hs
     ·rename_i q;unfold SetTable.has at q;rw[hd]at q;simp at q
     ·cases hs
   | live i=>
    rw[hs]at e;dsimp only at e ⊢;rw[Ji (by simp;omega)]at e ⊢;refine ih _ e ?_;unfold SetTable.advance;split<;>exact hn
 have ne:probe.go t (fun _=>h + 1) h (10 * turns t.mask) (t.probeStart h) ≠ none:=fun e=>by
  have all:∀j,j < t.mask + 1->j ∈ t.place.toList:=fun j hj=>by
   have b:=CB h
   have hz:(aA (t.mask + 1) 13 (bits h % (t.mask + 1),bits h)).2=0:=by
    rw[vh];exact Nat.div_eq_of_lt (by show bits h < 32 ^ 13;omega)
   have hl:=zV (t.mask + 1) (Nat.succ_pos _) 13 (bits h % (t.mask + 1),bits h) (NP _ (Nat.succ_pos _));obtain⟨k,hk,ek⟩:=full hm hl hj;obtain⟨n,hn,en⟩:=runs t (13 + k) (bits h % (t.mask + 1)) (bits h)
   have e2:aA (t.mask + 1) (13 + k) (bits h % (t.mask + 1),bits h)=(j,0):=by
    rw[vk];have:aA (t.mask + 1) 13 (bits h % (t.mask + 1),bits h)=((aA (t.mask + 1) 13 (bits h % (t.mask + 1),bits h)).1,0):=by rw[<-hz]
    rw[this,rP,ek]
   rw[e2]at en;obtain⟨i,hi⟩:=vp t hd h _ _ e n (by unfold turns;omega);have st:t.probeStart h=oj t.mask (bits h % (t.mask + 1)) (bits h):=rfl;rw[st,en]at hi;exact zG hi
  have:=(List.nodup_range (n:=t.mask + 1)).length_le_of_subset fun j hj=>all j (L_.mp hj);rw[J8,JK]at this;omega
 obtain⟨j,ej⟩:=key _ _ ne rfl;refine⟨j,?_⟩;unfold SetTable.freeSlot SetTable.probe;rw[ej];rfl
open PySem PySem.SetTable PySem.Sg PyProof.Rows
theorem eU {α:Type} (xs:Array α) (p:Nat) (x:α):(insertAt xs p x).size=xs.size + 1:=by
 unfold SetTable.insertAt;rw[Array.size_append,Array.size_push,Lx,Lx];omega
noncomputable def eD (prog:Program) (w:World) (h:Heap) (a:Addr) (τ:NW) (m:Nat):Prop:=
 ∃o es ep t,h.get? a=some o/\o.ExactSet/\o.data=.set es ep t/\ElemsOf (strKind prog w) es.toList/\List.Perm (es.toList.map fun e=>strOf e.2) τ
  /\es.size < scanBound/\t.fits es.size=true/\(w.params.followText "set-order" =true\/t.led=true)/\(es.size=0\/t.plain=false)/\t.mask=m/\t.dummies=#[]
theorem eD.is {prog:Program} {w:World} {h:Heap} {a:Addr} {τ:NW} {m:Nat} (x:eD prog w h a τ m):bx prog w h a τ:=by
 obtain⟨o,es,ep,t,h1,h2,h3,h4,h5,h6,h7,h8,h9,_⟩:=x;exact⟨o,es,ep,t,h1,h2,h3,h4,h5,h6,h7,h8,h9⟩
theorem Cf {t:SetTable} {es:Array (Int × Value)} (h:Int) (x:Value) (hm:Dj t.mask) (hd:t.dummies=#[]) (hf:t.fits es.size=true) (hr:es.size + 1<=t.mask):
  ∃es' p',layNew t es h x=(es',{t with place:=p'},false,false)/\p'.size=es.size + 1:=by
 unfold SetTable.fits at hf;simp only[J6,LK,KQ]at hf;obtain⟨j,hj⟩:=w8 h hm hd (by omega);refine⟨insertAt es (below t.place j) (h,x),insertAt t.place (below t.place j) j,?_,by rw[eU];omega⟩;unfold layNew;rw[hj];dsimp only
 have e:t.put j=({t with place:=insertAt t.place (below t.place j) j},below t.place j):=by
  unfold SetTable.put;dsimp only;have:has t.dummies j=false:=by unfold SetTable.has;rw[hd];simp
  rw[this];rfl
 rw[e];dsimp only
 have ft:SetTable.fits {t with place:=insertAt t.place (below t.place j) j} (insertAt es (below t.place j) (h,x)).size=true:=by
  unfold SetTable.fits SetTable.fill;simp only[J6,LK,KQ,eU,hd];refine⟨by omega,?_⟩;show t.place.size + 1 + 0<=t.mask;omega
 unfold SetTable.orStandIn;rw[Jj ft,ft];rfl
section add
variable {prog:Program} {w:World} {A:Around} {E:NS} {s:Shared}
theorem AJ {a:Addr} {τ:NW} {k:Str} {u:Tok} {m:Nat} {Q:Bool->Shared->Prop} (hS:eD prog w s.heap a τ m) (hm:Dj m) (hroom:(τ.length + 1) * 5 < m * 3)
  (h:∀b h',Heap.SameBut a s.heap h'->eD prog w h' a (Sg.putIn τ k) m->Q b {s with heap:=h'}):
  wpAny (model prog w) A (setAddHashed a (.str k u) ((strKind prog w).hash k)) Q E s:=by
 obtain⟨o,es,ep,t,ho,hex,hd,hel,hp,hb,hf,hled,hpl,hmk,hdm⟩:=hS;have m63:m<=63:=by unfold Dj at hm;omega
 have hkey:(strKind prog w).is k (.str k u)=true:=strKind_is _ _ _ _;have hlen:es.size=τ.length:=by have z:=hp.length_eq;simpa using z
 unfold setAddHashed setAddHashedIn;refine Kd (Jh (J7 ho hd hf ?_));dsimp only;rw[byScan_of rfl hb hel,Jj rfl];unfold setAddByScan;refine Jh (Jh (Kr (Jh (Nz hkey ho hd hf hel ?_))))
 have memk:k ∈ τ ↔ ∃e ∈ es.toList,(strKind prog w).is k e.2=true:=by
  rw[<-hp.mem_iff,Jn];constructor
  ·rintro⟨e,he,q⟩
   obtain⟨⟨k',hk',_⟩,_⟩:=hel e he;obtain⟨z,_⟩:=isStr_of hk';exact⟨e,he,by rw[<-q,z];exact hk'⟩
  ·rintro⟨e,he,q⟩
   exact⟨e,he,(isStr_of q).1⟩
 cases hr:List.findIdx? (fun e=>(strKind prog w).is k e.2) es.toList with
 | some j=>
  dsimp only;obtain⟨hj,hpj,_⟩:=LL.mp hr;have hk:k ∈ τ:=memk.mpr ⟨_,KJ hj,hpj⟩;have z:=h false s.heap (K1 a s.heap) (by unfold Sg.putIn;rw[Jj hk];exact⟨o,es,ep,t,ho,hex,hd,hel,hp,hb,hf,hled,hpl,hmk,hdm⟩);exact Jm (Jm z)
 | none=>
  dsimp only
  have hk:k ∉ τ:=fun c=>by
   obtain⟨e,he,q⟩:=memk.mp c;have z:=LJ.mp hr e he;rw[q]at z;exact Bool.noConfusion z
  have h':∀h',Heap.SameBut a s.heap h'->eD prog w h' a (τ++[k]) m->Q true {s with heap:=h'}:=fun h' a1 a2=>h true h' a1 (by unfold Sg.putIn;rw[Ji hk];exact a2);have p1:=layNew_perm t es ((strKind prog w).hash k) (.str k u);obtain⟨es1,p',el,pz⟩:=Cf (t:=t) (es:=es) ((strKind prog w).hash k) (.str k u) (by rw[hmk];exact hm) hdm hf (by rw[hmk];omega);rw[el]at p1 ⊢;dsimp only at p1 ⊢;rw[KP]at p1;have hel1:ElemsOf (strKind prog w) es1.toList:=(hel.push hkey rfl).perm p1;have hp1:List.Perm (es1.toList.map fun e=>strOf e.2) (τ++[k]):=(p1.map _).trans (by rw[JA];exact hp.append_right _);have hs1:es1.size=τ.length + 1:=by have z:=hp1.length_eq;simpa using z
  have hb1:es1.size < scanBound:=by unfold scanBound;omega
  refine Jh (told false ?_)
  have last:∀pl:Bool,pl=false->wpAny (model prog w) A (do
    storeSet a es1 {t with place:=p',plain:=pl}
    if(!false && SetTable.tooFull {t with place:=p',plain:=pl})=true then do
      (match(relayAll {t with place:=p',plain:=pl} es1 (SetTable.grown es1.size)).2.2 with | true=>rule "set.scan.the-table-gave-way" | false=>pure ())
      storeSet a (relayAll {t with place:=p',plain:=pl} es1 (SetTable.grown es1.size)).1 (relayAll {t with place:=p',plain:=pl} es1 (SetTable.grown es1.size)).2.1
      pure (some true)
     else pure (some true))
    (fun r s'=>wpAny (model prog w) A (match r with | some added=>pure added | none=>setAddHashedIn a (Value.str k u) ((strKind prog w).hash k) 99999) Q E s') E s:=by
   intro pl hpl0;have g1:=f_ (es':=es1) (t':={t with place:=p',plain:=pl}) ho hd;have k1:=Kc s.heap a (Obj.putSet es1 {t with place:=p',plain:=pl});refine Jh (Lm ho hd ?_ (K3 hb1))
   have nf:SetTable.tooFull {t with place:=p',plain:=pl}=false:=by
    unfold SetTable.tooFull SetTable.fill;simp only[hdm,hmk,pz,hlen];simp;omega
   rw[Ji (by rw[nf];decide)]
   have ft:SetTable.fits {t with place:=p',plain:=pl} es1.size=true:=by
    unfold SetTable.fits SetTable.fill;simp only[hdm,hmk,pz,hlen,hs1];simp;omega
   exact Jm (Jm (h' _ k1 ⟨_,es1,_,_,g1,hex,rfl,hel1,hp1,hb1,ft,hled,.inr hpl0,hmk,hdm⟩))
  cases q:t.plain with
  | true=>
   rw[Jj rfl,hashByValue_scannable 8 rfl];refine Jh (Jm ?_);exact last false rfl
  | false=>
   rw[Ji (by decide)];refine Jh (Jm ?_);rw[Jj rfl];exact last false rfl
end add
theorem ju {α:Type} (xs:Array α) (p:Nat):(eraseAt xs p).toList=xs.toList.eraseIdx p:=by
 unfold SetTable.eraseAt;rw[Lf,JY,KY,KY];unfold List.extract;rw[List.drop_zero,Nat.sub_zero]
 congr 1
 exact Lv (by simp)
theorem tY {α:Type} (L:List α) (j:Nat) (h:j < L.length):List.Perm L (L[j]::L.eraseIdx j):=by
 have e:L=L.take j++L[j]::L.drop (j + 1):=by rw[List.getElem_cons_drop,Kl]
 rw[Lf];exact(List.Perm.of_eq e).trans LO
section
variable {prog:Program} {w:World} {A:Around} {E:NS} {s:Shared}
theorem Ah {a:Addr} {τ:NW} {k:Str} {u:Tok} {Q:Unit->Shared->Prop} (hS:bx prog w s.heap a τ) (hroom:τ.length + 1 < scanBound)
  (h:∀h',Heap.SameBut a s.heap h'->bx prog w h' a (if k ∈ τ then τ.erase k else τ++[k])->Q () {s with heap:=h'}):
  wpAny (model prog w) A (setDiscardHashed a (.str k u) ((strKind prog w).hash k) >>= fun b=>if(!b)=true then setAddHashed a (.str k u) ((strKind prog w).hash k) >>= fun _=>pure ()else pure ()) Q E s:=by
 have hS':=hS;obtain⟨o,es,ep,t,ho,hex,hd,hel,hp,hb,hf,hled,hpl⟩:=hS;have hkey:(strKind prog w).is k (.str k u)=true:=strKind_is _ _ _ _
 have memk:k ∈ τ ↔ ∃e ∈ es.toList,(strKind prog w).is k e.2=true:=by
  rw[<-hp.mem_iff,Jn];constructor
  ·rintro⟨e,he,q⟩
   obtain⟨⟨k',hk',_⟩,_⟩:=hel e he;obtain⟨z,_⟩:=isStr_of hk';exact⟨e,he,by rw[<-q,z];exact hk'⟩
  ·rintro⟨e,he,q⟩
   exact⟨e,he,(isStr_of q).1⟩
 refine Jh ?_;unfold setDiscardHashed setFind setFindIn;refine Jh (Jh (J7 ho hd hf ?_));dsimp only;rw[byScan_of rfl hb hel,Jj rfl];refine Jh (Kr (Jh (Nz hkey ho hd hf hel ?_)));cases hr:List.findIdx? (fun e=>(strKind prog w).is k e.2) es.toList with
 | none=>
  dsimp only;refine Jm (Jm ?_)
  have hk:k ∉ τ:=fun c=>by
   obtain⟨e,he,q⟩:=memk.mp c;have z:=LJ.mp hr e he;rw[q]at z;exact Bool.noConfusion z
  rw[Jj (by decide)];refine Jh (add_str hS' hroom fun b h' sb is=>Jm (h h' sb ?_));rw[Ji hk];unfold Sg.putIn at is;rw[Ji hk]at is;exact is
 | some j=>
  obtain⟨hj,hpj,_⟩:=LL.mp hr;have hk:k ∈ τ:=memk.mpr ⟨_,KJ hj,hpj⟩;dsimp only;refine Jm ?_;dsimp only;rw[Kf];refine Jh (J7 ho hd hf ?_);dsimp only;have jz:j < es.size:=by simpa using hj
  have el:(eraseAt es j).toList=es.toList.eraseIdx j:=ju es j
  have ez:(eraseAt es j).size=es.size - 1:=by
   rw[<-JK,el,LG hj,JK]
  unfold SetTable.fits at hf;simp only[J6,LK,KQ]at hf;obtain⟨q,hq⟩:∃q,t.place[j]?=some q:=⟨_,Kn (by omega)⟩
  have ed:t.drop j={t with place:=eraseAt t.place j,dummies:=insertAt t.dummies (below t.dummies q) q}:=by
   unfold SetTable.drop;rw[hq]
  have pz:(eraseAt t.place j).size=t.place.size - 1:=by
   rw[<-JK,ju,LG (by simp;omega),JK]
  have ft:(t.drop j).fits (eraseAt es j).size=true:=by
   rw[ed];unfold SetTable.fits SetTable.fill;simp only[J6,LK,KQ];have h2:=hf.2;unfold SetTable.fill at h2;rw[pz,eU,ez];omega
  have hb1:(eraseAt es j).size < scanBound:=by omega
  have g1:=f_ (es':=eraseAt es j) (t':=t.drop j) ho hd;have k1:=Kc s.heap a (Obj.putSet (eraseAt es j) (t.drop j));refine Jh (Lm ho hd ?_ (K3 hb1));refine Jh (Mm ?_);refine Jm ?_;rw[Ji (by decide)];refine Jm (h _ k1 ⟨_,eraseAt es j,_,t.drop j,g1,hex,rfl,fun e he=>?_,?_,hb1,ft,by rw[ed];exact hled,?_⟩)
  ·rw[el]at he;exact hel e (List.mem_of_mem_eraseIdx he)
  ·rw[Jj hk,el]
   have e1:(es.toList.eraseIdx j).map (fun e=>strOf e.2)=(es.toList.map fun e=>strOf e.2).eraseIdx j:=by
    rw[Lf,Lf,JA,Nl,List.map_drop]
   rw[e1];have hj2:j < (es.toList.map fun e=>strOf e.2).length:=by rw[Jk];exact hj
   have ek:(es.toList.map fun e=>strOf e.2)[j]=k:=by rw[List.getElem_map];exact(isStr_of hpj).1
   have p2:List.Perm (es.toList.map fun e=>strOf e.2) (k::(es.toList.map fun e=>strOf e.2).eraseIdx j):=by
    have:=tY _ j hj2;rw[ek]at this;exact this
   have p3:=(p2.symm.trans hp).erase k;rw[List.erase_cons_head]at p3;exact p3
  ·rw[ed];exact .inr (hpl.resolve_left (by omega))
end
theorem zM (mask f m:Nat) (l p:Bool):laid mask f m l p #[]=some ({mask:=mask,place:=#[],dummies:=#[],finger:=f,led:=l,moves:=m,plain:=p},#[]):=by
 unfold SetTable.laid SetTable.layClean
 have e:∀n,(List.range n).filterMap (fun j=>((Array.replicate (mask + 1) (none:Option Nat)).getD j none).map (j,·))=[]:=fun n=>by
  rw[List.filterMap_eq_nil_iff];intro j _
  have:(Array.replicate (mask + 1) (none:Option Nat)).getD j none=none:=by
   rw[Array.getD_eq_getD_getElem?,Array.getElem?_replicate];split<;>rfl
  rw[this];rfl
 show some _=_;dsimp only;rw[e];rfl
noncomputable def xO (n:Nat):Nat:=if 21<=n * 5 then sizeAbove (n * 2) - 1 else 7
theorem Eb:∀n,n < 32->Dj (xO n)/\n * 5 < xO n * 3:=by unfold Dj;decide +kernel
section
variable {prog:Program} {w:World} {A:Around} {E:NS} {s:Shared}
theorem qV {a:Addr} {n:Nat} {Q:Unit->Shared->Prop} (hS:eD prog w s.heap a [] 7) (hn:n < 32) (h:∀h',Heap.SameBut a s.heap h'->eD prog w h' a [] (xO n)->Q () {s with heap:=h'}):wpAny (model prog w) A (setRoomFor a n) Q E s:=by
 have hS0:=hS;obtain⟨o,es,ep,t,ho,hex,hd,hel,hp,hb,hf,hled,hpl,hmk,hdm⟩:=hS
 have ez:es=#[]:=by
  have z:=hp.length_eq;simp at z;exact z
 subst ez
 have pz:t.place.size=0:=by
  unfold SetTable.fits at hf;simp only[J6,LK,KQ]at hf;exact hf.1
 have er:t.roomFor n=if 21<=n * 5 then some (n * 2)else none:=by
  unfold SetTable.roomFor SetTable.fill;rw[hdm,hmk,pz];simp
 unfold setRoomFor;refine Jh (J7 ho hd hf ?_);dsimp only;rw[er]
 by_cases q:21<=n * 5
 ·rw[Jj q];dsimp only;unfold setRelay;refine Jh (J7 ho hd hf ?_);dsimp only
  have big:¬ (sizeAbove (n * 2) > sizeLine):=by
   have:∀k,k < 64->sizeAbove k<=64:=by decide +kernel
   have:=this (n * 2) (by omega);rw[Jy];omega
  rw[Ji big]
  have rl:t.relaid (Array.map (fun x:Int × Value=>x.1) #[]) (n * 2)=some ({mask:=sizeAbove (n * 2) - 1,place:=#[],dummies:=#[],finger:=t.finger,led:=t.led,moves:=t.movedTo (sizeAbove (n * 2) - 1),plain:=t.plain},#[]):=by
   rw[show Array.map (fun x:Int × Value=>x.1) #[]=#[] by simp];unfold SetTable.relaid;exact zM _ _ _ _ _
  rw[rl];refine Jh (Lg (a:=((#[]:Array (Int × Value)),({mask:=sizeAbove (n * 2) - 1,place:=#[],dummies:=#[],finger:=t.finger,led:=t.led,moves:=t.movedTo (sizeAbove (n * 2) - 1),plain:=t.plain}:SetTable))) rfl ?_);dsimp only;refine Lm ho hd (h _ (Kc ..) ⟨_,#[],_,_,f_ ho hd,hex,rfl,hel,hp,hb,?_,hled,.inl rfl,?_,rfl⟩) (by simp)
  ·unfold SetTable.fits SetTable.fill;simp
  ·unfold xO;rw[Jj q]
 ·rw[Ji q];refine Jm (h s.heap (K1 a s.heap) ?_);unfold xO;rw[Ji q];exact hS0
end
open PySem PySem.SetTable PySem.Sg PyProof.Rows L2
section
variable {prog:Program} {w:World} {A:Around} {E:NS} {s:Shared}
theorem ve {X1 X2:Sem (ForInStep PUnit)} {d S:Addr} {ts:NW} {es:Array DictEntry} {ep:Nat} {o:Obj} {m:Nat} (hm:Dj m) (hr:ts.length * 5 < m * 3) (hSd:S ≠ d) (ho:o.data=.dict es ep) (hk:∀ (i:Nat) e,es[i]?=some e->∃x t,ts[i]?=some x/\e.key=.str x t/\e.hash=(strKind prog w).hash x) (hl:es.size=ts.length) (nd:ts.Nodup):
  ∀ (n i:Nat) (h:Heap) {Q:PUnit->Shared->Prop},i + n=ts.length->eD prog w h S (ts.take i) m->h.get? d=some o->(∀ h',Heap.SameBut S h h'->eD prog w h' S ts m->Q ⟨⟩ {s with heap:=h'})->
  wpAny (model prog w) A (forIn (List.range' i n 1) PUnit.unit fun i _=>dictEntries d >>= fun es'=>match es'[i]? with
   | some e=>holding [e.key] (setAddHashed S e.key e.hash) >>= fun _=>dictEpoch d >>= fun p=>if(p != ep)=true then X1 else pure (ForInStep.yield PUnit.unit)
   | _=>X2) Q E {s with heap:=h}
 | 0,i,h,Q,e,hS,hd,q=>by
  rw[show i=ts.length by omega,KC]at hS;exact Jm (q h (K1 _ _) hS)
 | n + 1,i,h,Q,e,hS,hd,q=>by
  rw[List.range'_succ,LD];refine Jh ?_;refine Jh (Nr hd ho ?_);obtain⟨en,hen⟩:∃en,es[i]?=some en:=⟨_,Kn (by omega)⟩;rw[hen];dsimp only;obtain⟨x,t,hx,ek,eh⟩:=hk i en hen;rw[ek,eh];have tl:(ts.take i).length=i:=by rw[J4];omega
  have nx:x ∉ ts.take i:=fun z=>by
   obtain⟨j,hj⟩:=List.mem_iff_getElem?.mp z;obtain⟨j1,j2⟩:=Jv.mp hj;rw[J4]at j1;obtain⟨i1,i2⟩:=Jv.mp hx;rw[List.getElem_take]at j2;exact Kp.mp nd j i (by omega) i1 (by omega) (j2.trans i2.symm)
  refine Jh (Kd (AJ (s:={s with heap:=h}) hS hm (by rw[tl];omega) fun b h' sb is=>?_));unfold Sg.putIn at is;rw[Ji nx]at is;have ts1:ts.take i++[x]=ts.take (i + 1):=by rw[MC,hx];rfl
  rw[ts1]at is;have hd':=sb.extBut _ _ (Kv hSd) hd;refine Jh (wpAny_dictEpoch (s:={s with heap:=h'}) hd' ho ?_);rw[Ji (by simp)];refine Jm ?_;exact ve hm hr hSd ho hk hl nd n (i + 1) h' (by omega) is hd' fun h2 sb2 is2=>q h2 (sb.trans sb2) is2
end
section
variable {prog:Program} {w:World} {A:Around} {E:NS} {s:Shared}
theorem rp (h:Heap):eD prog w (h.push (cj w)) h.objs.size [] 7:=
 ⟨_,#[],0,_,JE _ rfl,⟨rfl,rfl,rfl⟩,rfl,fun e he=>by simp at he,.nil,by decide,rfl,by
  cases e:w.params.followText "set-order"
  ·exact .inr rfl
  ·exact .inl rfl,.inl rfl,rfl,rfl⟩
theorem wt {es:List DictEntry} {kvs:List (Key × Value)} {ts:NW} (hp:Pairs (aS prog w) es kvs) (hk:kvs.map (·.1)=ts.map Sum.inr):∀ (i:Nat) e,es[i]?=some e->∃x t,ts[i]?=some x/\e.key=.str x t:=by
 induction hp generalizing ts with
 | nil=>intro i e h;simp at h
 | cons h1 h2 h3 ih=>
  intro i e h;cases ts with
  | nil=>simp at hk
  | cons x ts=>
   rw[JF,JF,List.cons.injEq]at hk;cases i with
   | zero=>
    cases h
    rw[hk.1]at h1;obtain⟨t,ht⟩:=Mn (show Value.isStrOf x _=true from h1);exact⟨x,t,rfl,ht⟩
   | succ i=>exact ih hk.2 i e h
theorem iF (hh:A.handled=none) {d:Addr} {kvs:List (Key × Value)} {ts:NW} (hy:(d == sysModules)=false) (hD:s.heap.DictOf (aS prog w) d kvs) (hk:kvs.map (·.1)=ts.map Sum.inr) (bK:ts.length < 32) {Q:NS}
  (h:∀ (h':Heap) (tk:Nat),eD prog w h' s.heap.objs.size ts (xO ts.length)->(∀ b o,s.heap.get? b=some o->h'.get? b=some o)->Q (.ref s.heap.objs.size) {s with heap:=h',toks:=tk}):
  wpAny (model prog w) A (call (.type "set") [.ref d]) Q E s:=by
 obtain⟨od,es,ep,hod,hex,hdd,hks,hpr,hnd⟩:=hD;have lt:d < s.heap.objs.size:=Ju hod
 have nd:ts.Nodup:=by
  rw[hk]at hnd;exact(Ku.mp hnd).imp fun h e=>h (by rw[e])
 have lk:ts.length=kvs.length:=by have:=congrArg List.length hk;simpa using this.symm
 have esz:es.size=ts.length:=by
  have:=hpr.length;rw[JK]at this;omega
 have key:∀ (i:Nat) e,es[i]?=some e->∃x t,ts[i]?=some x/\e.key=.str x t/\e.hash=(strKind prog w).hash x:=fun i e he=>by
  obtain⟨x,t,h1,h2⟩:=wt hpr hk i e (by rw[Ld];exact he);obtain⟨k',h3,h4⟩:=hks e (Array.mem_of_getElem? he);refine⟨x,t,h1,h2,?_⟩;rw[h4];rw[h2]at h3;cases k' with
  | inl i=>cases h3
  | inr y=>
   have:y=x:=by
    obtain⟨u,hu⟩:=Mn (show Value.isStrOf y (.str x t)=true from h3);cases hu
    rfl
   subst this;rfl
 obtain⟨c,tl,hmro⟩:=KU.mro;have hmade:=KU.made;have hsub:=KU.sub;refine wpAny_call (codeAny_of_tree ?_);show wpAny _ _ (callAny (.type "set") _) _ _ _;refine Jm ⟨Code.quiet_builtin _ (by decide +kernel),LC PySem.F.entry_type_call ?_⟩;rw[Around.under_plain (weight_type_call_type "set" [.ref d] []) rfl];have h1:=KU.notType;have h2:=KU.canCreate;have hct:=PySem.F.typeCall_set_1 (.ref d)
 repeat (any_goals (first | assumption | wp_step))
 refine Mw (AB (.ref d) (E:=E) (Q₁:=fun obj s₁=>obj=.ref s.heap.objs.size/\s₁={s with heap:=s.heap.push (cj w)}) ⟨rfl,rfl⟩) fun r s₁ hr=>?_;cases r with
 | error e=>exact hr
 | ok fl=>
  cases fl with
  | ret obj=>
   obtain⟨rfl,rfl⟩:=hr;have hS:(s.heap.push (cj w)).get? s.heap.objs.size=some (cj w):=JE _ rfl;have hT:Shared.TypeIs {s with heap:=s.heap.push (cj w)} (.ref s.heap.objs.size) "set" :=⟨_,hS,rfl⟩;have hli:=KU.init.lookup;have hbi:=KU.init.bind (.ref s.heap.objs.size)
   repeat (any_goals (first | assumption | wp_step))
   refine Mw (codeAny_call_builtin (R:=wants (fun r s₂=>r=.none/\∃h' tk,s₂={s with heap:=h',toks:=tk}/\eD prog w h' s.heap.objs.size ts (xO ts.length)/\
     (∀ b o,s.heap.get? b=some o->h'.get? b=some o)) E) KU.init.plain PySem.F.entry_set_init (check_set_init_1 hT ?_)) fun r₂ s₂ hr₂=>?_
   ·obtain⟨ocls,odict,odata,oslots⟩:=od;obtain⟨x1,x2,x3⟩:=id hex;have hod':(s.heap.push (cj w)).get? d=some ⟨ocls,odict,odata,oslots⟩:=Jq _ hod;have hTd:Shared.TypeIs {s with heap:=s.heap.push (cj w)} (.ref d) "dict" :=⟨_,hod',x1⟩
    have fin:∀ (B:Around) (K:PUnit->Shared->Prop) (X:NS),(∀ h',eD prog w h' s.heap.objs.size ts (xO ts.length)->(∀ b o,s.heap.get? b=some o->h'.get? b=some o)->K ⟨⟩ {s with heap:=h'})->
      wpAny (model prog w) B (Builtin.Frozenset.updateFrom "set.__init__" s.heap.objs.size (.ref d)) K X {s with heap:=s.heap.push (cj w)}:=fun B K X hK=>by
     unfold Builtin.Frozenset.updateFrom Builtin.Frozenset.isAnySet;refine Jh (Jh (La (T:= "dict") (b:=false) hTd PySem.F.sub_dict_set ?_));dsimp only;refine La (T:= "dict") (b:=false) hTd PySem.F.sub_dict_frozenset ?_;rw[Ji (by decide)];refine Jh (Mx hTd ?_);rw[Jj (by decide)];refine Jh (Kr ?_);refine Jh (Lg (a:=d) rfl ?_);rw[hy,Ji (by decide)];refine Jh (wpAny_dictEpoch hod' hdd ?_);refine Jh (Nr hod' hdd ?_);rw[esz];refine Jh (qV (rp s.heap) bK fun h1 sb1 is1=>?_);have hd1:=sb1.extBut _ _ (JC lt) hod';refine Jh (Nr (s:={s with heap:=h1}) hd1 hdd ?_);rw[esz,Std.Legacy.Range.forIn_eq_forIn_range'];have mk:=Eb ts.length bK;refine Jh ?_
     have rs:Std.Legacy.Range.size [:ts.length]=ts.length:=by
      simp[Std.Legacy.Range.size]
     rw[rs];refine ve (s:=s) mk.1 mk.2 (KS lt) hdd key esz nd ts.length 0 h1 (by omega) (by rw[M7];exact is1) hd1 fun h2 sb2 is2=>?_;refine Jm (hK h2 is2 fun b o e=>?_);have ne:b ≠ s.heap.objs.size:=JC (Ju e);exact sb2.extBut _ _ ne (sb1.extBut _ _ ne (Jq _ e))
    unfold Builtin.«set.__init__» noKeywords;generalize hU:Builtin.Frozenset.updateFrom=U
    wp_walk
    subst hU;refine fin _ _ _ fun h' is k=>?_;refine Jm ⟨rfl,h',s.toks,rfl,is,k⟩
   ·cases r₂ with
    | error e=>exact hr₂
    | ok fl₂=>
     cases fl₂ with
     | ret r=>
      obtain⟨rfl,h',tk,rfl,hS',hk'⟩:=hr₂
      repeat (any_goals (first | assumption | wp_step))
      exact h _ _ hS' hk'
     | _=>exact hr₂.elim
  | _=>exact hr.elim
end
section
variable {prog:Program} {w:World} {A:Around} {E:NS} {s:Shared}
theorem xX {a:Addr} {o:Obj} {es:Array (Int × Value)} {ep:Nat} {t:SetTable} {Q:Array (Int × Value)->Shared->Prop} (ho:s.heap.get? a=some o) (hd:o.data=.set es ep t) (hf:t.fits es.size=true)
  (hs:w.params.followText "set-order" =true\/es.size<=1) (h:∀arr,List.Perm arr.toList es.toList->Q arr s):wpAny (model prog w) A (setWalk a) Q E s:=by
 unfold setWalk setsByText;refine Jh (J7 ho hd hf ?_);dsimp only;refine Jh (Jh (KL (Jm ?_)));show wpAny _ _ (if(w.params.followText "set-order")=true then _ else _) _ _ _;cases q:w.params.followText "set-order" with
 | true=>
  rw[Jj rfl];exact Jh (KL (Jm (h _ (g9 _ es))))
 | false=>
  have hn:es.size<=1:=hs.resolve_left (by rw[q];decide);rw[Ji (by decide)];show wpAny _ _ (if(!t.plain && decide (es.size > 1))=true then _ else _) _ _ _;rw[Ji (by rw[JR (MA.mpr hn),M3];decide)];refine Jh ?_;show wpAny _ _ (if(!t.led && decide (es.size > 1))=true then _ else _) _ _ _;rw[Ji (by rw[JR (MA.mpr hn),M3];decide)];exact Jm (Jm (h es (List.Perm.refl _)))
theorem lW {α:Type} {b:α}:∀ (l:List (Int × Value)) (k:α->Sem (ForInStep α)) (f:Int × Value->α->Sem (ForInStep α)) {Q:α->Shared->Prop},(∀ e ∈ l,f e b=pure (ForInStep.yield b))->Q b s->wpAny (model prog w) A (forIn l b f) Q E s
 | [],_,f,Q,_,q=>Jm q
 | e::r,k,f,Q,h,q=>by
  rw[LD,h e Js];refine Jh (Jm ?_);exact lW r k f (fun x hx=>h x (Jo _ hx)) q
theorem wc {a b:Addr} {τ ρ:NW} {Q:Bool->Shared->Prop} (ha:bx prog w s.heap a τ) (hb:bx prog w s.heap b ρ) (h:Q true s):wpAny (model prog w) A (setsQuiet [a,b]) Q E s:=by
 obtain⟨o,es,ep,t,ho,hex,hd,hel,hp,hbd,hf,hled,hpl⟩:=ha;obtain⟨o2,es2,ep2,t2,ho2,hex2,hd2,hel2,hp2,hbd2,hf2,hled2,hpl2⟩:=hb;unfold setsQuiet;simp only[LD,List.forIn_nil];refine Jh (Jh (Jh (K6 ho hd hf ?_)));rw[<-LZ];refine Jh (lW es.toList (fun _=>pure (ForInStep.yield (none,()))) _ (fun e he=>?_) ?_)
 ·obtain⟨⟨k,hk,_⟩,_⟩:=hel e he;obtain⟨_,u,eu⟩:=isStr_of hk
  try dsimp only
  rw[eu]
 dsimp only;refine Jm ?_;dsimp only;refine Jh (Jh (K6 ho2 hd2 hf2 ?_));rw[<-LZ];refine Jh (lW es2.toList (fun _=>pure (ForInStep.yield (none,()))) _ (fun e he=>?_) ?_)
 ·obtain⟨⟨k,hk,_⟩,_⟩:=hel2 e he;obtain⟨_,u,eu⟩:=isStr_of hk
  try dsimp only
  rw[eu]
 dsimp only;refine Jm (Jm ?_);dsimp only;exact Jm h
theorem qG {a r:Addr} {τ ρ:NW} {Q:Array (Int × Value)->Shared->Prop} (har:a ≠ r) (ha:bx prog w s.heap a τ) (hr:bx prog w s.heap r ρ)
  (h:∀arr h',Heap.SameBut r s.heap h'->bx prog w h' r ρ->ElemsOf (strKind prog w) arr.toList->List.Perm (arr.toList.map fun e=>strOf e.2) τ->Q arr {s with heap:=h'}):wpAny (model prog w) A (setWalkUnseen a [r] (some r)) Q E s:=by
 have ha0:=ha;have hr0:=hr;obtain⟨o,es,ep,t,ho,hex,hd,hel,hp,hbd,hf,hled,hpl⟩:=ha;unfold setWalkUnseen setsByText;refine Jh (J7 ho hd hf ?_);dsimp only;refine Jh (Jh (KL (Jm ?_)))
 have bK:∀ (q:w.params.followText "set-order" =true\/es.size<=1),wpAny (model prog w) A (setWalk a) Q E s:=fun q=>
  xX ho hd hf q fun arr pm=>h arr s.heap (K1 _ _) hr0 (hel.perm pm) ((pm.map _).trans hp)
 show wpAny _ _ (if(w.params.followText "set-order" || (t.led && t.plain) || decide (es.size<=1))=true then _ else _) _ _ _;cases q:w.params.followText "set-order" with
 | true=>
  rw[Jj (by simp)];exact bK (.inl q)
 | false=>
  by_cases n1:es.size<=1
  ·rw[Jj (by simp[n1])];exact bK (.inr n1)
  ·have tp:t.plain=false:=hpl.resolve_left (by omega);have tl:t.led=true:=hled.resolve_left (by rw[q];decide);rw[Ji (by simp[n1,tp])];refine Jh (wc ha0 hr0 ?_);rw[Ji (by decide)];refine Jh (Kr ?_)
   try dsimp only
   obtain⟨o2,es2,ep2,t2,ho2,hex2,hd2,hel2,hp2,hbd2,hf2,hled2,hpl2⟩:=hr;refine Jh (J7 ho2 hd2 hf2 ?_);dsimp only;rw[tl,tp]
   by_cases pl:t2.plain=true
   ·rw[Jj (by simp[pl])];refine Jh (Lm ho2 hd2 ?_ (K3 hbd2));refine Jm (h es _ (Kc ..) ⟨_,es2,_,_,f_ ho2 hd2,hex2,rfl,hel2,hp2,hbd2,hf2,by simpa using hled2,.inr (by simp)⟩ hel hp)
   ·rw[Ji (by simp[pl])];exact Jm (h es s.heap (K1 _ _) hr0 hel hp)
end
section
variable {prog:Program} {w:World} {A:Around} {E:NS} {s:Shared}
theorem eD.at {h h':Heap} {a:Addr} {τ:NW} {m:Nat} (x:eD prog w h a τ m) (k:∀o,h.get? a=some o->h'.get? a=some o):eD prog w h' a τ m:=by
 obtain⟨o,es,ep,t,h1,r⟩:=x;exact⟨o,es,ep,t,k o h1,r⟩
theorem wJ {r c:Addr} {τ:NW} {id:String} {Q:Unit->Shared->Prop} (bK:τ.length < 32) (ne:c ≠ r) (hr:eD prog w s.heap r τ (xO τ.length)) (hc:eD prog w s.heap c [] 7)
  (h:∀h',Heap.SameBut c s.heap h'->bx prog w h' c τ->Q () {s with heap:=h'}):wpAny (model prog w) A (Builtin.Frozenset.merge id c r) Q E s:=by
 have hc0:=hc;obtain⟨o,es,ep,t,ho,hex,hd,hel,hp,hbd,hf,hled,hpl,hmk,hdm⟩:=hr;have hlen:es.size=τ.length:=by have z:=hp.length_eq;simpa using z
 unfold Builtin.Frozenset.merge;refine Jh (L7 ho hd hf ?_);unfold setMerge;rw[Ji (by simpa using ne)];refine Jh (J7 ho hd hf ?_);dsimp only
 by_cases e0:es.isEmpty=true
 ·rw[Jj e0]
  have tn:τ=[]:=by
   have:es.size=0:=by simpa[Array.isEmpty]using e0
   exact NJ.mp (by omega)
  rw[tn]at h;exact Jm (h s.heap (K1 _ _) hc.is)
 ·rw[Ji e0,hlen];refine Jh (qV hc bK fun h1 sb1 is1=>?_);obtain⟨o1,es1,ep1,t1,ho1,hex1,hd1,hel1,hp1,hbd1,hf1,hled1,hpl1,hmk1,hdm1⟩:=is1;have ez:es1.size=0:=by have z:=hp1.length_eq;simpa using z
  refine Jh (J7 (s:={s with heap:=h1}) ho1 hd1 hf1 ?_);dsimp only
  have pz:t1.place.size=0:=by
   unfold SetTable.fits at hf1;simp only[J6,LK,KQ]at hf1;omega
  have rd:t1.road t=.slotForSlot:=by
   unfold SetTable.road SetTable.fill;rw[hdm1,hmk1,hmk,hdm,pz];simp
  rw[rd];dsimp only;refine Lm (s:={s with heap:=h1}) ho1 hd1 (h _ (sb1.trans (Kc ..)) ⟨_,es,_,_,f_ ho1 hd1,hex1,rfl,hel,hp,hbd,?_,?_,?_⟩) (K3 hbd)
  ·exact hf
  ·rcases hled with q | q
   ·exact .inl q
   ·rcases hled1 with q1 | q1
    ·exact .inl q1
    ·exact .inr (by simp[q,q1])
  ·rcases hpl with q | q
   ·exact .inl q
   ·exact .inr (by simp[q])
noncomputable def ko (ρ:NW):List Str->NW
 | []=>ρ
 | k::r=>ko (if k ∈ ρ then ρ.erase k else ρ++[k]) r
theorem lz:∀ (τ ρ:NW),(ko ρ τ).length<=ρ.length + τ.length
 | [],ρ=>by simp[ko]
 | k::r,ρ=>by
  unfold ko;refine JS (lz r _) ?_;split
  ·have:=List.length_erase_le (a:=k) (l:=ρ);rw[J5];omega
  ·rw[Jw,J5];simp;omega
theorem lu:∀ {τ ρ:NW},ρ.Nodup->τ.Nodup->(ko ρ τ).Nodup/\∀x,x ∈ ko ρ τ ↔ (x ∈ ρ/\x ∉ τ)\/(x ∈ τ/\x ∉ ρ)
 | [],ρ,h,_=>⟨h,fun x=>by simp[ko]⟩
 | k::r,ρ,h,g=>by
  obtain⟨g1,g2⟩:=JN.mp g;unfold ko
  by_cases q:k ∈ ρ
  ·rw[Jj q];obtain⟨i1,i2⟩:=lu (h.erase k) g2;refine⟨i1,fun x=>?_⟩;rw[i2 x,h.mem_erase_iff,Jx]
   by_cases e:x=k
   ·subst e;simp[q,g1]
   ·simp[e]
  ·rw[Ji q];have n:(ρ++[k]).Nodup:=JI.mpr ⟨h,by simp,fun a ha b hb e=>by rw[Jz.mp hb]at e;exact q (e ▸ ha)⟩;obtain⟨i1,i2⟩:=lu n g2;refine⟨i1,fun x=>?_⟩;rw[i2 x,JB,Jz,Jx]
   by_cases e:x=k
   ·subst e;simp[q,g1]
   ·simp[e]
end
theorem nV:entryFor table "set.__xor__" =some Builtin.«frozenset.__xor__»:=
 entryFor_alias (id':= "frozenset.__xor__") (by kernel_rfl) rfl (by decide +kernel) (by kernel_rfl)
section
variable {prog:Program} {w:World} {A:Around} {E:NS} {s:Shared}
theorem bx.ty {a:Addr} {τ:NW} (h:bx prog w s.heap a τ):s.TypeIs (.ref a) "set" :=by
 obtain⟨o,es,ep,t,ho,hex,_⟩:=h;exact⟨o,ho,hex.1⟩
theorem lh {a:Addr} {τ:NW} {Q:Bool->Shared->Prop} (h:bx prog w s.heap a τ) (q:Q true s):wpAny (model prog w) A (Builtin.Frozenset.isAnySet (.ref a)) Q E s:=by
 unfold Builtin.Frozenset.isAnySet;refine Jh (La (T:= "set") (b:=true) (bx.ty h) sub_set_self ?_);exact Jm q
theorem zu {Q:NS} (h:Q (.ref s.heap.objs.size) {s with heap:=s.heap.push (cj w)}):wpAny (model prog w) A (newSet (.type "set")) Q E s:=by
 unfold newSet setsByText;refine Jh (Jh (KL (Jm ?_)));dsimp only;simp only[newObj];exact Jh (wpAny_alloc (Jm h))
theorem Ad {r:Addr} {τ:NW} {id:String} {Q:NS} (bK:τ.length < 32) (hr:eD prog w s.heap r τ (xO τ.length))
  (h:∀h',(∀ b o,s.heap.get? b=some o->h'.get? b=some o)->bx prog w h' s.heap.objs.size τ->Q (.ref s.heap.objs.size) {s with heap:=h'}):wpAny (model prog w) A (Builtin.Frozenset.newFrom id (.type "set") (.ref r)) Q E s:=by
 have hr0:=hr;obtain⟨o,es,ep,t,ho,hex,_⟩:=hr;have lt:r < s.heap.objs.size:=Ju ho;have k0:∀b o,s.heap.get? b=some o->(s.heap.push (cj w)).get? b=some o:=fun b o e=>Jq _ e;have hr1:=hr0.at (h':=s.heap.push (cj w)) (k0 r);unfold Builtin.Frozenset.newFrom;refine Jh (zu ?_);refine Jh (Lg (a:=s.heap.objs.size) rfl ?_);refine Jh (Kd ?_);unfold Builtin.Frozenset.updateFrom;refine Jh (lh (s:={s with heap:=s.heap.push (cj w)}) hr1.is ?_);rw[Jj rfl];refine Jh (Lg (a:=r) rfl ?_);refine wJ (s:={s with heap:=s.heap.push (cj w)}) bK (KS lt) hr1 (rp s.heap) fun h' sb is=>?_;refine Jm (h h' (fun b o e=>sb.extBut _ _ (JC (Ju e)) (k0 b o e)) is)
theorem rV {S o:Addr} {ob:Obj} {eo:Array (Int × Value)} {ep:Nat} {t:SetTable} {id:String} (hSo:o ≠ S) (hd:ob.data=.set eo ep t) (hf:t.fits eo.size=true):
  ∀ (l:List (Int × Value)) (ρ:NW) (h:Heap) {Q:PUnit->Shared->Prop},ElemsOf (strKind prog w) l->bx prog w h S ρ->h.get? o=some ob->ρ.length + l.length < scanBound->
  (∀ h',Heap.SameBut S h h'->bx prog w h' S (ko ρ (l.map fun e=>strOf e.2))->Q ⟨⟩ {s with heap:=h'})->
  wpAny (model prog w) A (forIn l PUnit.unit fun e _=>(holding [e.2] (setDiscardHashed S e.2 e.1 >>= fun b=>if(!b)=true then setAddHashed S e.2 e.1 >>= fun _=>pure ()else pure ())) >>= fun _=>Builtin.Frozenset.unchanged id o ep >>= fun _=>pure (ForInStep.yield PUnit.unit)) Q E {s with heap:=h}
 | [],ρ,h,Q,_,hS,_,_,q=>Jm (q h (K1 _ _) hS)
 | e::r,ρ,h,Q,he,hS,ho,len,q=>by
  rw[LD];obtain⟨⟨k,hk,hh⟩,_⟩:=he.head;obtain⟨e1,u,eu⟩:=isStr_of hk;obtain⟨hv,x⟩:=e;dsimp only at hk hh e1 eu;subst eu hh;rw[J5]at len;refine Jh (Jh (Kd (Ah (s:={s with heap:=h}) hS (by omega) fun h' sb is=>?_)));have ho':=sb.extBut _ _ hSo ho;unfold Builtin.Frozenset.unchanged;refine Jh (Jh (L7 (s:={s with heap:=h'}) ho' hd hf ?_));rw[Ji (by simp)];refine Jm (Jm ?_);refine rV hSo hd hf r _ h' he.tail is ho' ?_ fun h2 sb2 is2=>q h2 (sb.trans sb2) ?_
  ·split
   ·have:=List.length_erase_le (a:=k) (l:=ρ);omega
   ·rw[Jw];simp;omega
  ·rw[JF];unfold ko;exact is2
theorem xT {S o:Addr} {ρ τ:NW} {id:String} {Q:Unit->Shared->Prop} (hSo:o ≠ S) (hS:bx prog w s.heap S ρ) (ho:bx prog w s.heap o τ) (len:ρ.length + τ.length < scanBound)
  (h:∀h' l,Heap.SameBut S s.heap h'->List.Perm l τ->bx prog w h' S (ko ρ l)->Q () {s with heap:=h'}):wpAny (model prog w) A (Builtin.Frozenset.symmetricDifferenceUpdate id S (.ref o)) Q E s:=by
 have hT:s.TypeIs (.ref o) "set" :=bx.ty ho;have ho0:=ho;obtain⟨ob,es,ep,t,hob,hex,hd,hel,hp,hbd,hf,hled,hpl⟩:=ho;unfold Builtin.Frozenset.symmetricDifferenceUpdate;rw[Ji (by simpa using hSo)];refine Jh (Mx hT ?_);rw[Ji (by decide)];refine Jh (lh ho0 ?_);dsimp only;rw[Jj rfl];refine Jh (Jm ?_);refine Jh (Lg (a:=o) rfl ?_);refine Jh (L7 hob hd hf ?_);refine Kd ?_;refine Jh (qG hSo ho0 hS fun arr h1 sb1 is1 he pm=>?_);rw[<-LZ];have hob1:=sb1.extBut _ _ hSo hob;have ln:=pm.length_eq;rw[Jk]at ln;refine Jh (rV hSo hd hf arr.toList ρ h1 he is1 hob1 (by omega) fun h2 sb2 is2=>Jm (h h2 _ (sb1.trans sb2) pm is2))
theorem xS {a b:Addr} {τ ρ:NW} {Q:NS} (fa:τ.length < 32) (fb:ρ.length < 32) (ha:eD prog w s.heap a τ (xO τ.length)) (hb:eD prog w s.heap b ρ (xO ρ.length))
  (h:∀h' l,(∀ b o,s.heap.get? b=some o->h'.get? b=some o)->List.Perm l τ->bx prog w h' s.heap.objs.size (ko ρ l)->Q (.ref s.heap.objs.size) {s with heap:=h'}):wpAny (model prog w) A (binaryOp .BitXor (.ref a) (.ref b)) Q E s:=by
 have Ta:s.TypeIs (.ref a) "set" :=bx.ty ha.is;have Tb:s.TypeIs (.ref b) "set" :=bx.ty hb.is;refine wpAny_binaryOp_same (op:=.BitXor) (T:= "set") Ta Tb PySem.F.fills_set_xor PySem.F.slot_set_xor ?_;refine KN PySem.F.slot_set_xor Ta nV ?_ (PySem.F.args_set_xor_2 _ _)
 have lt:a < s.heap.objs.size:=by
  obtain⟨o,es,ep,t,ho,hex,_⟩:=ha;exact Ju ho
 unfold Builtin.«frozenset.__xor__»;refine Jh (m:=Builtin.Frozenset.slot1 "__xor__" ⟨[.ref a,.ref b],[]⟩) (Lg (a:=(.ref a,.ref b)) (by kernel_rfl) ?_);dsimp only;rw[Ji (by decide:¬ (false=true))];dsimp only;refine Jh (Jh (lh ha.is ?_));refine lh hb.is ?_;rw[Ji (by decide)];refine Jh (Lg (a:=a) rfl ?_);refine Jh (Jh (m:=Builtin.Frozenset.baseOf a) ?_);unfold Builtin.Frozenset.baseOf;refine Jh (La (T:= "set") (b:=true) Ta sub_set_self ?_);rw[Jj rfl];refine Jm ?_;refine Jh (Ad fb hb fun h1 k1 is1=>?_);refine Jh (Lg (a:=s.heap.objs.size) rfl ?_);refine Jh (Kd (xT (s:={s with heap:=h1}) (JC lt) is1 (ha.at (k1 a)).is (by unfold scanBound;omega) fun h2 l sb pm is2=>?_));refine Jm ?_;exact Jm ⟨_,rfl,by simp,h h2 l (fun b o e=>sb.extBut _ _ (JC (Ju e)) (k1 b o e)) pm is2⟩
end
end PySem.Sx
namespace Sw
open PySem PySem.Spec PyProof.Rows L2
open PySem.W (Frag keepIn ktsIn mroIn kitOne)
theorem IH (m:Mf):PlainAttrs (HE m)/\Slot (HE m) m.name (Ec m)/\typeOf (.builtin (Ec m))=pure (.type "method_descriptor"):=by
 cases m
 ·exact⟨MK,F.slot_str_startswith,F.type_str_startswith⟩
 ·exact⟨MK,F.slot_str_endswith,F.type_str_endswith⟩
 ·exact⟨MK,F.slot_str_split,F.type_str_split⟩
 ·exact⟨MK,F.slot_str_join,F.type_str_join⟩
 ·exact⟨MG,F.slot_list_append,F.type_list_append⟩
 ·exact⟨MG,F.slot_list_pop,F.type_list_pop⟩
 ·exact⟨MG,F.slot_list_extend,F.type_list_extend⟩
 ·exact⟨MG,F.slot_list_clear,F.type_list_clear⟩
 ·exact⟨L8,F.slot_dict_pop,F.type_dict_pop⟩
 ·exact⟨L8,F.slot_dict_clear,F.type_dict_clear⟩
 ·exact⟨L8,F.slot_dict_copy,F.type_dict_copy⟩
 ·exact⟨L8,F.slot_dict_setdefault,F.type_dict_setdefault⟩
 ·exact⟨L8,F.slot_dict_get,F.type_dict_get⟩
theorem ij {o:Expr} {m:Str} {env:Env} {t:Sem Value} (h:jn o=true):attributeBase o m env t=t:=by
 cases o with
 | Call f args kws pos=>
  cases f with
  | Name x p=>
   cases args with
   | nil=>
    cases kws with
    | nil=>cases h
    | cons _ _=>rfl
   | cons _ _=>rfl
  | _=>rfl
 | _=>rfl
section
variable {X:Cx}
theorem BR {M:Mo} (mo:av X.K M) {m:Mf} {o:Expr} {apos cpos:Pos} {to:TE} (ho:PE X o to) (hn:jn o=true) (hl:(apos.endLine == cpos.line)=true):
  PE X (.Call (.Attribute o m.name apos) [] [] cpos) (fun σ H Q=>to σ H fun x H1=>D_ M m x H1=true/\fq M m x [] H1 Q):=by
 obtain⟨pa,slot,hty⟩:=IH m;intro pins s σ H Q I h;refine wpAny_Call_method0_late (ij hn) hl (cz (ho pins s σ H _ I h) fun v s1 ⟨x,H1,I1,r1,ty,q1⟩=>?_);obtain⟨h1,h2⟩:=yd I1 r1 (zw mo ty);exact⟨_,_,pa,slot,hty,h1,h2,Calls.callWith_builtin rfl (PySem.evalArgs_none (zx mo m pins s1 σ H1 x [] v [] Q I1 r1 .nil q1))⟩
theorem DP {M:Mo} (mo:av X.K M) {m:Mf} {o e:Expr} {es:NZ} {apos cpos:Pos} {to:TE} {t:TA} (ho:PE X o to) (ha:PA X (e::es) t) (hp:∀e' ∈ e::es,aW e'=true) (hn:jn o=true) (hl:(apos.endLine == cpos.line)=true) (hf:(e::es).length < 20):
  PE X (.Call (.Attribute o m.name apos) (e::es) [] cpos) (fun σ H Q=>to σ H fun x H1=>D_ M m x H1=true/\t σ H1 fun vs H2=>fq M m x vs H2 Q):=by
 obtain⟨pa,slot,hty⟩:=IH m
 have hfew:((backTo cpos (starEach (e::es) X.env)).all (fun x=>!x.1) && (backToKw cpos (keywordEach [] X.env)).all (fun x=>x.1.isSome)
   && decide ((e::es).length + ([]:List Keyword).length + (if([]:List Keyword).isEmpty then 0 else 1) < 30))=true:=by
  rw[plain_all hp];simp only[Bool.true_and];rw[J6];refine⟨rfl,JV ?_⟩;simp at hf ⊢;omega
 intro pins s σ H Q I h;refine wpAny_Call_method_late (ij hn) hfew hl rfl (cz (ho pins s σ H _ I h) fun v s1 ⟨x,H1,I1,r1,ty,q1⟩=>?_);obtain⟨h1,h2⟩:=yd I1 r1 (zw mo ty);refine⟨_,_,pa,slot,hty,h1,h2,?_⟩;have hA:=ha cpos pins s1 σ H1 _ I1 q1;have hs:=bz (env:=X.env) (es:=es) (hp e Js);rw[hs]at hA ⊢;refine Calls.callWith_builtin (by show(false || (backTo cpos (starEach es X.env)).any (·.1))=false;rw[plain_any fun e he=>hp e (Jo _ he)];rfl) (Calls.evalArgs_plain ?_);exact cz hA fun us s2 ⟨vs,H2,I2,r2,q2⟩=>zx mo m pins s2 σ H2 x vs v us Q I2 r1 r2 q2
end
section
variable (Γ:b0) (k:Nat)
theorem cH {op:CmpOp} {b:Expr} (h:aW b=true):behindInMarks op b=false:=by
 cases b<;>first | rfl | cases h
theorem A7 {X:Cx}:Hf X (unaryOp .USub) (fun x H Q=>match x with | .int i=>Q (.int (-i)) H | _=>False):=by
 intro pins s σ H x v Q I r h;split at h
 ·exact Dp pins s σ H _ v Q I r ⟨_,rfl,h⟩
 ·exact h.elim
theorem yZ {X:Cx} {Γ:b0} {sc:Scope} {k:Nat} {Ξ:XS} {f:Str} {es:NZ} {t:TA} {p pos:Pos} (C:Ctx X Γ sc k) (xo:cV X Ξ) (hg:Gl X f) (ho:cF f=true) (ha:PA X es t) (hp:∀e ∈ es,aW e=true) (h0:es=[]->t=fun _ H Q=>Q [] H):
  PE X (.Call (.Name f p) es [] pos) (fun σ H Q=>(Γ.cm=true/\Γ.has f=true)/\t σ H fun vs H1=>Γ.fn f vs H1 Q fun C d H'=>Ξ C d σ H'):=by
 intro pins s σ H Q I ⟨⟨hc,hh⟩,h⟩;obtain⟨fa,fd,ps,hm,hk,F,hb⟩:=C.g.fn f hh;refine KI (u_ I hg hm ?_ (dQ ho).1);cases es with
 | nil=>
  rw[h0 rfl]at h;exact PySem.W.callWith_K0 I.zQ hk (uQ (us:=[]) F ((C.room hc).mono (K8 _)) hb xo I .nil h)
 | cons e es=>
  refine PySem.W.callWith_K (h₀:=X.base) I.ok.mod.FZ hk (cz (ha pos pins s σ H _ I h) fun us s1 ⟨vs,H1,I1,r,q⟩=>⟨I1.zQ,?_⟩) (bz (hp e Js)) (plain_any fun e he=>hp e (Jo _ he));exact uQ F ((C.room hc).mono (K8 _)) hb xo I1 r q
theorem BX {X:Cx} {M:Mo} {e:Expr} {es:NZ} {t:TA} {p pos:Pos} {x:Str} (hc:X.calm=true) (mo:av X.K M) (f:Bf) (hx:f.name=x) (hg:Gl X x) (hm:X.mg x=none) (ho:cF x=true) (ha:PA X (e::es) t) (hp:∀e' ∈ e::es,aW e'=true):
  PE X (.Call (.Name x p) (e::es) [] pos) (Hv (gN M f) t):=by
 subst hx;have hb:=EJ hc mo f;have hv:=CA f;have he:=bz (env:=X.env) (es:=es) (hp e Js);have hpl:=plain_any (env:=X.env) (pos:=pos) (es:=es) fun e he=>hp e (Jo _ he);obtain⟨o1,o2,o3⟩:=dQ ho;cases f with
 | str=>exact hE hb hg hm hv ha o3 o1 he hpl
 | int=>exact hE hb hg hm hv ha o3 o1 he hpl
 | list=>exact hE hb hg hm hv ha o3 o1 he hpl
 | tuple=>exact hE hb hg hm hv ha o3 o1 he hpl
 | _=>exact y0 hb hg hm hv ha o3 o1 he hpl
theorem boot_sorted:bootBuiltins ("sorted" :Str)=some (.builtin "sorted"):=by kernel_rfl
theorem boot_set:bootBuiltins ("set" :Str)=some (.type "set"):=by kernel_rfl
theorem q9 {b:Expr} (h:aW b=true):vP b:=by
 intro o i;cases b<;>first | rfl | cases h
theorem cE {e:Expr} {env:Env} (h:aW e=true) (v:Value):foldedSetIterable e env v=pure v:=by
 cases e<;>first | rfl | cases h
theorem yX {X:Cx} {M:Mo} {sc aY:Scope} {elt iter:Expr} {ifs:NZ} {x:Str} {px pos:Pos} {fv:List (Str × Nat)} {tt:TT} {wi:L2.St->Hp->(List V->(Hp->Prop)->Hp->Prop)->Prop} {Ξ:XS} {Γ:b0} {el:Ex} (mo:av X.K M) (hc:X.calm=true) (top:fM X) (xo:cV X Ξ)
  (hcf:∀y,(sc.names.lookup y=some .cell\/sc.names.lookup y=some .free)->X.env.kindOf y=some .cell\/X.env.kindOf y=some .free)
  (ok:bM sc aY X.N [x] fv=true) (hi:PI X (.Name x px) iter (p8 wi))
  (he:∀σ X',bj X X' aY (x::fv.map (·.1))->cV X' (fun C d _ H'=>Ξ C d σ H')->PE X' elt (wE Γ el fun C d _ H'=>Ξ C d σ H')) (ht:∀X',bj X X' aY (x::fv.map (·.1))->sH X' ifs tt)
  (hs:∀v,foldedSetIterable iter X.env v=pure v):
  PE X (.ListComp elt [⟨.Name x px,iter,ifs,0⟩] aY pos) (fun σ H Q=>wi σ H fun xs aq H1=>∀D,H1 D=none->M D=none->eA (wE Γ el fun C d _ H'=>Ξ C d σ H') tt (vars σ fv) D aq xs [] (upd H1 D (.lst [])) fun H'=>Q (.ref D) H'):=
 BV (te:=fun σ=>wE Γ el fun C d _ H'=>Ξ C d σ H') mo hc top xo hcf ok hi he ht hs
theorem CC (f:B2):bootBuiltins f.name=some (.builtin (GF f)):=by cases f<;>kernel_rfl
theorem FJ {X:Cx} {M:Mo} {e:Expr} {te:TE} {p pos:Pos} (hc:X.calm=true) (mo:av X.K M) (hu:X.A.units + 64 < cLine) (f:B2) (hg:Gl X f.name) (hm:X.mg f.name=none) (ha:PE X e te) (hp:aW e=true):
  PE X (.Call (.Name f.name p) [e] [] pos) (fun σ H Q=>te σ H fun x H1=>Dg M f x H1 Q):=by
 intro pins s σ H Q I h;have hs:=bz (env:=X.env) (es:=[]) hp;refine KI (eT I hg hm (CC f) ?_ (by cases f<;>decide) (by cases f<;>decide));refine Li ?_ hs rfl;rw[hs];refine Kq (cz (ha pins s σ H _ I h) fun u s1 ⟨x,H1,I1,r1,q1⟩=>KO ?_);exact GC mo hc hu f I1 r1 q1
theorem wo {X:Cx} {M:Mo} {sc aY:Scope} {elt iter:Expr} {ifs:NZ} {tt:TT} {xs:NW} {ts:NZ} {kt} {pt pos:Pos} {fv:List (Str × Nat)} {wi:L2.St->Hp->(List V->(Hp->Prop)->Hp->Prop)->Prop} {Ξ:XS} {Γ:b0} {el:Ex} (mo:av X.K M) (hc:X.calm=true) (top:fM X) (xo:cV X Ξ)
  (hcf:∀y,(sc.names.lookup y=some .cell\/sc.names.lookup y=some .free)->X.env.kindOf y=some .cell\/X.env.kindOf y=some .free)
  (ok:bM sc aY X.N xs fv=true) (h0:xs.length ≠ 0) (hi:PI X (.Tuple (bN (ff fv xs) (List.range xs.length) ts) kt pt) iter (p8 wi))
  (he:∀σ X',bj X X' aY (ff fv xs)->cV X' (fun C d _ H'=>Ξ C d σ H')->PE X' elt (wE Γ el fun C d _ H'=>Ξ C d σ H'))
  (ht:∀X',bj X X' aY (ff fv xs)->sH X' ifs tt) (hs:∀v,foldedSetIterable iter X.env v=pure v):
  PE X (.ListComp elt [⟨.Tuple (bN (ff fv xs) (List.range xs.length) ts) kt pt,iter,ifs,0⟩] aY pos) (fun σ H Q=>wi σ H fun vs aq H1=>∀D,H1 D=none->M D=none->cK (vO M xs.length) (wE Γ el fun C d _ H'=>Ξ C d σ H') tt (vars σ fv) D aq vs [] (upd H1 D (.lst [])) fun H'=>Q (.ref D) H'):=
 yY (te:=fun σ=>wE Γ el fun C d _ H'=>Ξ C d σ H') mo hc top xo hcf ok h0 hi he ht hs
theorem boot_max:bootBuiltins ("max" :Str)=some (.builtin "max"):=by kernel_rfl
theorem BO {X:Cx} {a b:Expr} {ta tb:TE} {p pos:Pos} (hc:X.calm=true) (hg:Gl X "max") (hm:X.mg "max" =none) (ha:PE X a ta) (hb:PE X b tb) (hp:aW a=true) (hp2:aW b=true):
  PE X (.Call (.Name "max" p) [a,b] [] pos) (fun σ H Q=>ta σ H fun x H1=>tb σ H1 fun y H2=>uL x y H2 Q):=by
 intro pins s σ H Q I h;have hs:=bz (env:=X.env) (es:=[b]) hp;have hs2:=bz (env:=X.env) (es:=[]) hp2;refine KI (eT I hg hm boot_max ?_);refine Li ?_ hs (by rw[hs2];rfl);rw[hs,hs2];refine Kq (cz (ha pins s σ H _ I h) fun v s1 ⟨x,H1,I1,r1,q1⟩=>Kq (cz (hb pins s1 σ H1 _ I1 q1) fun u s2 ⟨y,H2,I2,r2,q2⟩=>KO ?_));exact Bj hc I2 r1 r2 q2
theorem boot_zip:bootBuiltins ("zip" :Str)=some (.type "zip"):=by kernel_rfl
theorem tm {P:Program} {w:World} {h h':Heap} {a:Addr} {τ:NW} {m:Nat} (x:PySem.Sx.eD P w h a τ m) (k:∀b o,h.get? b=some o->h'.get? b=some o):PySem.Sx.eD P w h' a τ m:=by
 obtain⟨o,es,ep,t,h1,r⟩:=x;exact⟨o,es,ep,t,k _ _ h1,r⟩
theorem keys_nodup {P:Program} {w:World} {h:Heap} {a:Addr} {vs:List (Key × Value)} {ts:NW} (d:h.DictOf (aS P w) a vs) (e:vs.map (·.1)=ts.map Sum.inr):ts.Nodup:=by
 obtain⟨_,_,_,_,_,_,_,_,nd⟩:=d;rw[e]at nd;exact(Ku.mp nd).imp fun h e=>h (by rw[e])
theorem xr {P:Program} {w:World} {h h':Heap} {a:Addr} {vs:List (Key × Value)} (d:h.DictOf (aS P w) a vs) (k:∀b o,h.get? b=some o->h'.get? b=some o):h'.DictOf (aS P w) a vs:=
 let ⟨o,es,ep,h1,r⟩:=d;⟨o,es,ep,k _ _ h1,r⟩
theorem Am {X:Cx} {pins:NT} {s:Shared} {σ:L2.St} {H:Hp} {i:Nat} {x:Str} {v:V} {pos:Pos} {Q:NS} {E:NS} (I:Inv X pins σ H s) (hN:X.N[i]?=some x) (hv:CG X.env.scope x) (hd:(x == ("__debug__" :Str))=false) (hcd:(x == ("__classdict__" :Str))=false)
  (e:σ[i]?=some (some v)) (q:∀u,RelV v u->Q u s):wpAny (model X.prog X.w) X.A (eval (.Name x pos) X.env) Q E s:=by
 obtain⟨m,hn,hl⟩:=I.loc;obtain⟨u,r,l⟩:=hl i x v hN e hv;have fin:=q u r;rcases l with ⟨hk,hm⟩ | ⟨hk,c,hc,hcell⟩
 ·exact MM (wpAny_loadName_local I.ok.kind hk hn hm fin) hd
 ·rcases hk with hk | hk
  ·exact MM (wpAny_loadName_cell I.ok.kind hk hc hcell fin) hd
  ·exact MM (wpAny_loadName_free I.ok.kind hk hc hcell fin hcd) hd
theorem BL {X:Cx} {Γ:b0} {sc:Scope} {k:Nat} {i j:Nat} {p p1 p2 q1 q2 r1 r2 pb pos:Pos} (C:Ctx X Γ sc k) (hc:X.calm=true) (g1:Gl X "sorted") (g2:Gl X "set") (hi:decide (i < X.N.length)=true) (vi:gK sc (nx X.N i)=true/\cF (nx X.N i)=true) (hj:decide (j < X.N.length)=true) (vj:gK sc (nx X.N j)=true/\cF (nx X.N j)=true):
  PE X (.Call (.Name "sorted" p) [.BinOp (.Call (.Name "set" p1) [.Name (nx X.N i) q1] [] r1) .BitXor (.Call (.Name "set" p2) [.Name (nx X.N j) q2] [] r2) pb] [] pos) (fun σ H Q=>∃x y,σ[i]?=some (some x)/\σ[j]?=some (some y)/\CP Γ.mod x y H Q):=by
 intro pins s σ H Q I h;obtain⟨x,y,e1,e2,a,b,ts,us,rfl,rfl,⟨ka,ha,kt⟩,⟨kb,hb,ku⟩,fa,fb,q⟩:=h;obtain⟨a1,a2,_⟩:=dQ vi.2;obtain⟨b1,b2,_⟩:=dQ vj.2;have m1:=C.g.no "sorted" (by decide +kernel);have m2:=C.g.no "set" (by decide +kernel);obtain⟨_,ya,va,ra,da⟩:=oR I.bB ha;obtain⟨_,yb,vb,rb,db⟩:=oR I.bB hb;refine KI (eT I g1 m1 boot_sorted ?_);refine Li ?_ rfl rfl;refine Kq (wpAny_BinOp ?_);refine KI (eT I g2 m2 boot_set ?_);refine K4 ?_ rfl rfl;refine Kq (Am I (eR hi) (C.GV _ vi.1) a1 a2 e1 fun u ru=>KO ?_);cases ru
 refine PySem.Sx.iF (I.ok.hd hc) ya da (ra.keys.symm.trans kt) fa fun h1 t1 S1 k1=>?_;have I1:=Inv.kept (t':=t1) I k1;refine KI (eT I1 g2 m2 boot_set ?_);refine K4 ?_ rfl rfl;refine Kq (Am I1 (eR hj) (C.GV _ vj.1) b1 b2 e2 fun u ru=>KO ?_);cases ru
 refine PySem.Sx.iF (s:={s with heap:=h1,toks:=t1}) (I.ok.hd hc) yb (xr db k1) (rb.keys.symm.trans ku) fb fun h2 t2 S2 k2=>?_;have k12:∀b o,s.heap.get? b=some o->h2.get? b=some o:=fun b o e=>k2 b o (k1 b o e);have ndt:ts.Nodup:=keys_nodup da (ra.keys.symm.trans kt);have ndu:us.Nodup:=keys_nodup db (rb.keys.symm.trans ku);refine PySem.Sx.xS (s:={s with heap:=h2,toks:=t2}) fa fb (tm S1 k2) S2 fun h3 l k3 pl S3=>?_;have k123:∀b o,s.heap.get? b=some o->h3.get? b=some o:=fun b o e=>k3 b o (k12 b o e);obtain⟨x1,x2⟩:=PySem.Sx.lu ndu (pl.nodup_iff.mpr ndt);refine KO ?_;refine PySem.Sg.sY (s:={s with heap:=h3,toks:=t2}) (I.ok.hd hc) (Nc (PySem.Sx.lz _ _) (by rw[pl.length_eq];omega)) S3 fun s' l' out ss e kp2 eg eo et hl hn y1 y2 y3=>?_;refine mC C.g.mod I (fun b o q=>kp2 b o (k123 b o q)) eg eo (JS (by obtain⟨o,_,_,_,ho,_⟩:=S1;exact Lw (Ju (k2 _ _ ho))) (Lw hl)) hn (fP y1) ?_ fun n1 n2=>q ss _ (y2.nodup_iff.mpr x1) (fun z=>?_) y3 n1 n2
 ·rw[Jk,y2.length_eq,Jy];exact JS (PySem.Sx.lz _ _) (by rw[pl.length_eq];omega)
 ·rw[y2.mem_iff,x2 z,pl.mem_iff];exact⟨fun h=>h.symm,fun h=>h.symm⟩
noncomputable def IT (M:Mo) (ta tb:TE):TI:=fun σ H R=>∃Q0:V->V->Hp->Prop,(ta σ H fun x H1=>tb σ H1 fun y H2=>Q0 x y H2)/\∀x y H2,Q0 x y H2->∃p q xs ys,x=.ref p/\y=.ref q/\rd M H2 p=some (.lst xs)/\rd M H2 q=some (.lst ys)/\R (IQ M p q xs ys) H2
theorem DK {X:Cx} {M:Mo} {a b:Expr} {ta tb:TE} {ts:NZ} {kt} {pt p pos:Pos} (mo:av X.K M) (hg:Gl X "zip") (hm:X.mg "zip" =none) (ha:PE X a ta) (hb:PE X b tb) (hp:aW a=true) (hp2:aW b=true):
  PI X (.Tuple ts kt pt) (.Call (.Name "zip" p) [a,b] [] pos) (IT M ta tb):=by
 intro pins s σ H R I ⟨Q0,hw,hq⟩;have hs:=bz (env:=X.env) (es:=[b]) hp;have hs2:=bz (env:=X.env) (es:=[]) hp2;refine Call_ (eT I hg hm boot_zip (K4 ?_ hs (by rw[hs2];rfl)));rw[hs,hs2];refine Kq (cz (ha pins s σ H _ I hw) fun v s1 ⟨x,H1,I1,r1,q1⟩=>Kq (cz (hb pins s1 σ H1 _ I1 q1) fun u s2 ⟨y,H2,I2,r2,q2⟩=>KO ?_));obtain⟨p1,p2,xs,ys,rfl,rfl,e1,e2,hR⟩:=hq x y H2 q2;cases (show v=Value.ref p1 from r1)
 cases (show u=Value.ref p2 from r2)
 obtain⟨us,_,l1,_⟩:=I2.list (bg mo e1);obtain⟨ws,_,l2,_⟩:=I2.list (bg mo e2);have lt1:@LT.lt Nat _ p1 s2.heap.objs.size:=by obtain⟨o,e,_⟩:=id l1.isList;exact Ju e
 have eS:@LT.lt Nat _ p2 s2.heap.objs.size:=by obtain⟨o,e,_⟩:=id l2.isList;exact Ju e
 refine call_zip_2 l1.isList l2.isList fun h' hz hTI hTO h1 h2 hsz k=>?_;have D:ZipApart (s2.heap.objs.size + 4) (s2.heap.objs.size + 2) (s2.heap.objs.size + 3) s2.heap.objs.size (s2.heap.objs.size + 1) p1 p2:=by constructor<;>exact Zl.nd (by omega)
 refine wpAny_pyIter_zip (s:={s2 with heap:=h'}) hz ⟨_,_,_,_,H2,rfl,I2.kept (t':=s2.toks) k,ye mo D,⟨hz,hTI,⟨_,_,hTO⟩,h1,h2⟩,fun b hb=>?_,hR⟩
 have ge:s2.heap.objs.size<=b:=by
  simp only[Jx,Kz,L4]at hb;rcases hb with rfl | rfl | rfl | rfl | rfl<;>first | exact JG _ | exact Nat.le_add_right _ _
 exact I2.Ct ge (I2.bB.fresh ge)
theorem m9 {X:Cx} {M:Mo} {sc aY:Scope} {elt a b:Expr} {xs:NW} {ts:NZ} {kt} {pt p p2 pos:Pos} {fv:List (Str × Nat)} {ta tb:TE} {te:L2.St->TE} {Ξ:XS} (mo:av X.K M) (hc:X.calm=true) (top:fM X) (xo:cV X Ξ)
  (hcf:∀y,(sc.names.lookup y=some .cell\/sc.names.lookup y=some .free)->X.env.kindOf y=some .cell\/X.env.kindOf y=some .free)
  (ok:bM sc aY X.N xs fv=true) (h2:xs.length=2) (hg:Gl X "zip") (hm:X.mg "zip" =none) (ha:PE X a ta) (hb:PE X b tb) (hp:aW a=true) (hp2:aW b=true)
  (he:∀σ X',bj X X' aY (ff fv xs)->cV X' (fun C d _ H'=>Ξ C d σ H')->PE X' elt (te σ))
  {use:Option (Value->Sem Unit)} {R:NS} {pins:NT} {s:Shared} {σ:L2.St} {H:Hp} {Q:V->Hp->Prop} (I:Inv X pins σ H s)
  (h:ta σ H fun x H1=>tb σ H1 fun y H2=>sJ M x y H2 fun ps aq=>∀D,H2 D=none->M D=none->
   cB (wF M) (te σ) (fun _ H Q=>Q true H) (vars σ fv) D aq ps [] (upd H2 D (.lst [])) fun H'=>Q (.ref D) H')
  (hfin:∀D C s' H',Inv X pins σ H' s'->kD X pins H' C->(∃ m,s'.heap.Ns C m)->Q (.ref D) H'->compPost (model X.prog X.w) X.A X.xe use R (.ref D) C (.ok .next) s'):
  wpAny (model X.prog X.w) X.A (comprehension (.ListComp elt [⟨.Tuple (bN (ff fv xs) (List.range xs.length) ts) kt pt,.Call (.Name "zip" p) [a,b] [] p2,[],0⟩] aY pos) aY X.env (firstIterPos [⟨.Tuple (bN (ff fv xs) (List.range xs.length) ts) kt pt,.Call (.Name "zip" p) [a,b] [] p2,[],0⟩] pos) (newList []) (firstAsync [⟨.Tuple (bN (ff fv xs) (List.range xs.length) ts) kt pt,.Call (.Name "zip" p) [a,b] [] p2,[],0⟩]) (firstIter [⟨.Tuple (bN (ff fv xs) (List.range xs.length) ts) kt pt,.Call (.Name "zip" p) [a,b] [] p2,[],0⟩] X.env) use) R X.xe s:=by
 refine m7 (nxt:=wF M) (g:=Ac X.K xs.length (gb (List.range xs.length))) mo hc hcf ok (DK mo hg hm ha hb hp hp2) (fun X' c nd hl=>?_) top xo (he σ) (fun X' c=>yG) (cE rfl) (use:=use) (R:=R) (Q:=Q) I ⟨_,h,fun x y H2 q=>?_⟩ hfin
 ·have cN:X'.N=ff fv xs:=c.N;rw[<-c.K,<-cN];have ln:xs.length<=X'.N.length:=by rw[cN];unfold ff;rw[Jw];omega
  refine l_ c.calm (g_ (by rw[cN];exact nd) fun i hi=>?_) (by rw[nj,J8]) jC;have hi':=L_.mp hi;refine⟨JD hi' ln,hl _ ?_⟩
  have:nx X'.N i=xs[i]:=by
   unfold nx;rw[cN,Kw];unfold ff;rw[JP hi',Jl hi'];rfl
  rw[this];exact KJ hi'
 ·unfold sJ at q;split at q
  ·rename_i p1 p2;split at q
   ·rename_i us ws e1 e2;refine⟨p1,p2,us,ws,rfl,rfl,e1,e2,us.zip ws,_,⟨fun i H st lt=>⟨st,lt⟩,fun i a H y H' R e y1 st nx=>?_,fun i H st le=>⟨st,le⟩⟩,fun D H'=>Q (.ref D) H',fun _ _ z=>z,q⟩;obtain⟨t,a',t1,t2,t3,rfl,rfl⟩:=y1;rw[e]at t3;cases t3
    refine⟨[some a.1,some a.2],h2.symm,nx t t1 t2,fun w0 f Q hw q=>?_⟩;rw[h2]at hw ⊢
    match w0,hw with
    | [b1,b2],_=>exact⟨t,[a.1,a.2],rfl,xR.of ae,rfl,cS rfl q⟩
   ·exact q.elim
  ·exact q.elim
theorem yW {X:Cx} {M:Mo} {sc aY:Scope} {elt a b:Expr} {xs:NW} {ts:NZ} {kt} {pt p p2 pos:Pos} {fv:List (Str × Nat)} {ta tb:TE} {te:L2.St->TE} {Ξ:XS} (mo:av X.K M) (hc:X.calm=true) (top:fM X) (xo:cV X Ξ)
  (hcf:∀y,(sc.names.lookup y=some .cell\/sc.names.lookup y=some .free)->X.env.kindOf y=some .cell\/X.env.kindOf y=some .free)
  (ok:bM sc aY X.N xs fv=true) (h2:xs.length=2) (hg:Gl X "zip") (hm:X.mg "zip" =none) (ha:PE X a ta) (hb:PE X b tb) (hp:aW a=true) (hp2:aW b=true)
  (he:∀σ X',bj X X' aY (ff fv xs)->cV X' (fun C d _ H'=>Ξ C d σ H')->PE X' elt (te σ)):
  PE X (.ListComp elt [⟨.Tuple (bN (ff fv xs) (List.range xs.length) ts) kt pt,.Call (.Name "zip" p) [a,b] [] p2,[],0⟩] aY pos) (fun σ H Q=>ta σ H fun x H1=>tb σ H1 fun y H2=>sJ M x y H2 fun ps aq=>∀D,H2 D=none->M D=none->
   cB (wF M) (te σ) (fun _ H Q=>Q true H) (vars σ fv) D aq ps [] (upd H2 D (.lst [])) fun H'=>Q (.ref D) H'):=by
 intro pins s σ H Q I h;rw[eval_ListComp];refine m9 mo hc top xo hcf ok h2 hg hm ha hb hp hp2 he (use:=none) (R:=EP X pins σ Q) (Q:=Q) I h fun D C s' H' I' f ⟨m,hm⟩ q=>?_;refine⟨m,hm,fun h' sb=>⟨.ref D,H',?_,rfl,q⟩⟩;exact Inv.oD I' f sb
theorem Bx {X:Cx} {M:Mo} {sc aY:Scope} {elt a b:Expr} {xs:NW} {ts:NZ} {kt} {pt p p2 pos:Pos} {fv:List (Str × Nat)} {ta tb:TE} {te:L2.St->TE} {Ξ:XS} (mo:av X.K M) (hc:X.calm=true) (top:fM X) (xo:cV X Ξ)
  (hcf:∀y,(sc.names.lookup y=some .cell\/sc.names.lookup y=some .free)->X.env.kindOf y=some .cell\/X.env.kindOf y=some .free)
  (ok:bM sc aY X.N xs fv=true) (h2:xs.length=2) (hg:Gl X "zip") (hm:X.mg "zip" =none) (ha:PE X a ta) (hb:PE X b tb) (hp:aW a=true) (hp2:aW b=true)
  (he:∀σ X',bj X X' aY (ff fv xs)->cV X' (fun C d _ H'=>Ξ C d σ H')->PE X' elt (te σ))
  {i:Nat} {t:Str} {tp spos:Pos} (hN:X.N.Nodup) (hit:X.N[i]?=some t) (hx:Loc X.env.scope t) (hf:X.fn t=true\/X.env.scope.names.lookup t=some .local)
  (hsw:swapsWith (.ListComp elt [⟨.Tuple (bN (ff fv xs) (List.range xs.length) ts) kt pt,.Call (.Name "zip" p) [a,b] [] p2,[],0⟩] aY pos) (some (.Name t tp)) spos.line X.env=pure true):
  PS X (.Assign [.Name t tp] (.ListComp elt [⟨.Tuple (bN (ff fv xs) (List.range xs.length) ts) kt pt,.Call (.Name "zip" p) [a,b] [] p2,[],0⟩] aY pos) spos) (fun D σ H=>ta σ H fun x H1=>tb σ H1 fun y H2=>sJ M x y H2 fun ps aq=>∀B,H2 B=none->M B=none->
   cB (wF M) (te σ) (fun _ H Q=>Q true H) (vars σ fv) B aq ps [] (upd H2 B (.lst [])) fun H'=>D.nx (σ.set i (some (.ref B))) H'):=by
 intro pins s σ H D I h;rw[ML _ _ _ _ hsw];refine Jh (LU (Jh ?_));show wpAny _ _ (do let _<-comprehension _ _ _ _ _ _ _ (some _)) _ _ _;refine Jh ?_;refine m9 mo hc top xo hcf ok h2 hg hm ha hb hp hp2 he (Q:=fun v H'=>D.nx (σ.set i (some v)) H') I h fun B C s' H' I' f ⟨m,hm⟩ q=>?_;show wpAny _ _ (assign (.Name t tp) X.env (.ref B)) _ _ _;refine Jh (LU ?_);unfold bindName;refine Jh (Kd (Mm ?_));refine Jh (gZ I' hN hit hx (v:=.ref B) rfl (fun s2 I2 ⟨a,sb,ha⟩=>?_) hf);refine Mm ?_
 have hne:C ≠ a:=fun z=>by
  subst z;rcases ha with z | z
  ·exact f.2.1 z
  ·exact f.2.2.2.2.1 _ _ z rfl
 obtain⟨o,es,ep,ho,r⟩:=hm;have ho2:s2.heap.get? C=some o:=(sb.2 C hne).trans ho;refine⟨m,⟨o,es,ep,ho2,r⟩,fun h' sb2=>?_⟩;exact Jm (Jm ⟨_,H',Inv.oD I2 f sb2,q⟩)
theorem wm {X:Cx} {M:Mo} {sc aY:Scope} {elt a b:Expr} {xs:NW} {ts:NZ} {kt} {pt p p2 pos:Pos} {fv:List (Str × Nat)} {ta tb:TE} {Γ:b0} {el:Ex} {Ξ:XS} (mo:av X.K M) (hc:X.calm=true) (top:fM X) (xo:cV X Ξ)
  (hcf:∀y,(sc.names.lookup y=some .cell\/sc.names.lookup y=some .free)->X.env.kindOf y=some .cell\/X.env.kindOf y=some .free)
  (ok:bM sc aY X.N xs fv=true) (h2:xs.length=2) (hg:Gl X "zip") (hm:X.mg "zip" =none) (ha:PE X a ta) (hb:PE X b tb) (hp:aW a=true) (hp2:aW b=true)
  (he:∀σ X',bj X X' aY (ff fv xs)->cV X' (fun C d _ H'=>Ξ C d σ H')->PE X' elt (wE Γ el fun C d _ H'=>Ξ C d σ H')):
  PE X (.ListComp elt [⟨.Tuple (bN (ff fv xs) (List.range xs.length) ts) kt pt,.Call (.Name "zip" p) [a,b] [] p2,[],0⟩] aY pos) (fun σ H Q=>ta σ H fun x H1=>tb σ H1 fun y H2=>sJ M x y H2 fun ps aq=>∀D,H2 D=none->M D=none->
   cB (wF M) (wE Γ el fun C d _ H'=>Ξ C d σ H') (fun _ H Q=>Q true H) (vars σ fv) D aq ps [] (upd H2 D (.lst [])) fun H'=>Q (.ref D) H'):=
 yW (te:=fun σ=>wE Γ el fun C d _ H'=>Ξ C d σ H') mo hc top xo hcf ok h2 hg hm ha hb hp hp2 he
theorem Bv {X:Cx}:sH X [] (fun _ H Q=>Q true H):=fun pins s σ H Q I q=>by
 show wpAny _ _ (pure true) _ _ _;exact Jm ⟨H,I,q⟩
theorem Bu {X:Cx} {c:Expr} {t:TT} (h:PT X c t):sH X [c] t:=fun pins s σ H Q I q=>by
 show wpAny _ _ (forIn [c] true fun c r=>if r=true then do let ok<-isTrue c X.env (eval c X.env);pure (ForInStep.yield ok)else pure (ForInStep.yield r)) _ _ _;rw[LD];simp only[Mz,List.forIn_nil];refine Jh (Jh (cz (h pins s σ H Q I q) fun b s1 z=>Jm ?_));exact Jm z
theorem DJ {X:Cx} {e:Expr} {te:TE} (h:PE X e te):PO X (some e) (fun σ H Q=>te σ H fun x H1=>match x with | .int i=>Q (some i) H1 | _=>False):=by
 intro pins s σ H Q I hw;rw[evalPart_some];refine cz (h pins s σ H _ I hw) fun u s1 ⟨x,H1,I1,r1,q1⟩=>?_;cases x with
 | int i=>
  obtain⟨t,e⟩:=(show ∃t,u=Value.int i t from r1);subst e;exact⟨some i,H1,I1,.int i t,q1⟩
 | _=>exact q1.elim
theorem BK {X:Cx} {tg a:Expr} {ta:TE} {p pos:Pos} (hg:Gl X "range") (hm:X.mg "range" =none) (ha:PE X a ta) (hp:aW a=true):
  PI X tg (.Call (.Name "range" p) [a] [] pos) (p8 fun σ H k=>ta σ H fun x H1=>match x with | .int j=>-(2 ^ 62)<=j/\j < 2 ^ 62/\k ((List.range j.toNat).map fun i:Nat=>.int i) (fun _=>True) H1 | _=>False):=by
 intro pins s σ H R I ⟨kk,hw,hk⟩;have hs:=bz (env:=X.env) (es:=[]) hp;refine Call_ (eT I hg hm boot_range (K4 ?_ hs rfl));rw[hs];refine Kq (cz (ha pins s σ H _ I hw) fun v s1 ⟨x,H1,I1,r1,q1⟩=>KO ?_);cases x with
 | int j=>
  obtain⟨t,e⟩:=(show ∃t,v=Value.int j t from r1);subst e;obtain⟨q1,q2,q⟩:=q1;refine call_range_1 (yC I1 (by omega) (by omega) q1 q2 ?_);have hq:=vX 0 j.toNat;simp only[Int.zero_add]at hq;rw[Int.sub_zero];exact hk _ _ _ _ hq q
 | _=>exact q1.elim
theorem zP {x:V} {k:Key} (h:keyOf x=some k):x=kV k:=by
 cases x<;>first | (cases h;rfl) | cases h
theorem BN {X:Cx} {M:Mo} (mo:av X.K M) {es:NZ} {t:TA} {x1} {pos:Pos} (h:PA X es t):PE X (.Tuple es x1 pos) (fun σ H Q=>t σ H fun xs H1=>xs.length<=sizeLine/\∀p,H1 p=none->M p=none->Q (.ref p) (upd H1 p (.tup xs))):=by
 intro pins s σ H Q I hq;refine wpAny_Tuple_spliced (cz (h pos pins s σ H _ I hq) fun us s1 ⟨xs,H1,I1,r,z,q⟩=>⟨by rw[<-r.length];exact z,?_⟩);have hf:H1 s1.heap.objs.size=none:=I1.bB.fresh (JG _);have I2:Inv X pins σ (upd H1 s1.heap.objs.size (.tup xs)) {s1 with heap:=s1.heap.push {cls:=.type "tuple",data:=.seq us.toArray}}:=I1.laid (t':=s1.toks) (fun b u e=>Jq _ e) (JG _) ⟨z,us,r,⟨_,JE _ rfl,rfl,_,rfl⟩⟩;exact⟨.ref s1.heap.objs.size,_,I2,rfl,q _ hf (iU.new (Inv.tE mo I2))⟩
theorem BS {X:Cx} {M:Mo} (mo:av X.K M) {es:NZ} {t:TA} {pos:Pos} (h:PA X es t):PE X (.List es pos) (fun σ H Q=>t σ H fun xs H1=>xs.length<=sizeLine/\∀p,H1 p=none->M p=none->Q (.ref p) (upd H1 p (.lst xs))):=by
 intro pins s σ H Q I hq;refine wpAny_List_spliced (cz (h pos pins s σ H _ I hq) fun us s1 ⟨xs,H1,I1,r,z,q⟩=>⟨by rw[<-r.length];exact z,?_⟩);have hf:H1 s1.heap.objs.size=none:=I1.bB.fresh (JG _);have I2:Inv X pins σ (upd H1 s1.heap.objs.size (.lst xs)) {s1 with heap:=s1.heap.push {cls:=.type "list",data:=.seq us.toArray}}:=I1.laid (t':=s1.toks) (fun b u e=>Jq _ e) (JG _) ⟨z,us,0,r,JE _ rfl⟩;exact⟨.ref s1.heap.objs.size,_,I2,rfl,q _ hf (iU.new (Inv.tE mo I2))⟩
theorem BU {X:Cx} {v:V} {n:Nat} {p:Pos} (h:IJ v=true):PE X (.Constant (IK v) n p) (fun _ H Q=>Q v H):=by
 cases v
 case int i=>exact DQ
 case str x=>exact DN
 case bl b=>exact FI
 case aQ=>exact DO
 all_goals cases h
theorem yS {X:Cx} {Γ:b0} {sc:Scope} {k:Nat} {x:Str} {p:Pos} (C:Ctx X Γ sc k) (hg:gu sc x=true) (ho:cF x=true):
  PE X (.Name x p) (fun _ H Q=>match Γ.con x with | some v=>Q v H | none=>False):=by
 intro pins s σ H Q I q;cases e:Γ.con x with
 | none=>rw[e]at q;exact q.elim
 | some v=>
  rw[e]at q;obtain⟨u,hu,ru⟩:=C.g.con _ _ e;exact u_ I (C.gl _ hg) hu ⟨v,H,I,ru,q⟩ (dQ ho).1
theorem BM {X:Cx} {Γ:b0} {sc:Scope} {k:Nat} {i:Nat} {p:Pos} (C:Ctx X Γ sc k) (hi:decide (i < X.N.length)=true) (h:gK sc (nx X.N i)=true/\cF (nx X.N i)=true):
  PE X (.Name (nx X.N i) p) (fun σ H Q=>match σ[i]? with | some (some v)=>Q v H | _=>False):=by
 obtain⟨o1,o2,o3⟩:=dQ h.2;refine PE.of (DM (eR hi) (C.GV _ h.1) o1 o2) fun σ H Q q=>?_
 match e:σ[i]?,q with
 | some (some v),q=>exact⟨v,e,q⟩
theorem GH {N:NW} {b:Ex} {tl:NZ} {p:Pos} (h:zW b=true):∃x r,bE N b (.BoolOp .And tl p)=.BoolOp .And (x::r) p:=by
 cases b<;>first | exact⟨_,_,rfl⟩ | cases h
theorem HC {N:NW} {b:Ex} {tl:NZ} {p:Pos} (h:Ew b=true):∃x r,bE N b (.BoolOp .Or tl p)=.BoolOp .Or (x::r) p:=by
 cases b<;>first | exact⟨_,_,rfl⟩ | cases h
theorem uS {N:NW} {b:Ex} {a:Expr} {l:Bool} {e1:Expr} {tl:NZ} {p:Pos} {o1 o2:Bool} {P:Expr->Prop} (h:cond l o1 (zW b && o2)=true)
  (h1:o1=true->P (.BoolOp .And [a,bE N b e1] p)) (h2:o2=true->∀x r,bE N b (.BoolOp .And tl p)=.BoolOp .And (x::r) p->P (.BoolOp .And (a::x::r) p)):
  P (.BoolOp .And (a::cond l [bE N b e1] (ek (bE N b (.BoolOp .And tl p)))) p):=by
 cases l with
 | true=>exact h1 h
 | false=>
  obtain⟨h,ho⟩:=a2 h;obtain⟨x,r,e⟩:=GH (N:=N) (tl:=tl) (p:=p) h;rw[e];exact h2 ho x r e
theorem yB {N:NW} {b:Ex} {a:Expr} {l:Bool} {e1:Expr} {tl:NZ} {p:Pos} {o1 o2:Bool} {P:Expr->Prop} (h:cond l o1 (Ew b && o2)=true)
  (h1:o1=true->P (.BoolOp .Or [a,bE N b e1] p)) (h2:o2=true->∀x r,bE N b (.BoolOp .Or tl p)=.BoolOp .Or (x::r) p->P (.BoolOp .Or (a::x::r) p)):
  P (.BoolOp .Or (a::cond l [bE N b e1] (ek (bE N b (.BoolOp .Or tl p)))) p):=by
 cases l with
 | true=>exact h1 h
 | false=>
  obtain⟨h,ho⟩:=a2 h;obtain⟨x,r,e⟩:=HC (N:=N) (tl:=tl) (p:=p) h;rw[e];exact h2 ho x r e
theorem BW {X:Cx} {Γ:b0} {sc:Scope} {k:Nat} {f:Bf} {es:NZ} {t:TA} {p pos:Pos} (C:Ctx X Γ sc k) (hg:gu sc f.name=true) (ho:cF f.name=true) (h0:es.length ≠ 0) (ha:PA X es t) (hp:∀e' ∈ es,aW e'=true):
  PE X (.Call (.Name f.name p) es [] pos) (fun σ H Q=>Γ.cm=true/\t σ H fun vs H1=>gN Γ.mod f vs H1 Q):=by
 intro pins s σ H Q I ⟨hc,q⟩;cases es with
 | nil=>exact absurd rfl h0
 | cons e es=>exact BX (C.calm hc) C.g.mod f rfl (C.gl _ hg) (C.g.no _ (GB f)) ho ha hp pins s σ H Q I q
theorem BQ {X:Cx} {Γ:b0} {m:Mf} {o:Expr} {es:NZ} {apos cpos:Pos} {to:TE} {t:TA} (mo:av X.K Γ.mod) (ho:PE X o to) (hn:jn o=true) (hl:(apos.endLine == cpos.line)=true) (hf:es.length < 20) (ha:PA X es t) (hp:∀e' ∈ es,aW e'=true) (h0:es=[]->t=fun _ H Q=>Q [] H):
  PE X (.Call (.Attribute o m.name apos) es [] cpos) (fun σ H Q=>to σ H fun x H1=>D_ Γ.mod m x H1=true/\t σ H1 fun vs H2=>fq Γ.mod m x vs H2 Q):=by
 cases es with
 | nil=>rw[h0 rfl];exact BR mo ho hn hl
 | cons e es=>exact DP mo ho ha hp hn hl hf
theorem nil_of {N:NW} {Γ:b0} {Ξ:XS} {es:NZ}:∀ (args:lq),nW N args es=[]->wEs Γ args Ξ=fun _ H Q=>Q [] H
 | .nil,_=>rfl
 | .cons _ _,h=>nomatch (show _::_=[]from h)
theorem yT {X:Cx} {M:Mo} (mo:av X.K M) {pos:Pos}:PE X (.Dict [] [] pos) (fun _ H Q=>∀p,H p=none->M p=none->Q (.ref p) (upd H p (.dK []))):=by
 intro pins s σ H Q I h;exact cz (yV pins s σ H (fun v H'=>iU M H'->Q v H') I fun p hp of=>h p hp of.new) fun _ _=>p_ mo
theorem cN {P:List Str->Prop} {a b:NW} (e:a=b) (h:P a):P b:=e ▸ h
theorem jR {X:Cx} {Γ:b0} {sc:Scope} {k:Nat} {e:Expr} {te:TE} {t:TT} (C:Ctx X Γ sc k) (h:PE X e te) (hl:∀whole,isTrue e X.env whole=(do let v<-whole;standAt e.pos;holding [v] (truthy v))) (i:∀σ H Q,t σ H Q->te σ H fun x H1=>dS Γ.mod x H1 fun k=>Q k H1):PT X e t:=
 PT.of (DE C.g.mod h hl) i
mutual
theorem sE:(e:Ex)->∀ {X:Cx} {sc:Scope} {Ξ:XS} {ast:Expr},Ctx X Γ sc k->cV X Ξ->oE sc X.N e ast=true->PE X (bE X.N e ast) (wE Γ e Ξ)
 | .var i=>fun C xo h=>BM C (a2 h).1 (a2 (a2 h).2)
 | .con v=>fun C xo h=>BU h
 | .glob x=>fun C xo h=>yS C (a2 h).1 (a2 h).2
 | .bin op a b=>fun C xo h=>FH (EK C.g.mod op) (sE a C xo (a2 h).1) (sE b C xo (a2 h).2)
 | .neg a=>fun C xo h=>FG A7 (sE a C xo h)
 | .cmp op a b=>fun C xo h=>kR (AE C.un C.g.mod op) (sE a C xo (a2 h).1) (sE b C xo (a2 h).2) (cH (aO b))
 | .and a b=>fun C xo h=>uS (P:=fun e=>PE _ e (wE Γ (.and a b) _)) (a2 h).2
   (fun h2=>u4 C.g.mod (sE a C xo (a2 h).1) (yQ (sE b C xo h2)))
   (fun h2 x r e=>u4 C.g.mod (sE a C xo (a2 h).1) (e ▸ sE b C xo h2))
 | .or a b=>fun C xo h=>yB (P:=fun e=>PE _ e (wE Γ (.or a b) _)) (a2 h).2
   (fun h2=>yP C.g.mod (sE a C xo (a2 h).1) (yQ (sE b C xo h2)))
   (fun h2 x r e=>yP C.g.mod (sE a C xo (a2 h).1) (e ▸ sE b C xo h2))
 | .not a=>fun C xo h=>BP C.g.mod (sE a C xo h)
 | .ite c a b=>fun C xo h=>yR (sT c C xo (a2 h).1) (sE a C xo (a2 (a2 h).2).1) (sE b C xo (a2 (a2 h).2).2)
 | .call f args=>fun C xo h=>yZ C xo (C.gl _ (a2 (a2 h).1).1) (a2 (a2 h).1).2 (E8 args C xo (a2 h).2) (ik args) (nil_of args)
 | .blt f args=>fun C xo h=>BW C (a2 (a2 h).1).1 (a2 (a2 h).1).2 (by rw[qm];exact JX (a2 (a2 (a2 h).2).1).2) (E8 args C xo (a2 (a2 h).2).2) (ik args)
 | .mth m o args=>fun C xo h=>BQ C.g.mod (sE o C xo (a2 (a2 (a2 h).2).2).1) (a2 (a2 h).1).1 (a2 (a2 h).1).2 (by rw[qm];exact JX (a2 (a2 h).2).1) (E8 args C xo (a2 (a2 (a2 h).2).2).2) (ik args) (nil_of args)
 | .idx a b=>fun C xo h=>C2 (Ez C.g.mod) (sE a C xo (a2 h).1) (sE b C xo (a2 h).2) (q9 (aO b))
 | .slc a lo hi=>fun C xo h=>yO (Dw C.g.mod) (sE a C xo (a2 h).1) (sP lo C xo (a2 (a2 h).2).1) (sP hi C xo (a2 (a2 h).2).2)
 | .tup es=>fun C xo h=>BN C.g.mod (E8 es C xo h)
 | .lst es=>fun C xo h=>BS C.g.mod (E8 es C xo h)
 | .comp x fv it elt ifs=>fun C xo h pins s σ H Q I q=>
  yX (Γ:=Γ) (el:=elt) C.g.mod (C.calm q.1) C.top xo C.cf (a2 (a2 h).1).1 (sI it C xo (a2 (a2 h).2).1)
   (fun σ X' c xc=>cN (P:=fun N=>PE X' (bE N elt _) _) c.N (sE elt (C.comp c q.1) xc (cN (P:=fun N=>oE _ N elt _=true) c.N.symm (a2 (a2 (a2 h).2).2).1)))
   (fun X' c=>cN (P:=fun N=>sH X' (nW N ifs _) _) c.N (GZ ifs (C.comp c q.1) cV.no (cN (P:=fun N=>rj _ N ifs _=true) c.N.symm (a2 (a2 (a2 h).2).2).2) (JX (a2 (a2 h).1).2)))
   (cE (fL it)) pins s σ H Q I q.2
 | .cmpD op a b=>fun C xo h=>kR (vN C.un C.g.mod op) (sE a C xo (a2 h).1) (sE b C xo (a2 h).2) (cH (aO b))
 | .idxD a b=>fun C xo h=>C2 (Cr C.g.mod) (sE a C xo (a2 h).1) (sE b C xo (a2 h).2) (q9 (aO b))
 | .dnew=>fun C xo h=>yT C.g.mod
 | .blt2 f a=>fun C xo h pins s σ H Q I q=>FJ (C.calm q.1) C.g.mod C.un f (C.gl _ (a2 h).1) (C.g.no _ (GD f)) (sE a C xo (a2 h).2) (aO a) pins s σ H Q I q.2
 | .smax a b=>fun C xo h pins s σ H Q I q=>BO (C.calm q.1) (C.gl _ (a2 h).1) (C.g.no _ (by decide +kernel)) (sE a C xo (a2 (a2 h).2).1) (sE b C xo (a2 (a2 h).2).2) (aO a) (aO b) pins s σ H Q I q.2
 | .cmpP a b=>fun C xo h=>kR (vK C.un C.g.mod) (sE a C xo (a2 h).1) (sE b C xo (a2 h).2) (cH (aO b))
 | .cmpI op a b=>fun C xo h=>kR (vM C.un C.g.mod op) (sE a C xo (a2 h).1) (sE b C xo (a2 h).2) (cH (aO b))
 | .xors i j=>fun C xo h pins s σ H Q I q=>BL C (C.calm q.1) (C.gl _ (a2 (a2 h).1).1) (C.gl _ (a2 (a2 h).1).2) (a2 (a2 (a2 h).2).1).1 (a2 (a2 (a2 (a2 h).2).1).2) (a2 (a2 (a2 h).2).2).1 (a2 (a2 (a2 (a2 h).2).2).2) pins s σ H Q I q.2
 | .compZ xs fv a b elt=>fun C xo h pins s σ H Q I q=>
  wm (Γ:=Γ) (el:=elt) C.g.mod (C.calm q.1) C.top xo C.cf (a2 (a2 h).1).1 (JX (a2 (a2 h).1).2) (C.gl _ (a2 (a2 h).2).1) (C.g.no _ zX) (sE a C xo (a2 (a2 (a2 h).2).2).1) (sE b C xo (a2 (a2 (a2 (a2 h).2).2).2).1) (aO a) (aO b)
   (fun σ X' c xc=>cN (P:=fun N=>PE X' (bE N elt _) _) c.N (sE elt (C.comp c q.1) xc (cN (P:=fun N=>oE _ N elt _=true) c.N.symm (a2 (a2 (a2 (a2 h).2).2).2).2))) pins s σ H Q I q.2
 | .compU xs fv it elt ifs=>fun C xo h pins s σ H Q I q=>
  wo (Γ:=Γ) (el:=elt) C.g.mod (C.calm q.1) C.top xo C.cf (a2 (a2 h).1).1 (JX (a2 (a2 (a2 h).1).2).1) (sI it C xo (a2 (a2 h).2).1)
   (fun σ X' c xc=>cN (P:=fun N=>PE X' (bE N elt _) _) c.N (sE elt (C.comp c q.1) xc (cN (P:=fun N=>oE _ N elt _=true) c.N.symm (a2 (a2 (a2 h).2).2).1)))
   (fun X' c=>cN (P:=fun N=>sH X' (nW N ifs _) _) c.N (GZ ifs (C.comp c q.1) cV.no (cN (P:=fun N=>rj _ N ifs _=true) c.N.symm (a2 (a2 (a2 h).2).2).2) (JX (a2 (a2 (a2 h).1).2).2)))
   (cE (fL it)) pins s σ H Q I q.2
theorem sT:(e:Ex)->∀ {X:Cx} {sc:Scope} {Ξ:XS} {ast:Expr},Ctx X Γ sc k->cV X Ξ->oE sc X.N e ast=true->PT X (bE X.N e ast) (wT Γ e Ξ)
 | .and a b=>fun C xo h=>uS (P:=fun e=>PT _ e (wT Γ (.and a b) _)) (a2 h).2
   (fun h2=>PW.pt (yD (sT a C xo (a2 h).1) (Bt (sT b C xo h2))))
   (fun h2 x r e=>PW.pt (yD (sT a C xo (a2 h).1) fun _=>(show PT _ (.BoolOp .And (x::r) _) (wT Γ b _)from e ▸ sT b C xo h2)))
 | .or a b=>fun C xo h=>yB (P:=fun e=>PT _ e (wT Γ (.or a b) _)) (a2 h).2
   (fun h2=>PW.pt (CZ (sT a C xo (a2 h).1) (DD (sT b C xo h2))))
   (fun h2 x r e=>PW.pt (CZ (sT a C xo (a2 h).1) fun _=>(show PT _ (.BoolOp .Or (x::r) _) (wT Γ b _)from e ▸ sT b C xo h2)))
 | .not a=>fun C xo h=>DF (sT a C xo h)
 | .ite c a b=>fun C xo h=>DG (sT c C xo (a2 h).1) (sT a C xo (a2 (a2 h).2).1) (sT b C xo (a2 (a2 h).2).2)
 | .cmp op a b=>fun C xo h=>kQ (AE C.un C.g.mod op) (sE a C xo (a2 h).1) (sE b C xo (a2 h).2) (cH (aO b))
 | .var i=>fun C xo h=>jR C (sE (.var i) C xo h) (fun _=>rfl) fun σ H Q q=>q
 | .call f args=>fun C xo h=>jR C (sE (.call f args) C xo h) (fun _=>rfl) fun σ H Q q=>q
 | .blt f args=>fun C xo h=>jR C (sE (.blt f args) C xo h) (fun _=>rfl) fun σ H Q q=>q
 | .mth m o args=>fun C xo h=>jR C (sE (.mth m o args) C xo h) (fun _=>rfl) fun σ H Q q=>q
 | .idx a b=>fun C xo h=>jR C (sE (.idx a b) C xo h) (fun _=>rfl) fun σ H Q q=>q
 | .con v=>fun C xo h=>jR C (sE (.con v) C xo h) (fun _=>rfl) fun σ H Q q=>q
 | .glob x=>fun C xo h=>PT.never fun σ H Q q=>q
 | .bin op a b=>fun C xo h=>PT.never fun σ H Q q=>q
 | .neg a=>fun C xo h=>PT.never fun σ H Q q=>q
 | .slc a lo hi=>fun C xo h=>PT.never fun σ H Q q=>q
 | .tup es=>fun C xo h=>PT.never fun σ H Q q=>q
 | .lst es=>fun C xo h=>PT.never fun σ H Q q=>q
 | .comp x fv it elt ifs=>fun C xo h=>PT.never fun σ H Q q=>q
 | .cmpD op a b=>fun C xo h=>kQ (vN C.un C.g.mod op) (sE a C xo (a2 h).1) (sE b C xo (a2 h).2) (cH (aO b))
 | .idxD a b=>fun C xo h=>PT.never fun σ H Q q=>q
 | .dnew=>fun C xo h=>PT.never fun σ H Q q=>q
 | .blt2 f a=>fun C xo h=>PT.never fun σ H Q q=>q
 | .smax a b=>fun C xo h=>PT.never fun σ H Q q=>q
 | .cmpP a b=>fun C xo h=>kQ (vK C.un C.g.mod) (sE a C xo (a2 h).1) (sE b C xo (a2 h).2) (cH (aO b))
 | .cmpI op a b=>fun C xo h=>kQ (vM C.un C.g.mod op) (sE a C xo (a2 h).1) (sE b C xo (a2 h).2) (cH (aO b))
 | .xors i j=>fun C xo h=>PT.never fun σ H Q q=>q
 | .compZ xs fv a b elt=>fun C xo h=>PT.never fun σ H Q q=>q
 | .compU xs fv it elt ifs=>fun C xo h=>PT.never fun σ H Q q=>q
theorem sP:(es:lq)->∀ {X:Cx} {sc:Scope} {Ξ:XS} {ast:Expr},Ctx X Γ sc k->cV X Ξ->rj sc X.N es [ast]=true->PO X (nW X.N es [ast]).head? (wP Γ es Ξ)
 | .nil=>fun C xo h=>BG
 | .cons e .nil=>fun C xo h=>DJ (sE e C xo (a2 h).1)
 | .cons e (.cons f r)=>fun C xo h pins s σ H Q I q=>False.elim q
theorem GZ:(es:lq)->∀ {X:Cx} {sc:Scope} {Ξ:XS} {asts:NZ},Ctx X Γ sc k->cV X Ξ->rj sc X.N es asts=true->es.len<=1->sH X (nW X.N es asts) (wTs Γ es Ξ)
 | .nil=>fun C xo h hl=>Bv
 | .cons e .nil=>fun C xo h hl=>Bu (sT e C xo (a2 h).1)
 | .cons e (.cons _ r)=>fun C xo h hl=>absurd (Nat.le_of_succ_le_succ hl) (Nat.not_succ_le_zero _)
theorem sI:(it:Ix)->∀ {X:Cx} {sc:Scope} {Ξ:XS} {tg ast:Expr},Ctx X Γ sc k->cV X Ξ->oI sc X.N it ast=true->PI X tg (bI X.N it ast) (p8 (wI Γ it Ξ))
 | .ex e=>fun C xo h pins s σ H R I ⟨kk,hw,hk⟩=>
  cz (sE e C xo h pins s σ H _ I hw) fun v s1 ⟨x,H1,I1,r1,q1⟩=>DL C.g.mod I1 r1 (tS q1 fun xs aq q J sq=>hk J xs aq H1 sq q)
 | .rng1 a=>fun C xo h=>BK (C.gl _ (a2 h).1) (C.g.no _ zY) (sE a C xo (a2 h).2) (aO a)
theorem E8:(es:lq)->∀ {X:Cx} {sc:Scope} {Ξ:XS} {asts:NZ},Ctx X Γ sc k->cV X Ξ->rj sc X.N es asts=true->PA X (nW X.N es asts) (wEs Γ es Ξ)
 | .nil=>fun C xo h=>DR
 | .cons e r=>fun C xo h=>BY (sE e C xo (a2 h).1) (E8 r C xo (a2 h).2) (bz (aO e))
end
end
noncomputable def aD (ys:List (Addr × Str)):NX:=ys.map fun y=>.ref y.1
theorem za {keys:NV} {ys:List (Addr × Str)} (hk:StrsAre keys.toList (ys.map (·.2))) {xs:Array Keyed} (hp:xs.Perm (keys.zip (aD ys).toArray)) (hs:SortedToK strKind xs xs.size):
  ∃zs:List (Addr × Str),zs.Perm ys/\(xs.map (·.2)).toList=aD zs/\zs.Pairwise E9:=by
 have hl:xs.toList.Perm (keys.toList.zip (aD ys)):=by rw[<-ksk_zip];exact K_.mp hp
 let f:Keyed->Addr × Str:=fun p=>((match p.2 with | .ref a=>a | _=>0),strOf p.1)
 have e1:(keys.toList.zip (aD ys)).map f=ys:=by
  have:∀ (ks:NX) (ys:List (Addr × Str)),StrsAre ks (ys.map (·.2))->(ks.zip (aD ys)).map f=ys:=by
   intro ks ys
   induction ys generalizing ks with
   | nil=>intro h;cases ks<;>rfl
   | cons y r ih=>
    intro h;cases h with
    | cons _ t h'=>
     have e:=ih _ h';show List.map f ((Value.str y.2 t,Value.ref y.1)::List.zip _ (aD r))=y::r;rw[JF,e];rfl
  exact this _ _ hk
 have mem:∀p ∈ xs.toList,(∃ x t,p.1=.str x t)/\∃a,p.2=.ref a:=fun p h=>by
  have h:=hl.mem_iff.mp h;obtain⟨a,b⟩:=p;obtain⟨h1,h2⟩:=Lz h;obtain⟨y,_,rfl⟩:=Jn.mp h2;exact⟨hk.all _ h1,_,rfl⟩
 refine⟨xs.toList.map f,by have:=hl.map f;rwa[e1]at this,?_,?_⟩
 ·rw[Array.toList_map];unfold aD;rw[JT];refine KD fun p h=>?_;obtain⟨_,a,e⟩:=mem p h;show p.2=Value.ref (match p.2 with | .ref a=>a | _=>0);rw[e]
 ·rw[Kp];intro i j hi hj hij;have hi':i < xs.size:=by simpa using hi
  have hj':j < xs.size:=by simpa using hj
  have h1:=hs i j (Lw hij) hj';obtain⟨⟨x,t,ex⟩,_⟩:=mem xs[i] (by simp);obtain⟨⟨y,u,ey⟩,_⟩:=mem xs[j] (by simp);rw[KK_str hi' (x:=x) (t:=t) (q:=xs[i].2) (Prod.ext ex rfl),KK_str hj' (x:=y) (t:=u) (q:=xs[j].2) (Prod.ext ey rfl)]at h1
  change decide (y.cps.toList < x.cps.toList)=false at h1
  unfold E9;simp only[List.getElem_map,Array.getElem_toList];show ltCps (strOf xs[j].1).cps.toList (strOf xs[i].1).cps.toList=false;rw[show strOf xs[i].1=x by rw[ex];rfl,show strOf xs[j].1=y by rw[ey];rfl,ltCps_eq];exact h1
theorem wV {keys:NV} {ks:NW} (hk:StrsAre keys.toList ks) (h2:2<=keys.size):keyKind' keys=pure oneType':=by
 obtain⟨v₁,v₂,rest,e⟩:∃v₁ v₂ rest,keys.toList=v₁::v₂::rest:=by
  have hl:2<=keys.toList.length:=by rw[JK];exact h2
  cases q:keys.toList with
  | nil=>rw[q]at hl;simp at hl
  | cons v₁ r=>
   cases r with
   | nil=>rw[q]at hl;simp at hl
   | cons v₂ rest=>exact⟨v₁,v₂,rest,rfl⟩
 have ek:keys=(v₁::v₂::rest).toArray:=by rw[<-e,Mg]
 rw[e]at hk;rw[ek];exact keyKind_strs hk
theorem Cj {keys:NV} {vs:NX} {ks:NW} (hk:StrsAre keys.toList ks):KeysOf strKind (keys.zip vs.toArray):=by
 intro p hp;rw[ksk_zip]at hp;obtain⟨x,y⟩:=p;obtain⟨z,t,e⟩:=hk.all _ (Lz hp).1;exact⟨z.cps.toList,by rw[e]⟩
section
variable {X:Cx} {M:Mo} {pins:NT} {σ:L2.St} {k:Nat} {vc:Addr->Sp} {ys:List (Addr × Str)} {g a kS:Addr}
structure xJ (M:Mo) (H:Hp) (ys:List (Addr × Str)) (H2:Hp) (l:Addr) (zs:List (Addr × Str)):Prop where
 old:∀b o,H b=some o->H2 b=some o
 off:∀b,M b ≠ none->H b=none->H2 b=none
 new:H l=none
 mod:M l=none
 at_:H2 l=some (.lst (zs.map fun z=>.ref z.1))
 perm:zs.Perm ys
 up:zs.Pairwise E9
theorem ph:∀ys:List (Addr × Str),Vals (ys.map fun y=>.ref y.1) (aD ys)
 | []=>.nil
 | _::r=>.cons rfl (ph r)
structure qx (M:Mo) (H:Hp) (a kS:Addr) (H':Hp):Prop where
 old:∀b o,H b=some o->H' b=some o
 off:∀b,M b ≠ none->H b=none->H' b=none
 aH:H a=none
 kH:H kS=none
 aM:M a=none
 kM:M kS=none
 ne:kS ≠ a
theorem qx.upd {H H':Hp} {o:HO} {b:Addr} (m:qx M H a kS H') (hb:b=a\/b=kS):qx M H a kS (upd H' b o):=by
 have h1:H b=none:=by exact hb.elim (fun z=>z ▸ m.aH) (fun z=>z ▸ m.kH)
 have h2:M b=none:=by exact hb.elim (fun z=>z ▸ m.aM) (fun z=>z ▸ m.kM)
 refine⟨fun c u e=>?_,fun c e n=>?_,m.aH,m.kH,m.aM,m.kM,m.ne⟩
 ·rw[af (aj e h1)];exact m.old c u e
 ·rw[af (fun z=>e (by rw[z];exact h2))];exact m.off c e n
theorem rM {H H':Hp} {s:Shared} {keys:NV} {e e1:Nat} {st:SortSt} {P:PySem.Fin->Shared->Prop} {E:NS} {A:Around} (m:qx M H a kS H') (I:Inv X pins σ H' s)
  (ak:s.heap.get? kS=some (seqObj "list" keys e)) (aa:s.heap.get? a=some (seqObj "list" #[] e1)) (hK:H' kS=some (.lst ((ys.map (·.2)).map V.str))) (hA:H' a=some (.lst [])) (hk:StrsAre keys.toList (ys.map (·.2))) (h64:ys.length < 64)
  (hp:(arrOf st).Perm (keys.zip (aD ys).toArray)) (hs:SortedToK strKind (arrOf st) (arrOf st).size) (hfl:failedOf st=none)
  (h:∀H2 s2 zs,Inv X pins σ H2 s2->xJ M H ys H2 a zs->P (.done (.ret .none)) s2):wpAny (model X.prog X.w) A (ksk_tail a false e1 (.ref kS) st) P E s:=by
 obtain⟨zs,z1,z2,z3⟩:=za hk hp hs
 have hsz:keys.size=ys.length:=by
  have h1:=hk.length;rw[JK,Jk]at h1;exact h1
 have zl:zs.length=ys.length:=z1.length_eq;have i1:=Inv.wN (t':=s.toks) (ys:=[]) (aA:=keys.toList) (its':=[]) (f:=fun _=>#[]) I hK (by simpa using ak) rfl .nil (J3 _);have m1:qx M H a kS (upd H' kS (.lst [])):=m.upd (.inr rfl);have a1:(s.heap.update kS (Obj.mapSeq fun _=>(#[]:NV))).get? a=some (seqObj "list" #[] e1):=(Kh _ _ m.ne).trans aa;have hA1:upd H' kS (.lst []) a=some (.lst []):=by rw[af (Kv m.ne)];exact hA
 unfold ksk_tail;dsimp only;refine Jh (Ml ak rfl ?_ (by rw[hsz,Jy];omega) (J3 _));refine Jh (wpAny_letGo ?_);refine Jh (seqEpoch_at a1 rfl ?_);refine Jh (Ml a1 rfl ?_ (J3 _) ?_)
 ·rw[hfl];simp only[MF,Ke,Lj];refine Jm (h _ _ zs (Inv.wN (ys:=zs.map fun z=>.ref z.1) (aA:=[]) (its':=aD zs) (f:=fun _=>(arrOf st).map (·.2)) (t':=s.toks) i1 hA1 a1 (by rw[<-z2,Mg]) (ph zs) (by rw[Jk,zl,Jy];omega)) ?_);have m2:qx M H a kS (upd (upd H' kS (.lst [])) a (.lst (zs.map fun z=>.ref z.1))):=m1.upd (.inl rfl);exact⟨m2.old,m2.off,m.aH,m.aM,ae,z1,z3⟩
 ·have:((arrOf st).map (·.2)).size=ys.length:=by
   rw[<-JK,z2];unfold aD;rw[Jk,zl]
  simp only[Ke,Lj];rw[this,Jy];omega
theorem Ck {H H':Hp} {s:Shared} {keys:NV} {e e1:Nat} {P:PySem.Fin->Shared->Prop} {E:NS} {A:Around} (m:qx M H a kS H') (I:Inv X pins σ H' s)
  (ak:s.heap.get? kS=some (seqObj "list" keys e)) (aa:s.heap.get? a=some (seqObj "list" #[] e1)) (hK:H' kS=some (.lst ((ys.map (·.2)).map V.str))) (hA:H' a=some (.lst [])) (hk:StrsAre keys.toList (ys.map (·.2))) (h64:ys.length < 64)
  (h:∀H2 s2 zs,Inv X pins σ H2 s2->xJ M H ys H2 a zs->P (.done (.ret .none)) s2):wpAny (model X.prog X.w) A (ksk_end a false (aD ys).toArray e1 (.ref kS) keys) P E s:=by
 have hsz:keys.size=ys.length:=by
  have h1:=hk.length;rw[JK,Jk]at h1;exact h1
 have hrl:(aD ys).length=ys.length:=by unfold aD;rw[Jk]
 have hzs:(keys.zip (aD ys).toArray).size=ys.length:=by rw[Array.size_zip,hsz,JH,hrl,Nat.min_self]
 unfold ksk_end;dsimp only;simp only[Ke,Lj]
 by_cases h2:(aD ys).toArray.size < 2
 ·rw[Jj h2,Jj h2];refine Jh (Jm ?_);rw[StateT.run_pure];refine Jh (Jm ?_);dsimp only;refine rM (st:=SortSt.mk' general' (keys.zip (aD ys).toArray) #[] 7 none) m I ak aa hK hA hk h64 (MU _) ?_ rfl h;intro i j hij hj;have hj2:j < (keys.zip (aD ys).toArray).size:=hj;rw[hzs]at hj2;rw[JH,hrl]at h2;have:i=j:=by omega
  subst this;exact strKind.irrefl _
 ·rw[Ji h2,Ji h2];rw[JH,hrl]at h2;rw[wV hk (by rw[hsz];omega)];refine Jh (Jm ?_)
  refine Jh (KW (wpS_sortRunsK (κ:=strKind) (a₀:=keys.zip (aD ys).toArray) (st:=SortSt.mk' oneType' (keys.zip (aD ys).toArray) #[] 7 none)
   (Q:=fun _ st'=>(arrOf st').Perm (keys.zip (aD ys).toArray)/\failedOf st'=none/\SortedToK strKind (arrOf st') (keys.zip (aD ys).toArray).size)
   strKind_oneLt (Cj hk) ⟨MU _,rfl,rfl,rfl⟩ (by rw[hzs];omega) (by rw[hzs];exact h64) fun st' a1 a2 a3=>⟨a1,a2,a3⟩) ?_ fun _ _ e=>e)
  rintro⟨⟨⟩,st'⟩ s' ⟨rfl,hp,hf,hs⟩
  dsimp only;exact rM m I ak aa hK hA hk h64 hp (by rw[hp.size_eq];exact hs) hf h
end
section
variable {X:Cx} {M:Mo} {pins:NT} {σ:L2.St} {k:Nat} {vc:Addr->Sp} {ys:List (Addr × Str)} {g a kS:Addr}
structure Apart (X:Cx) (pins:NT) (a:Addr):Prop where
 s0:X.s₀.heap.objs.size<=a
 nl:a ≠ X.env.locals
 nc:∀x c,X.env.cells.lookup x=some c->c ≠ a
 np:∀p ∈ X.pn++pins,p.1 ≠ a
theorem Inv.apart {H:Hp} {s:Shared} (I:Inv X pins σ H s) (h:s.heap.objs.size<=a):Apart X pins a:=
 ⟨JS I.sz h,KS (JD I.lt h),fun x c e=>(let ⟨_,q⟩:=I.cell x c e;JC (JD q.lt h)),fun p hp=>JC (JD (Ju (I.pin p hp).1) h)⟩
theorem Apart.D8 {H:Hp} {s:Shared} (I:Inv X pins σ H s) (f:Apart X pins a):a ∉ xQ X.stack:=fun z=>by
 rcases Jx.mp (I.pF _ z)with e | hb
 ·exact f.nl e
 ·obtain⟨_,o,e,_⟩:=I.ok.jV.mem hb;exact absurd (Ju e) (MA.mpr f.s0)
theorem Inv.sR {H:Hp} {s:Shared} {o:HO} (I:Inv X pins σ H s) (hn:H a=none) (f:Apart X pins a) (new:cA X.prog X.w (upd H a o) s.heap a o):Inv X pins σ (upd H a o) s:=by
 have ne:∀b u,H b=some u->b ≠ a:=fun b u e=>aj e hn;refine⟨I.ok,I.os,I.bare,⟨I.base.keep,I.base.slot,fun b ob e n hx=>?_,I.base.there,fun b xs e=>?_,fun b ob u e=>?_,fun b qs e=>?_⟩,I.loc,I.cell,by rw[af (Kv f.nl)];exact I.free,fun x c e=>by rw[af (f.nc x c e)];exact I.fz x c e,fun p hp'=>?_,?_,I.len⟩
 ·rw[af (JC (JD (Ju e) f.s0))];exact I.base.free b ob e n hx
 ·have q:=I.base.lH b xs e;rw[af (ne _ _ q)];exact q
 ·have q:=I.base.kz b ob u e;rw[af (ne _ _ q)];exact q
 ·obtain⟨m,q⟩:=I.base.kq b qs e;exact⟨m,by rw[af (ne _ _ q)];exact q⟩
 ·obtain⟨h1,h2,h3⟩:=I.pin p hp';exact⟨h1,by rw[af (f.np p hp')];exact h2,h3⟩
 ·intro b u e
  by_cases hb:b=a
  ·subst hb;rw[ae]at e;cases e;exact new
  ·rw[af hb]at e;exact(I.bB b u e).aq (fun _ _ _ q=>q) (fun d q=>by rw[af (ne _ _ q)];exact q) fun d xs q=>by rw[af (ne _ _ q)];exact q
theorem Inv.forget {H:Hp} {s:Shared} {xs:List V} (I:Inv X pins σ (upd H a (.lst xs)) s) (hn:H a=none) (f:Apart X pins a):Inv X pins σ H s:=by
 have nt:∀ {b:Addr} {o:HO},(∀ ys,o ≠ .lst ys)->upd H a (.lst xs) b=some o->H b=some o:=fun{b o} no q=>by
  by_cases hb:b=a
  ·subst hb;rw[ae]at q;exact absurd (JL q).symm (no xs)
  ·rwa[af hb]at q
 have un:∀ {b:Addr},upd H a (.lst xs) b=none->H b=none:=fun{b} q=>by
  by_cases hb:b=a
  ·subst hb;exact hn
  ·rwa[af hb]at q
 refine⟨I.ok,I.os,I.bare,⟨I.base.keep,I.base.slot,fun b ob e n hx=>un (I.base.free b ob e n hx),I.base.there,fun b xs e=>nt (fun _ z=>nomatch z) (I.base.lH b xs e),fun b ob u e=>nt (fun _ z=>nomatch z) (I.base.kz b ob u e),fun b qs e=>?_⟩,I.loc,I.cell,un I.free,fun x c e=>un (I.fz x c e),fun p hp'=>?_,?_,I.len⟩
 ·obtain⟨m,q⟩:=I.base.kq b qs e;exact⟨m,nt (fun _ z=>nomatch z) q⟩
 ·obtain⟨h1,h2,h3⟩:=I.pin p hp';exact⟨h1,un h2,h3⟩
 ·intro b u e;have hb:b ≠ a:=aj e hn;exact(I.bB b u (by rw[af hb];exact e)).aq (fun _ _ _ q=>q) (fun d q=>nt (fun _ z=>nomatch z) q) fun d xs q=>nt (fun _ z=>nomatch z) q
theorem zO {H H':Hp} {s:Shared} {e1:Nat} {P:PySem.Fin->Shared->Prop} {E:NS} {A:Around} (F:kC X.prog X.w X.K X.mg X.base k vc) (hr:dM k A) (hfr:A.frames=some X.stack) (m:qx M H a kS H') (I:Inv X pins σ H' s) (fa:Apart X pins a)
  (aa:s.heap.get? a=some (seqObj "list" #[] e1)) (hK:H' kS=some (.lst [])) (hA:H' a=none) (h64:ys.length < 64)
  (turn:∀y ∈ ys,∀H1,(∀ b o,H b=some o->H1 b=some o)->∀Q:VK,Q (.str y.2) H1->vc g [.ref y.1] H1 Q (fun _ _ _=>False))
  (h:∀H2 s2 zs,Inv X pins σ H2 s2->xJ M H ys H2 a zs->P (.done (.ret .none)) s2):wpAny (model X.prog X.w) A (ksk_rest a (.ref g) false (aD ys).toArray e1 (.ref kS)) P E s:=by
 have hrl:(aD ys).length=ys.length:=by unfold aD;rw[Jk]
 have store:∀ {s1:Shared} {H1:Hp} {ks:NW},Inv X pins σ H1 s1->H1 kS=some (.lst (ks.map V.str))->∃kA n,s1.heap.get? kS=some (seqObj "list" kA n)/\StrsAre kA.toList ks/\Vals (ks.map V.str) kA.toList:=fun I1 e=>by
  obtain⟨_,aA,n,r,q⟩:=I1.bB _ _ e;refine⟨aA.toArray,n,q,?_,by simpa using r⟩
  have:∀ {ks:NW} {aA:NX},Vals (ks.map V.str) aA->StrsAre aA ks:=by
   intro ks
   induction ks with
   | nil=>intro aA r;cases r;exact .nil
   | cons x l ih=>intro aA r;cases r with | cons h t=>obtain⟨tk,rfl⟩:=h;exact .cons x tk (ih t)
  simpa using this r
 unfold ksk_rest;refine Jh (Kr ?_)
 first
  | rw[List.forIn_toArray]
  | (rw[<-LZ];simp only[List.toList_toArray])
  | rw[<-LZ]
 refine Jh (ksk_fold (fun i s'=>∃H1,Inv X pins σ H1 s'/\qx M H a kS H1/\s'.heap.get? a=some (seqObj "list" #[] e1)/\H1 kS=some (.lst (((ys.take i).map (·.2)).map V.str))/\H1 a=none) (aD ys) 0 s ⟨H',I,m,aa,hK,hA⟩ ?step ?done)
 case step=>
  rintro j x s' hx ⟨H1,I1,m1,a1,k1,n1⟩
  simp only[Kf]at k1 ⊢;have hj:j < ys.length:=by rw[<-hrl];exact(Jv.mp hx).1
  obtain⟨y,ey⟩:∃y,ys[j]?=some y:=⟨_,Jl hj⟩
  have ex:x=.ref y.1:=by
   unfold aD at hx;rw[JJ,ey]at hx;exact(JL hx).symm
  subst ex
  have e0:xK X.prog X.w X.K X.mg X.base A X.stack s' H1:=by
   have:=I1.Gh;exact⟨hfr,this.mod,this.bs,this.Cz,this.jV,this.EB,this.bB,this.bare⟩
  have hc:=F.run A X.stack s' H1 g [.ref y.1] [.ref y.1] (fun v H2=>v=.str y.2/\H2=H1) (fun _ _ _=>False) hr e0 (.cons rfl .nil) (turn y (Jp ey) H1 m1.old _ ⟨rfl,rfl⟩);refine Jh (Lo (wpAny_call (Mw hc fun r s2 hq=>?_)));cases r with
  | error e=>exact False.elim hq
  | ok fl=>
   cases fl with
   | next=>exact False.elim hq
   | brk=>exact False.elim hq
   | cont=>exact False.elim hq
   | ret u=>
    have hq:CE X.stack X.prog X.w H1 s' (fun v H2=>v=.str y.2/\H2=H1) u s2:=hq;have un:=hq;obtain⟨_,H3,_,_,un,_,_,_,rfl⟩:=un;have a2:s2.heap.get? a=some (seqObj "list" #[] e1):=un.keep a _ a1 n1 (fa.D8 I1) (by simp);obtain⟨v,H3,I2,ru,rfl,rfl⟩:=I1.after hq;obtain⟨tk,rfl⟩:=ru;obtain⟨kA,n,hk,hs,hv⟩:=store I2 k1;have ek:(ys.take (j + 1)).map (·.2)=(ys.take j).map (·.2)++[y.2]:=by rw[L9,ey];simp
    have lk:kA.size<=ys.length:=by
     have h1:=hs.length;rw[JK,Jk,J4]at h1;omega
    have i3:=Inv.wN (t':=s2.toks) (ys:=((ys.take (j + 1)).map (·.2)).map V.str) (aA:=kA.toList) (its':=kA.toList++[.str y.2 tk]) (f:=(·.push (.str y.2 tk))) I2 k1 (by simpa using hk) (by rw[<-KP,Mg,Mg]) (by rw[ek,JA];exact hv.append (.cons ⟨tk,rfl⟩ .nil))
     (by rw[Jk,Jk,J4,Jy];omega)
    show wpAny _ _ _ _ _ _;dsimp only;refine Jh (Ml hk rfl (Jm ⟨rfl,_,i3,m1.upd (.inr rfl),(Kh _ _ m1.ne).trans a2,ae,by rw[af (Kv m1.ne)];exact n1⟩) (by rw[Jy];omega) (JS (My (Array.size_push ..)) (by rw[Jy];omega)))
 case done=>
  rintro s' ⟨H1,I1,m1,a1,k1,n1⟩
  rw[Kf,hrl,KC]at k1;obtain⟨kA,n,hk,hs,_⟩:=store I1 k1;have I2:=Inv.sR (o:=.lst []) I1 n1 fa ⟨J3 _,[],e1,.nil,a1⟩;refine Jh (listItems_at hk rfl ?_);exact Ck (m1.upd (.inl rfl)) I2 hk a1 (by rw[af m1.ne];exact k1) ae hs h64 h
theorem FT {H:Hp} {s:Shared} (mo:av X.K M) (I:Inv X pins σ H s) {b:Addr} (h:s.heap.objs.size<=b):M b=none:=by
 cases q:M b with
 | none=>rfl
 | some o=>
  obtain⟨ob,e⟩:=mo.look (a:=b) (by rw[q];exact fun z=>nomatch z);exact absurd (Ju (I.zQ _ _ e)) (MA.mpr h)
theorem zN {H:Hp} {s:Shared} {n:Nat} {P:PySem.Fin->Shared->Prop} {E:NS} {A:Around} (F:kC X.prog X.w X.K X.mg X.base k vc) (mo:av X.K M) (hr:dM k A) (hfr:A.frames=some X.stack) (I:Inv X pins σ H s) (fa:Apart X pins a) (aM:M a=none)
  (aa:s.heap.get? a=some (seqObj "list" (aD ys).toArray n)) (hA:H a=none) (h64:ys.length < 64)
  (turn:∀y ∈ ys,∀H1,(∀ b o,H b=some o->H1 b=some o)->∀Q:VK,Q (.str y.2) H1->vc g [.ref y.1] H1 Q (fun _ _ _=>False))
  (h:∀H2 s2 zs,Inv X pins σ H2 s2->xJ M H ys H2 a zs->P (.done (.ret .none)) s2):wpAny (model X.prog X.w) A (ksk_tree a (.ref g) false) P E s:=by
 have hrl:(aD ys).length=ys.length:=by unfold aD;rw[Jk]
 have ha:a < s.heap.objs.size:=Ju aa;obtain⟨e1,ho1⟩:∃e1,(s.heap.update a (Obj.mapSeq fun _=>(#[]:NV))).get? a=some (seqObj "list" #[] e1):=⟨_,get?_update_seq aa fun _=>#[]⟩
 -- a is told for the moment in which it is emptied
 have I1:=Inv.sR (o:=.lst (ys.map fun y=>.ref y.1)) I hA fa ⟨by rw[Jk,Jy];omega,aD ys,n,ph ys,aa⟩;have I2:=Inv.wN (t':=s.toks) (ys:=[]) (aA:=aD ys) (its':=[]) (f:=fun _=>#[]) I1 ae aa rfl .nil (J3 _)
 have I3:Inv X pins σ H {s with heap:=s.heap.update a (Obj.mapSeq fun _=>(#[]:NV))}:=by
  have e:upd (upd H a (.lst (ys.map fun y=>.ref y.1))) a (.lst [])=upd H a (.lst []):=by
   funext b
   by_cases hb:b=a
   ·subst hb;rw[ae,ae]
   ·rw[af hb,af hb,af hb]
  rw[e]at I2;exact Inv.forget I2 hA fa
 have hkS:((s.heap.update a (Obj.mapSeq fun _=>(#[]:NV))).push (seqObj "tuple" (aD ys).toArray 0)).objs.size=s.heap.objs.size + 1:=by rw[size_push',NB]
 have nkS:s.heap.objs.size<=((s.heap.update a (Obj.mapSeq fun _=>(#[]:NV))).push (seqObj "tuple" (aD ys).toArray 0)).objs.size:=by rw[hkS];exact K8 _
 unfold ksk_tree;refine Jh (listItems_at aa rfl ?_);refine Jh (Ml aa rfl ?_ (by rw[JH,hrl,Jy];omega) (J3 _));refine Jh (seqEpoch_at ho1 rfl ?_);refine Jh (wpAny_newTuple ?_ (by show(aD ys).length<=_;rw[hrl,Jy];omega));refine Jh (Mk ?_ (J3 _));refine Kd ?_;have I4:=Inv.kept (t':=s.toks) (h':=(s.heap.update a (Obj.mapSeq fun _=>(#[]:NV))).push (seqObj "tuple" (aD ys).toArray 0)) I3 fun b o e=>Jq _ e
 have I5:=Inv.laid (t':=s.toks) (a:=((s.heap.update a (Obj.mapSeq fun _=>(#[]:NV))).push (seqObj "tuple" (aD ys).toArray 0)).objs.size) (o:=.lst []) (h':=((s.heap.update a (Obj.mapSeq fun _=>(#[]:NV))).push (seqObj "tuple" (aD ys).toArray 0)).push (seqObj "list" #[] 0)) I4
  (fun b o e=>Jq _ e) (JG _) ⟨J3 _,[],0,.nil,JE _ rfl⟩
 have kH:H ((s.heap.update a (Obj.mapSeq fun _=>(#[]:NV))).push (seqObj "tuple" (aD ys).toArray 0)).objs.size=none:=I.bB.fresh nkS;have kM:=FT mo I nkS
 refine zO (s:={s with heap:=((s.heap.update a (Obj.mapSeq fun _=>(#[]:NV))).push (seqObj "tuple" (aD ys).toArray 0)).push (seqObj "list" #[] 0)}) F hr hfr
  ⟨fun b o e=>by rw[af (aj e kH)];exact e,fun b hm e=>by rw[af (fun z=>hm (by rw[z];exact kM))];exact e,hA,kH,aM,kM,by rw[hkS];exact KS (J0 ha)⟩ I5 fa
  (Jq _ (Jq _ ho1)) ae (by rw[af (by rw[hkS];exact JC (J0 ha))];exact hA) h64 turn h
theorem tR {H:Hp} {s:Shared} {l:Addr} {Q:VK} {E:NS} (F:kC X.prog X.w X.K X.mg X.base k vc) (mo:av X.K M) (hr:dM (k + 2) X.A) (I:Inv X pins σ H s) (hl:s.heap.IsList l (aD ys).toArray) (h64:ys.length < 64)
  (turn:∀y ∈ ys,∀H1,(∀ b o,H b=some o->H1 b=some o)->∀Q:VK,Q (.str y.2) H1->vc g [.ref y.1] H1 Q (fun _ _ _=>False))
  (h:∀H2 d zs,xJ M H ys H2 d zs->Q (.ref d) H2):wpAny (model X.prog X.w) X.A (call (.builtin "sorted") [.ref l] [(Str.ofString "key",.ref g)]) (EP X pins σ Q) E s:=by
 have hrl:(aD ys).length=ys.length:=by unfold aD;rw[Jk]
 refine call_function_entry_kw kind_sorted plain_sorted entry_sorted (ksk_s1 _ _) ?_;unfold Builtin.«sorted»;refine Jh (m:=checkCount "sorted" 1 1 _) (Jm ?_);refine Jh (collect_list hl ?_ (by rw[hrl,Jy];omega));refine Jh (Mk ?_ (by rw[hrl,Jy];omega))
 have hsz:((s.heap.push (seqObj "list" #[] 0)).update s.heap.objs.size (Obj.mapSeq (·++(aD ys).toArray))).objs.size=s.heap.objs.size + 1:=by
  rw[NB,size_push']
 have hoL:(((s.heap.push (seqObj "list" #[] 0)).update s.heap.objs.size (Obj.mapSeq (·++(aD ys).toArray))).push (seqObj "list" (aD ys).toArray 0)).get? (s.heap.objs.size + 1)=some (seqObj "list" (aD ys).toArray 0):=by
  rw[<-hsz];exact JE _ rfl
 have keep:∀b o,s.heap.get? b=some o->(((s.heap.push (seqObj "list" #[] 0)).update s.heap.objs.size (Obj.mapSeq (·++(aD ys).toArray))).push (seqObj "list" (aD ys).toArray 0)).get? b=some o:=fun b o q=>by
  have hlt:b < s.heap.objs.size:=Ju q;rw[Heap.get?_push_ne _ _ _ (by rw[hsz];exact JC (J0 hlt)),Heap.get?_update_ne _ _ _ _ (JC hlt),Heap.get?_push_ne _ _ _ (JC hlt)];exact q
 show wpAny _ _ _ _ _ {s with heap:=((s.heap.push (seqObj "list" #[] 0)).update s.heap.objs.size (Obj.mapSeq (·++(aD ys).toArray))).push (seqObj "list" (aD ys).toArray 0)};rw[hsz];have I1:=Inv.kept (t':=s.toks) I keep;refine Jh (Kd (wpAny_call_entry_kw M6 ⟨_,hoL,rfl⟩ MR ?body (ksk_l1 _ _)))
 case body=>
  show wpAny (model X.prog X.w) X.A.in1.in1 (Builtin.«list.sort» ⟨[.ref (s.heap.objs.size + 1)],[(Str.ofString "key",.ref g)]⟩) _ _ _;rw[ksk_t1];refine zN (s:={s with heap:=((s.heap.push (seqObj "list" #[] 0)).update s.heap.objs.size (Obj.mapSeq (·++(aD ys).toArray))).push (seqObj "list" (aD ys).toArray 0)}) F mo hr.in1.in1 I.ok.frames I1 (Inv.apart I (K8 _)) (FT mo I (K8 _)) hoL (I.bB.fresh (K8 _)) h64 turn fun H2 s2 zs I2 o=>⟨_,rfl,?_⟩;exact Jm ⟨_,rfl,.ref _,H2,I2,rfl,h H2 _ zs o⟩
end
open PySem.W (Frag keepIn ktsIn mroIn kitOne tabObj CodeHd codeHdIn codeHd_of_K kla_fn kla_obj kla_eval kla_makeFunction kla_makeFunctionHit kla_callFunE kla_codeExpr)
section
variable {X:Cx} {pins:NT} {σ:L2.St} {H:Hp} {s:Shared} {h':Heap} {P:Addr} {ps more:NV}
theorem Inv.grown {t':Nat} (I:Inv X pins σ H s) (hT:H P=some (.tbl ps)) (hx:Heap.ExtBut P s.heap h') (hP:h'.get? P=some (tabObj (ps++more))):
  Inv X pins σ (upd H P (.tbl (ps++more))) {s with heap:=h',toks:=t'}:=by
 have k:∀b o,b ≠ P->s.heap.get? b=some o->h'.get? b=some o:=fun b o hb e=>hx b o hb e;have np:∀b,H b=none->b ≠ P:=fun b n z=>by rw[z,hT]at n;cases n
 refine I.un (t':=t') (h':=h') (H':=upd H P (.tbl (ps++more))) ⟨fun b o e n _ _=>k b o (np b n) e,fun b o e n _ _=>⟨o.slots,k b o (np b n) e⟩,fun b o e n _=>by rw[af (np b n)];exact n,fun b o e _=>?_,fun b xs e=>?_,fun b o x e=>?_,fun b qs e=>?_⟩ (fun b o e=>?_)
 ·by_cases hb:b=P
  ·exact⟨_,by rw[hb];exact hP⟩
  ·exact⟨o,k b o hb e⟩
 ·rw[af (fun z=>by rw[z,hT]at e;cases e)];exact e
 ·rw[af (fun z=>by rw[z,hT]at e;cases e)];exact e
 ·by_cases hb:b=P
  ·subst hb;rw[hT]at e;cases e;exact⟨more,ae⟩
  ·exact⟨#[],by rw[af hb,e];simp⟩
 ·by_cases hb:b=P
  ·subst hb;rw[ae]at e;cases e;exact hP
  ·rw[af hb]at e;refine(I.bB b o e).aq (fun c u hc q=>k c u ?_ q) (fun c q=>by rw[af (fun z=>by rw[z,hT]at q;cases q)];exact q) fun c xs q=>by rw[af (fun z=>by rw[z,hT]at q;cases q)];exact q
   rcases hc with rfl | hc
   ·exact hb
   ·exact fun z=>by rw[z,hT]at hc;cases hc
end
noncomputable def rO:Ex:=.idx (.idx (.var 0) (.con (.int 1))) (.con (.int 0))
structure CK (X:Cx) (D:jH) (Ts:List Tb) (k:Nat):Prop where
 cc:∃cc,X.env.code=.ref cc/\codeHdIn X.K cc D.T=true
 B:X.base.BuiltinsAt X.mg D.T
 iq:X.env.qual++("<lambda>" :Str)=D.iq
 cl:closureFor D.scope X.env=pure []
 d0:defaultsOf D.args X.env=([],[])
 t0:(D.T,D.pos,D.iq) ∈ Ts
 t1:∀t ∈ Ts,t.1=D.T->t=(D.T,D.pos,D.iq)
 k4:5<=k
 S:aN [D.x] [D.x] D.scope
 hm:bE [D.x] rO D.body=D.body/\oE D.scope [D.x] rO D.body=true
 hb:∀ (pm ctv cd:Value) (us:NX),us.length=1->bindArgs (kla_fn "<lambda>" D.iq D.args D.body D.scope [] pm cd ctv) ⟨us,[]⟩=pure ([D.x].zip us)
section
variable {X:Cx} {M:Mo} {pins:NT} {σ:L2.St} {H:Hp} {s:Shared} {D:jH} {Ts:List Tb} {k:Nat}
theorem zL (L:CK X D Ts k) (mo:av X.K M) (I:Inv X pins σ H s) (hTs:∀t ∈ Ts,TabAt H t) {E:NS} {Q:NS} (hcl:closureFor D.scope X.env=pure [])
  (q:∀ (g c':Addr) (pm ctv:Value) (H2:Hp) (s2:Shared),Inv X pins σ H2 s2->H2 g=some (.clo (kla_fn "<lambda>" D.iq D.args D.body D.scope [] pm (.ref c') ctv))->H2 c'=some (.cod D.iq)->(∀ t ∈ Ts,TabAt H2 t)->eK M H H2->H g=none->Q (.ref g) s2):
  wpAny (model X.prog X.w) X.A (eval D.le X.env) Q E s:=by
 obtain⟨cc,hcd,hhd⟩:=L.cc;have hns:s.heap.Ns mainGlobals X.mg:=I.mod.glob.keeps I.bk;have hBs:s.heap.BuiltinsAt X.mg D.T:=let ⟨bm,o,h1,h2,h3,h4,h5,r⟩:=L.B;⟨bm,o,h1,h2,h3,h4,I.bk _ _ h5,r⟩
 have CH:CodeHd s.heap cc D.T:=codeHd_of_K I.zQ hhd;refine kla_eval L.d0 ?_;rw[L.iq];rcases hTs _ L.t0 with hP | ⟨c',hP,hc'⟩
 ·have hP:H D.T=some (.tbl #[]):=hP
  have hgT:mainGlobals ≠ D.T:=fun z=>by
   obtain⟨o,es,ep,e,_⟩:=I.mod.glob;have:=(I.bs _ _ e).2;rw[z,hP]at this;cases this
  refine kla_makeFunction (mg:=X.mg) hcl I.ok.glob hns hcd CH (I.bB D.T _ hP) trivial rfl hgT hBs fun c' ctv h' tk hx hge hlt hrec htb=>?_;have I2:=Inv.grown (t':=tk) (more:=#[rawInt D.pos.line,rawInt D.pos.col,.ref c']) I hP hx htb;have hTlt:D.T < s.heap.objs.size:=I.bB.lt hP
  have hcn:upd H D.T (.tbl (#[]++#[rawInt D.pos.line,rawInt D.pos.col,.ref c'])) c'=none:=by
   rw[af (KS (JD hTlt hge))];exact I.bB.fresh hge
  have I3:=Inv.sR (a:=c') (o:=.cod D.iq) I2 hcn (Inv.apart I hge) hrec
  have I4:=Inv.laid (a:=h'.objs.size) (t':=tk) (o:=.clo (kla_fn "<lambda>" D.iq D.args D.body D.scope [] ((X.mg "__name__").getD .none) (.ref c') ctv)) I3
   (h':=h'.push (kla_obj "<lambda>" D.iq D.args D.body D.scope [] ((X.mg "__name__").getD .none) c' ctv)) (fun b u e=>Jq _ e) (JG _) (JE _ rfl)
  have old:∀b o,H b=some o->b ≠ D.T->upd (upd (upd H D.T (.tbl (#[]++#[rawInt D.pos.line,rawInt D.pos.col,.ref c']))) c' (.cod D.iq)) h'.objs.size (.clo (kla_fn "<lambda>" D.iq D.args D.body D.scope [] ((X.mg "__name__").getD .none) (.ref c') ctv)) b=some o:=fun b o e ne=>by
   have hb:=I.bB.lt e;rw[af (JC (MO (JD hb hge) hlt)),af (JC (JD hb hge)),af ne];exact e
  have hcc:upd (upd (upd H D.T (.tbl (#[]++#[rawInt D.pos.line,rawInt D.pos.col,.ref c']))) c' (.cod D.iq)) h'.objs.size (.clo (kla_fn "<lambda>" D.iq D.args D.body D.scope [] ((X.mg "__name__").getD .none) (.ref c') ctv)) c'=some (.cod D.iq):=by
   rw[af (JC hlt),ae]
  refine q h'.objs.size c' _ ctv _ _ I4 ae hcc (fun t ht=>?_) ⟨fun a o e n=>old a o e (fun z=>n #[] (by rw[z,hP]at e;exact(JL e).symm)),fun a ma e=>?_,fun a h z=>?_⟩ (I.bB.fresh (JS hge (Lw hlt)))
  ·by_cases ht1:t.1=D.T
   ·have:=L.t1 t ht ht1;subst this;refine .inr ⟨c',?_,hcc⟩;show upd _ _ _ D.T=_;rw[af (JC (MO (JD hTlt hge) hlt)),af (JC (JD hTlt hge)),ae];rfl
   ·rcases hTs t ht with q | ⟨c2,q,q2⟩
    ·exact .inl (old _ _ q ht1)
    ·exact .inr ⟨c2,old _ _ q ht1,old _ _ q2 (fun z=>by rw[z,hP]at q2;cases q2)⟩
  ·obtain⟨ob,e2⟩:=mo.look ma;have hlt2:a < s.heap.objs.size:=Ju (I.zQ _ _ e2);rw[af (JC (MO (JD hlt2 hge) hlt)),af (JC (JD hlt2 hge)),af (fun z=>by rw[z,hP]at e;cases e)];exact e
  ·by_cases ha:a=D.T
   ·rw[ha,af (JC (MO (JD hTlt hge) hlt)),af (JC (JD hTlt hge)),ae]at z;cases z
   ·cases q:H a with
    | none=>exact h q
    | some o=>rw[old a o q ha]at z;cases z
 ·have hP:H D.T=some (.tbl #[rawInt D.pos.line,rawInt D.pos.col,.ref c']):=hP;have hc':H c'=some (.cod D.iq):=hc';refine kla_makeFunctionHit (mg:=X.mg) (cv:=.ref c') hcl I.ok.glob hns hcd CH (I.bB D.T _ hP) (by simp[TriplesOk,rawInt]) (by simp[codeAmong,rawInt]) hBs fun ctv h' tk hk hsz=>?_;have I2:=Inv.kept (t':=tk) I hk
  have I4:=Inv.laid (a:=h'.objs.size) (t':=tk) (o:=.clo (kla_fn "<lambda>" D.iq D.args D.body D.scope [] ((X.mg "__name__").getD .none) (.ref c') ctv)) I2
   (h':=h'.push (kla_obj "<lambda>" D.iq D.args D.body D.scope [] ((X.mg "__name__").getD .none) c' ctv)) (fun b u e=>Jq _ e) (JG _) (JE _ rfl)
  have old:∀b o,H b=some o->upd H h'.objs.size (.clo (kla_fn "<lambda>" D.iq D.args D.body D.scope [] ((X.mg "__name__").getD .none) (.ref c') ctv)) b=some o:=fun b o e=>by
   rw[af (JC (JD (I.bB.lt e) hsz))];exact e
  refine q h'.objs.size c' _ ctv _ _ I4 ae (old _ _ hc') (fun t ht=>?_) ⟨fun a o e n=>old a o e,fun a ma e=>?_,fun a h z=>?_⟩ (I.bB.fresh hsz)
  ·rcases hTs t ht with q | ⟨c2,q,q2⟩
   ·exact .inl (old _ _ q)
   ·exact .inr ⟨c2,old _ _ q,old _ _ q2⟩
  ·obtain⟨ob,e2⟩:=mo.look ma;have hlt2:a < s.heap.objs.size:=Ju (I.zQ _ _ e2);rw[af (JC (JD hlt2 hsz))];exact e
  ·cases q:H a with
   | none=>exact h q
   | some o=>rw[old a o q]at z;cases z
end
noncomputable def GQ (D:jH) (H:Hp) (f:Addr):Prop:=∃ (c':Addr) (pm ctv:Value),H f=some (.clo (kla_fn "<lambda>" D.iq D.args D.body D.scope [] pm (.ref c') ctv))/\H c'=some (.cod D.iq)
noncomputable def Fy (D:jH):Addr->Sp:=fun f vs H Q _=>∃t k,vs=[.ref t]/\km H (t,k)/\GQ D H f/\Q (.str k) H
section
variable {P:Program} {w:World} {K:Frag} {mg:NY} {base:Heap} {Γ:b0} {k:Nat}
theorem Dm {D:jH} (g:b9 P w K mg base Γ k) (S:aN [D.x] [D.x] D.scope) (hm:bE [D.x] rO D.body=D.body/\oE D.scope [D.x] rO D.body=true)
  (hb:∀ (pm ctv cd:Value) (us:NX),us.length=1->bindArgs (kla_fn "<lambda>" D.iq D.args D.body D.scope [] pm cd ctv) ⟨us,[]⟩=pure ([D.x].zip us)):kC P w K mg base (k + 2) (Fy D):=by
 refine⟨fun A outer s H f us vs Q E hr e0 r hsp=>?_,fun s H f vs Q E _ bB hsp=>?_⟩
 ·obtain⟨t,ky,rfl,⟨w0,q,xs,k1,k2⟩,⟨c',pm,ctv,hf,hcd⟩,hq⟩:=hsp;have hfo:s.heap.get? f=some {cls:=.type "function",data:=.func (kla_fn "<lambda>" D.iq D.args D.body D.scope [] pm (.ref c') ctv)}:=e0.bB f _ hf;have hco:s.heap.CodeRec (.ref c') D.iq:=e0.bB c' _ hcd;have lim:s.heap.NoLimit:=e0.mod.nolimit.keeps fun b o e=>(e0.bs b o e).1;have hl:us.length=1:=by rw[<-r.length];rfl
  have hkind:∀y ∈ [D.x].zip us,D.scope.names.lookup y.1=some .local\/(D.scope.names.lookup y.1=some .cell/\((cellsFrom (s.heap.objs.size + 1) D.scope.names []).lookup y.1).isSome=true):=fun⟨n,v⟩ hy=>by
   rcases S.par n (Lz hy).1 with q | q
   ·exact .inl q
   ·exact .inr ⟨q,MH _ _ _ (.inl q)⟩
  refine kla_callFunE hr.depth hfo rfl S.co S.gen rfl hco ((BindsTo.of_eq (hb pm ctv (.ref c') us hl)) _ _ _ _ ?_);refine wpAny_newFunctionEnv_cells S.kind hkind fun env he s1 x=>?_;subst he;refine⟨lim.keeps x.toInCall.keep,kla_codeExpr ?_⟩;have I:Inv (kB (qy P w) P w K mg base [D.x] D.iq D.scope f (.ref c') A outer s H (fun _ _ _=>False)) [] (start [D.x] [.ref t]) H s1:=oH S hr.hd e0 rfl r x;have hr':dM (k + 1) (A.deeper (envOfC D.iq D.scope s.heap.objs.size f (.ref c'))):=hr.deeper _
  have C:Ctx (kB (qy P w) P w K mg base [D.x] D.iq D.scope f (.ref c') A outer s H (fun _ _ _=>False)) Γ D.scope k:=by
   refine⟨g,fun _=>hr',fun _=>rfl,hr'.units,fun x h=>?_,fun x h=>?_,fun y h=>h,⟨_,_,_,rfl,rfl,rfl⟩⟩
   ·unfold gK at h;unfold CG;split at h<;>first | (rename_i e;first | exact .inl e | exact .inr (.inl e) | exact .inr (.inr e)) | cases h
   ·unfold gu at h;split at h<;>first | (rename_i e;exact e) | cases h
  have hw:wE Γ rO X0 (start [D.x] [.ref t]) H fun r H'=>r=.str ky/\H'=H:=by
   show c_ Γ.mod (.ref t) (.int 1) H fun v H1=>c_ Γ.mod v (.int 0) H1 fun r H'=>r=.str ky/\H'=H;have r1:rd Γ.mod H t=some (.tup [w0,.ref q]):=by unfold rd;rw[k1]
   have r2:rd Γ.mod H q=some (.lst (.str ky::xs)):=by unfold rd;rw[k2]
   unfold c_;dsimp only;rw[r1];show c_ Γ.mod (.ref q) (.int 0) H fun r H'=>r=.str ky/\H'=H;unfold c_;dsimp only;rw[r2]
   have e:k_ (V.str ky::xs) 0=some (V.str ky):=by
    unfold k_ oF;rw[Jj (Int.le_refl 0),Jj (by rw[J5];omega)];rfl
   dsimp only;rw[e];exact⟨rfl,rfl⟩
  refine KW ((hm.1 ▸ sE Γ k rO C cV.no hm.2) [] s1 _ _ _ I hw) (fun u' s' hs=>?_) (fun e s' hs=>?_)
  ·obtain⟨r',H',J,rr,rfl,rfl⟩:=hs;exact⟨.str ky,H',J.os,J.bare,J.base,J.bB,rr,hq⟩
  ·exact KW hs (fun _ s'' z=>False.elim z) (fun e' s'' z=>False.elim z)
 ·obtain⟨_,_,_,_,⟨c',pm,ctv,hf,_⟩,_⟩:=hsp;exact⟨_,_,_,_,bB f _ hf⟩
end
structure jF (X:Cx) (Γ:b0) (sc:Scope) (k:Nat):Prop extends Ctx X Γ sc k where
 nd:X.N.Nodup
 loc:∀x,iB sc x=true->Loc X.env.scope x/\(X.fn x=true\/X.env.scope.names.lookup x=some .local)
 G8:∀x,sc.names.lookup x=some .local->X.env.scope.names.lookup x=some .local
 E7:X.stack=X.env::X.outer/\X.env.frame=some X.env.locals
 lam:∀D Ts,Γ.lm=some (D,Ts)->CK X D Ts k
section
variable {X:Cx} {Γ:b0} {sc:Scope} {k:Nat}
theorem jF.tF (C:jF X Γ sc k):jF X.tF Γ sc k:=⟨⟨C.g,C.room,C.calm,C.un,C.GV,C.gl,C.cf,C.top⟩,C.nd,C.loc,C.G8,C.E7,fun D Ts h=>let l:=C.lam D Ts h;⟨l.cc,l.B,l.iq,l.cl,l.d0,l.t0,l.t1,l.k4,l.S,l.hm,l.hb⟩⟩
theorem PS.tF {st:Stmt} {t:TS} (h:PS X.tF st t):PS X st t:=fun pins s σ H D I hw=>
 KW (h pins s σ H D (I.nK _) hw) (fun _ _ q=>q.gB) fun _ _ z=>False.elim z
theorem jm {e:Expr} {t:Option Expr} {n:Nat} {env:Env} (h:pP e=true):swapsWith e t n env=pure false:=by
 cases e<;>first | rfl | cases h
theorem Cu {i:Nat} {tb:TS} {J:It} {xs:List V} {aq:Hp->Prop} {D:Ends} {σ:L2.St} {H:Hp} (sq:o8 J xs aq) (h:p9 i tb aq xs D σ H):
  ∃W:Nat->Nat->L2.St->Hp->Prop,(∃ m,W 0 m σ H)/\∀n m σ H,W n m σ H->
   (J.stop n H/\D.nx σ H)\/(J.go n H/\∃N:L2.St->Hp->Prop,(∀ σ' H',N σ' H'->∃m',m' < m/\W (n + 1) m' σ' H')/\∀x H',J.uu n H x H'->mS i x σ H' fun σ2 H2=>tb {D with nx:=N,ct:=N,bk:=D.nx} σ2 H2):=by
 refine⟨fun n m σ H=>m=xs.length - n/\n<=xs.length/\p9 i tb aq (xs.drop n) D σ H,⟨xs.length,by simp,J3 _,by simpa using h⟩,?_⟩
 rintro n m σ H ⟨rfl,hn,hw⟩
 cases e:xs.drop n with
 | nil=>
  rw[e]at hw;have hle:xs.length<=n:=by simpa using e
  exact .inl ⟨sq.stop n H hw.1 hle,hw.2⟩
 | cons v r=>
  rw[e]at hw
  have hlt:n < xs.length:=by
   have:=congrArg List.length e;simp at this;omega
  have hvi:xs[n]?=some v:=by
   have:=congrArg (fun l=>l[0]?) e;simpa using this
  have hdr:xs.drop (n + 1)=r:=by
   have:=congrArg List.tail e;simpa[Lr]using this
  refine .inr ⟨sq.go n H hw.1 hlt,p9 i tb aq r D,fun σ' H' z=>⟨xs.length - (n + 1),by omega,rfl,hlt,by rw[hdr];exact z⟩,fun x H' y=>?_⟩;obtain⟨eH,ev⟩:=sq.uu n H x H' hlt y hw.1;subst eH;rw[hvi]at ev;obtain rfl:v=x:=JL ev;exact hw.2
end
section
variable {X:Cx} {Γ:b0} {sc:Scope} {k:Nat} {M:Mo}
theorem Bd (hu:X.A.units + 64 < cLine):GL X (fun x k v H Q=>vV x k v H Q):=by
 intro pins s σ H o i v ov iv u Q I ro ri rv h;unfold vV at h;cases o with
 | ref p=>
  dsimp only at h;split at h
  ·rename_i xs e;cases i with
   | int j=>
    dsimp only at h;split at h
    ·rename_i n en;exact set_list pins s σ H _ _ v ov iv u Q I ro ri rv ⟨_,_,_,_,rfl,rfl,e,en,h⟩
    ·exact h.elim
   | _=>exact h.elim
  ·rename_i kvs e;split at h
   ·rename_i kk ek;cases (show ov=Value.ref p from ro)
    have ei:=zP ek;subst ei;exact xu (by omega) I (CM.k e h.1) ri rv fun s' I'=>⟨_,I',h.2⟩
   ·exact h.elim
  ·exact h.elim
 | _=>exact h.elim
theorem DH {o i value:Expr} {to ti tv:TE} {pos pos':Pos} (hu:X.A.units + 64 < cLine) (ho:PE X o to) (hi:PE X i ti) (hv:PE X value tv) (hs:swapsWith value (some (.Subscript o i pos')) pos.line X.env=pure false):
  PS X (.Assign [.Subscript o i pos'] value pos) (fun D σ H=>tv σ H fun v H1=>to σ H1 fun x H2=>ti σ H2 fun k H3=>vV x k v H3 (D.nx σ)):=by
 intro pins s σ H D I h;refine wpAny_Assign_Subscript (cz (hv pins s σ H _ I h) fun r s1 ⟨v,H1,I1,rv,q1⟩=>cz (ho pins s1 σ H1 _ I1 q1) fun u s2 ⟨x,H2,I2,rx,q2⟩=>cz (hi pins s2 σ H2 _ I2 q2) fun iv s3 ⟨y,H3,I3,ry,q3⟩=>?_) hs;exact cz (Bd hu pins s3 σ H3 x y v u iv r _ I3 rx ry rv q3) fun _ s4 ⟨H4,I4,q4⟩=>⟨σ,H4,I4,q4⟩
theorem jT (C:jF X Γ sc k):∀ {is:List Nat} {ts:NZ},oN sc X.N is=true->EU X (bN X.N is ts) (gb is)
 | [],_,_=>u3
 | i::is,_,h=>q_ (jh C.nd (eR (a2 (a2 h).1).1) (C.loc _ (a2 (a2 h).1).2).1 (C.loc _ (a2 (a2 h).1).2).2) (jT C (a2 h).2) rfl
theorem BD (mo:av X.K M) (hc:X.calm=true) {is:List Nat} {ts:NZ} {e:Expr} {te:TE} {kt} {pt pos:Pos} (hp:EU X ts (gb is)) (hn:(assignEach ts X.env).length=is.length) (hst:(assignEach ts X.env).findIdx? (·.1)=none) (he:PE X e te) (h1:pP e=true) (h2:zo e=true):
  PS X (.Assign [.Tuple ts kt pt] e pos) (fun D σ H=>te σ H fun x H1=>match x with | .ref p=>(match rd M H1 p with | some (.tup xs)=>xs.length=is.length/\D.nx (eQ σ is xs) H1 | _=>False) | _=>False):=by
 intro pins s σ H D I h;refine wpAny_Assign_stores (cz (he pins s σ H _ I h) fun v s1 ⟨x,H1,I1,r1,q1⟩=>?_) (show swapsWith e (some (.Tuple ts kt pt)) pos.line X.env=pure false from jm h1) (by cases e<;>first | rfl | cases h2);cases x with
 | ref p=>
  dsimp only at q1;split at q1
  ·rename_i xs ex;exact cz (l_ (k:=kt) hc hp hn hst pins s1 σ H1 (.ref p) v D.nx I1 r1 ⟨p,xs,rfl,cD mo ex,q1.1,cS q1.1 q1.2⟩) fun _ s2 q=>q
  ·exact q1.elim
 | _=>exact q1.elim
theorem Af (mo:av X.K M) {is:List Nat} {tb:TS} {J:It} {xs:List V} {aq:Hp->Prop} {D:Ends} {σ:L2.St} {H:Hp} (sq:o8 J xs aq) (h:iD M is tb aq xs D σ H):
  ∃W:Nat->Nat->L2.St->Hp->Prop,(∃ m,W 0 m σ H)/\∀n m σ H,W n m σ H->
   (J.stop n H/\D.nx σ H)\/(J.go n H/\∃N:L2.St->Hp->Prop,(∀ σ' H',N σ' H'->∃m',m' < m/\W (n + 1) m' σ' H')/\∀x H',J.uu n H x H'->Ac X.K is.length (gb is) x σ H' fun σ2 H2=>tb {D with nx:=N,ct:=N,bk:=D.nx} σ2 H2):=by
 refine⟨fun n m σ H=>m=xs.length - n/\n<=xs.length/\iD M is tb aq (xs.drop n) D σ H,⟨xs.length,by simp,J3 _,by simpa using h⟩,?_⟩
 rintro n m σ H ⟨rfl,hn,hw⟩
 cases e:xs.drop n with
 | nil=>
  rw[e]at hw;have hle:xs.length<=n:=by simpa using e
  exact .inl ⟨sq.stop n H hw.1 hle,hw.2⟩
 | cons v r=>
  rw[e]at hw
  have hlt:n < xs.length:=by
   have:=congrArg List.length e;simp at this;omega
  have hvi:xs[n]?=some v:=by
   have:=congrArg (fun l=>l[0]?) e;simpa using this
  have hdr:xs.drop (n + 1)=r:=by
   have:=congrArg List.tail e;simpa[Lr]using this
  refine .inr ⟨sq.go n H hw.1 hlt,iD M is tb aq r D,fun σ' H' z=>⟨xs.length - (n + 1),by omega,rfl,hlt,by rw[hdr];exact z⟩,fun x H' y=>?_⟩;obtain⟨eH,ev⟩:=sq.uu n H x H' hlt y hw.1;subst eH;rw[hvi]at ev;obtain rfl:v=x:=JL ev;obtain⟨_,hw⟩:=hw;cases v with
  | ref p=>
   dsimp only at hw;split at hw
   ·rename_i ys ex;exact⟨p,ys,rfl,cD mo ex,hw.1,cS hw.1 hw.2⟩
   ·exact hw.elim
  | _=>exact hw.elim
end
theorem m8 {N:NW} {e:Ex} {a:Expr} (h:(!iO e)=true):pP (bE N e a)=true:=by
 cases e<;>first | rfl | cases h
theorem Fo {N:NW} {e:Ex} {a:Expr} (h:(!isTup e)=true):zo (bE N e a)=true:=by
 cases e<;>first | rfl | cases h
section
variable {X:Cx} {Γ:b0} {sc:Scope} {k:Nat} {Ξ:XS}
theorem BF {i:Nat} {x:Str} {fv:List (Str × Nat)} {it:Ix} {el:Ex} {ifs:lq} {tp pos:Pos} {a:Expr} (C:jF X Γ sc k) (xo:cV X Ξ) (h1:X.N[i]?=some (nx X.N i)) (h2:iB sc (nx X.N i)=true) (h3:lF sc (aY a) (nx X.N i) tp a.pos=true) (h:oE sc X.N (.comp x fv it el ifs) a=true):
  PS X (.Assign [.Name (nx X.N i) tp] (bE X.N (.comp x fv it el ifs) a) pos) (wS (.asg i (.comp x fv it el ifs)) Γ Ξ):=by
 obtain⟨k1,k0⟩:=a2 h3;obtain⟨k2,k3⟩:=a2 k0;have k1:=JX k1;have k3:=(LH _).mp k3;intro pins s σ H D I ⟨hc,q⟩
 refine Bz (te:=fun σ=>wE Γ el fun C d _ H'=>Ξ C d σ H') C.g.mod (C.calm hc) C.toCtx.top xo C.cf (a2 (a2 h).1).1 (sI _ _ it C.toCtx xo (a2 (a2 h).2).1)
   (fun σ X' c xc=>cN (P:=fun N=>PE X' (bE N el _) _) c.N (sE _ _ el (C.toCtx.comp c hc) xc (cN (P:=fun N=>oE _ N el _=true) c.N.symm (a2 (a2 (a2 h).2).2).1)))
   (fun X' c=>cN (P:=fun N=>sH X' (nW N ifs _) _) c.N (GZ _ _ ifs (C.toCtx.comp c hc) cV.no (cN (P:=fun N=>rj _ N ifs _=true) c.N.symm (a2 (a2 (a2 h).2).2).2) (JX (a2 (a2 h).1).2)))
   (cE (fL it)) C.nd h1 (C.loc _ h2).1 (C.loc _ h2).2 ?_ pins s σ H D I q
 have e1:(X.env.kindOf (nx X.N i) == some .local)=true:=by
  have:=C.G8 _ k1;show(X.env.scope.names.lookup (nx X.N i) == some .local)=true;rw[this];rfl
 have e2:(X.env.blockKind == .function)=true:=by
  unfold Env.blockKind;rw[I.ok.kind];rfl
 show(pure (X.env.blockKind == .function && X.env.kindOf (nx X.N i) == some .local && tp.line == a.pos.line && !((aY a).names.any fun(n,k)=>n == nx X.N i && (k == .local || k == .cell))):Sem Bool)=_;rw[e1,e2,k2,k3];rfl
theorem BC {i:Nat} {xs:NW} {fv:List (Str × Nat)} {it:Ix} {el:Ex} {ifs:lq} {tp pos:Pos} {a:Expr} (C:jF X Γ sc k) (xo:cV X Ξ) (h1:X.N[i]?=some (nx X.N i)) (h2:iB sc (nx X.N i)=true) (h3:lF sc (aY a) (nx X.N i) tp a.pos=true) (h:oE sc X.N (.compU xs fv it el ifs) a=true):
  PS X (.Assign [.Name (nx X.N i) tp] (bE X.N (.compU xs fv it el ifs) a) pos) (wS (.asg i (.compU xs fv it el ifs)) Γ Ξ):=by
 obtain⟨k1,k0⟩:=a2 h3;obtain⟨k2,k3⟩:=a2 k0;have k1:=JX k1;have k3:=(LH _).mp k3;intro pins s σ H D I ⟨hc,q⟩
 refine By (te:=fun σ=>wE Γ el fun C d _ H'=>Ξ C d σ H') C.g.mod (C.calm hc) C.toCtx.top xo C.cf (a2 (a2 h).1).1 (JX (a2 (a2 (a2 h).1).2).1) (sI _ _ it C.toCtx xo (a2 (a2 h).2).1)
   (fun σ X' c xc=>cN (P:=fun N=>PE X' (bE N el _) _) c.N (sE _ _ el (C.toCtx.comp c hc) xc (cN (P:=fun N=>oE _ N el _=true) c.N.symm (a2 (a2 (a2 h).2).2).1)))
   (fun X' c=>cN (P:=fun N=>sH X' (nW N ifs _) _) c.N (GZ _ _ ifs (C.toCtx.comp c hc) cV.no (cN (P:=fun N=>rj _ N ifs _=true) c.N.symm (a2 (a2 (a2 h).2).2).2) (JX (a2 (a2 (a2 h).1).2).2)))
   (cE (fL it)) C.nd h1 (C.loc _ h2).1 (C.loc _ h2).2 ?_ pins s σ H D I q
 have e1:(X.env.kindOf (nx X.N i) == some .local)=true:=by
  have:=C.G8 _ k1;show(X.env.scope.names.lookup (nx X.N i) == some .local)=true;rw[this];rfl
 have e2:(X.env.blockKind == .function)=true:=by
  unfold Env.blockKind;rw[I.ok.kind];rfl
 show(pure (X.env.blockKind == .function && X.env.kindOf (nx X.N i) == some .local && tp.line == a.pos.line && !((aY a).names.any fun(n,k)=>n == nx X.N i && (k == .local || k == .cell))):Sem Bool)=_;rw[e1,e2,k2,k3];rfl
theorem BB {i:Nat} {xs:NW} {fv:List (Str × Nat)} {ea eb el:Ex} {tp pos:Pos} {a:Expr} (C:jF X Γ sc k) (xo:cV X Ξ) (h1:X.N[i]?=some (nx X.N i)) (h2:iB sc (nx X.N i)=true) (h3:lF sc (aY a) (nx X.N i) tp a.pos=true) (h:oE sc X.N (.compZ xs fv ea eb el) a=true):
  PS X (.Assign [.Name (nx X.N i) tp] (bE X.N (.compZ xs fv ea eb el) a) pos) (wS (.asg i (.compZ xs fv ea eb el)) Γ Ξ):=by
 obtain⟨k1,k0⟩:=a2 h3;obtain⟨k2,k3⟩:=a2 k0;have k1:=JX k1;have k3:=(LH _).mp k3;intro pins s σ H D I ⟨hc,q⟩
 refine Bx (te:=fun σ=>wE Γ el fun C d _ H'=>Ξ C d σ H') C.g.mod (C.calm hc) C.toCtx.top xo C.cf (a2 (a2 h).1).1 (JX (a2 (a2 h).1).2) (C.toCtx.gl _ (a2 (a2 h).2).1) (C.g.no _ zX) (sE _ _ ea C.toCtx xo (a2 (a2 (a2 h).2).2).1) (sE _ _ eb C.toCtx xo (a2 (a2 (a2 (a2 h).2).2).2).1) (aO ea) (aO eb)
   (fun σ X' c xc=>cN (P:=fun N=>PE X' (bE N el _) _) c.N (sE _ _ el (C.toCtx.comp c hc) xc (cN (P:=fun N=>oE _ N el _=true) c.N.symm (a2 (a2 (a2 (a2 h).2).2).2).2)))
   C.nd h1 (C.loc _ h2).1 (C.loc _ h2).2 ?_ pins s σ H D I q
 have e1:(X.env.kindOf (nx X.N i) == some .local)=true:=by
  have:=C.G8 _ k1;show(X.env.scope.names.lookup (nx X.N i) == some .local)=true;rw[this];rfl
 have e2:(X.env.blockKind == .function)=true:=by
  unfold Env.blockKind;rw[I.ok.kind];rfl
 show(pure (X.env.blockKind == .function && X.env.kindOf (nx X.N i) == some .local && tp.line == a.pos.line && !((aY a).names.any fun(n,k)=>n == nx X.N i && (k == .local || k == .cell))):Sem Bool)=_;rw[e1,e2,k2,k3];rfl
theorem BE {i:Nat} {e:Ex} {tp pos:Pos} {a:Expr} (C:jF X Γ sc k) (xo:cV X Ξ) (hi:decide (i < X.N.length)=true) (hl:iB sc (nx X.N i)=true) (hu:(!iO e || (!vm e && lF sc (aY a) (nx X.N i) tp a.pos))=true) (he:oE sc X.N e a=true):
  PS X (.Assign [.Name (nx X.N i) tp] (bE X.N e a) pos) (wS (.asg i e) Γ Ξ):=by
 rcases Bool.or_eq_true_iff.mp hu with hu | hu
 ·exact yJ C.nd (eR hi) (C.loc _ hl).1 (sE _ _ e C.toCtx xo he) (jm (m8 hu)) (C.loc _ hl).2
 ·obtain⟨hx,hu⟩:=a2 hu;cases hq:iO e with
  | false=>exact yJ C.nd (eR hi) (C.loc _ hl).1 (sE _ _ e C.toCtx xo he) (jm (m8 (by rw[hq];rfl))) (C.loc _ hl).2
  | true=>cases e<;>first | exact BF C xo (eR hi) hl (by assumption) he | exact BC C xo (eR hi) hl (by assumption) he | exact BB C xo (eR hi) hl (by assumption) he | (cases hx;done) | (cases hq;done)
theorem rW {M:Mo} {H H1 H2:Hp} {ys zs:List (Addr × Str)} {l:Addr} (x:eK M H H1) (o:xJ M H1 ys H2 l zs):eK M H H2:=
 ⟨fun a u e n=>o.old a u (x.same a u e n),fun a m e=>o.off a m (x.off a m e),fun a h z=>by
  cases q:H1 a with
  | none=>exact x.Hb a h q
  | some u=>rw[o.old a u q]at z;cases z⟩
theorem vU {H H':Hp} {t:Tb} (h:TabAt H t) (k:∀b o,H b=some o->H' b=some o):TabAt H' t:=by
 rcases h with q | ⟨c,q,q2⟩
 ·exact .inl (k _ _ q)
 ·exact .inr ⟨c,k _ _ q,k _ _ q2⟩
theorem wZ {M:Mo} {H H':Hp} {y:Addr × Str} (h:km H y) (x:eK M H H'):km H' y:=by
 obtain⟨w,q,xs,h1,h2⟩:=h;exact⟨w,q,xs,x.same _ _ h1 (fun _ z=>nomatch z),x.same _ _ h2 (fun _ z=>nomatch z)⟩
theorem wY {H H':Hp} {y:Addr × Str} (h:km H y) (k:∀b o,H b=some o->H' b=some o):km H' y:=by
 obtain⟨w,q,xs,h1,h2⟩:=h;exact⟨w,q,xs,k _ _ h1,k _ _ h2⟩
theorem lD:∀ {ys:List (Addr × Str)} {aA:NX},Vals (ys.map fun y=>.ref y.1) aA->aA=aD ys
 | [],_,.nil=>rfl
 | _::_,_,.cons h t=>by cases h;rw[lD t];rfl
noncomputable def HX (Γ:b0):b0:={con:=fun _=>none,mod:=Γ.mod,has:=fun _=>false,fn:=fun _ _ _ _ _=>False}
theorem yK {e:Ex} {le ast:Expr} {p kp p2 pos:Pos} (C:jF X Γ sc k) (xo:cV X Ξ) (hg:gu sc "sorted" =true) (he:oE sc X.N e ast=true):
  PS X (.Return (some (.Call (.Name "sorted" p) [bE X.N e ast] [⟨some "key",le,kp⟩] p2)) pos) (wS (.retK e kp le) Γ Ξ):=by
 intro pins s σ H D I hw
 have hw:(match Γ.lm with
  | some (L,Ts)=>le=L.le/\Γ.cm=true/\wE Γ e Ξ σ H fun x H1=>(∀ t ∈ Ts,TabAt H1 t)/\∃ (p:Addr) (ys:List (Addr × Str)),x=.ref p/\H1 p=some (.lst (ys.map fun y=>.ref y.1))/\ys.length < 64/\(∀ y ∈ ys,km H1 y)/\
   ∀ (H2:Hp) (l:Addr) (zs:List (Addr × Str)),eK Γ.mod H1 H2->(∀ t ∈ Ts,TabAt H2 t)->H1 l=none->Γ.mod l=none->H2 l=some (.lst (zs.map fun z=>.ref z.1))->zs.Perm ys->zs.Pairwise E9->D.rt (.ref l) H2
  | none=>False):=hw
 cases hl:Γ.lm with
 | none=>rw[hl]at hw;exact hw.elim
 | some z=>
  obtain⟨L,Ts⟩:=z;rw[hl]at hw;obtain⟨rfl,hcm,hw⟩:=hw;have lx:=C.lam L Ts hl;have hs:=bz (env:=X.env) (es:=[]) (show aW (bE X.N e ast)=true from aO e);refine wpAny_Return_some (KI (eT I (C.gl _ hg) (C.g.no "sorted" (by decide +kernel)) boot_sorted ?_));have hs2:backTo p2 (starEach [bE X.N e ast] X.env)=(false,eval (bE X.N e ast) X.env)::backTo p2 (starEach [] X.env):=by rw[hs];rfl
  refine callWith_kw ?_ hs2 (by rw[hs2];rfl) rfl rfl;rw[hs2];refine Kq (cz (sE Γ k e C.toCtx xo he pins s σ H _ I hw) fun v s1 ⟨x,H1,I1,r1,q1⟩=>KO ?_);obtain⟨hT,q,ys,rfl,hq,h64,hk,q1⟩:=q1;cases r1
  refine kws_cons (zL lx C.g.mod I1 hT lx.cl fun g c' pm ctv H2 s2 I2 g1 g2 t2 x2 gn=>kws_nil ?_);have hr:=C.room hcm;have g0:b9 X.prog X.w X.K X.mg X.base (HX Γ) 0:=⟨C.g.mod,fun x v h=>(nomatch h),fun f h=>(nomatch h),C.g.no,kC.none,fun x kvs h=>(nomatch h)⟩;have F:=Dm (D:=L) g0 lx.S lx.hm lx.hb;have hq2:H2 q=some (.lst (ys.map fun y=>.ref y.1)):=x2.same _ _ hq (fun _ z=>nomatch z);obtain⟨_,aA,n,rv,eo⟩:=I2.bB _ _ hq2;have ei:aA=aD ys:=lD rv;subst ei
  refine cz (tR F C.g.mod (hr.mono (JS (by decide) (Nat.le_succ_of_le lx.k4))) I2 ⟨_,eo,rfl,_,rfl⟩ h64 (fun y hy H3 k3 Q hQ=>⟨y.1,y.2,rfl,wY (wZ (hk y hy) x2) k3,⟨c',pm,ctv,k3 _ _ g1,k3 _ _ g2⟩,hQ⟩)
   fun H3 d zs o=>(show D.rt (.ref d) H3 from q1 H3 d zs (rW x2 o) (fun t ht=>vU (t2 t ht) o.old) ?_ o.mod o.at_ o.perm o.up)) fun v s3 ⟨x,H3,I3,r3,q3⟩=>⟨x,σ,H3,I3,r3,q3⟩
  cases z:H1 d with
  | none=>rfl
  | some u=>exact absurd o.new (x2.Hb d (by rw[z];exact fun z=>nomatch z))
end
mutual
theorem sS:(st:Sx)->∀ {X:Cx} {Γ:b0} {sc:Scope} {k:Nat} {Ξ:XS} {ast:Stmt},jF X Γ sc k->cV X Ξ->oS sc X.N st ast=true->PS X (bS X.N st ast) (wS st Γ Ξ)
 | .asg i e=>fun C xo h=>BE C xo (a2 (a2 h).1).1 (a2 (a2 h).1).2 (a2 (a2 h).2).1 (a2 (a2 h).2).2
 | .exp e=>fun C xo h=>BA (sE _ _ e C.toCtx xo (a2 h).2) (jm (m8 (a2 h).1))
 | .ret e=>fun C xo h=>DI (sE _ _ e C.toCtx xo h)
 | .retK e kp le=>fun C xo h=>yK C xo (a2 h).1 (a2 h).2
 | .iff c a b=>fun C xo h=>FF (sT _ _ c C.toCtx xo (a2 h).1) (DA a C xo (a2 (a2 h).2).1) (DA b C xo (a2 (a2 h).2).2)
 | .whl c b=>fun C xo h=>PS.tF (yI PassesOwn.never (sT _ _ c C.tF.toCtx cV.no (a2 h).1) (DA b C.tF cV.no (a2 h).2))
 | .fr i it b=>fun C xo h pins s σ H D I q=>
  PS.tF (yL PassesOwn.never (C.calm q.1) (sI _ _ it C.tF.toCtx cV.no (a2 (a2 h).2).1) (jh C.nd (eR (a2 (a2 h).1).1) (C.loc _ (a2 (a2 h).1).2).1 (C.loc _ (a2 (a2 h).1).2).2) (DA b C.tF cV.no (a2 (a2 h).2).2) (cE (fL it))) pins s σ H D I
   ⟨_,q.2,fun J xs aq H1 sq z=>Cu sq z⟩
 | .sto o i e=>fun C xo h=>DH C.un (sE _ _ o C.toCtx xo (a2 (a2 h).1).2) (sE _ _ i C.toCtx xo (a2 (a2 h).2).1) (sE _ _ e C.toCtx xo (a2 (a2 h).2).2) (jm (m8 (a2 (a2 h).1).1))
 | .asgT is e=>fun C xo h pins s σ H D I q=>BD C.g.mod (C.calm q.1) (jT C (a2 (a2 h).1).2) nj jC (sE _ _ e C.toCtx xo (a2 h).2) (m8 (a2 (a2 (a2 h).1).1).1) (Fo (a2 (a2 (a2 h).1).1).2) pins s σ H D I q.2
 | .frT is it b=>fun C xo h pins s σ H D I q=>
  PS.tF (yL PassesOwn.never (C.calm q.1) (sI _ _ it C.tF.toCtx cV.no (a2 (a2 h).2).1) (l_ (X:=Cx.tF _) (C.calm q.1) (jT C.tF (a2 h).1) nj jC) (DA b C.tF cV.no (a2 (a2 h).2).2) (cE (fL it))) pins s σ H D I
   ⟨_,q.2,fun J xs aq H1 sq z=>Af C.g.mod sq z⟩
theorem DA:(ss:fh)->∀ {X:Cx} {Γ:b0} {sc:Scope} {k:Nat} {Ξ:XS} {asts:List Stmt},jF X Γ sc k->cV X Ξ->C3 sc X.N ss asts=true->AX X (Df X.N ss asts) (wSs ss Γ Ξ)
 | .nil=>fun C xo h=>Bw
 | .cons s r=>fun C xo h=>yH (sS s C xo (a2 h).1) (DA r C xo (a2 h).2)
end
theorem sB {X:Cx} {Γ:b0} {sc:Scope} {k:Nat} {Ξ:XS} {ss:fh} {asts:List Stmt} (C:jF X Γ sc k) (xo:cV X Ξ) (h:mI sc X.N ss asts):AX X asts (wSs ss Γ Ξ):=h.1 ▸ DA ss C xo h.2
noncomputable def eJ (Γ:b0) (N:NW) (n:Nat) (body:fh):Sp:=fun vs H Q E=>vs.length=n/\wSs body Γ (fun C d _ H'=>E C d H') {nx:=fun _ H'=>Q .aQ H',rt:=Q} (start N vs) H
section
variable {P:Program} {w:World} {K:Frag} {mg:NY} {base:Heap} {Γ:b0} {k:Nat}
theorem Cv {x qual:Str} {st:Stmt} {f:Addr} {fd:FuncData} {N ps:NW} {body:fh} (F:vQ K x qual st f fd) (S:aN N ps (ag st)) (g:b9 P w K mg base Γ k) (hm:mI (ag st) N body (ax st)) (hlm:Γ.lm=none:=by rfl):
  eG P w K mg base (qy P w) (k + 2) f fd ps (eJ Γ N ps.length body):=by
 obtain⟨oc,od,kV,doc,pm,an,cdv,ct,osl,rfl,lk,hcd⟩:=F.ex;refine C_ lk hcd S (fun vs H Q E h=>h.1) fun A outer s H vs Q E hr hsp=>?_
 have C:jF (kB (qy P w) P w K mg base N qual (ag st) f cdv A outer s H E) Γ (ag st) k:=by
  refine⟨⟨g,fun _=>hr,fun _=>rfl,hr.units,fun x h=>?_,fun x h=>?_,fun y h=>h,⟨_,_,_,rfl,rfl,rfl⟩⟩,S.nd,fun x h=>⟨?_,.inl rfl⟩,fun x h=>h,⟨rfl,rfl⟩,fun D Ts e=>by rw[hlm]at e;cases e⟩
  ·unfold gK at h;unfold CG;split at h<;>first | (rename_i e;first | exact .inl e | exact .inr (.inl e) | exact .inr (.inr e)) | cases h
  ·unfold gu at h;split at h<;>first | (rename_i e;exact e) | cases h
  ·unfold iB at h;unfold L2.Loc;split at h<;>first | (rename_i e;first | exact .inl e | exact .inr e) | cases h
 exact⟨_,sB C ux hm,hsp.2⟩
theorem Ag {x qual:Str} {st:Stmt} {f:Addr} {fd:FuncData} {N ps:NW} {body:fh} {D:jH} {Ts:List Tb} (F:vQ K x qual st f fd) (S:aN N ps (ag st)) (g:b9 P w K mg base Γ k) (hm:mI (ag st) N body (ax st)) (hlm:Γ.lm=some (D,Ts))
  (hL:∀ (A:Around) (outer:List Env) (s:Shared) (H:Hp) (E:XK),CK (kB (qy P w) P w K mg base N qual (ag st) f fd.code A outer s H E) D Ts k):
  eG P w K mg base (qy P w) (k + 2) f fd ps (eJ Γ N ps.length body):=by
 obtain⟨oc,od,kV,doc,pm,an,cdv,ct,osl,rfl,lk,hcd⟩:=F.ex;refine C_ lk hcd S (fun vs H Q E h=>h.1) fun A outer s H vs Q E hr hsp=>?_
 have C:jF (kB (qy P w) P w K mg base N qual (ag st) f cdv A outer s H E) Γ (ag st) k:=by
  refine⟨⟨g,fun _=>hr,fun _=>rfl,hr.units,fun x h=>?_,fun x h=>?_,fun y h=>h,⟨_,_,_,rfl,rfl,rfl⟩⟩,S.nd,fun x h=>⟨?_,.inl rfl⟩,fun x h=>h,⟨rfl,rfl⟩,fun D' Ts' e=>by rw[hlm]at e;cases e;exact hL A outer s H E⟩
  ·unfold gK at h;unfold CG;split at h<;>first | (rename_i e;first | exact .inl e | exact .inr (.inl e) | exact .inr (.inr e)) | cases h
  ·unfold gu at h;split at h<;>first | (rename_i e;exact e) | cases h
  ·unfold iB at h;unfold L2.Loc;split at h<;>first | (rename_i e;first | exact .inl e | exact .inr e) | cases h
 exact⟨_,sB C ux hm,hsp.2⟩
theorem b9.mono {j:Nat} (g:b9 P w K mg base Γ j) (h:j<=k):b9 P w K mg base Γ k:=
 ⟨g.mod,g.con,fun f hf=>let ⟨fa,fd,ps,h1,h2,h3,h4⟩:=g.fn f hf;⟨fa,fd,ps,h1,h2,h3.mono h,h4⟩,
  g.no,g.vc.mono h,g.gd⟩
noncomputable def Off (K:Frag) (H:Hp):Prop:=∀b o,K.lookup b=some o->H b=none
theorem eG.off {CX:xM} {f:Addr} {fd:FuncData} {ps:NW} {sp sp':Sp} (F:eG P w K mg base CX k f fd ps sp) (len:∀vs H Q E,sp' vs H Q E->vs.length=ps.length) (h:∀vs H Q E,Off K H->sp' vs H Q E->sp vs H Q E):
  eG P w K mg base CX k f fd ps sp':=
 ⟨len,fun A outer s H args us vs Q E hr he hb hv hs=>F.run A outer s H args us vs Q E hr he hb hv (h _ _ _ _ (fun b o e=>(he.bs b o (he.mod.FZ b o e)).2) hs)⟩
end
noncomputable def CJ (K:Frag) (a:Addr) (xs:List V):Prop:=∃ (o:Obj) (aA:NV) (n:Nat),K.lookup a=some o/\o.cls=.type "list" /\o.dict=none/\o.data=.seq aA n/\aA.size<=sizeLine/\Vals xs aA.toList
noncomputable def Ie (K:Frag) (a:Addr) (xs:List V):Prop:=∃ (o:Obj) (aA:NV) (n:Nat),K.lookup a=some o/\o.cls=.type "tuple" /\o.data=.seq aA n/\aA.size<=sizeLine/\Vals xs aA.toList
open Classical in
noncomputable def bX (K:Frag):Mo:=fun a=>if h:∃xs,CJ K a xs then some (.lst h.choose)else if h:∃xs,Ie K a xs then some (.tup h.choose)else none
theorem u6 (K:Frag):av K (bX K):=by
 intro a o h;unfold bX at h;split at h
 ·rename_i z;cases h;exact z.choose_spec
 ·split at h
  ·rename_i z;cases h;exact z.choose_spec
  ·cases h
theorem zz {K:Frag} {a:Addr} {xs:List V} (h:CJ K a xs):bX K a=some (.lst xs):=by
 have z:∃xs,CJ K a xs:=⟨xs,h⟩;unfold bX;rw[dif_pos z];obtain⟨o,aA,n,h1,h2,h3,h4,h5,h6⟩:=h;obtain⟨o',its',n',k1,k2,k3,k4,k5,k6⟩:=z.choose_spec;rw[h1]at k1;cases k1;rw[h4]at k4;cases k4;rw[Vals.inj k6 h6]
theorem vY {K:Frag} {H:Hp} {a:Addr} {xs:List V} (off:Off K H) (h:j5 K H a xs):rd (bX K) H a=some (.lst xs):=by
 unfold rd;rcases h with (h | ⟨o,h⟩) | h
 ·rw[h]
 ·rw[h]
 ·have z:CJ K a xs:=h;obtain⟨o,_,_,h1,_⟩:=h;rw[off a o h1];exact zz z
open PySem.W (Frag keepIn)
noncomputable def b0.wit (Γ:b0) (l:List (Str × Sp)):b0:={Γ with has:=fun x=>(l.lookup x).isSome || Γ.has x,fn:=fun x=>(l.lookup x).getD (Γ.fn x)}
section
variable {P:Program} {w:World} {K:Frag} {mg:NY} {base:Heap} {Γ:b0} {k:Nat}
theorem b9.Hi (g:b9 P w K mg base Γ k):b9 P w K mg base (Γ.wit []) k:=⟨g.mod,g.con,g.fn,g.no,g.vc,g.gd⟩
theorem b9.gr {l:List (Str × Sp)} {f:Str} {fa:Addr} {fd:FuncData} {ps:NW} {sp:Sp} {j:Nat} (g:b9 P w K mg base (Γ.wit l) k) (hm:mg f=some (.ref fa)) (hk:keepIn K (.ref fa)=true) (F:eG P w K mg base (qy P w) j fa fd ps sp) (hb:Binds K fd ps []) (h1:j<=k):
  b9 P w K mg base (Γ.wit ((f,sp)::l)) k:=by
 refine⟨g.mod,g.con,fun x hx=>?_,g.no,g.vc,g.gd⟩
 have e:∀x,((f,sp)::l).lookup x=if x == f then some sp else l.lookup x:=fun x=>by
  rw[JU];cases x == f<;>rfl
 have hx:((((f,sp)::l).lookup x).isSome || Γ.has x)=true:=hx;show ∃fa fd ps,_/\_/\eG P w K mg base (qy P w) k fa fd ps ((((f,sp)::l).lookup x).getD (Γ.fn x))/\_;rw[e]at hx ⊢
 by_cases q:x=f
 ·subst q;rw[beq_self_eq_true,Jj rfl];exact⟨fa,fd,ps,hm,hk,F.mono h1,hb⟩
 ·have q':(x == f)=false:=by simpa using q
  rw[q']at hx ⊢;rw[Ji JO]at hx ⊢;exact g.fn x hx
end
section
variable {K:Frag} {x qual:Str} {st:Stmt} {f:Addr} {fd:FuncData}
noncomputable abbrev kZ (x qual:Str) (st:Stmt) (ps:NW) (us:NX):Prop:=∀ (kV doc pm:Value) (an:Option Addr) (cdv ct:Value),bindArgs (PySem.W.fnOf x qual (aL st) (ax st) (ag st) .none kV doc pm an cdv ct) ⟨us,[]⟩=pure (ps.zip us)
theorem len_one {α:Type}:∀ {us:List α},us.length=1->∃a,us=[a]
 | [a],_=>⟨a,rfl⟩
theorem Cd {α:Type}:∀ {us:List α},us.length=2->∃a b,us=[a,b]
 | [a,b],_=>⟨a,b,rfl⟩
theorem wQ {α:Type}:∀ {us:List α},us.length=3->∃a b c,us=[a,b,c]
 | [a,b,c],_=>⟨a,b,c,rfl⟩
theorem zJ {α:Type}:∀ {us:List α},us.length=4->∃a b c d,us=[a,b,c,d]
 | [a,b,c,d],_=>⟨a,b,c,d,rfl⟩
theorem qk {p:Str} (F:vQ K x qual st f fd) (h:∀a,kZ x qual st [p] [a]):Binds K fd [p] []:=F.binds fun kV doc pm an cdv ct us hl=>by
 obtain⟨a,rfl⟩:=len_one hl;exact h a kV doc pm an cdv ct
theorem dJ {p q:Str} (F:vQ K x qual st f fd) (h:∀a b,kZ x qual st [p,q] [a,b]):Binds K fd [p,q] []:=F.binds fun kV doc pm an cdv ct us hl=>by
 obtain⟨a,b,rfl⟩:=Cd hl;exact h a b kV doc pm an cdv ct
theorem qj {p q r:Str} (F:vQ K x qual st f fd) (h:∀a b c,kZ x qual st [p,q,r] [a,b,c]):Binds K fd [p,q,r] []:=F.binds fun kV doc pm an cdv ct us hl=>by
 obtain⟨a,b,c,rfl⟩:=wQ hl;exact h a b c kV doc pm an cdv ct
theorem qi {p q r t:Str} (F:vQ K x qual st f fd) (h:∀a b c d,kZ x qual st [p,q,r,t] [a,b,c,d]):Binds K fd [p,q,r,t] []:=F.binds fun kV doc pm an cdv ct us hl=>by
 obtain⟨a,b,c,d,rfl⟩:=zJ hl;exact h a b c d kV doc pm an cdv ct
end
theorem cy {i:Nat} {tb:TS} {aq:Hp->Prop} {D:Ends} {xs:List V} (Pv:Nat->L2.St->Hp->Prop) (st:∀n σ H,Pv n σ H->aq H)
  (step:∀n v σ H (D':Ends),xs[n]?=some v->Pv n σ H->(∀ σ' H',Pv (n + 1) σ' H'->D'.nx σ' H')->(∀ σ' H',Pv (n + 1) σ' H'->D'.ct σ' H')->D'.rt=D.rt->D'.bk=D.nx->tb D' (σ.set i (some v)) H)
  (fin:∀σ H,Pv xs.length σ H->D.nx σ H) {σ:L2.St} {H:Hp} (h0:Pv 0 σ H):p9 i tb aq xs D σ H:=by
 have go:∀ (r:List V) (n:Nat),xs.drop n=r->n<=xs.length->∀σ H,Pv n σ H->p9 i tb aq r D σ H:=by
  intro r
  induction r with
  | nil=>
   intro n e hn σ H p;have:xs.length<=n:=by simpa using e
   have hn':n=xs.length:=by omega
   subst hn';exact⟨st _ σ H p,fin σ H p⟩
  | cons v r ih=>
   intro n e hn σ H p
   have hlt:n < xs.length:=by
    have:=congrArg List.length e;simp at this;omega
   have hv:xs[n]?=some v:=by
    have:=congrArg (fun l=>l[0]?) e;simpa using this
   have hr:xs.drop (n + 1)=r:=by
    have:=congrArg List.tail e;simpa[Lr]using this
   exact⟨st _ σ H p,step n v σ H _ hv p (fun σ' H' q=>ih (n + 1) hr hlt σ' H' q) (fun σ' H' q=>ih (n + 1) hr hlt σ' H' q) rfl rfl⟩
 exact go xs 0 (by simp) (J3 _) σ H h0
structure Ext (M:Mo) (H H':Hp):Prop where
 same:∀a o,H a=some o->H' a=some o
 off:∀a,M a ≠ none->H a=none->H' a=none
theorem Ext.trans {M:Mo} {H H1 H2:Hp} (a:Ext M H H1) (b:Ext M H1 H2):Ext M H H2:=⟨fun c o h=>b.same c o (a.same c o h),fun c m h=>b.off c m (a.off c m h)⟩
theorem Ext.upd {M:Mo} {H:Hp} {p:Addr} {o:HO} (h:H p=none) (m:M p=none):Ext M H (upd H p o):=
 ⟨fun b u e=>by rw[af (aj e h)];exact e,fun b mb e=>by rw[af (fun z=>mb (by rw[z];exact m))];exact e⟩
theorem Ext.rd {M:Mo} {H H':Hp} {a:Addr} {u:HO} (s:Ext M H H') (e:rd M H a=some u):rd M H' a=some u:=by
 unfold Sw.rd at e ⊢;cases q:H a with
 | none=>
  rw[q]at e;rw[s.off a (by intro z;rw[z]at e;cases e) q];exact e
 | some o=>rw[s.same a o q];rw[q]at e;exact e
section
variable {M:Mo} {H:Hp} {Q:VK}
theorem v_add (i j:Int):nh M .Add (.int i) (.int j) H Q=Q (.int (i + j)) H:=rfl
theorem v_sub (i j:Int):nh M .Sub (.int i) (.int j) H Q=Q (.int (i - j)) H:=rfl
theorem v_mul (i j:Int):nh M .Mult (.int i) (.int j) H Q=((qh i || qh j)=true/\Q (.int (i * j)) H):=rfl
theorem v_div (i j:Int):nh M .FloorDiv (.int i) (.int j) H Q=(0 < j/\j < 1073741824/\Q (.int (i / j)) H):=rfl
theorem v_mod (i j:Int):nh M .Mod (.int i) (.int j) H Q=(0 < j/\Q (.int (i % j)) H):=rfl
theorem v_pow (i j:Int):nh M .Pow (.int i) (.int j) H Q=(E6 i j/\Q (.int (i ^ j.toNat)) H):=rfl
theorem v_lt (i j:Int):cT M .Lt (.int i) (.int j) H Q=Q (.bl (decide (i < j))) H:=rfl
theorem x9 (i j:Int):cT M .Gt (.int i) (.int j) H Q=Q (.bl (decide (j < i))) H:=rfl
theorem Hj (i j:Int):cT M .GtE (.int i) (.int j) H Q=Q (.bl (decide (j<=i))) H:=rfl
theorem Fl (x y:Str):cT M .In (.str x) (.str y) H Q=Q (.bl (!(Builtin.Str.occurrences y x 0 y.length 1).isEmpty)) H:=rfl
theorem j8 (i j:Int):cT M .Eq (.int i) (.int j) H Q=Q (.bl (decide (i=j))) H:=by
 show Q (.bl (decide (V.int i=V.int j))) H=_;simp only[V.int.injEq]
theorem Fh (i j:Int):cT M .NotEq (.int i) (.int j) H Q=Q (.bl (!decide (i=j))) H:=by
 show Q (.bl (!decide (V.int i=V.int j))) H=_;simp only[V.int.injEq]
theorem CQ (x y:Str):cT M .Eq (.str x) (.str y) H Q=Q (.bl (decide (x=y))) H:=by
 show Q (.bl (decide (V.str x=V.str y))) H=_;simp only[V.str.injEq]
theorem xZ (x y:Str):cT M .NotEq (.str x) (.str y) H Q=Q (.bl (!decide (x=y))) H:=by
 show Q (.bl (!decide (V.str x=V.str y))) H=_;simp only[V.str.injEq]
theorem Fi (x y:Bool):cT M .NotEq (.bl x) (.bl y) H Q=Q (.bl (!decide (x=y))) H:=by
 show Q (.bl (!decide (V.bl x=V.bl y))) H=_;simp only[V.bl.injEq]
theorem Fn (x y:Bool):cT M .Eq (.bl x) (.bl y) H Q=Q (.bl (decide (x=y))) H:=by
 show Q (.bl (decide (V.bl x=V.bl y))) H=_;simp only[V.bl.injEq]
theorem Dz (a b:Addr):jg (.ref a) (.ref b)=false:=rfl
theorem pj (x:V):cT M .IsNot x .aQ H Q=Q (.bl (!decide (x=.aQ))) H:=by cases x<;>rfl
theorem x_ (a b:Addr):nh M .Add (.ref a) (.ref b) H Q=(match rd M H a,rd M H b with
  | some (.lst xs),some (.lst ys)=>xs.length + ys.length<=sizeLine/\∀p,H p=none->M p=none->Q (.ref p) (upd H p (.lst (xs++ys)))
  | _,_=>False):=rfl
theorem Eg (x:Str) (p:Addr):fq M .join (.str x) [.ref p] H Q=(match rd M H p with | some (.lst xs)=>(match allM o5 xs with | some ts=>JoinOk x ts=true/\Q (.str (Txt.join x ts)) H | none=>False) | _=>False):=rfl
theorem rF (p:Addr) (v:V):fq M .append (.ref p) [v] H Q=(match H p with | some (.lst xs)=>xs.length < sizeLine/\Q .aQ (upd H p (.lst (xs++[v]))) | _=>False):=rfl
theorem pC (b:Bool) {R:Bool->Prop}:dS M (.bl b) H R=R b:=rfl
theorem Fq {R:Bool->Prop}:dS M .aQ H R=R false:=rfl
theorem Fs (i:Int) {R:Bool->Prop}:dS M (.int i) H R=R (i != 0):=rfl
theorem EN (x:Str):gN M .len [.str x] H Q=(x.length<=sizeLine/\Q (.int x.length) H):=rfl
theorem ub (p:Addr):gN M .len [.ref p] H Q=(match rd M H p with | some (.lst xs)=>Q (.int xs.length) H | some (.tup xs)=>Q (.int xs.length) H | _=>False):=rfl
theorem C7 (z:Str) (i:Int):c_ M (.str z) (.int i) H Q=(z.length<=sizeLine/\match k_ z.cps.toList i with | some c=>Q (.str ⟨#[c]⟩) H | none=>False):=rfl
theorem iC (p:Addr) (i:Int):c_ M (.ref p) (.int i) H Q=(match rd M H p with | some (.lst xs)=>(match k_ xs i with | some v=>Q v H | none=>False) | some (.tup xs)=>(match k_ xs i with | some v=>Q v H | none=>False) | _=>False):=rfl
theorem uN (p:Addr) (lo hi:Option Int):Bk M (.ref p) lo hi H Q=(match rd M H p with
  | some (.lst xs)=>∀l,H l=none->M l=none->Q (.ref l) (upd H l (.lst (iw xs lo hi)))
  | _=>False):=rfl
end
noncomputable abbrev cps (x:Str):List Nat:=x.cps.toList
theorem seq {s:Sx} {r:fh} {Γ:b0} {Ξ:XS} {D:Ends} {σ:L2.St} {H:Hp} (h:wS s Γ Ξ {D with nx:=wSs r Γ Ξ D} σ H):wSs (.cons s r) Γ Ξ D σ H:=by
 rw[wSs];exact h
theorem ck {Γ:b0} {Ξ:XS} {D:Ends} {σ:L2.St} {H:Hp} (h:D.nx σ H):wSs .nil Γ Ξ D σ H:=by
 rw[wSs];exact h
theorem dz {α:Type} (a:α) (l:List α):(a::l)[0]?=some a:=rfl
theorem dw {α:Type} (a:α) (l:List α) (n:Nat):(a::l)[n + 1]?=l[n]?:=rfl
theorem cR {α:Type} (a b:α) (l:List α):(a::l).set 0 b=b::l:=rfl
theorem cQ {α:Type} (a b:α) (l:List α) (n:Nat):(a::l).set (n + 1) b=a::l.set n b:=rfl
theorem dq {α β:Type} (f:α->β):List.map f []=[]:=rfl
theorem dm {α β:Type} (f:α->β) (a:α) (l:List α):List.map f (a::l)=f a::List.map f l:=rfl
theorem dC {α:Type} (l:List α):[]++l=l:=rfl
theorem dB {α:Type} (a:α) (l m:List α):(a::l)++m=a::(l++m):=rfl
theorem dY {α:Type}:([]:List α).length=0:=rfl
theorem dX {α:Type} (a:α) (l:List α):(a::l).length=l.length + 1:=rfl
theorem dW {α:Type} (a:α):List.replicate 0 a=[]:=rfl
theorem dU {α:Type} (a:α) (n:Nat):List.replicate (n + 1) a=a::List.replicate n a:=rfl
theorem dt {α:Type} (a:Option α):(some a).join=a:=rfl
end Sw
local macro_rules | `(tactic| walk_at "sw")=>`(tactic| dsimp only[Sw.wSs,Sw.wS,Sw.wE,Sw.wT,Sw.wEs,Sw.wTs,Sw.wI,Sw.wP,Sw.keyOf,Sw.vars,L2.start,Sw.dz,Sw.dw,Sw.cR,Sw.cQ,Sw.dq,Sw.dm,Sw.dC,Sw.dB,Sw.dY,Sw.dX,Sw.dW,Sw.dU,Sw.dt,Nat.reduceAdd,Nat.reduceSub])
local macro_rules | `(tactic| walk_at "s1")=>`(tactic| dsimp only[Sw.wS,Sw.wE,Sw.wT,Sw.wEs,Sw.wTs,Sw.wI,Sw.wP,Sw.keyOf,Sw.vars,L2.start,Sw.dz,Sw.dw,Sw.cR,Sw.cQ,Sw.dq,Sw.dm,Sw.dC,Sw.dB,Sw.dY,Sw.dX,Sw.dW,Sw.dU,Sw.dt,Nat.reduceAdd,Nat.reduceSub])
local macro_rules | `(tactic| walk_at "sv")=>`(tactic| simp (config:={maxSteps:=10000000,failIfUnchanged:=false}) only[Sw.v_add,Sw.v_sub,Sw.v_mul,Sw.v_div,Sw.v_mod,Sw.v_pow,Sw.v_lt,Sw.x9,Sw.Hj,Sw.Fl,Sw.j8,Sw.Fh,Sw.CQ,Sw.xZ,Sw.Fi,Sw.Fn,Sw.pj,Sw.pC,Sw.Fq,Sw.Fs,Sw.EN,Sw.ub,Sw.C7,Sw.iC,Sw.uN])
namespace Gr
variable {α:Type} [DecidableEq α]
section reach
variable (nE:α->List α)
variable {nE}
end reach
structure Fb (r:α->α->Prop):Prop where
 nT:∀a,¬r a a
 tr:∀a b c,r a b->r b c->r a c
 Dt:∀a b,a ≠ b->r a b\/r b a
section order
variable {r:α->α->Prop} [DecidableRel r]
noncomputable def mn (r:α->α->Prop) [DecidableRel r] (a b:α):α:=if r b a then b else a
theorem Fb.su (T:Fb r) {a b:α} (h:r a b) (k:r b a):False:=T.nT a (T.tr _ _ _ h k)
theorem Fb.ext (T:Fb r):∀ {l l':List α},l.Pairwise r->l'.Pairwise r->(∀ x,x ∈ l ↔ x ∈ l')->l=l'
 | [],[],_,_,_=>rfl
 | [],y::m,_,_,h=>by have:=(h y).mpr Js;cases this
 | x::l,[],_,_,h=>by have:=(h x).mp Js;cases this
 | x::l,y::m,p,q,h=>by
  rw[L3]at p q
  have e:x=y:=by
   have h1:=(h x).mp Js;have h2:=(h y).mpr Js;rcases Jx.mp h1 with e | h1
   ·exact e
   ·rcases Jx.mp h2 with e | h2
    ·exact e.symm
    ·exact(T.su (p.1 y h2) (q.1 x h1)).elim
  subst e;rw[T.ext p.2 q.2 fun z=>?_];constructor
  ·intro hz;rcases Jx.mp ((h z).mp (Jo _ hz))with e | k
   ·subst e;exact(T.nT _ (p.1 _ hz)).elim
   ·exact k
  ·intro hz;rcases Jx.mp ((h z).mpr (Jo _ hz))with e | k
   ·subst e;exact(T.nT _ (q.1 _ hz)).elim
   ·exact k
end order
section marks
variable (nE:α->List α) (r:α->α->Prop) [DecidableRel r]
variable {nE r}
end marks
section groups
variable {nE:α->List α} {r:α->α->Prop} [DecidableRel r]
end groups
section walk
variable {nE:α->List α}
end walk
section all
variable {nE:α->List α} {r:α->α->Prop} [DecidableRel r]
end all
end Gr
namespace Sw
open PySem PySem.Spec PyProof.Rows L2
theorem oi {Γ Γ':b0} {Ξ Ξ':XS} {D:Ends} {σ:L2.St} {H:Hp} (h:D.nx σ H):wSs .nil Γ Ξ {D with nx:=wSs .nil Γ' Ξ' D} σ H:=ck (ck (Γ:=Γ') (Ξ:=Ξ') h)
section
variable {M:Mo} {H H':Hp} {p l:Addr}
theorem ao {o:HO} (h:H p=some o) (nf:∀b u,o ≠ .frz b u):rd M H p=some o:=by
 unfold rd;rw[h];cases o<;>first | rfl | exact absurd rfl (nf _ _)
theorem uT {a:Addr} (h:H' a=H a):rd M H' a=rd M H a:=by
 unfold rd;rw[h]
theorem D9 {a:Addr} {u:HO} (h:rd M H a=some u) (hl:H l=none) (ml:M l=none):a ≠ l:=by
 intro e;subst e;unfold rd at h;rw[hl,ml]at h;cases h
theorem Cs {kvs:List (Key × V)} {x:Str} {v:V} {Q:VK} (h:rd M H p=some (.dK kvs)) (hv:bQ kvs (.inr x)=some v) (q:Q v H):rS M (.ref p) (.str x) H Q:=by
 show(match rd M H p with | some (.dK kvs)=>(match keyOf (V.str x)with | some k=>(match bQ kvs k with | some v=>Q v H | none=>False) | none=>False) | _=>False);rw[h];show(match bQ kvs (.inr x)with | some v=>Q v H | none=>False);rw[hv];exact q
theorem jN {kvs:List (Key × V)} {x:Str} {v:V} {Q:Hp->Prop} (h:H p=some (.dK kvs)) (hl:kvs.length < sizeLine) (q:Q (upd H p (.dK (putK kvs (.inr x) v)))):vV (.ref p) (.str x) v H Q:=by
 show(match H p with
  | some (.lst xs)=>(match V.str x with | .int j=>(match oF xs.length j with | some n=>Q (upd H p (.lst (xs.set n v))) | none=>False) | _=>False)
  | some (.dK kvs)=>(match keyOf (V.str x)with | some kk=>kvs.length < sizeLine/\Q (upd H p (.dK (putK kvs kk v))) | none=>False)
  | _=>False)
 rw[h];exact⟨hl,q⟩
theorem tU {kvs:List (Key × V)} {x:Str} {Q:VK} (h:rd M H p=some (.dK kvs)) (q:Q (.bl (!(bQ kvs (.inr x)).isSome)) H):sh M .NotIn (.str x) (.ref p) H Q:=by
 show(match AU M H (.ref p),keyOf (V.str x)with | some kvs,some k=>Q (.bl (!(bQ kvs k).isSome)) H | _,_=>False)
 have e:AU M H (.ref p)=some kvs:=by
  show(match rd M H p with | some (.dK kvs)=>some kvs | _=>none)=some kvs;rw[h]
 rw[e];exact q
theorem vo {kvs:List (Key × V)} {x:Str} {Q:VK} (h:rd M H p=some (.dK kvs)) (q:Q (.bl (bQ kvs (.inr x)).isSome) H):sh M .In (.str x) (.ref p) H Q:=by
 show(match AU M H (.ref p),keyOf (V.str x)with | some kvs,some k=>Q (.bl (bQ kvs k).isSome) H | _,_=>False)
 have e:AU M H (.ref p)=some kvs:=by
  show(match rd M H p with | some (.dK kvs)=>some kvs | _=>none)=some kvs;rw[h]
 rw[e];exact q
theorem rQ (x:Str) (ns:NW):rR (.str x) (ns.map V.str)=decide (x ∈ ns):=by
 induction ns with
 | nil=>rfl
 | cons y r ih=>
  have e:rR (.str x) ((y::r).map V.str)=(AS (.str y) (.str x) || rR (.str x) (r.map V.str)):=rfl;rw[e,ih]
  have e2:AS (.str y) (.str x)=decide (y=x):=by
   show(y == x)=decide (y=x)
   by_cases z:y=x
   ·rw[z];simp
   ·simp[z]
  rw[e2]
  by_cases z:y=x
  ·subst z;simp
  ·have z2:x ≠ y:=fun q=>z q.symm;simp[z,z2]
theorem oK (ns:NW):(ns.map V.str).all bh=true:=by
 rw[KA];intro v hv;obtain⟨x,_,rfl⟩:=Jn.mp hv;rfl
theorem mv {ns:NW} {x:Str} {Q:VK} (h:rd M H p=some (.lst (ns.map V.str))) (q:Q (.bl (!decide (x ∈ ns))) H):cT M .NotIn (.str x) (.ref p) H Q:=by
 show(match rd M H p with
  | some (.lst xs)=>bh (V.str x)=true/\xs.all bh=true/\Q (.bl (!rR (.str x) xs)) H
  | some (.tup xs)=>bh (V.str x)=true/\xs.all bh=true/\Q (.bl (!rR (.str x) xs)) H
  | _=>False)
 rw[h];exact⟨rfl,oK ns,by rw[rQ];exact q⟩
end
end Sw
namespace Gw
open PySem PySem.Spec PyProof.Rows L2 Sw
noncomputable abbrev Row:=List (Str × Int)
noncomputable abbrev Ent:=Str × Addr × Row
noncomputable def fm (r:Row):List (Key × V):=r.map fun y=>(Sum.inr y.1,V.int y.2)
noncomputable def iJ (E:List Ent):List (Key × V):=E.map fun e=>(Sum.inr e.1,V.ref e.2.1)
theorem qU (r:Row):(fm r).length=r.length:=Jk _
theorem yf (E:List Ent):(iJ E).length=E.length:=Jk _
theorem gX {β:Type} (f:β->V):∀ (l:List (Str × β)) (x:Str),bQ (l.map fun y=>((Sum.inr y.1:Key),f y.2)) (.inr x)=(l.lookup x).map f
 | [],x=>rfl
 | y::r,x=>by
  obtain⟨n,b⟩:=y;rw[JF,JU]
  by_cases e:n=x
  ·subst e;rw[i7 rfl];simp
  ·have e2:(x == n)=false:=by simp;exact fun z=>e z.symm
   rw[e2];have h:=gX f r x;show bQ (((Sum.inr n:Key),f b)::_) (.inr x)=_;unfold bQ at h ⊢;rw[LB];have e3:decide ((Sum.inr n:Key)=Sum.inr x)=false:=JR fun z=>e (M9 z);rw[e3];exact h
theorem lookup_mem {β:Type}:∀ {l:List (Str × β)} {x:Str} {b:β},(l.map (·.1)).Nodup->(x,b) ∈ l->l.lookup x=some b
 | y::r,x,b,nd,h=>by
  obtain⟨n,c⟩:=y;rw[JU];rw[JF,JN]at nd;rcases Jx.mp h with e | h'
  ·cases e;simp
  ·have e:(x == n)=false:=by
    simp;intro z;subst z;exact nd.1 (Jn.mpr ⟨_,h',rfl⟩)
   rw[e];exact lookup_mem nd.2 h'
theorem lookup_none {β:Type}:∀ {l:List (Str × β)} {x:Str},x ∉ l.map (·.1)->l.lookup x=none
 | [],_,_=>rfl
 | y::r,x,h=>by
  obtain⟨n,c⟩:=y;rw[JF,Jx,not_or]at h;rw[JU];have e:(x == n)=false:=by simp;exact h.1
  rw[e];exact lookup_none h.2
theorem lookup_some {β:Type}:∀ {l:List (Str × β)} {x:Str} {b:β},l.lookup x=some b->(x,b) ∈ l
 | y::r,x,b,h=>by
  obtain⟨n,c⟩:=y;rw[JU]at h;cases e:(x == n)with
  | true=>rw[e]at h;cases h;rw[eq_of_beq e];exact Js
  | false=>rw[e]at h;exact Jo _ (lookup_some h)
theorem kP {β:Type} (f:β->V) (l:List (Str × β)) (x:Str) (b:β) (h:x ∉ l.map (·.1)):putK (l.map fun y=>((Sum.inr y.1:Key),f y.2)) (.inr x) (f b)=(l++[(x,b)]).map fun y=>((Sum.inr y.1:Key),f y.2):=by
 unfold putK;rw[Ji]
 ·rw[JA];rfl
 ·intro z;rw[List.any_eq_true]at z;obtain⟨y,hy,e⟩:=z;obtain⟨c,hc,rfl⟩:=Jn.mp hy;have e:=JX e;have e':c.1=x:=M9 e;exact h (Jn.mpr ⟨c,hc,e'⟩)
theorem uV {β:Type} (f:β->V) (l:List (Str × β)) (x:Str) (b:β) (h:x ∈ l.map (·.1)):putK (l.map fun y=>((Sum.inr y.1:Key),f y.2)) (.inr x) (f b)=(l.map fun y=>if y.1=x then(y.1,b)else y).map fun y=>((Sum.inr y.1:Key),f y.2):=by
 unfold putK;rw[Jj]
 ·rw[JT,JT];refine KD fun y _=>?_;show(if(Sum.inr y.1:Key)=Sum.inr x then((Sum.inr y.1:Key),f b)else(Sum.inr y.1,f y.2))=_
  by_cases e:y.1=x
  ·rw[Jj (by rw[e])];show _=((Sum.inr (if y.1=x then(y.1,b)else y).1:Key),f (if y.1=x then(y.1,b)else y).2);rw[Jj e]
  ·rw[Ji fun z=>e (M9 z)];show _=((Sum.inr (if y.1=x then(y.1,b)else y).1:Key),f (if y.1=x then(y.1,b)else y).2);rw[Ji e]
 ·rw[List.any_eq_true];obtain⟨c,hc,e⟩:=Jn.mp h;exact⟨_,Jn.mpr ⟨c,hc,rfl⟩,JV (by rw[<-e])⟩
theorem As {β:Type} (f:β->V) (l:List (Str × β)) (x:Str):iE (l.map fun y=>((Sum.inr y.1:Key),f y.2)) (.inr x)=(l.filter fun y=>decide (y.1 ≠ x)).map fun y=>((Sum.inr y.1:Key),f y.2):=by
 unfold iE;rw[NN];refine congrArg _ (List.filter_congr fun y _=>?_);show decide ((Sum.inr y.1:Key) ≠ Sum.inr x)=decide (y.1 ≠ x)
 by_cases e:y.1=x
 ·simp[e]
 ·have:(Sum.inr y.1:Key) ≠ Sum.inr x:=fun z=>e (M9 z);simp[e,this]
structure bu (H:Hp) (w:Addr) (E:List Ent):Prop where
 top:H w=some (.dK (iJ E))
 row:∀e ∈ E,H e.2.1=some (.dK (fm e.2.2))
 nd:(w::E.map (·.2.1)).Nodup
 keys:(E.map (·.1)).Nodup
 rk:∀e ∈ E,(e.2.2.map (·.1)).Nodup
 bK:E.length<=20
 lR:∀e ∈ E,e.2.2.length<=20
theorem take_snoc {α:Type} {l:List α} {n:Nat} {a:α} (h:l[n]?=some a):l.take (n + 1)=l.take n++[a]:=by
 rw[MC,h];rfl
noncomputable abbrev GI:=List (Str × Row)
noncomputable def cont (E:List Ent):GI:=E.map fun e=>(e.1,e.2.2)
theorem bP (E:List Ent):(cont E).map (·.1)=E.map (·.1):=by
 unfold cont;rw[JT];rfl
noncomputable abbrev slt (a b:Str):Prop:=a.cps.toList < b.cps.toList
theorem bW:Gr.Fb slt where
 nT:=fun a=>K0 _
 tr:=fun a b c h k=>Nk h k
 Dt:=fun a b h=>by
  by_cases h1:a.cps.toList < b.cps.toList
  ·exact .inl h1
  ·by_cases h2:b.cps.toList < a.cps.toList
   ·exact .inr h2
   ·exfalso;have e:a.cps.toList=b.cps.toList:=NC (LM.mp h2) (LM.mp h1);apply h;obtain⟨x⟩:=a;obtain⟨y⟩:=b
    congr 1
    exact Array.toList_inj.mp e
theorem CW:∀ {r:NW} {p:Str},risingS p r=true->(p::r).Nodup->(p::r).Pairwise slt
 | [],p,_,_=>by simp
 | x::r,p,h,nd=>by
  unfold risingS at h;rw[ltCps_eq]at h;simp only[J6,LH,MD]at h;have nd':=JN.mp nd;have ih:=CW h.2 nd'.2
  have px:slt p x:=by
   rcases bW.Dt p x (fun e=>nd'.1 (by rw[e];exact Js))with q | q
   ·exact q
   ·exact absurd q h.1
  rw[L3];refine⟨fun y hy=>?_,ih⟩;rcases Jx.mp hy with rfl | hy
  ·exact px
  ·exact bW.tr _ _ _ px ((L3.mp ih).1 y hy)
theorem wb {l:NW} (h:sortedS l=true) (nd:l.Nodup):l.Pairwise slt:=by
 cases l with
 | nil=>simp
 | cons x r=>exact CW h nd
noncomputable def nE (E:List Ent) (x:Str):NW:=match E.lookup x with
 | some y=>y.2.map (·.1)
 | none=>[]
theorem uh {E:List Ent} {x:Str} {y:Addr × Row} (h:E.lookup x=some y):nE E x=y.2.map (·.1):=by
 unfold nE;rw[h]
theorem hJ {E:List Ent} {x:Str} (h:x ∈ E.map (·.1)):∃y,E.lookup x=some y/\(x,y) ∈ E:=by
 cases e:E.lookup x with
 | some y=>exact⟨y,rfl,lookup_some e⟩
 | none=>
  exfalso
  induction E with
  | nil=>cases h
  | cons z r ih=>
   obtain⟨n,b⟩:=z;rw[JU]at e;cases q:(x == n)with
   | true=>rw[q]at e;cases e
   | false=>
    rw[q]at e;rw[JF,Jx]at h;rcases h with h | h
    ·exact absurd h (by simpa using q)
    ·exact ih h e
theorem EO {M:Mo} {H:Hp} {p:Addr} {ws:NW} {x:Str} {Q:VK} (h:H p=some (.lst (ws.map V.str))) (hl:ws.length < sizeLine) (q:Q .aQ (upd H p (.lst ((ws++[x]).map V.str)))):fq M .append (.ref p) [.str x] H Q:=by
 rw[Sw.rF,h];dsimp only;refine⟨by rw[Jk];exact hl,?_⟩;rw[JA]at q;exact q
theorem gE {M:Mo} {H:Hp} {p:Addr} {xs:List V} (h:H p=some (.lst xs)):(match V.ref p with | .ref p=>(match rd M H p with | some (.lst _)=>true | _=>false) | _=>false)=true:=by
 dsimp only;rw[ao h (by intro _ _ z;cases z)]
theorem Aj {E:List Ent} {R:NW} (nd:R.Nodup) (sub:∀x ∈ R,x ∈ E.map (·.1)):R.length<=E.length:=by
 have:=MX nd sub;rw[Jk]at this;exact this
noncomputable def jE (W:GI) (x:Str):NW:=match W.lookup x with
 | some r=>r.map (·.1)
 | none=>[]
theorem kg (x:Str):∀E:List Ent,(cont E).lookup x=(E.lookup x).map (·.2)
 | []=>rfl
 | e::r=>by
  obtain⟨n,a,row⟩:=e;show List.lookup x ((n,row)::cont r)=_;rw[JU,JU];cases (x == n)with
  | true=>rfl
  | false=>exact kg x r
theorem df (E:List Ent):nE E=jE (cont E):=by
 funext x;unfold nE jE;rw[kg];cases E.lookup x<;>rfl
structure gk (W:GI):Prop where
 keys:(W.map (·.1)).Nodup
 sy:∀a b,b ∈ jE W a->a ∈ jE W b
 cl:∀a b,b ∈ jE W a->b ∈ W.map (·.1)
theorem allM_map {α β:Type} {f:V->Option β} {g:α->V} {k:α->β}:∀ {l:List α},(∀ x ∈ l,f (g x)=some (k x))->allM f (l.map g)=some (l.map k)
 | [],_=>rfl
 | x::r,h=>by
  rw[JF,JF];unfold allM;rw[h x Js,allM_map fun y hy=>h y (Jo _ hy)]
theorem jw {M:Mo} {H:Hp} (n:Nat) (x:Str):data M H n (.str x)=some (.str x):=by cases n<;>rfl
theorem ai {xs:List V}:∀b u,(HO.lst xs) ≠ .frz b u:=by intro _ _ z;cases z
theorem fW {kvs:List (Key × V)}:∀b u,(HO.dK kvs) ≠ .frz b u:=by intro _ _ z;cases z
end Gw
namespace Sw
open PySem PySem.Spec PyProof.Rows L2 Gw
theorem Ext.nD {M:Mo} {H H':Hp} {w:Addr} {E:List Ent} (x:Ext M H H') (W:bu H w E):bu H' w E:=
 ⟨x.same _ _ W.top,fun e he=>x.same _ _ (W.row e he),W.nd,W.keys,W.rk,W.bK,W.lR⟩
theorem Ext.aQ {M:Mo} {H H':Hp} {a:Addr} (x:Ext M H H') (h:H' a=none):H a=none:=by
 cases e:H a with
 | none=>rfl
 | some u=>rw[x.same a u e]at h;cases h
theorem Ext.cn {M:Mo} {H H':Hp} {p:Addr} {o:HO} (x:Ext M H H') (h:H p=none) (m:M p=none):Ext M H (L2.upd H' p o):=
 ⟨fun b u e=>by rw[af (aj e h)];exact x.same b u e,fun b mb e=>by rw[af (fun z=>mb (by rw[z];exact m))];exact x.off b mb e⟩
end Sw
namespace Gw
open PySem PySem.Spec PyProof.Rows L2 Sw
theorem qJ:∀E:List Ent,allM o5 ((iJ E).map fun y=>kV y.1)=some (E.map (·.1))
 | []=>rfl
 | e::r=>by
  have ih:=qJ r;have q:((iJ (e::r)).map fun y=>kV y.1)=V.str e.1::((iJ r).map fun y=>kV y.1):=rfl;rw[q];unfold allM;rw[ih];rfl
theorem Be {M:Mo} {H:Hp} {p:Addr} {E:List Ent} {Q:VK} (h:H p=some (.dK (iJ E))) (q:cI M (E.map (·.1)) H Q):gN M .dsorted [.ref p] H Q:=by
 show(match H p with | some (.dK kvs)=>(match allM o5 (kvs.map fun y=>kV y.1)with | some ts=>cI M ts H Q | none=>False) | _=>False);rw[h];dsimp only;rw[qJ];exact q
theorem bJ {M:Mo} {H:Hp} {p:Addr} {xs:List V} {k:List V->(Hp->Prop)->Prop} (h:rd M H p=some (.lst xs)) (q:k xs (fun H'=>rd M H' p=some (.lst xs))):mN M (.ref p) H k:=by
 show(match rd M H p with
  | some (.lst xs)=>k xs (fun H'=>rd M H' p=some (.lst xs))
  | _=>False)
 rw[h];exact q
theorem Dl {H:Hp} {w:Addr} {E:List Ent} (W:bu H w E) {c:Str} {p:Addr} {row:Row} (hm:(c,p,row) ∈ E):p ≠ w:=by
 intro z;have:=W.nd;rw[JN]at this;exact this.1 (Jn.mpr ⟨_,hm,z⟩)
theorem qp {α:Type} {xs:List α} {i:Int} (h0:0<=i) (h1:i < xs.length):∃x,k_ xs i=some x/\x ∈ xs:=by
 have hlt:i.toNat < xs.length:=by omega
 refine⟨xs[i.toNat],?_,KJ hlt⟩;unfold k_ oF;rw[Jj h0,Jj h1,Mh,Jl hlt]
theorem iA {M:Mo} {H:Hp} {p:Addr} {xs:List V} {i:Int} {v:V} {Q:VK} (h:rd M H p=some (.lst xs)) (e:k_ xs i=some v) (q:Q v H):c_ M (.ref p) (.int i) H Q:=by
 rw[iC,h];dsimp only;rw[e];exact q
theorem pZ {M:Mo} {H:Hp} {p:Addr} {ns:NW} {i:Int} {Q:VK} (h:rd M H p=some (.lst (ns.map V.str))) (h0:0<=i) (h1:i < ns.length) (q:∀x ∈ ns,Q (.str x) H):c_ M (.ref p) (.int i) H Q:=by
 obtain⟨v,e,hv⟩:=qp (xs:=ns.map V.str) h0 (by rw[Jk];exact h1);obtain⟨x,hx,rfl⟩:=Jn.mp hv;exact iA h e (q x hx)
theorem gI {M:Mo} {H:Hp} {p:Addr} {xs:List V} {Q:VK} (h:rd M H p=some (.lst xs)) (q:Q (.int xs.length) H):gN M .len [.ref p] H Q:=by
 rw[Sw.ub,h];exact q
noncomputable def lL (M:Mo):Sp:=fun vs H Q _=>∃a i,∃ns:List Int,vs=[.ref a,.int i]/\0<=i/\rd M H a=some (.lst (ns.map V.int))/\∀c,Q (.int c) H
theorem ng {i:Int} (h0: -4294967296<=i) (h1:i<=4294967296):qh i=true:=by
 unfold qh;simp only[J6,KQ];omega
theorem Gz {i j:Int} (h0: -4294967296<=j) (h1:j<=4294967296):(qh i || qh j)=true:=by rw[ng h0 h1,Bool.or_true]
theorem GA {i j:Int} (h0: -4294967296<=i) (h1:i<=4294967296):(qh i || qh j)=true:=by rw[ng h0 h1,Bool.true_or]
theorem jr {α β:Type} {f:α->β}:∀ {l:List α},(l.map f).Nodup->∀ {a b:α},a ∈ l->b ∈ l->f a=f b->a=b
 | x::r,nd,a,b,ha,hb,e=>by
  rw[JF,JN]at nd;rcases Jx.mp ha with h1 | h1
  ·rcases Jx.mp hb with h2 | h2
   ·rw[h1,h2]
   ·exact(nd.1 (Jn.mpr ⟨b,h2,by rw[<-e,h1]⟩)).elim
  ·rcases Jx.mp hb with h2 | h2
   ·exact(nd.1 (Jn.mpr ⟨a,h1,by rw[e,h2]⟩)).elim
   ·exact jr nd.2 h1 h2 e
noncomputable def b8 (x:Str) (row':Row) (E:List Ent):List Ent:=E.map fun e=>if e.1=x then(e.1,e.2.1,row')else e
theorem aK (x:Str) (row':Row) (E:List Ent):(b8 x row' E).map (·.1)=E.map (·.1):=by
 unfold b8;rw[JT];refine KD fun e _=>?_;show(if e.1=x then(e.1,e.2.1,row')else e).1=e.1;split<;>rfl
theorem cY (x:Str) (row':Row) (E:List Ent):(b8 x row' E).map (·.2.1)=E.map (·.2.1):=by
 unfold b8;rw[JT];refine KD fun e _=>?_;show(if e.1=x then(e.1,e.2.1,row')else e).2.1=e.2.1;split<;>rfl
theorem tj (x:Str) (row':Row) (E:List Ent):iJ (b8 x row' E)=iJ E:=by
 unfold iJ b8;rw[JT];refine KD fun e _=>?_;show((Sum.inr (if e.1=x then(e.1,e.2.1,row')else e).1:Key),V.ref (if e.1=x then(e.1,e.2.1,row')else e).2.1)=_;split<;>rfl
theorem iL {x:Str} {row':Row} {E:List Ent} {e:Ent} (h:e ∈ b8 x row' E):(e ∈ E/\e.1 ≠ x)\/(e.1=x/\e.2.2=row'/\∃r,(x,e.2.1,r) ∈ E):=by
 obtain⟨f,hf,q⟩:=Jn.mp h
 by_cases z:f.1=x
 ·rw[Jj z]at q;subst q;exact .inr ⟨z,rfl,f.2.2,by rw[<-z];exact hf⟩
 ·rw[Ji z]at q;subst q;exact .inl ⟨hf,z⟩
theorem je {x:Str} {row':Row} {E:List Ent} {e:Ent} (h:e ∈ E) (hn:e.1 ≠ x):e ∈ b8 x row' E:=Jn.mpr ⟨_,h,Ji hn⟩
theorem iz (x:Str) (row':Row) (y:Str):∀E:List Ent,(b8 x row' E).lookup y=(E.lookup y).map fun b=>if y=x then(b.1,row')else b
 | []=>rfl
 | e::r=>by
  obtain⟨n,a,row⟩:=e;have ih:=iz x row' y r;have q:b8 x row' ((n,a,row)::r)=(if n=x then(n,a,row')else(n,a,row))::b8 x row' r:=rfl;rw[q]
  by_cases z:n=x
  ·rw[Jj z,JU,JU];cases w:(y == n)with
   | true=>
    show some (a,row')=some (if y=x then(a,row')else(a,row));rw[Jj ((eq_of_beq w).trans z)]
   | false=>exact ih
  ·rw[Ji z,JU,JU];cases w:(y == n)with
   | true=>
    show some (a,row)=some (if y=x then(a,row')else(a,row));rw[Ji (fun u=>z ((eq_of_beq w).symm.trans u))]
   | false=>exact ih
theorem fR {x:Str} {row':Row} {E:List Ent} (hx:x ∈ E.map (·.1)) (y:Str):jE (cont (b8 x row' E)) y=if y=x then row'.map (·.1)else jE (cont E) y:=by
 rw[<-df,<-df];unfold nE;rw[iz]
 by_cases q:y=x
 ·subst q;obtain⟨b,hb,_⟩:=hJ hx;rw[hb,Jj rfl,K5,Jj rfl]
 ·rw[Ji q];cases E.lookup y with
  | none=>rfl
  | some b=>rw[K5,Ji q]
theorem bu.set {H:Hp} {w p:Addr} {E:List Ent} {x:Str} {row row':Row} (W:bu H w E) (h:(x,p,row) ∈ E) (rk:(row'.map (·.1)).Nodup) (bK:row'.length<=20):bu (upd H p (.dK (fm row'))) w (b8 x row' E):=by
 have pw:=Dl W h
 have one:∀e ∈ E,e.2.1=p->e.1=x:=fun e he z=>by
  have nd:=(JN.mp W.nd).2;exact congrArg Prod.fst (jr nd he h z)
 refine⟨by rw[af pw.symm,tj];exact W.top,fun e he=>?_,by rw[cY];exact W.nd,by rw[aK];exact W.keys,fun e he=>?_,by unfold b8;rw[Jk];exact W.bK,fun e he=>?_⟩
 ·rcases iL he with ⟨h1,h2⟩ | ⟨h1,h2,r,h3⟩
  ·rw[af (fun z=>h2 (one e h1 z))];exact W.row e h1
  ·have e1:=lookup_mem W.keys h;have e2:=lookup_mem W.keys h3;rw[e1]at e2;have:p=e.2.1:=congrArg Prod.fst (JL e2);rw[<-this,ae,h2]
 ·rcases iL he with ⟨h1,h2⟩ | ⟨h1,h2,r,h3⟩
  ·exact W.rk e h1
  ·rw[h2];exact rk
 ·rcases iL he with ⟨h1,h2⟩ | ⟨h1,h2,r,h3⟩
  ·exact W.lR e h1
  ·rw[h2];exact bK
theorem fZ {M:Mo} {H:Hp} {w p:Addr} {E:List Ent} {x:Str} {row:Row} {Q:VK} (W:bu H w E) (h:(x,p,row) ∈ E) (q:Q (.ref p) H):rS M (.ref w) (.str x) H Q:=by
 refine Cs (x:=x) (v:=.ref p) (kvs:=iJ E) (ao W.top fW) ?_ q;have z:=gX (fun y:Addr × Row=>V.ref y.1) E x;rw[lookup_mem W.keys h]at z;exact z
theorem iM (row:Row) (x:Str):(bQ (fm row) (.inr x)).isSome=decide (x ∈ row.map (·.1)):=by
 have z:=gX (fun i=>V.int i) row x;show(bQ (row.map fun y=>((Sum.inr y.1:Key),V.int y.2)) (.inr x)).isSome=_;rw[z]
 by_cases h:x ∈ row.map (·.1)
 ·obtain⟨y,hy,e⟩:=Jn.mp h;cases q:row.lookup x with
  | some b=>simp[h]
  | none=>
   exfalso;clear z
   induction row with
   | nil=>cases hy
   | cons u r ih=>
    obtain⟨n,b⟩:=u;rw[JU]at q;cases w:(x == n)with
    | true=>rw[w]at q;cases q
    | false=>
     rw[w]at q;rcases Jx.mp hy with hy | hy
     ·subst hy;exact absurd e.symm (by simpa using w)
     ·exact ih (Jn.mpr ⟨y,hy,e⟩) hy q
 ·rw[lookup_none h];simp[h]
theorem vB {M:Mo} {H:Hp} {p:Addr} {row:Row} {x:Str} {Q:VK} (h:H p=some (.dK (fm row))) (hx:x ∈ row.map (·.1)) (q:∀v,Q v (upd H p (.dK (fm (row.filter fun y=>decide (y.1 ≠ x)))))):D_ M .dpop (.ref p) H=true/\fq M .dpop (.ref p) [.str x] H Q:=by
 constructor
 ·show(match H p with | some (.dK _)=>true | _=>false)=true;rw[h]
 ·show(match H p with
   | some (.dK kvs)=>(match keyOf (V.str x)with | some k=>(match bQ kvs k with | some v=>Q v (upd H p (.dK (iE kvs k))) | none=>False) | none=>False)
   | _=>False)
  rw[h];show(match bQ (fm row) (.inr x)with | some v=>Q v (upd H p (.dK (iE (fm row) (.inr x)))) | none=>False);have z:=iM row x;rw[JV hx]at z;obtain⟨v,hv⟩:=Lh.mp z;rw[hv];have d:iE (fm row) (.inr x)=fm (row.filter fun y=>decide (y.1 ≠ x)):=As (fun i=>V.int i) row x;dsimp only;rw[d];exact q v
theorem j3 {E:List Ent} {x:Str} {p:Addr} {row:Row} (keys:(E.map (·.1)).Nodup) (h:(x,p,row) ∈ E):jE (cont E) x=row.map (·.1):=by
 rw[<-df];exact uh (lookup_mem keys h)
theorem oM (row:Row) (b y:Str):y ∈ (row.filter fun z=>decide (z.1 ≠ b)).map (·.1) ↔ y ∈ row.map (·.1)/\y ≠ b:=by
 constructor
 ·intro h;obtain⟨z,hz,e⟩:=Jn.mp h;obtain⟨h1,h2⟩:=J2.mp hz;exact⟨Jn.mpr ⟨z,h1,e⟩,by rw[<-e];simpa using h2⟩
 ·rintro⟨h1,h2⟩
  obtain⟨z,hz,e⟩:=Jn.mp h1;have e:z.1=y:=e;exact Jn.mpr ⟨z,J2.mpr ⟨hz,by rw[e];simpa using h2⟩,e⟩
theorem uR {W:GI} {E:List Ent} {row:Row} (nd:(row.map (·.1)).Nodup) (sub:∀x ∈ row.map (·.1),x ∈ E.map (·.1)) (bK:E.length<=20):row.length<=20:=by
 have:=Aj nd sub;rw[Jk]at this;omega
theorem nv {x:Str} {l:Addr}:∀ {E:List Ent},(E.map (·.1)).Nodup->(E.map (·.2.1)).Nodup->l ∉ E.map (·.2.1)->(E.map fun e=>if e.1=x then l else e.2.1).Nodup
 | [],_,_,_=>by simp
 | e::r,k,n,h=>by
  rw[JF,JN]at k n ⊢;rw[JF,Jx,not_or]at h;refine⟨fun z=>?_,nv k.2 n.2 h.2⟩;obtain⟨f,hf,q⟩:=Jn.mp z
  by_cases e1:e.1=x
  ·rw[Jj e1]at q
   by_cases f1:f.1=x
   ·exact k.1 (Jn.mpr ⟨f,hf,by rw[f1,e1]⟩)
   ·rw[Ji f1]at q;exact h.2 (Jn.mpr ⟨f,hf,q⟩)
  ·rw[Ji e1]at q
   by_cases f1:f.1=x
   ·rw[Jj f1]at q;exact h.1 q
   ·rw[Ji f1]at q;exact n.1 (Jn.mpr ⟨f,hf,q⟩)
theorem A6 {H:Hp} {w l:Addr} {E:List Ent} {x:Str} {ns:NW} (W:bu H w E) (hl:H l=none) (emp:∀e ∈ E,e.2.2=[]) (sub:∀y ∈ E.map (·.1),y ∈ ns) (hx:x ∈ ns) (bK:ns.length<=20):
  ∃E',putK (iJ E) (.inr x) (.ref l)=iJ E'/\bu (upd (upd H l (.dK [])) w (.dK (iJ E'))) w E'/\(∀ e ∈ E',e.2.2=[])/\(∀ e ∈ E',e.2.1=l\/∃e0 ∈ E,e0.2.1=e.2.1)/\∀y,y ∈ E'.map (·.1) ↔ y ∈ E.map (·.1)\/y=x:=by
 have wl:w ≠ l:=aj W.top hl
 have nl:l ∉ E.map (·.2.1):=fun z=>by
  obtain⟨e,he,q⟩:=Jn.mp z;have:=W.row e he;rw[q,hl]at this;cases this
 have nw:=(JN.mp W.nd).1
 by_cases h:x ∈ E.map (·.1)
 ·refine⟨E.map fun y:Ent=>if y.1=x then(y.1,(l,[]))else y,uV (fun y:Addr × Row=>V.ref y.1) E x (l,[]) h,?_⟩
  have ke:(E.map fun y:Ent=>if y.1=x then(y.1,((l,[]):Addr × Row))else y).map (·.1)=E.map (·.1):=by
   rw[JT];refine KD fun e _=>?_;show(if e.1=x then(e.1,((l,[]):Addr × Row))else e).1=e.1;split<;>rfl
  have ad:(E.map fun y:Ent=>if y.1=x then(y.1,((l,[]):Addr × Row))else y).map (·.2.1)=E.map fun e=>if e.1=x then l else e.2.1:=by
   rw[JT];refine KD fun e _=>?_;show(if e.1=x then(e.1,((l,[]):Addr × Row))else e).2.1=_;split<;>rfl
  have cs:∀e ∈ (E.map fun y:Ent=>if y.1=x then(y.1,((l,[]):Addr × Row))else y),(e.2.1=l/\e.2.2=[])\/e ∈ E:=fun e he=>by
   obtain⟨f,hf,q⟩:=Jn.mp he
   by_cases z:f.1=x
   ·rw[Jj z]at q;subst q;exact .inl ⟨rfl,rfl⟩
   ·rw[Ji z]at q;subst q;exact .inr hf
  refine⟨⟨ae,fun e he=>?_,?_,by rw[ke];exact W.keys,fun e he=>?_,by rw[Jk];exact W.bK,fun e he=>?_⟩,fun e he=>?_,fun e he=>?_,fun y=>?_⟩
  ·rcases cs e he with ⟨h1,h2⟩ | h1
   ·rw[h1,h2,af wl.symm,ae];rfl
   ·have n1:e.2.1 ≠ w:=fun z=>nw (Jn.mpr ⟨e,h1,z⟩);have n2:e.2.1 ≠ l:=fun z=>nl (Jn.mpr ⟨e,h1,z⟩);rw[af n1,af n2];exact W.row e h1
  ·rw[JN,ad];refine⟨fun z=>?_,nv W.keys (JN.mp W.nd).2 nl⟩;obtain⟨f,hf,q⟩:=Jn.mp z
   by_cases f1:f.1=x
   ·rw[Jj f1]at q;exact wl q.symm
   ·rw[Ji f1]at q;exact nw (Jn.mpr ⟨f,hf,q⟩)
  ·rcases cs e he with ⟨h1,h2⟩ | h1
   ·rw[h2];simp
   ·exact W.rk e h1
  ·rcases cs e he with ⟨h1,h2⟩ | h1
   ·rw[h2];simp
   ·exact W.lR e h1
  ·rcases cs e he with ⟨h1,h2⟩ | h1
   ·exact h2
   ·exact emp e h1
  ·rcases cs e he with ⟨h1,h2⟩ | h1
   ·exact .inl h1
   ·exact .inr ⟨e,h1,rfl⟩
  ·rw[ke];constructor
   ·exact .inl
   ·rintro(z | z)
    ·exact z
    ·rw[z];exact h
 ·have ke:∀y,y ∈ (E++[((x,l,[]):Ent)]).map (·.1) ↔ y ∈ E.map (·.1)\/y=x:=fun y=>by
   rw[JA,JB];simp
  have nd:((E++[((x,l,[]):Ent)]).map (·.1)).Nodup:=by
   rw[JA,JI];exact⟨W.keys,by simp,fun a ha b hb z=>h (by rw[<-(show b=x by simpa using hb),<-z];exact ha)⟩
  have ln:(E++[((x,l,[]):Ent)]).length<=20:=by
   have z:=MX nd (l₂:=ns) fun y hy=>((ke y).mp hy).elim (sub y) fun z=>by rw[z];exact hx
   rw[Jk]at z;omega
  refine⟨E++[((x,l,[]):Ent)],kP (fun y:Addr × Row=>V.ref y.1) E x (l,[]) h,⟨ae,fun e he=>?_,?_,nd,fun e he=>?_,ln,fun e he=>?_⟩,fun e he=>?_,fun e he=>?_,ke⟩
  ·rcases JB.mp he with h1 | h1
   ·have n1:e.2.1 ≠ w:=fun z=>nw (Jn.mpr ⟨e,h1,z⟩);have n2:e.2.1 ≠ l:=fun z=>nl (Jn.mpr ⟨e,h1,z⟩);rw[af n1,af n2];exact W.row e h1
   ·rw[Jz.mp h1];show upd _ w _ l=_;rw[af wl.symm,ae];rfl
  ·rw[JA,<-List.cons_append,JI];refine⟨W.nd,by simp,fun a ha b hb z=>?_⟩;have hb':b=l:=by simpa using hb
   rcases Jx.mp ha with ha | ha
   ·exact wl (by rw[<-hb',<-z,ha])
   ·exact nl (by rw[<-hb',<-z];exact ha)
  ·rcases JB.mp he with h1 | h1
   ·exact W.rk e h1
   ·rw[Jz.mp h1];simp
  ·rcases JB.mp he with h1 | h1
   ·exact W.lR e h1
   ·rw[Jz.mp h1];simp
  ·rcases JB.mp he with h1 | h1
   ·exact emp e h1
   ·rw[Jz.mp h1]
  ·rcases JB.mp he with h1 | h1
   ·exact .inr ⟨e,h1,rfl⟩
   ·rw[Jz.mp h1];exact .inl rfl
structure AK (H2:Hp) (w:Addr) (E0:List Ent) (H:Hp) (E:List Ent):Prop where
 nD:bu H w E
 ok:gk (cont E)
 keys:E.map (·.1)=E0.map (·.1)
 xH:E.map (·.2.1)=E0.map (·.2.1)
 rest:∀x,x ∉ E0.map (·.2.1)->H x=H2 x
theorem AK.rd {M:Mo} {H2 H:Hp} {w q:Addr} {E0 E:List Ent} {xs:List V} (t:AK H2 w E0 H E) (W:bu H2 w E0) (h:rd M H2 q=some (.lst xs)):rd M H q=some (.lst xs):=by
 rw[uT (t.rest q fun z=>?_)]
 ·exact h
 ·obtain⟨e,he,e1⟩:=Jn.mp z;rw[<-e1,ao (W.row e he) fW]at h;cases h
theorem AK.ext {M:Mo} {H0 H2 H:Hp} {w:Addr} {E0 E:List Ent} (t:AK H2 w E0 H E) (W:bu H2 w E0) (x:Ext M H0 H2) (fr:∀e ∈ E0,H0 e.2.1=none):Ext M H0 H:=by
 constructor
 ·intro a o e;rw[t.rest a fun z=>?_]
  ·exact x.same a o e
  ·obtain⟨f,hf,q⟩:=Jn.mp z;have:=fr f hf;rw[q,e]at this;cases this
 ·intro a m e;have e2:=x.off a m e;rw[t.rest a fun z=>?_]
  ·exact e2
  ·obtain⟨f,hf,q⟩:=Jn.mp z;have:=W.row f hf;rw[q,e2]at this;cases this
theorem cP {n k:Nat} {f:Nat->V} {v:V} (h:((List.range n).map f)[k]?=some v):k < n/\v=f k:=by
 rw[JJ]at h;obtain⟨k',hk,rfl⟩:=JW.mp h;obtain⟨hk1,hk2⟩:=Jv.mp hk;rw[Nd]at hk2;subst hk2;rw[J8]at hk1;exact⟨hk1,rfl⟩
theorem Bi {M:Mo} {H:Hp} {a b:Str} {Q:VK} (q:Q (.str (Gr.mn slt a b)) H):gN M .smin [.str a,.str b] H Q:=q
theorem vJ {te:TE} {fvs:L2.St} {D:Addr} {aq:Hp->Prop} {H0:Hp} {k:Hp->Prop} (f:V->V):∀ (xs acc:List V),(∀ v ∈ xs,∀acc Q,Q (f v) (upd H0 D (.lst acc))->te (some v::fvs) (upd H0 D (.lst acc)) Q)->(∀ l,aq (upd H0 D (.lst l)))->acc.length + xs.length<=sizeLine->
  k (upd H0 D (.lst (acc++xs.map f)))->eA te (fun _ H Q=>Q true H) fvs D aq xs acc (upd H0 D (.lst acc)) k:=by
 intro xs
 induction xs with
 | nil=>
  intro acc h1 h2 h3 h4;exact⟨h2 _,ae,by simpa using h4⟩
 | cons v r ih=>
  intro acc h1 h2 h3 h4;refine⟨h2 _,?_⟩;show if true=true then _ else _
  rw[Jj rfl];refine h1 v Js _ _ ⟨ae,by rw[J5]at h3;omega,?_⟩;rw[dH];refine ih (acc++[f v]) (fun v hv=>h1 v (Jo _ hv)) h2 (by rw[Jw];simp at h3 ⊢;omega) ?_;simpa using h4
end Gw
namespace Gk
open PySem PySem.Spec PyProof.Rows L2 Sw Gw
abbrev iV:NW:=["plan","mates","one","other"]
noncomputable def iP:fh:=(.cons (.asg 1 .dnew)
 (.cons (.frT [2,3] (.ex (.var 0)) (.cons (.sto (.var 1) (.var 2) (.var 3))
 (.cons (.sto (.var 1) (.var 3) (.var 2))
 .nil)))
 (.cons (.ret (.var 1))
 .nil)))
noncomputable abbrev Pr:=Addr × Str × Str
noncomputable def refs (P:List Pr):List V:=P.map fun x=>.ref x.1
noncomputable def au (P:List Pr):NU:=P.map (·.2)
noncomputable def ends (L:NU):NW:=(L.map fun x=>[x.1,x.2]).flatten
noncomputable def mt (L:NU):NU:=(L.map fun x=>[(x.1,x.2),(x.2,x.1)]).flatten
noncomputable def sK (l:NU):List (Key × V):=l.map fun y=>((Sum.inr y.1:Key),V.str y.2)
theorem aP (P:List Pr):(refs P).length=P.length:=Jk _
theorem yz (l:NU):(sK l).length=l.length:=Jk _
theorem fX:∀L:NU,(mt L).map (·.1)=ends L
 | []=>rfl
 | x::r=>congrArg (fun l=>x.1::x.2::l) (fX r)
theorem Ca (L:NU) (a b:Str):mt (L++[(a,b)])=mt L++[(a,b)]++[(b,a)]:=by
 unfold mt;rw[JA,LP];simp
theorem dR (L:NU) (a b:Str):ends (L++[(a,b)])=ends L++[a]++[b]:=by
 unfold ends;rw[JA,LP];simp
theorem a_:∀L:NU,(ends L).length=2 * L.length
 | []=>rfl
 | x::r=>by
  show(ends r).length + 1 + 1=2 * (r.length + 1);rw[a_ r];omega
theorem zy (L:NU):(mt L).length=2 * L.length:=by
 have:=congrArg List.length (fX L);rw[Jk,a_]at this;exact this
theorem oP {L:NU} {n:Nat} (h:(ends L).Nodup):(ends (L.take n)).Nodup:=by
 have e:ends L=ends (L.take n)++ends (L.drop n):=by
  unfold ends;rw[<-LP,<-JA,Kl]
 rw[e,JI]at h;exact h.1
noncomputable def aF (H:Hp) (P:List Pr):Prop:=∀x ∈ P,H x.1=some (.tup [.str x.2.1,.str x.2.2])
structure ay (H:Hp) (p:Addr) (P:List Pr):Prop where
 at_:H p=some (.lst (refs P))
 dI:aF H P
theorem bG {xs:List V}:∀b u,(HO.tup xs) ≠ .frz b u:=by intro _ _ z;cases z
theorem Ext.dI {M:Mo} {H H':Hp} {P:List Pr} (x:Ext M H H') (h:aF H P):aF H' P:=fun y hy=>x.same _ _ (h y hy)
theorem Ext.bL {M:Mo} {H H':Hp} {p:Addr} {P:List Pr} (x:Ext M H H') (h:ay H p P):ay H' p P:=⟨x.same _ _ h.at_,Ext.dI x h.dI⟩
theorem w9 {M:Mo} {i j:Nat} {tb:TS} {aq:Hp->Prop} {D:Ends} {P:List Pr} (Pv:Nat->L2.St->Hp->Prop) (st:∀n σ H,Pv n σ H->aq H/\aF H P)
  (step:∀n x σ H (D':Ends),P[n]?=some x->Pv n σ H->(∀ σ' H',Pv (n + 1) σ' H'->D'.nx σ' H')->tb D' ((σ.set i (some (.str x.2.1))).set j (some (.str x.2.2))) H)
  (fin:∀σ H,Pv P.length σ H->D.nx σ H) {σ:L2.St} {H:Hp} (h0:Pv 0 σ H):iD M [i,j] tb aq (refs P) D σ H:=by
 have go:∀ (r:List Pr) (n:Nat),P.drop n=r->n<=P.length->∀σ H,Pv n σ H->iD M [i,j] tb aq (refs r) D σ H:=by
  intro r
  induction r with
  | nil=>
   intro n e hn σ H p;have:P.length<=n:=by simpa using e
   have hn':n=P.length:=by omega
   subst hn';exact⟨(st _ σ H p).1,fin σ H p⟩
  | cons v r ih=>
   intro n e hn σ H p
   have hlt:n < P.length:=by
    have:=congrArg List.length e;simp at this;omega
   have hv:P[n]?=some v:=by
    have:=congrArg (fun l=>l[0]?) e;simpa using this
   have hr:P.drop (n + 1)=r:=by
    have:=congrArg List.tail e;simpa[Lr]using this
   obtain⟨s1,s2⟩:=st _ σ H p;refine⟨s1,?_⟩;show(match rd M H v.1 with | some (.tup xs)=>xs.length=[i,j].length/\tb _ (eQ σ [i,j] xs) H | _=>False);rw[ao (s2 v (Jp hv)) bG];exact⟨rfl,step n v σ H _ hv p fun σ' H' q=>ih (n + 1) hr hlt σ' H' q⟩
 exact go P 0 (by simp) (J3 _) σ H h0
theorem qI {P:List Pr} {n:Nat} {x:Pr} (h:P[n]?=some x):au (P.take (n + 1))=au (P.take n)++[(x.2.1,x.2.2)]:=by
 unfold au;rw[take_snoc h,JA];rfl
theorem yx {l:NU} {x:Str} (y:Str) (h:x ∉ l.map (·.1)):putK (sK l) (.inr x) (.str y)=sK (l++[(x,y)]):=kP (fun s=>V.str s) l x y h
theorem wK {P:List Pr} {n:Nat} {x:Pr} (nd:(ends (au P)).Nodup) (h:P[n]?=some x):
  putK (sK (mt (au (P.take n)))) (.inr x.2.1) (.str x.2.2)=sK (mt (au (P.take n))++[(x.2.1,x.2.2)])/\putK (sK (mt (au (P.take n))++[(x.2.1,x.2.2)])) (.inr x.2.2) (.str x.2.1)=sK (mt (au (P.take (n + 1)))):=by
 have e:=qI h
 have nd1:(ends (au (P.take (n + 1)))).Nodup:=by
  have:au (P.take (n + 1))=(au P).take (n + 1):=Nl;rw[this];exact oP nd
 rw[e,dR,<-fX]at nd1;rw[e,Ca]
 have n1:x.2.1 ∉ (mt (au (P.take n))).map (·.1):=fun z=>by
  have:=(JI.mp (JI.mp nd1).1).2.2 _ z x.2.1 (by simp);exact this rfl
 have n2:x.2.2 ∉ (mt (au (P.take n))++[(x.2.1,x.2.2)]).map (·.1):=fun z=>by
  rw[JA]at z;have:=(JI.mp nd1).2.2 _ z x.2.2 (by simp);exact this rfl
 exact⟨yx _ n1,yx _ n2⟩
theorem Ea {P:List Pr} {n:Nat} (h:P.length<=20):(mt (au (P.take n))).length<=40:=by
 rw[zy];unfold au;rw[Jk,J4];omega
noncomputable def kK (M:Mo):Sp:=fun vs H Q _=>∃ (p:Addr) (P:List Pr),vs=[.ref p]/\ay H p P/\(ends (au P)).Nodup/\P.length<=20/\∀l,H l=none->M l=none->Q (.ref l) (upd H l (.dK (sK (mt (au P)))))
theorem zh {M:Mo} {Γ:b0} (gm:Γ.mod=M) (gc:Γ.cm=true) (vs:List V) (H:Hp) (Q:VK) (E:XK) (h:kK M vs H Q E):eJ Γ iV 1 iP vs H Q E:=by
 obtain⟨p,P,rfl,hp,nd,bK,h⟩:=h;refine⟨rfl,?_⟩;obtain rfl:=gm;unfold iP;refine seq ?_;walk_at "s1";intro l hl ml;have pl:p ≠ l:=aj hp.at_ hl;have tl:∀x ∈ P,x.1 ≠ l:=fun x hx=>aj (hp.dI x hx) hl;have same:∀kvs,ay (upd H l (.dK kvs)) p P:=fun kvs=>⟨by rw[af pl];exact hp.at_,fun x hx=>by rw[af (tl x hx)];exact hp.dI x hx⟩;refine seq ?_;walk_at "s1";refine⟨gc,bJ (ao (same _).at_ ai) ?_⟩;refine w9 (fun n σ H'=>∃v2 v3,σ=[some (.ref p),some (.ref l),v2,v3]/\H'=upd H l (.dK (sK (mt (au (P.take n)))))) (fun n σ H' z=>?_) (fun n x σ H' D' hx pv nx=>?_) (fun σ H' pv=>?_) ⟨none,none,rfl,rfl⟩
 ·obtain⟨_,_,_,rfl⟩:=z;exact⟨ao (same _).at_ ai,(same _).dI⟩
 ·obtain⟨v2,v3,rfl,rfl⟩:=pv;obtain⟨p1,p2⟩:=wK nd hx;have fw:=Ea (n:=n) bK;refine seq ?_;walk_at "s1";refine jN (x:=x.2.1) ae (by rw[yz,Jy];omega) ?_;rw[p1,dH];refine seq ?_;walk_at "s1";refine jN (x:=x.2.2) ae (by rw[yz,Jy,Jw];simp;omega) ?_;rw[p2,dH];exact ck (nx _ _ ⟨_,_,rfl,rfl⟩)
 ·obtain⟨v2,v3,rfl,rfl⟩:=pv;walk_at "sw";rw[KC];exact h l hl ml
theorem uO:∀l:NU,allM o5 ((sK l).map fun y=>kV y.1)=some (l.map (·.1))
 | []=>rfl
 | y::r=>by
  have ih:=uO r;have q:((sK (y::r)).map fun y=>kV y.1)=V.str y.1::((sK r).map fun y=>kV y.1):=rfl;rw[q];unfold allM;rw[ih];rfl
theorem Fx {M:Mo} {H:Hp} {p:Addr} {l:NU} {Q:VK} (h:H p=some (.dK (sK l))) (q:cI M (l.map (·.1)) H Q):gN M .dsorted [.ref p] H Q:=by
 show(match H p with
  | some (.dK kvs)=>(match allM o5 (kvs.map fun y=>kV y.1)with
   | some ts=>cI M ts H Q
   | none=>False)
  | _=>False)
 rw[h];dsimp only;rw[uO];exact q
theorem jy {te:TE} {tt:TT} {fvs:L2.St} {D:Addr} {aq:Hp->Prop} {k:Hp->Prop} {xs:List V} (Pv:Nat->List V->Hp->Prop) (st:∀n acc H,Pv n acc H->aq H/\H D=some (.lst acc))
  (step:∀n v acc H (K:List V->Hp->Prop),xs[n]?=some v->Pv n acc H->(∀ acc' H',Pv (n + 1) acc' H'->K acc' H')->tt (some v::fvs) H fun ok H1=>if ok=true then te (some v::fvs) H1 fun y H2=>H2 D=some (.lst acc)/\acc.length < sizeLine/\K (acc++[y]) (upd H2 D (.lst (acc++[y])))else K acc H1)
  (fin:∀acc H,Pv xs.length acc H->k H) {acc:List V} {H:Hp} (h0:Pv 0 acc H):eA te tt fvs D aq xs acc H k:=by
 have go:∀ (r:List V) (n:Nat),xs.drop n=r->n<=xs.length->∀acc H,Pv n acc H->eA te tt fvs D aq r acc H k:=by
  intro r
  induction r with
  | nil=>
   intro n e hn acc H p;have:xs.length<=n:=by simpa using e
   have hn':n=xs.length:=by omega
   subst hn';exact⟨(st _ _ _ p).1,(st _ _ _ p).2,fin acc H p⟩
  | cons v r ih=>
   intro n e hn acc H p
   have hlt:n < xs.length:=by
    have:=congrArg List.length e;simp at this;omega
   have hv:xs[n]?=some v:=by
    have:=congrArg (fun l=>l[0]?) e;simpa using this
   have hr:xs.drop (n + 1)=r:=by
    have:=congrArg List.tail e;simpa[Lr]using this
   exact⟨(st _ _ _ p).1,step n v acc H (fun acc' H'=>eA te tt fvs D aq r acc' H' k) hv p fun acc' H' q=>ih (n + 1) hr hlt acc' H' q⟩
 exact go xs 0 (by simp) (J3 _) acc H h0
theorem kU (x y:Str × Str):eS x y=true ↔ slt x.1 y.1\/(x.1=y.1/\slt x.2 y.2):=by
 unfold eS
 by_cases e:x.1=y.1
 ·rw[Jj e];constructor
  ·intro h;exact .inr ⟨e,JX h⟩
  ·rintro(h | ⟨_,h⟩)
   ·rw[e]at h;exact(bW.nT _ h).elim
   ·exact JV h
 ·rw[Ji e];constructor
  ·intro h;exact .inl (JX h)
  ·rintro(h | ⟨h,_⟩)
   ·exact JV h
   ·exact(e h).elim
theorem A8:Gr.Fb (fun x y:Str × Str=>eS x y=true) where
 nT:=fun a h=>by
  rcases(kU _ _).mp h with h | ⟨_,h⟩
  ·exact bW.nT _ h
  ·exact bW.nT _ h
 tr:=fun a b c h k=>by
  rw[kU]at h k ⊢;rcases h with h | ⟨e,h⟩
  ·rcases k with k | ⟨f,k⟩
   ·exact .inl (bW.tr _ _ _ h k)
   ·rw[<-f];exact .inl h
  ·rcases k with k | ⟨f,k⟩
   ·rw[e];exact .inl k
   ·exact .inr ⟨e.trans f,bW.tr _ _ _ h k⟩
 Dt:=fun a b ne=>by
  rw[kU,kU]
  by_cases e:a.1=b.1
  ·rcases bW.Dt a.2 b.2 (fun z=>ne (Prod.ext e z))with k | k
   ·exact .inl (.inr ⟨e,k⟩)
   ·exact .inr (.inr ⟨e.symm,k⟩)
  ·rcases bW.Dt _ _ e with k | k
   ·exact .inl (.inl k)
   ·exact .inr (.inl k)
noncomputable def cx (L:NU):Prop:=L.Pairwise fun x y=>eS x y=true
theorem jQ:∀ {L:NU},L.Pairwise (fun x y=>eS y x=false)->L.Nodup->cx L
 | [],_,_=>.nil
 | x::r,h,nd=>by
  rw[L3]at h;rw[JN]at nd;refine L3.mpr ⟨fun y hy=>?_,jQ h.2 nd.2⟩;rcases A8.Dt x y (fun z=>nd.1 (by rw[z];exact hy))with z | z
  ·exact z
  ·rw[h.1 y hy]at z;cases z
theorem eN {L L':NU} (h:cx L) (h':cx L') (m:∀x,x ∈ L ↔ x ∈ L'):L=L':=A8.ext h h' m
theorem fV {α β:Type} {f:α->β}:∀ {l:List α} {ws:List β},ws.Perm (l.map f)->∃l':List α,l'.Perm l/\ws=l'.map f
 | [],ws,h=>⟨[],.nil,by rw[List.map_nil]at h;rw[h.eq_nil];rfl⟩
 | x::r,ws,h=>by
  have hm:f x ∈ ws:=h.mem_iff.mpr (by simp);obtain⟨s,t,rfl⟩:=Ng hm
  have h2:(s++t).Perm (r.map f):=by
   have:=(LO (a:=f x) (l₁:=s) (l₂:=t)).symm.trans h;exact List.Perm.cons_inv this
  obtain⟨l',p,e⟩:=fV h2;obtain⟨A,B,rfl,e1,e2⟩:=List.map_eq_append_iff.mp e.symm;exact⟨A++x::B,LO.trans (p.cons x),by rw[JA,JF,e1,e2]⟩
theorem fo {M:Mo} {H:Hp} {P:List Pr} (h:aF H P) {x:Pr} (hx:x ∈ P):bq M H (.ref x.1)=some x.2:=by
 show(match rd M H x.1 with
  | some (.tup [.str a,.str b])=>some (a,b)
  | _=>none)=_
 rw[ao (h x hx) bG]
theorem iK {M:Mo} {H:Hp} {p:Addr} {P:List Pr} {Q:VK} (hp:ay H p P) (nd:(au P).Nodup) (bK:P.length < 64)
  (h:∀P' q,P'.Perm P->cx (au P')->H q=none->M q=none->Q (.ref q) (upd H q (.lst (refs P')))):Dg M .sortT (.ref p) H Q:=by
 show(match rd M H p with
  | some (.lst xs)=>(xs.length < 64/\xs.all (fun x=>(bq M H x).isSome)=true)/\∀ws l,List.Perm ws xs->ws.Pairwise (fun x y=>∀a b,bq M H x=some a->bq M H y=some b->eS b a=false)->H l=none->M l=none->Q (.ref l) (upd H l (.lst ws))
  | _=>False)
 rw[ao hp.at_ ai];refine⟨⟨by rw[aP];exact bK,?_⟩,fun ws q pm pw hq mq=>?_⟩
 ·rw[KA];intro v hv;obtain⟨x,hx,rfl⟩:=Jn.mp hv;rw[fo hp.dI hx];rfl
 ·obtain⟨P',p1,rfl⟩:=fV (f:=fun x:Pr=>V.ref x.1) pm;have sub:∀x ∈ P',x ∈ P:=fun x hx=>p1.mem_iff.mp hx;refine h P' q p1 (jQ ?_ ((p1.map _).nodup_iff.mpr nd)) hq mq;rw[Ku]at pw;unfold au;rw[Ku];exact pw.imp_of_mem fun{x y} hx hy z=>z x.2 y.2 (fo hp.dI (sub x hx)) (fo hp.dI (sub y hy))
theorem Fj {M:Mo} {H:Hp} {Q:VK} (x y:Str):cT M .Lt (.str x) (.str y) H Q=Q (.bl (decide (slt x y))) H:=rfl
abbrev gW:NW:=["_law_script","_law_k"]
noncomputable def gR:fh:=(.cons (.iff (.cmp .Lt (.var 1) (.blt .len (.cons (.var 0) .nil))) (.cons (.ret (.idx (.var 0) (.var 1)))
 .nil) .nil)
 (.cons (.ret (.con (.int 0)))
 .nil))
abbrev iX:NW:=["_law_cell_here","_law_k","_law_number"]
noncomputable def iR:fh:=(.cons (.asg 2 (.bin .Mod (.bin .Add (.bin .Add (.bin .Mult (.bin .Mod (.var 0) (.con (.int 2147483629))) (.con (.int 48271))) (.bin .Mult (.con (.int 7919)) (.var 1))) (.con (.int 104729))) (.con (.int 2147483629))))
 (.cons (.asg 2 (.bin .Mod (.bin .Mult (.var 2) (.var 2)) (.con (.int 2147483629))))
 (.cons (.ret (.bin .Mod (.bin .Mult (.bin .Add (.var 2) (.var 1)) (.bin .Add (.var 2) (.var 1))) (.con (.int 2147483587))))
 .nil)))
abbrev gU:NW:=["_law_web_here","_law_one","_law_other","_law_draw","_law_worth"]
noncomputable def gQ:fh:=(.cons (.asg 4 (.bin .Add (.con (.int 1)) (.bin .Mod (.bin .Mult (.var 3) (.con (.int 982451653))) (.bin .Pow (.con (.int 10)) (.con (.int 12))))))
 (.cons (.sto (.idxD (.var 0) (.var 1)) (.var 2) (.var 4))
 (.cons (.sto (.idxD (.var 0) (.var 2)) (.var 1) (.var 4))
 .nil)))
theorem B7 {M:Mo} {Γ:b0} (hM:Γ.mod=M) (hc:Γ.cm=true) (vs:List V) (H:Hp) (Q:VK) (E:XK) (h:lL M vs H Q E):eJ Γ gW 2 gR vs H Q E:=by
 subst hM;obtain⟨a,i,ns,rfl,h0,ha,h⟩:=h;refine⟨rfl,?_⟩;unfold gR;walk_at "sw";refine⟨hc,?_⟩;rw[Sw.ub,ha];dsimp only;rw[Sw.v_lt];refine⟨_,rfl,?_⟩
 by_cases q:i < (ns.map V.int).length
 ·rw[Jj (by simpa using q)];obtain⟨x,e1,e2⟩:=qp h0 q;obtain⟨n,_,rfl⟩:=Jn.mp e2;exact iA ha e1 (h n)
 ·rw[Ji (by simpa using q)];exact h 0
noncomputable def wH (c k:Int):Int:=
 let n1:=(c % 2147483629 * 48271 + 7919 * k + 104729) % 2147483629
 let n2:=n1 * n1 % 2147483629
 (n2 + k) * (n2 + k) % 2147483587
noncomputable def ja:Sp:=fun vs H Q _=>∃c k,vs=[.int c,.int k]/\0<=k/\k<=1000/\∀z,z=wH c k->0<=z->z < 2147483587->Q (.int z) H
theorem DZ {Γ:b0} (vs:List V) (H:Hp) (Q:VK) (E:XK) (h:ja vs H Q E):eJ Γ iX 2 iR vs H Q E:=by
 obtain⟨c,k,rfl,h0,h1,h⟩:=h;refine⟨rfl,?_⟩;unfold iR;walk_at "sw";walk_at "sv";have r1:∀x:Int,0<=x % 2147483629/\x % 2147483629 < 2147483629:=fun x=>⟨Km _ (by decide),Ki _ (by decide)⟩;have b1:∀x:Int,qh (x % 2147483629)=true:=fun x=>ng (by have:=r1 x;omega) (by have:=r1 x;omega);have b2:∀x:Int,qh (x % 2147483629 + k)=true:=fun x=>ng (by have:=r1 x;omega) (by have:=r1 x;omega);have bk:qh k=true:=ng (by omega) (by omega);refine⟨by decide,by rw[b1];simp,by rw[bk];simp,by decide,by rw[b1];simp,by decide,by rw[b2];simp,by decide,?_⟩;exact h _ (by unfold wH;rfl) (Km _ (by decide)) (Ki _ (by decide))
noncomputable def lX (r:Gw.Row) (b:Str) (v:Int):Gw.Row:=if b ∈ r.map (·.1)then r.map fun y=>if y.1=b then(y.1,v)else y else r++[(b,v)]
theorem yE (r:Gw.Row) (b:Str) (v:Int):putK (fm r) (.inr b) (.int v)=fm (lX r b v):=by
 unfold lX
 by_cases h:b ∈ r.map (·.1)
 ·rw[Jj h];exact uV (fun i=>V.int i) r b v h
 ·rw[Ji h];exact kP (fun i=>V.int i) r b v h
theorem qY (r:Gw.Row) (b:Str) (v:Int):(r.map fun y=>if y.1=b then(y.1,v)else y).map (·.1)=r.map (·.1):=by
 rw[JT];refine KD fun y _=>?_;show(if y.1=b then(y.1,v)else y).1=y.1;split<;>rfl
theorem g8 (r:Gw.Row) (b:Str) (v:Int) (x:Str):x ∈ (lX r b v).map (·.1) ↔ x ∈ r.map (·.1)\/x=b:=by
 unfold lX
 by_cases h:b ∈ r.map (·.1)
 ·rw[Jj h,qY];exact⟨.inl,fun z=>z.elim id fun e=>by rw[e];exact h⟩
 ·rw[Ji h,JA,JB];simp
theorem uW {r:Gw.Row} (b:Str) (v:Int) (nd:(r.map (·.1)).Nodup):((lX r b v).map (·.1)).Nodup:=by
 unfold lX
 by_cases h:b ∈ r.map (·.1)
 ·rw[Jj h,qY];exact nd
 ·rw[Ji h,JA,JI];exact⟨nd,by simp,fun x hx y hy z=>h (by rw[<-(show y=b by simpa using hy),<-z];exact hx)⟩
structure qr (W:GI):Prop where
 ok:gk W
 no:∀a,a ∉ jE W a
noncomputable def lK:Sp:=fun vs H Q _=>∃w E a b d,vs=[.ref w,.str a,.str b,.int d]/\bu H w E/\qr (cont E)/\a ≠ b/\a ∈ E.map (·.1)/\b ∈ E.map (·.1)/\
 ∀H' E',bu H' w E'->qr (cont E')->E'.map (·.1)=E.map (·.1)->E'.map (·.2.1)=E.map (·.2.1)->(∀ x,x ∉ E.map (·.2.1)->H' x=H x)->Q .aQ H'
theorem B6 {M:Mo} {Γ:b0} (gm:Γ.mod=M) (vs:List V) (H:Hp) (Q:VK) (X:XK) (h:lK vs H Q X):eJ Γ gU 4 gQ vs H Q X:=by
 obtain⟨w,E,a,b,d,rfl,W,ok,q,ha,hb,h⟩:=h;refine⟨rfl,?_⟩;obtain rfl:=gm;unfold gQ;refine seq ?_;walk_at "s1";rw[Sw.v_mul];refine⟨Gz (by decide) (by decide),?_⟩;rw[Sw.v_pow];refine⟨⟨by decide,by decide,by decide⟩,?_⟩;rw[Sw.v_mod];refine⟨by decide,?_⟩;rw[Sw.v_add];generalize 1 + d * 982451653 % (10:Int) ^ (12:Int).toNat=v;obtain⟨⟨pa,ra⟩,_,ma⟩:=hJ ha;obtain⟨⟨pb,rb⟩,_,mb⟩:=hJ hb;have aa:=j3 W.keys ma;have ab:=j3 W.keys mb;have kka:∀x ∈ ra.map (·.1),x ∈ E.map (·.1):=fun x hx=>by rw[<-bP];exact ok.ok.cl a x (by rw[aa];exact hx)
 have kkb:∀x ∈ rb.map (·.1),x ∈ E.map (·.1):=fun x hx=>by rw[<-bP];exact ok.ok.cl b x (by rw[ab];exact hx)
 have bK:=W.bK;refine seq ?_;walk_at "s1";refine fZ W ma (jN (x:=b) (W.row _ ma) (by rw[qU,Jy];have:=W.lR _ ma;dsimp only at this ⊢;omega) ?_);rw[yE];have n1:=uW b v (W.rk _ ma)
 have W1:=W.set ma (row':=lX ra b v) n1 (uR (W:=cont E) n1 (fun x hx=>by
  rcases(g8 _ _ _ _).mp hx with hx | hx
  ·exact kka x hx
  ·rw[hx];exact hb) bK)
 have mb1:=je (x:=a) (row':=lX ra b v) mb (fun z=>q z.symm);refine seq ?_;walk_at "s1";refine fZ W1 mb1 (jN (x:=a) (W1.row _ mb1) (by rw[qU,Jy];have:=W.lR _ mb;dsimp only at this ⊢;omega) ?_);dsimp only;rw[yE];have n2:=uW a v (W.rk _ mb)
 have W2:=W1.set mb1 (row':=lX rb a v) n2 (uR (W:=cont E) n2 (fun x hx=>by
  rcases(g8 _ _ _ _).mp hx with hx | hx
  ·exact kkb x hx
  ·rw[hx];exact ha) bK)
 have ad:∀x y,y ∈ jE (cont (b8 b (lX rb a v) (b8 a (lX ra b v) E))) x ↔ y ∈ jE (cont E) x\/(x=a/\y=b)\/(x=b/\y=a):=fun x y=>by
  rw[fR (by rw[aK];exact hb),fR ha]
  by_cases z:x=b
  ·subst z;have:¬x=a:=fun u=>q u.symm;rw[Jj rfl,g8,ab];simp[this]
  ·rw[Ji z]
   by_cases z2:x=a
   ·subst z2;rw[Jj rfl,g8,aa];simp[z]
   ·rw[Ji z2];simp[z,z2]
 walk_at "sw";refine h _ _ W2 ⟨⟨by rw[bP,aK,aK];exact W.keys,fun x y hy=>?_,fun x y hy=>?_⟩,fun x hx=>?_⟩ (by rw[aK,aK]) (by rw[cY,cY]) fun x hx=>?_
 ·rw[ad]at hy ⊢;rcases hy with hy | ⟨h1,h2⟩ | ⟨h1,h2⟩
  ·exact .inl (ok.ok.sy x y hy)
  ·exact .inr (.inr ⟨h2,h1⟩)
  ·exact .inr (.inl ⟨h2,h1⟩)
 ·rw[ad]at hy;rw[bP,aK,aK];rcases hy with hy | ⟨h1,h2⟩ | ⟨h1,h2⟩
  ·rw[<-bP];exact ok.ok.cl x y hy
  ·rw[h2];exact hb
  ·rw[h2];exact ha
 ·rw[ad]at hx;rcases hx with hy | ⟨h1,h2⟩ | ⟨h1,h2⟩
  ·exact ok.no x hy
  ·exact q (h1.symm.trans h2)
  ·exact q (h2.symm.trans h1)
 ·have na:x ≠ pa:=fun z=>hx (Jn.mpr ⟨_,ma,z.symm⟩);have nb:x ≠ pb:=fun z=>hx (Jn.mpr ⟨_,mb,z.symm⟩);rw[af nb,af na]
abbrev gh:NW:=["_law_web_here","_law_found","_law_one"]
noncomputable def gf:fh:=(.cons (.asg 1 (.lst .nil))
 (.cons (.fr 2 (.ex (.blt .dsorted (.cons (.var 0) .nil))) (.cons (.exp (.mth .extend (.var 1) (.cons (.comp "_law_other" [("_law_one",2)] (.ex (.blt .dsorted (.cons (.idxD (.var 0) (.var 2)) .nil))) (.tup (.cons (.var 1) (.cons (.var 0) .nil))) (.cons (.cmp .Lt (.var 1) (.var 0)) .nil)) .nil)))
 .nil))
 (.cons (.ret (.var 1))
 .nil)))
theorem om:∀r:Gw.Row,allM o5 ((fm r).map fun y=>kV y.1)=some (r.map (·.1))
 | []=>rfl
 | y::r=>by
  have ih:=om r;have q:((fm (y::r)).map fun y=>kV y.1)=V.str y.1::((fm r).map fun y=>kV y.1):=rfl;rw[q];unfold allM;rw[ih];rfl
theorem Bg {M:Mo} {H:Hp} {p:Addr} {r:Gw.Row} {Q:VK} (h:H p=some (.dK (fm r))) (q:cI M (r.map (·.1)) H Q):gN M .dsorted [.ref p] H Q:=by
 show(match H p with
  | some (.dK kvs)=>(match allM o5 (kvs.map fun y=>kV y.1)with
   | some ts=>cI M ts H Q
   | none=>False)
  | _=>False)
 rw[h];dsimp only;rw[om];exact q
theorem fH {M:Mo} {H:Hp} {p b:Addr} {xs ys:List V} {Q:VK} (h1:H p=some (.lst xs)) (h2:H b=some (.lst ys)) (hl:xs.length + ys.length<=sizeLine) (q:Q .aQ (upd H p (.lst (xs++ys)))):fq M .extend (.ref p) [.ref b] H Q:=by
 show(match H p,H b with
  | some (.lst xs),some (.lst ys)=>xs.length + ys.length<=sizeLine/\Q .aQ (upd H p (.lst (xs++ys)))
  | _,_=>False)
 rw[h1,h2];exact⟨hl,q⟩
theorem cC (P P':List Pr):refs P++refs P'=refs (P++P'):=(JA).symm
theorem aF.app {H:Hp} {P P':List Pr} (h:aF H P) (h':aF H P'):aF H (P++P'):=fun x hx=>(JB.mp hx).elim (h x) (h' x)
theorem aF.upd {H:Hp} {P:List Pr} {p:Addr} {xs:List V} {o:HO} (h:aF H P) (hp:H p=some (.lst xs)):aF (upd H p o) P:=fun x hx=>by
 rw[af (fun z=>by have:=h x hx;rw[z,hp]at this;cases this)];exact h x hx
theorem aF.new {H:Hp} {P:List Pr} {p:Addr} {o:HO} (h:aF H P) (hp:H p=none):aF (L2.upd H p o) P:=fun x hx=>by
 rw[af (aj (h x hx) hp)];exact h x hx
noncomputable def Good (E:List Ent) (P:List Pr):Prop:=∀x ∈ P,slt x.2.1 x.2.2/\x.2.2 ∈ nE E x.2.1
noncomputable def kI (M:Mo):Sp:=fun vs H Q _=>∃w E,vs=[.ref w]/\bu H w E/\M w=none/\
 ∀H' q P,Ext M H H'->H q=none->M q=none->ay H' q P->Good E P->P.length<=400->Q (.ref q) H'
theorem zf {M:Mo} {Γ:b0} (gm:Γ.mod=M) (gc:Γ.cm=true) (vs:List V) (H:Hp) (Q:VK) (X:XK) (h:kI M vs H Q X):eJ Γ gh 1 gf vs H Q X:=by
 obtain⟨w,E,rfl,W,mw,h⟩:=h;refine⟨rfl,?_⟩;obtain rfl:=gm;unfold gf;refine seq ?_;walk_at "s1";refine⟨by rw[Jy];simp,fun q hq mq=>?_⟩;have x0:Ext Γ.mod H (upd H q (.lst [])):=Ext.upd hq mq;refine seq ?_;walk_at "s1";refine⟨gc,gc,Be (Ext.nD x0 W).top ⟨by rw[Jk];have:=W.bK;omega,fun ss b pm so hb mb=>?_⟩⟩;have qb:q ≠ b:=fun z=>by subst z;rw[ae]at hb;cases hb
 have hb0:=x0.aQ hb;have x1:Ext Γ.mod H (upd (upd H q (.lst [])) b (.lst (ss.map V.str))):=x0.cn hb0 mb;have sl:ss.length<=20:=by rw[pm.length_eq,Jk];exact W.bK
 refine bJ (ao ae ai) ?_
 refine cy (fun n σ Hn=>∃v2 P,σ=[some (.ref w),some (.ref q),v2]/\Ext Γ.mod H Hn/\Hn q=some (.lst (refs P))/\Hn b=some (.lst (ss.map V.str))/\aF Hn P/\Good E P/\P.length<=20 * n) (fun n σ Hn z=>?_) (fun n v σ Hn D' hv pv nx ct _ _=>?_) (fun σ Hn pv=>?_)
  ⟨none,[],rfl,x1,by rw[af qb];exact ae,ae,fun x hx=>by (cases hx),fun x hx=>by (cases hx),by simp⟩
 ·obtain⟨_,_,_,_,_,z,_⟩:=z;exact ao z ai
 ·obtain⟨v2,P,rfl,xn,zq,zb,pr,gd,bK⟩:=pv;rw[JJ]at hv;obtain⟨c,hc,rfl⟩:=JW.mp hv;obtain⟨hn,_⟩:=Jv.mp hc;have mc:c ∈ E.map (·.1):=pm.mem_iff.mp (Jp hc);obtain⟨⟨pc,rc⟩,lc,mc'⟩:=hJ mc;have Wn:=Ext.nD xn W;have ac:nE E c=rc.map (·.1):=uh lc;refine seq ?_;dsimp only[Sw.wS,Sw.wE,Sw.wEs,Sw.wTs,Sw.wI,Sw.vars,Sw.dz,Sw.dw,Sw.cR,Sw.cQ,Sw.dq,Sw.dm,Sw.dC,Sw.dB,Sw.dt];refine⟨gE zq,gc,gc,fZ Wn mc' (Bg (Wn.row _ mc') ⟨by rw[Jk];exact Nc (W.lR _ mc') (by decide),fun ts d pd sd hd md=>?_⟩)⟩;have xd:Ext Γ.mod Hn (upd Hn d (.lst (ts.map V.str))):=Ext.upd hd md;have tl:ts.length<=20:=by rw[pd.length_eq,Jk];exact W.lR _ mc'
  refine bJ (ao ae ai) fun D hD mD=>?_;have dD:d ≠ D:=fun z=>by subst z;rw[ae]at hD;cases hD
  have hD0:=xd.aQ hD
  refine jy (fun m acc Hm=>∃P2:List Pr,acc=refs P2/\Hm D=some (.lst (refs P2))/\Hm d=some (.lst (ts.map V.str))/\aF Hm P2/\Ext Γ.mod Hn Hm/\Good E P2/\P2.length<=m) (fun m acc Hm z=>?_) (fun m v acc Hm K hv pv nx2=>?_) (fun acc Hm pv=>?_)
   ⟨[],rfl,ae,by rw[af dD];exact ae,fun x hx=>by (cases hx),xd.cn hD0 mD,fun x hx=>by (cases hx),by simp⟩
  ·obtain⟨P2,rfl,z1,z2,_⟩:=z;exact⟨ao z2 ai,z1⟩
  ·obtain⟨P2,rfl,z1,z2,z3,z4,z5,z6⟩:=pv;rw[JJ]at hv;obtain⟨o,ho,rfl⟩:=JW.mp hv;obtain⟨hm,_⟩:=Jv.mp ho;walk_at "s1";rw[Fj];refine⟨_,rfl,?_⟩
   by_cases lt:slt c o
   ·rw[Jj (JV lt)];refine⟨by rw[Jy];simp,fun t ht mt=>⟨?_,?_,nx2 _ _ ⟨P2++[(t,c,o)],?_,?_,?_,?_,?_,?_,?_⟩⟩⟩
    ·rw[af (aj z1 ht)];exact z1
    ·rw[aP,Jy];omega
    ·rw[<-cC];rfl
    ·rw[ae,<-cC];rfl
    ·rw[af dD,af (aj z2 ht)];exact z2
    ·refine aF.upd (xs:=refs P2) (aF.app (aF.new z3 ht) fun x hx=>?_) (by rw[af (aj z1 ht)];exact z1);rw[Jz.mp hx];exact ae
    ·exact(z4.cn (z4.aQ ht) mt).cn hD0 mD
    ·intro x hx;rcases JB.mp hx with hx | hx
     ·exact z5 x hx
     ·rw[Jz.mp hx];exact⟨lt,by rw[ac];exact pd.mem_iff.mp (Jp ho)⟩
    ·rw[Jw];simp;omega
   ·rw[Ji (by rw[Ky];exact lt)];exact nx2 _ _ ⟨P2,rfl,z1,z2,z3,z4,z5,by omega⟩
  ·obtain⟨P2,rfl,z1,z2,z3,z4,z5,z6⟩:=pv;rw[Jk]at z6;have zq2:=z4.same _ _ zq;refine fH zq2 z1 (by rw[aP,aP,Jy];omega) ?_;rw[cC];refine ck (nx _ _ ⟨_,P++P2,rfl,((xn.trans z4).cn hq mq),ae,by rw[af (fun z=>qb z.symm)];exact z4.same _ _ zb,aF.upd (aF.app (Ext.dI z4 pr) z3) zq2,fun x hx=>(JB.mp hx).elim (gd x) (z5 x),by rw[Jw];omega⟩)
 ·obtain⟨v2,P,rfl,xn,zq,zb,pr,gd,bK⟩:=pv;rw[Jk]at bK;walk_at "sw";exact h Hn q P xn hq mq ⟨zq,pr⟩ gd (by omega)
abbrev gT:NW:=["_law_web_here","_law_cell_here","_law_ahead","_law_digits","_law_pairs_here","_law_drawn","_law_pair","_law_found","_law_seen","_law_draw"]
noncomputable def pq:fh:=(.cons (.asg 7 (.blt .list (.cons (.var 2) .nil))) (.cons (.asg 8 (.lst .nil)) (.cons (.fr 6 (.ex (.var 2)) (.cons (.exp (.mth .extend (.var 8) (.cons (.blt .list (.cons (.var 6) .nil)) .nil))) .nil)) (.cons (.frT [9,6] (.ex (.var 5)) (.cons (.iff (.and (.cmp .Gt (.bin .Mod (.var 9) (.con (.int 8))) (.con (.int 0))) (.and (.cmp .NotIn (.idx (.var 6) (.con (.int 0))) (.var 8)) (.cmp .NotIn (.idx (.var 6) (.con (.int 1))) (.var 8)))) (.cons (.exp (.mth .append (.var 7) (.cons (.var 6) .nil))) (.cons (.exp (.mth .extend (.var 8) (.cons (.blt .list (.cons (.var 6) .nil)) .nil))) .nil)) .nil) .nil)) (.cons (.ret (.blt2 .sortT (.var 7))) .nil)))))
noncomputable def gP:fh:=(.cons (.asg 4 (.call "_law_pairs" (.cons (.var 0) .nil))) (.cons (.asg 5 (.blt2 .sortM (.comp "_law_k" [("_law_cell_here",1),("_law_pairs_here",4)] (.rng1 (.blt .len (.cons (.var 4) .nil))) (.tup (.cons (.call "_law_mix" (.cons (.var 1) (.cons (.bin .Add (.con (.int 500)) (.var 0)) .nil))) (.cons (.idx (.var 2) (.var 0)) .nil))) .nil))) (.cons (.iff (.cmp .Eq (.bin .Mod (.var 3) (.con (.int 2))) (.con (.int 1))) (.cons (.asg 5 (.lst .nil)) (.cons (.fr 6 (.ex (.var 4)) (.cons (.exp (.mth .append (.var 5) (.cons (.tup (.cons (.bin .Mod (.var 1) (.con (.int 2))) (.cons (.var 6) .nil))) .nil))) (.cons (.asg 1 (.bin .FloorDiv (.var 1) (.con (.int 2)))) .nil))) .nil)) .nil) pq)))
noncomputable abbrev Dr:=Addr × Int × Pr
noncomputable def qz (T:List Dr):List V:=T.map fun t=>.ref t.1
theorem vA (T:List Dr):(qz T).length=T.length:=Jk _
theorem qc (P P':List Dr):qz P++qz P'=qz (P++P'):=(JA).symm
noncomputable def bH (H:Hp) (T:List Dr):Prop:=∀t ∈ T,H t.1=some (.tup [.int t.2.1,.ref t.2.2.1])
theorem bH.ext {M:Mo} {H H':Hp} {T:List Dr} (x:Ext M H H') (h:bH H T):bH H' T:=fun t ht=>x.same _ _ (h t ht)
theorem bH.upd {H:Hp} {P:List Dr} {p:Addr} {xs:List V} {o:HO} (h:bH H P) (hp:H p=some (.lst xs)):bH (upd H p o) P:=fun x hx=>by
 rw[af (fun z=>by have:=h x hx;rw[z,hp]at this;cases this)];exact h x hx
theorem bH.new {H:Hp} {P:List Dr} {p:Addr} {o:HO} (h:bH H P) (hp:H p=none):bH (L2.upd H p o) P:=fun x hx=>by
 rw[af (aj (h x hx) hp)];exact h x hx
theorem bH.snoc {H:Hp} {P:List Dr} {t:Dr} (h:bH H P) (ht:H t.1=some (.tup [.int t.2.1,.ref t.2.2.1])):bH H (P++[t]):=fun x hx=>(JB.mp hx).elim (h x) fun z=>by rw[Jz.mp z];exact ht
theorem tf {M:Mo} {H:Hp} {p:Addr} {T:List Dr} {P:List Pr} {Q:VK} (hp:H p=some (.lst (qz T))) (dr:bH H T) (pr:aF H P) (sub:∀t ∈ T,t.2.2 ∈ P)
  (h:∀T' q,T'.Perm T->H q=none->M q=none->Q (.ref q) (upd H q (.lst (qz T')))):Dg M .sortM (.ref p) H Q:=by
 show(match rd M H p with
  | some (.lst xs)=>xs.all (rY M H)=true/\∀ws l,List.Perm ws xs->H l=none->M l=none->Q (.ref l) (upd H l (.lst ws))
  | _=>False)
 rw[ao hp ai];refine⟨?_,fun ws q pm hq mq=>?_⟩
 ·rw[KA];intro v hv;obtain⟨t,ht,rfl⟩:=Jn.mp hv
  show(match rd M H t.1 with
   | some (.tup [.int _,r])=>(bq M H r).isSome
   | _=>false)=true
  rw[ao (dr t ht) bG];dsimp only;rw[fo pr (sub t ht)];rfl
 ·obtain⟨T',p1,rfl⟩:=fV (f:=fun t:Dr=>V.ref t.1) pm;exact h T' q p1 hq mq
theorem w_ {M:Mo} {i j:Nat} {tb:TS} {aq:Hp->Prop} {D:Ends} {T:List Dr} (Pv:Nat->L2.St->Hp->Prop) (st:∀n σ H,Pv n σ H->aq H/\bH H T)
  (step:∀n x σ H (D':Ends),T[n]?=some x->Pv n σ H->(∀ σ' H',Pv (n + 1) σ' H'->D'.nx σ' H')->tb D' ((σ.set i (some (.int x.2.1))).set j (some (.ref x.2.2.1))) H)
  (fin:∀σ H,Pv T.length σ H->D.nx σ H) {σ:L2.St} {H:Hp} (h0:Pv 0 σ H):iD M [i,j] tb aq (qz T) D σ H:=by
 have go:∀ (r:List Dr) (n:Nat),T.drop n=r->n<=T.length->∀σ H,Pv n σ H->iD M [i,j] tb aq (qz r) D σ H:=by
  intro r
  induction r with
  | nil=>
   intro n e hn σ H p;have:T.length<=n:=by simpa using e
   have hn':n=T.length:=by omega
   subst hn';exact⟨(st _ σ H p).1,fin σ H p⟩
  | cons v r ih=>
   intro n e hn σ H p
   have hlt:n < T.length:=by
    have:=congrArg List.length e;simp at this;omega
   have hv:T[n]?=some v:=by
    have:=congrArg (fun l=>l[0]?) e;simpa using this
   have hr:T.drop (n + 1)=r:=by
    have:=congrArg List.tail e;simpa[Lr]using this
   obtain⟨s1,s2⟩:=st _ σ H p;refine⟨s1,?_⟩;show(match rd M H v.1 with | some (.tup xs)=>xs.length=[i,j].length/\tb _ (eQ σ [i,j] xs) H | _=>False);rw[ao (s2 v (Jp hv)) bG];exact⟨rfl,step n v σ H _ hv p fun σ' H' q=>ih (n + 1) hr hlt σ' H' q⟩
 exact go T 0 (by simp) (J3 _) σ H h0
theorem pW {M:Mo} {H:Hp} {p:Addr} {xs:List V} {Q:VK} (h:H p=some (.lst xs)) (q:∀l,H l=none->M l=none->Q (.ref l) (upd H l (.lst xs))):gN M .list [.ref p] H Q:=by
 show(match rd M H p with
  | some (.lst xs)=>∀l,H l=none->M l=none->Q (.ref l) (upd H l (.lst xs))
  | some (.tup xs)=>∀l,H l=none->M l=none->Q (.ref l) (upd H l (.lst xs))
  | _=>False)
 rw[ao h ai];exact q
theorem zH {M:Mo} {H:Hp} {p:Addr} {xs:List V} {Q:VK} (h:H p=some (.tup xs)) (q:∀l,H l=none->M l=none->Q (.ref l) (upd H l (.lst xs))):gN M .list [.ref p] H Q:=by
 show(match rd M H p with
  | some (.lst xs)=>∀l,H l=none->M l=none->Q (.ref l) (upd H l (.lst xs))
  | some (.tup xs)=>∀l,H l=none->M l=none->Q (.ref l) (upd H l (.lst xs))
  | _=>False)
 rw[ao h bG];exact q
theorem kX {M:Mo} {H:Hp} {p:Addr} {a b:Str} (h:H p=some (.tup [.str a,.str b])):(∀ {Q:VK},Q (.str a) H->c_ M (.ref p) (.int 0) H Q)/\∀ {Q:VK},Q (.str b) H->c_ M (.ref p) (.int 1) H Q:=by
 constructor
 ·intro Q q;rw[iC,ao h bG];exact q
 ·intro Q q;rw[iC,ao h bG];exact q
theorem append_at {M:Mo} {H:Hp} {p:Addr} {xs:List V} {v:V} {Q:VK} (h:H p=some (.lst xs)) (hl:xs.length < sizeLine) (q:Q .aQ (upd H p (.lst (xs++[v])))):fq M .append (.ref p) [v] H Q:=by
 rw[Sw.rF,h];exact⟨hl,q⟩
structure Jg (M:Mo) (H:Hp) (E:List Ent) (P0:List Pr) (f s d:Addr) (T:List Dr) (F:List Pr) (Hn:Hp):Prop where
 ext:Ext M H Hn
 fa:Hn f=some (.lst (refs F))
 sa:Hn s=some (.lst ((ends (au F)).map V.str))
 da:Hn d=some (.lst (qz T))
 dr:bH Hn T
 pr:aF Hn P0
 HA:aF Hn F
 gd:Good E F
 nd:(ends (au F)).Nodup
noncomputable def pI (M:Mo):Sp:=fun vs H Q _=>∃w c ah dg E A,vs=[.ref w,.int c,.ref ah,.int dg]/\bu H w E/\gk (cont E)/\M w=none/\ay H ah A/\Good E A/\(ends (au A)).Nodup/\
 ∀H' q P,Ext M H H'->H q=none->M q=none->ay H' q P->cx (au P)->(ends (au P)).Nodup->P.length<=10->Good E P->Q (.ref q) H'
theorem xp {L L':NU} (h:L.Perm L'):(ends L).Perm (ends L'):=by
 induction h with
 | nil=>exact .nil
 | cons x _ ih=>exact(ih.cons x.2).cons x.1
 | swap x y l=>exact List.perm_append_comm_assoc [y.1,y.2] [x.1,x.2] (ends l)
 | trans _ _ a b=>exact a.trans b
theorem Aq {L:NU} {x:Str} (h:x ∈ ends L):∃y ∈ L,x=y.1\/x=y.2:=by
 unfold ends at h;obtain⟨l,hl,hx⟩:=Kb.mp h;obtain⟨y,hy,rfl⟩:=Jn.mp hl;exact⟨y,hy,by simpa using hx⟩
theorem zA {L:NU} {y:Str × Str} (h:y ∈ L):y.1 ∈ ends L/\y.2 ∈ ends L:=by
 unfold ends;constructor<;>exact Kb.mpr ⟨_,Jn.mpr ⟨y,h,rfl⟩,by simp⟩
theorem oa:∀ {L:NU},(ends L).Nodup->L.Nodup
 | [],_=>.nil
 | x::r,h=>by
  have h:(x.1::x.2::ends r).Nodup:=h;rw[JN,JN]at h;exact JN.mpr ⟨fun z=>h.2.1 (zA z).2,oa h.2.2⟩
theorem mR {E:List Ent} {F:List Pr} (ok:gk (cont E)) (bK:E.length<=20) (g:Good E F) (nd:(ends (au F)).Nodup):F.length<=10:=by
 have:=Aj (E:=E) nd fun x hx=>by
  obtain⟨y,hy,e⟩:=Aq hx;obtain⟨z,hz,rfl⟩:=Jn.mp hy;have hb:z.2.2 ∈ E.map (·.1):=by rw[<-bP];exact ok.cl z.2.1 z.2.2 (by rw[<-df];exact(g z hz).2)
  have ha:z.2.1 ∈ E.map (·.1):=by rw[<-bP];exact ok.cl z.2.2 z.2.1 (ok.sy _ _ (by rw[<-df];exact(g z hz).2))
  rcases e with e | e
  ·rw[e];exact ha
  ·rw[e];exact hb
 rw[a_]at this;unfold au at this;rw[Jk]at this;omega
theorem oz {Γ:b0} {Ξ:XS} {D:Ends} {H Hn:Hp} {w ah q d:Addr} {E:List Ent} {P0 A:List Pr} {T:List Dr} {c dg:Int} {v6:Option V} (gc:Γ.cm=true) (x0:Ext Γ.mod H Hn) (hah:ay Hn ah A) (gA:Good E A) (nA:(ends (au A)).Nodup) (pr0:aF Hn P0) (gd:Good E P0) (ok:gk (cont E)) (bK:E.length<=20)
  (hd:Hn d=some (.lst (qz T))) (dr:bH Hn T) (sub:∀t ∈ T,t.2.2 ∈ P0)
  (h:∀H' q P,Ext Γ.mod H H'->H q=none->Γ.mod q=none->ay H' q P->cx (au P)->(ends (au P)).Nodup->P.length<=10->Good E P->D.rt (.ref q) H'):
  wSs pq Γ Ξ D [some (.ref w),some (.int c),some (.ref ah),some (.int dg),some (.ref q),some (.ref d),v6,none,none,none] Hn:=by
 unfold pq;refine seq ?_;walk_at "s1";have fewA:A.length<=10:=mR ok bK gA nA;refine⟨gc,pW hah.at_ fun f hf mf=>?_⟩;have x1:Ext Γ.mod Hn (upd Hn f (.lst (refs A))):=Ext.upd hf mf;refine seq ?_;walk_at "s1";refine⟨by rw[Jy];simp,fun s hs ms=>?_⟩;have fs:f ≠ s:=fun z=>by subst z;rw[ae]at hs;cases hs
 have hs0:=x1.aQ hs;have x2:Ext Γ.mod Hn (upd (upd Hn f (.lst (refs A))) s (.lst [])):=x1.cn hs0 ms;have f2:upd (upd Hn f (.lst (refs A))) s (.lst []) f=some (.lst (refs A)):=by rw[af fs];exact ae
 have s2:upd (upd Hn f (.lst (refs A))) s (.lst []) s=some (.lst ((ends (au (A.take 0))).map V.str)):=ae;generalize upd (upd Hn f (.lst (refs A))) s (.lst [])=H2 at x2 f2 s2;have fd:f ≠ d:=fun z=>by subst z;rw[hf]at hd;cases hd
 have sd:s ≠ d:=fun z=>by subst z;rw[hs0]at hd;cases hd
 refine seq ?_;walk_at "s1";refine⟨gc,bJ (ao (x2.same _ _ hah.at_) ai) ?_⟩;refine cy (fun n σ Hk=>∃v6,σ=[some (.ref w),some (.int c),some (.ref ah),some (.int dg),some (.ref q),some (.ref d),v6,some (.ref f),some (.ref s),none]/\Ext Γ.mod Hn Hk/\Hk f=some (.lst (refs A))/\Hk s=some (.lst ((ends (au (A.take n))).map V.str))) (fun n σ Hk z=>?_) (fun n v σ Hk D' hv pv nx ct _ _=>?_) (fun σ Hk pv=>?_) ⟨_,rfl,x2,f2,s2⟩
 ·obtain⟨_,_,z,_⟩:=z;exact ao (z.same _ _ hah.at_) ai
 ·obtain⟨v6,rfl,z1,z2,z3⟩:=pv;unfold refs at hv;rw[JJ]at hv;obtain⟨y,hy,rfl⟩:=JW.mp hv;have hyt:=z1.same _ _ (hah.dI y (Jp hy));have ln:=(Jv.mp hy).1;refine seq ?_;walk_at "s1";refine⟨gE z3,gc,zH hyt fun u hu mu=>?_⟩;have us:u ≠ s:=fun e=>by subst e;rw[z3]at hu;cases hu
  have uf:u ≠ f:=fun e=>by subst e;rw[z2]at hu;cases hu
  refine fH (xs:=(ends (au (A.take n))).map V.str) (ys:=[.str y.2.1,.str y.2.2]) (by rw[af us.symm];exact z3) ae (by rw[Jk,a_,Jy];unfold au;rw[Jk,J4];simp;omega) ?_;refine ck (nx _ _ ⟨_,rfl,(z1.cn (z1.aQ hu) mu).cn hs0 ms,by rw[af fs,af uf.symm];exact z2,?_⟩);rw[ae,L9,hy]
  have e2:ends (au (A.take n++[y]))=ends (au (A.take n))++[y.2.1]++[y.2.2]:=by
   unfold au;rw[JA];exact dR _ _ _
  show some (HO.lst _)=some (HO.lst ((ends (au (A.take n++[y]))).map V.str));rw[e2,JA,JA,JM];rfl
 obtain⟨v6,rfl,x3,f3,s3⟩:=pv;rw[aP,KC]at s3;refine seq ?_;walk_at "s1";refine⟨gc,bJ (ao (x3.same _ _ hd) ai) ?_⟩
 refine w_ (fun n σ Hk=>∃v6 v9 F,σ=[some (.ref w),some (.int c),some (.ref ah),some (.int dg),some (.ref q),some (.ref d),v6,some (.ref f),some (.ref s),v9]/\Jg Γ.mod H E P0 f s d T F Hk) (fun n σ Hk z=>?_) (fun n x σ Hk D' hx pv nx=>?_) (fun σ Hk pv=>?_)
  ⟨_,_,A,rfl,x0.trans x3,f3,s3,x3.same _ _ hd,bH.ext x3 dr,Ext.dI x3 pr0,Ext.dI x3 hah.dI,gA,nA⟩
 ·obtain⟨_,_,F,_,z⟩:=z;exact⟨ao z.da ai,z.dr⟩
 ·obtain⟨v6,v9,F,rfl,z⟩:=pv;have mx:x.2.2 ∈ P0:=sub x (Jp hx);obtain⟨t,i,y⟩:=x;have hy:=z.pr y mx;have gy:=gd y mx;have fewF:F.length<=10:=mR ok bK z.gd z.nd;refine seq ?_;walk_at "s1";rw[Sw.v_mod];refine⟨by decide,?_⟩;rw[Sw.x9];refine⟨_,rfl,?_⟩;have skip:=nx _ _ ⟨some (.ref y.1),some (.int i),F,rfl,z⟩
  by_cases g0:0 < i % 8
  ·rw[Jj (JV g0)];refine(kX hy).1 (mv (ao z.sa ai) ⟨_,rfl,?_⟩)
   by_cases g1:y.2.1 ∈ ends (au F)
   ·rw[Ji (by simp[g1]),Ji (by decide)];exact oi skip
   rw[Jj (by simp[g1])];refine(kX hy).2 (mv (ao z.sa ai) ⟨_,rfl,?_⟩)
   by_cases g2:y.2.2 ∈ ends (au F)
   ·rw[Ji (by simp[g2])];exact oi skip
   rw[Jj (by simp[g2])];refine seq ?_;walk_at "s1";refine⟨gE z.fa,append_at z.fa (by rw[aP,Jy];omega) ?_⟩;have e1:refs F++[V.ref y.1]=refs (F++[y]):=cC F [y];rw[e1];have sa1:upd Hk f (.lst (refs (F++[y]))) s=some (.lst ((ends (au F)).map V.str)):=by rw[af fs.symm];exact z.sa
   have hy1:upd Hk f (.lst (refs (F++[y]))) y.1=some (.tup [.str y.2.1,.str y.2.2]):=aF.upd z.pr z.fa y mx;refine seq ?_;walk_at "s1";refine⟨gE sa1,gc,zH hy1 fun u hu mu=>?_⟩;have us:u ≠ s:=fun e=>by subst e;rw[sa1]at hu;cases hu
   have uf:u ≠ f:=fun e=>by subst e;rw[ae]at hu;cases hu
   have hu0:Hk u=none:=by rw[af uf]at hu;exact hu
   refine fH (xs:=(ends (au F)).map V.str) (ys:=[.str y.2.1,.str y.2.2]) (by rw[af us.symm];exact sa1) ae (by rw[Jk,a_,Jy];unfold au;rw[Jk];simp;omega) ?_
   have e2:ends (au (F++[y]))=ends (au F)++[y.2.1]++[y.2.2]:=by
    unfold au;rw[JA];exact dR _ _ _
   refine oi (nx _ _ ⟨_,_,F++[y],rfl,?_,?_,?_,?_,?_,?_,?_,?_,?_⟩)
   ·exact((z.ext.cn (x0.aQ hf) mf).cn (z.ext.aQ hu0) mu).cn (x0.aQ hs0) ms
   ·rw[af fs,af uf.symm,ae]
   ·rw[ae,e2,JA,JA,JM];rfl
   ·rw[af sd.symm,af (fun e=>by subst e;rw[z.da]at hu0;cases hu0),af fd.symm];exact z.da
   ·exact bH.upd (bH.new (bH.upd z.dr z.fa) hu) (xs:=(ends (au F)).map V.str) (by rw[af us.symm];exact sa1)
   ·exact aF.upd (aF.new (aF.upd z.pr z.fa) hu) (xs:=(ends (au F)).map V.str) (by rw[af us.symm];exact sa1)
   ·refine aF.upd (aF.new (aF.upd (fun a ha=>?_) z.fa) hu) (xs:=(ends (au F)).map V.str) (by rw[af us.symm];exact sa1);rcases JB.mp ha with ha | ha
    ·exact z.HA a ha
    ·rw[Jz.mp ha];exact hy
   ·intro a ha;rcases JB.mp ha with ha | ha
    ·exact z.gd a ha
    ·rw[Jz.mp ha];exact gy
   ·rw[e2,JI,JI];refine⟨⟨z.nd,by simp,fun a ha b hb e=>g1 ?_⟩,by simp,fun a ha b hb e=>?_⟩
    ·rw[<-Jz.mp hb,<-e];exact ha
    ·rw[Jz.mp hb]at e;rcases JB.mp ha with ha | ha
     ·exact g2 (by rw[<-e];exact ha)
     ·rw[Jz.mp ha]at e;have:=gy.1;rw[e]at this;exact bW.nT _ this
  ·rw[Ji (by rw[Ky];exact g0),Ji (by decide)];exact oi skip
 ·obtain⟨v6,v9,F,rfl,z⟩:=pv;have gF:Good E F:=z.gd;have fewF:F.length<=10:=mR ok bK gF z.nd;walk_at "sw";refine⟨gc,iK ⟨z.fa,z.HA⟩ (oa z.nd) (by omega) fun P' g pm sD hg mg=>?_⟩;have g0:=z.ext.aQ hg;refine h _ g P' (z.ext.cn g0 mg) g0 mg ⟨ae,fun u hu=>?_⟩ sD ((xp (pm.map _)).nodup_iff.mpr z.nd) (by rw[pm.length_eq];omega) fun u hu=>gF u (pm.mem_iff.mp hu);have hu':=z.HA u (pm.mem_iff.mp hu);rw[af (aj hu' hg)];exact hu'
theorem B5 {M:Mo} {Γ:b0} (gm:Γ.mod=M) (gc:Γ.cm=true) (g1:Γ.has "_law_pairs" =true/\Γ.fn "_law_pairs" =kI M) (g2:Γ.has "_law_mix" =true/\Γ.fn "_law_mix" =ja) (vs:List V) (H:Hp) (Q:VK) (X:XK) (h:pI M vs H Q X):eJ Γ gT 4 gP vs H Q X:=by
 obtain⟨w,c,ah,dg,E,A,rfl,W,ok,mw,hah,gA,nA,h⟩:=h;refine⟨rfl,?_⟩;obtain rfl:=gm;unfold gP;refine seq ?_;walk_at "s1";refine⟨⟨gc,g1.1⟩,?_⟩;rw[g1.2];refine⟨w,E,rfl,W,mw,fun H1 q P0 x1 hq mq pa gd few0=>?_⟩;refine seq ?_;dsimp only[Sw.wS,Sw.wE,Sw.wEs,Sw.wTs,Sw.wI,Sw.vars,Sw.dz,Sw.dw,Sw.cR,Sw.cQ,Sw.dq,Sw.dm,Sw.dC,Sw.dB,Sw.dt,L2.start,Sw.dY,Sw.dX,Sw.dW,Sw.dU,Nat.reduceAdd,Nat.reduceSub];refine⟨gc,gc,gc,gI (ao pa.at_ ai) ?_⟩;dsimp only;rw[aP];refine⟨by omega,by omega,fun D hD mD=>?_⟩;rw[show((P0.length:Int)).toNat=P0.length from rfl];have xD:Ext Γ.mod H1 (upd H1 D (.lst [])):=Ext.upd hD mD
 refine jy (fun m acc Hm=>∃T:List Dr,acc=qz T/\Hm D=some (.lst (qz T))/\bH Hm T/\Ext Γ.mod H1 Hm/\(∀ t ∈ T,t.2.2 ∈ P0)/\T.length<=m) (fun m acc Hm z=>?_) (fun m v acc Hm K hv pv nx2=>?_) (fun acc Hm pv=>?_)
  ⟨[],rfl,ae,fun x hx=>by (cases hx),xD,fun x hx=>by (cases hx),by simp⟩
 ·obtain⟨T,rfl,z1,_⟩:=z;exact⟨trivial,z1⟩
 ·obtain⟨T,rfl,z1,z2,z3,z4,z5⟩:=pv;obtain⟨k1,rfl⟩:=cP hv;walk_at "s1";rw[Jj rfl];refine⟨⟨gc,g2.1⟩,?_⟩;rw[Sw.v_add,g2.2];refine⟨c,_,rfl,by omega,by omega,fun z _ z0 z1'=>?_⟩;obtain⟨v,e1,e2⟩:=qp (xs:=refs P0) (i:=(m:Int)) (by omega) (by rw[aP];omega);obtain⟨x,hx,rfl⟩:=Jn.mp e2;refine iA (ao (z3.same _ _ pa.at_) ai) e1 ?_;refine⟨by rw[Jy];simp,fun t ht mt=>⟨?_,?_,nx2 _ _ ⟨T++[(t,z,x)],?_,?_,?_,?_,?_,?_⟩⟩⟩
  ·rw[af (aj z1 ht)];exact z1
  ·rw[vA,Jy];omega
  ·rw[<-qc];rfl
  ·rw[ae,<-qc];rfl
  ·exact bH.upd (xs:=qz T) (bH.snoc (bH.new z2 ht) ae) (by rw[af (aj z1 ht)];exact z1)
  ·exact(z3.cn (z3.aQ ht) mt).cn hD mD
  ·intro a ha;rcases JB.mp ha with ha | ha
   ·exact z4 a ha
   ·rw[Jz.mp ha];exact hx
  ·rw[Jw];simp;omega
 ·obtain⟨T,rfl,z1,z2,z3,z4,z5⟩:=pv;refine tf z1 z2 (Ext.dI z3 pa.dI) z4 fun T' b pm hb mb=>?_;have hb1:=z3.aQ hb;have x2:=x1.trans (z3.cn (o:=.lst (qz T')) hb1 mb);have xx:=z3.cn (o:=.lst (qz T')) hb1 mb;refine seq ?_;walk_at "s1";rw[Sw.v_mod];refine⟨by decide,?_⟩;rw[Sw.j8];refine⟨_,rfl,?_⟩
  by_cases od:dg % 2=1
  ·rw[Jj (JV od)];refine seq ?_;walk_at "s1";refine⟨by rw[Jy];simp,fun d hd md=>?_⟩;have hd1:=xx.aQ hd;have x3:=xx.cn (o:=.lst []) hd1 md;refine seq ?_;walk_at "s1";refine⟨gc,bJ (ao (x3.same _ _ pa.at_) ai) ?_⟩
   refine cy (fun n σ Hk=>∃v6 c' T,σ=[some (.ref w),some (.int c'),some (.ref ah),some (.int dg),some (.ref q),some (.ref d),v6,none,none,none]/\Ext Γ.mod H1 Hk/\Hk d=some (.lst (qz T))/\bH Hk T/\(∀ t ∈ T,t.2.2 ∈ P0)/\T.length<=n) (fun n σ Hk z=>?_) (fun n v σ Hk D' hv pv nx ct _ _=>?_) (fun σ Hk pv=>?_)
    ⟨none,c,[],rfl,x3,ae,fun x hx=>by (cases hx),fun x hx=>by (cases hx),by simp⟩
   ·obtain⟨_,_,_,_,z,_⟩:=z;exact ao (z.same _ _ pa.at_) ai
   ·obtain⟨v6,c',T,rfl,y1,y2,y3,y4,y5⟩:=pv;obtain⟨x,hx,rfl⟩:=Jn.mp (Jp hv);obtain⟨hn,_⟩:=Jv.mp hv;rw[aP]at hn;refine seq ?_;walk_at "s1";refine⟨gE y2,?_⟩;rw[Sw.v_mod];refine⟨by decide,by rw[Jy];simp,fun t ht mt=>?_⟩;have y2':upd Hk t (.tup [.int (c' % 2),.ref x.1]) d=some (.lst (qz T)):=by rw[af (aj y2 ht)];exact y2
    refine append_at y2' (by rw[vA,Jy];omega) ?_;refine seq ?_;walk_at "s1";rw[Sw.v_div];refine⟨by decide,by decide,?_⟩;refine ck (nx _ _ ⟨_,_,T++[(t,c' % 2,x)],rfl,(y1.cn (y1.aQ ht) mt).cn hd1 md,?_,?_,?_,?_⟩)
    ·rw[ae,<-qc];rfl
    ·exact bH.upd (xs:=qz T) (bH.snoc (bH.new y3 ht) ae) y2'
    ·intro a ha;rcases JB.mp ha with ha | ha
     ·exact y4 a ha
     ·rw[Jz.mp ha];exact hx
    ·rw[Jw];simp;omega
   ·obtain⟨v6,c',T,rfl,y1,y2,y3,y4,y5⟩:=pv;dsimp only;refine ck ?_;exact oz gc (x1.trans y1) (Ext.bL y1 (Ext.bL x1 hah)) gA nA (Ext.dI y1 pa.dI) gd ok W.bK y2 y3 y4 h
  ·rw[Ji (by rw[Ky];exact od)];refine ck ?_;exact oz gc x2 (Ext.bL xx (Ext.bL x1 hah)) gA nA (Ext.dI xx pa.dI) gd ok W.bK ae (fun t ht=>bH.new z2 hb t (pm.mem_iff.mp ht)) (fun t ht=>z4 t (pm.mem_iff.mp ht)) h
noncomputable def pd (x:Str × Str):PyData:=.tuple [.str x.1,.str x.2]
theorem An (x y:Str × Str):PyData.eqv (pd x) (pd y)=decide (x=y):=by
 unfold pd;simp only[PyData.eqv,PyData.eqvAll,Bool.and_true];obtain⟨a,b⟩:=x;obtain⟨c,d⟩:=y
 by_cases h1:a=c
 ·by_cases h2:b=d
  ·simp[h1,h2]
  ·simp[h1,h2]
 ·simp[h1]
theorem vt:∀L L':NU,PyData.eqvAll (L.map pd) (L'.map pd)=decide (L=L')
 | [],[]=>by simp[PyData.eqvAll]
 | x::r,[]=>by simp[PyData.eqvAll]
 | [],y::r'=>by simp[PyData.eqvAll]
 | x::r,y::r'=>by
  rw[JF,JF];simp only[PyData.eqvAll];rw[An,vt r r']
  by_cases h1:x=y
  ·by_cases h2:r=r'
   ·simp[h1,h2]
   ·simp[h1,h2]
  ·simp[h1]
theorem oO (L L':NU):PyData.eqv (.list (L.map pd)) (.list (L'.map pd))=decide (L=L'):=by
 simp only[PyData.eqv];exact vt L L'
structure aG (E:List Ent) (L:NU):Prop where
 sw:∀x ∈ L,slt x.1 x.2/\x.2 ∈ nE E x.1
 nd:(ends L).Nodup
 sD:cx L
theorem sV (E:List Ent) (x:Str):(bQ (iJ E) (.inr x)).isSome=(E.lookup x).isSome:=by
 have z:=gX (fun y:Addr × Gw.Row=>V.ref y.1) E x;show(bQ (E.map fun e=>((Sum.inr e.1:Key),V.ref e.2.1)) (.inr x)).isSome=_;rw[show(E.map fun e=>((Sum.inr e.1:Key),V.ref e.2.1))=E.map (fun y=>((Sum.inr y.1:Key),(fun y:Addr × Gw.Row=>V.ref y.1) y.2))from rfl,z];cases E.lookup x<;>rfl
theorem h_ {M:Mo} {H:Hp} {p:Addr} {P:List Pr} (h:ay H p P) (n:Nat):data M H (n + 2) (.ref p)=some (.list ((au P).map pd)):=by
 unfold Sw.data;rw[ao h.at_ ai];dsimp only;unfold refs;rw[allM_map (k:=fun x:Pr=>PyData.tuple [.str x.2.1,.str x.2.2]) fun x hx=>?_]
 ·unfold au;rw[JT];rfl
 ·unfold Sw.data;rw[ao (h.dI x hx) bG];show(allM (Sw.data M H n) ([x.2.1,x.2.2].map V.str)).map PyData.tuple=_;rw[allM_map (k:=PyData.str) fun x _=>jw n x];rfl
theorem rX {M:Mo} {H:Hp} {p q:Addr} {P R:List Pr} {Q:VK} (a:ay H p P) (b:ay H q R) (h:Q (.bl (decide (au P=au R))) H):cT M .Eq (.ref p) (.ref q) H Q:=by
 show if jg (.ref p) (.ref q)=true then Q (.bl (decide (V.ref p=V.ref q))) H else(match data M H 16 (.ref p),data M H 16 (.ref q)with | some d,some e=>Q (.bl (PyData.eqv d e)) H | _,_=>False)
 rw[Dz,Ji (by decide),h_ a 14,h_ b 14];dsimp only;rw[oO];exact h
abbrev eE:NW:=["_law_web_here","_law_plan_here","_law_texts","_law_k","_law_one","_law_other"]
noncomputable def eC:fh:=(.cons (.asg 2 (.lst .nil))
 (.cons (.fr 3 (.rng1 (.blt .len (.cons (.var 1) .nil))) (.cons (.asgT [4,5] (.idx (.var 1) (.var 3)))
 (.cons (.iff (.or (.cmp .GtE (.var 4) (.var 5)) (.or (.cmp .In (.var 4) (.var 2)) (.or (.cmp .In (.var 5) (.var 2)) (.or (.cmpD .NotIn (.var 4) (.var 0)) (.cmpD .NotIn (.var 5) (.idxD (.var 0) (.var 4))))))) (.cons (.ret (.con (.bl false)))
  .nil) .nil)
 (.cons (.iff (.and (.cmp .Gt (.var 3) (.con (.int 0))) (.cmpP (.idx (.var 1) (.bin .Sub (.var 3) (.con (.int 1)))) (.idx (.var 1) (.var 3)))) (.cons (.ret (.con (.bl false)))
  .nil) .nil)
 (.cons (.exp (.mth .extend (.var 2) (.cons (.lst (.cons (.var 4) (.cons (.var 5) .nil))) .nil)))
 .nil)))))
 (.cons (.ret (.con (.bl true)))
 .nil)))
theorem Fm {M:Mo} {H:Hp} {Q:VK} (x y:Str):cT M .GtE (.str x) (.str y) H Q=Q (.bl (!decide (slt x y))) H:=rfl
theorem vn {M:Mo} {H:Hp} {p:Addr} {ns:NW} {x:Str} {Q:VK} (h:rd M H p=some (.lst (ns.map V.str))) (q:Q (.bl (decide (x ∈ ns))) H):cT M .In (.str x) (.ref p) H Q:=by
 show(match rd M H p with
  | some (.lst xs)=>bh (V.str x)=true/\xs.all bh=true/\Q (.bl (rR (.str x) xs)) H
  | some (.tup xs)=>bh (V.str x)=true/\xs.all bh=true/\Q (.bl (rR (.str x) xs)) H
  | _=>False)
 rw[h];exact⟨rfl,oK ns,by rw[rQ];exact q⟩
theorem aG.take {E:List Ent} {L:NU} (h:aG E L) (n:Nat):aG E (L.take n):=
 ⟨fun x hx=>h.sw x (KZ hx),oP h.nd,h.sD.sublist (List.take_sublist n L)⟩
theorem aG.snoc {E:List Ent} {L:NU} {a b:Str}:aG E (L++[(a,b)]) ↔ aG E L/\slt a b/\a ∉ ends L/\b ∉ ends L/\b ∈ nE E a/\∀y,L[L.length - 1]?=some y->L ≠ []->eS y (a,b)=true:=by
 constructor
 ·intro h;have nd:=h.nd;rw[dR,JI,JI]at nd;have sw:=h.sw (a,b) (by simp);have ht:=h.take L.length;rw[List.take_left]at ht;refine⟨ht,sw.1,fun z=>nd.1.2.2 a z a (by simp) rfl,fun z=>nd.2.2 b (by simp[z]) b (by simp) rfl,sw.2,fun y hy ne=>?_⟩;exact(Mi.mp h.sD).2.2 y (Jp hy) (a,b) (by simp)
 ·rintro⟨h,lt,na,nb,ad,last⟩
  refine⟨fun x hx=>?_,?_,?_⟩
  ·rcases JB.mp hx with hx | hx
   ·exact h.sw x hx
   ·rw[Jz.mp hx];exact⟨lt,ad⟩
  ·rw[dR,JI,JI];refine⟨⟨h.nd,by simp,fun x hx y hy e=>na ?_⟩,by simp,fun x hx y hy e=>?_⟩
   ·rw[<-Jz.mp hy,<-e];exact hx
   ·rw[Jz.mp hy]at e;rcases JB.mp hx with hx | hx
    ·exact nb (by rw[<-e];exact hx)
    ·rw[Jz.mp hx]at e;rw[e]at lt;exact bW.nT _ lt
  ·refine Mi.mpr ⟨h.sD,List.pairwise_singleton _ _,fun x hx y hy=>?_⟩;rw[Jz.mp hy];have ne:L ≠ []:=fun z=>by rw[z]at hx;cases hx
   have hl:L.length - 1 < L.length:=by have:=M1.mpr ne;omega
   have hz:=last _ (Jl hl) ne;obtain⟨i,hi,rfl⟩:=List.getElem_of_mem hx
   by_cases e:i=L.length - 1
   ·subst e;exact hz
   ·exact A8.tr _ _ _ (Kp.mp h.sD i (L.length - 1) hi hl (by omega)) hz
noncomputable def uI (M:Mo):Sp:=fun vs H Q _=>∃w p E P,vs=[.ref w,.ref p]/\bu H w E/\ay H p P/\P.length<=1000/\∀H' (k:Bool),Ext M H H'->(k=true ↔ aG E (au P))->Q (.bl k) H'
theorem D4 {M:Mo} {Γ:b0} (gm:Γ.mod=M) (gc:Γ.cm=true) (vs:List V) (H:Hp) (Q:VK) (X:XK) (h:uI M vs H Q X):eJ Γ eE 2 eC vs H Q X:=by
 obtain⟨w,p,E,P,rfl,W,hp,bK,h⟩:=h;refine⟨rfl,?_⟩;obtain rfl:=gm;unfold eC;refine seq ?_;walk_at "s1";refine⟨by rw[Jy];simp,fun t ht mt=>?_⟩;have x0:Ext Γ.mod H (upd H t (.lst [])):=Ext.upd ht mt;refine seq ?_;walk_at "s1";refine⟨gc,gc,gI (ao (Ext.bL x0 hp).at_ ai) ?_⟩;rw[aP];refine⟨by omega,by omega,?_⟩
 refine cy (fun n σ Hn=>∃v3 v4 v5,σ=[some (.ref w),some (.ref p),some (.ref t),v3,v4,v5]/\Ext Γ.mod H Hn/\Hn t=some (.lst ((ends (au (P.take n))).map V.str))/\aG E (au (P.take n))/\n<=P.length) (fun n σ Hn z=>trivial) (fun n v σ Hn D' hv pv nx ct rt _=>?_) (fun σ Hn pv=>?_)
  ⟨none,none,none,rfl,x0,ae,⟨fun x hx=>by (cases hx),.nil,.nil⟩,J3 _⟩
 ·obtain⟨v3,v4,v5,rfl,x,htn,ip,nle⟩:=pv;obtain⟨hn,rfl⟩:=cP hv;have hn:n < P.length:=hn;have hpn:=Ext.bL x hp;have Wn:=Ext.nD x W;obtain⟨y,hy⟩:∃y,P[n]?=some y:=⟨P[n],Jl hn⟩;have my:=Jp hy;have tk:=qI hy;have rdp:=ao (M:=Γ.mod) hpn.at_ ai
  have ixn:∀ (i:Nat) (z:Pr) {Q':VK},P[i]?=some z->Q' (.ref z.1) Hn->c_ Γ.mod (.ref p) (.int i) Hn Q':=fun i z Q' hz q'=>by
   refine iA rdp ?_ q';obtain⟨hi,_⟩:=Jv.mp hz;unfold k_ oF;rw[Jj (by omega),Jj (by rw[aP];omega),Mh];show(refs P)[i]?=_;unfold refs;rw[JJ,hz];rfl
  have whole:aG E (au P)->aG E (au (P.take n)++[(y.2.1,y.2.2)]):=fun z=>by
   rw[<-tk];have:au (P.take (n + 1))=(au P).take (n + 1):=Nl;rw[this];exact z.take _
  have no:∀ {σ':L2.St},(¬ aG E (au (P.take n)++[(y.2.1,y.2.2)]))->D'.rt (.bl false) Hn:=fun{_} z=>by
   rw[rt];exact h Hn false x ⟨fun q=>(by cases q),fun q=>absurd (whole q) z⟩
  refine seq ?_;walk_at "s1";refine⟨gc,ixn n y hy ?_⟩;dsimp only;rw[ao (hpn.dI y my) bG];refine⟨rfl,?_⟩;dsimp only[eQ,Sw.cR,Sw.cQ];refine seq ?_;walk_at "s1";rw[Fm];refine⟨_,rfl,?_⟩
  by_cases lt:slt y.2.1 y.2.2
  ·rw[Ji (by simp;exact lt)];refine vn (ao htn ai) ⟨_,rfl,?_⟩
   by_cases i1:y.2.1 ∈ ends (au (P.take n))
   ·rw[Jj (JV i1),Jj rfl];walk_at "sw";exact no (σ':=[]) fun z=>(aG.snoc.mp z).2.2.1 i1
   rw[Ji (by rw[Ky];exact i1)];refine vn (ao htn ai) ⟨_,rfl,?_⟩
   by_cases i2:y.2.2 ∈ ends (au (P.take n))
   ·rw[Jj (JV i2),Jj rfl];walk_at "sw";exact no (σ':=[]) fun z=>(aG.snoc.mp z).2.2.2.1 i2
   rw[Ji (by rw[Ky];exact i2)];refine tU (x:=y.2.1) (ao Wn.top fW) ⟨_,rfl,?_⟩;rw[sV];cases e:E.lookup y.2.1 with
   | none=>
    rw[Jj (by rfl),Jj rfl];walk_at "sw";refine no (σ':=[]) fun z=>?_;have:=(aG.snoc.mp z).2.2.2.2.1;unfold nE at this;rw[e]at this;cases this
   | some r=>
    rw[Ji (by simp)];have m:=lookup_some e;refine fZ (row:=r.2) (p:=r.1) Wn m ?_;refine tU (x:=y.2.2) (ao (Wn.row _ m) fW) ⟨_,rfl,?_⟩;rw[iM];have ea:nE E y.2.1=r.2.map (·.1):=uh e
    by_cases i3:y.2.2 ∈ r.2.map (·.1)
    ·rw[JV i3,Ji (by decide)];have len:(au (P.take n)).length=n:=by unfold au;rw[Jk,J4];omega
     have good:(∀ z,(au (P.take n))[(au (P.take n)).length - 1]?=some z->au (P.take n) ≠ []->eS z (y.2.1,y.2.2)=true)->
       wSs (.cons (.exp (.mth .extend (.var 2) (.cons (.lst (.cons (.var 4) (.cons (.var 5) .nil))) .nil))) .nil) Γ X0 D' [some (.ref w),some (.ref p),some (.ref t),some (.int n),some (.str y.2.1),some (.str y.2.2)] Hn:=fun last=>by
      have ip2:aG E (au (P.take (n + 1))):=by
       rw[tk];exact aG.snoc.mpr ⟨ip,lt,i1,i2,by rw[ea];exact i3,last⟩
      refine seq ?_;walk_at "s1";refine⟨gE htn,by rw[Jy];simp,fun z hz mz=>?_⟩;have zt:z ≠ t:=fun q=>by subst q;rw[htn]at hz;cases hz
      refine fH (xs:=(ends (au (P.take n))).map V.str) (ys:=[.str y.2.1,.str y.2.2]) (by rw[af zt.symm];exact htn) ae (by rw[Jk,a_,len,Jy];simp;omega) ?_;refine ck (nx _ _ ⟨_,_,_,rfl,(x.cn (x.aQ hz) mz).cn ht mt,?_,ip2,hn⟩);rw[ae,tk,dR,JA,JA,JM];rfl
     refine ck (seq ?_);walk_at "s1";rw[Sw.x9];refine⟨_,rfl,?_⟩
     by_cases k0:(0:Int) < (n:Int)
     ·rw[Jj (JV k0),Sw.v_sub];obtain⟨z,hz⟩:∃z,P[n - 1]?=some z:=⟨P[n - 1],Jl (by omega)⟩;rw[show(n:Int) - 1=((n - 1:Nat):Int) by omega];refine ixn (n - 1) z hz (ixn n y hy ?_)
      show(match bq Γ.mod Hn (.ref z.1),bq Γ.mod Hn (.ref y.1)with
       | some a,some b=>_
       | _,_=>False)
      rw[fo hpn.dI (Jp hz),fo hpn.dI my];refine⟨_,rfl,?_⟩
      have pz:(au (P.take n))[(au (P.take n)).length - 1]?=some z.2:=by
       rw[len];unfold au;rw[JJ,Nh,Jj (by omega),hz];rfl
      cases l2:eS z.2 y.2 with
      | true=>
       rw[Ji (by decide)];refine ck (good fun z' hz' _=>?_);rw[pz]at hz';cases hz'
       exact l2
      | false=>
       rw[Jj (by rfl)];walk_at "sw";refine no (σ':=[]) fun q=>?_;have:=(aG.snoc.mp q).2.2.2.2.2 z.2 pz (fun e=>by rw[e]at len;simp at len;omega);rw[show((y.2.1,y.2.2):Str × Str)=y.2 from rfl,l2]at this;cases this
     ·rw[Ji (by rw[Ky];exact k0),Ji (by decide)];refine ck (good fun z' hz' ne=>?_);exact absurd (L5 (by rw[len];omega)) ne
    ·rw[Jj (by simp;exact fun a z=>i3 (Jn.mpr ⟨(y.2.2,a),z,rfl⟩))];walk_at "sw";exact no (σ':=[]) fun z=>i3 (by rw[<-ea];exact(aG.snoc.mp z).2.2.2.2.1)
  ·rw[Jj (by simp;exact lt),Jj rfl];walk_at "sw";exact no (σ':=[]) fun z=>lt (aG.snoc.mp z).2.1
 ·obtain⟨v3,v4,v5,rfl,x,htn,ip,nle⟩:=pv;rw[Jk,J8]at ip;walk_at "sw";refine h Hn true x ⟨fun _=>?_,fun _=>rfl⟩;have:P.take ((P.length:Int)).toNat=P:=KC;rw[this]at ip;exact ip
noncomputable def gY (a b:Str):Str × Str:=(Gr.mn slt a b,if slt a b then b else a)
theorem pD {a b:Str} (h:slt a b):gY a b=(a,b):=by
 unfold gY Gr.mn;rw[Ji (fun z=>bW.su h z),Jj h]
theorem pE {a b:Str} (h:slt b a):gY a b=(b,a):=by
 unfold gY Gr.mn;rw[Jj h,Ji (fun z=>bW.su h z)]
noncomputable def On (v:Str) (x:Str × Str):Prop:=v=x.1\/v=x.2
theorem mm {a b v:Str} (n:a ≠ b):On v (gY a b) ↔ v=a\/v=b:=by
 rcases bW.Dt a b n with h | h
 ·rw[pD h];exact Iff.rfl
 ·rw[pE h];exact or_comm
theorem Ba {a b c d:Str} (n:a ≠ b) (m:c ≠ d) (e:gY a b=gY c d):(a=c/\b=d)\/(a=d/\b=c):=by
 have h1:=(mm m (v:=a)).mp (e ▸ (mm n).mpr (.inl rfl));have h2:=(mm m (v:=b)).mp (e ▸ (mm n).mpr (.inr rfl));rcases h1 with h1 | h1
 ·rcases h2 with h2 | h2
  ·exact absurd (h1.trans h2.symm) n
  ·exact .inl ⟨h1,h2⟩
 ·rcases h2 with h2 | h2
  ·exact .inr ⟨h1,h2⟩
  ·exact absurd (h1.trans h2.symm) n
theorem qa {L:NU} {v:Str}:v ∈ ends L ↔ ∃x ∈ L,On v x:=by
 unfold ends On;rw[Kb];constructor
 ·rintro⟨l,hl,hv⟩
  obtain⟨x,hx,rfl⟩:=Jn.mp hl;exact⟨x,hx,by simpa using hv⟩
 ·rintro⟨x,hx,hv⟩
  exact⟨_,Jn.mpr ⟨x,hx,rfl⟩,by simpa using hv⟩
theorem fI:∀ {L:NU},(ends L).Nodup->∀ {x y:Str × Str} {v:Str},x ∈ L->y ∈ L->On v x->On v y->x=y
 | [],_,_,_,_,h,_,_,_=>by cases h
 | z::r,nd,x,y,v,hx,hy,vx,vy=>by
  have e:ends (z::r)=z.1::z.2::ends r:=rfl;rw[e]at nd;have n1:=(JN.mp nd).1;have n2:=(JN.mp (JN.mp nd).2).1;have n3:=(JN.mp (JN.mp nd).2).2
  have out:∀w ∈ r,On v w->On v z->False:=fun w hw q p=>by
   have:=qa.mpr ⟨w,hw,q⟩;rcases p with p | p
   ·rw[p]at this;exact n1 (Jo _ this)
   ·rw[p]at this;exact n2 this
  rcases Jx.mp hx with ex | hx
  ·rcases Jx.mp hy with ey | hy
   ·rw[ex,ey]
   ·exact(out y hy vy (ex ▸ vx)).elim
  ·rcases Jx.mp hy with ey | hy
   ·exact(out x hx vx (ey ▸ vy)).elim
   ·exact fI n3 hx hy vx vy
theorem vz:∀ {L:NU},L.Nodup->(∀ x ∈ L,x.1 ≠ x.2)->(∀ x ∈ L,∀y ∈ L,∀v,On v x->On v y->x=y)->(ends L).Nodup
 | [],_,_,_=>List.nodup_nil
 | z::r,nd,ne,un=>by
  have e:ends (z::r)=z.1::z.2::ends r:=rfl;rw[e];obtain⟨n1,n2⟩:=JN.mp nd
  have out:∀v,On v z->v ∉ ends r:=fun v hv hm=>by
   obtain⟨w,hw,q⟩:=qa.mp hm;have:=un z Js w (Jo _ hw) v hv q;rw[this]at n1;exact n1 hw
  refine JN.mpr ⟨fun m=>?_,JN.mpr ⟨out _ (.inr rfl),vz n2 (fun x hx=>ne x (Jo _ hx)) fun x hx y hy=>un x (Jo _ hx) y (Jo _ hy)⟩⟩;rcases Jx.mp m with m | m
  ·exact ne z Js m
  ·exact out _ (.inl rfl) m
theorem dN {L:NU} (h:cx L):L.Nodup:=h.imp fun{a b} (z:eS a b=true) (e:a=b)=>by
 rw[e]at z;exact A8.nT b z
theorem aG.IG {E:List Ent} {L:NU} (h:aG E L):L.Nodup:=dN h.sD
noncomputable def eZ (L A:NU) (x:Str × Str):Prop:=(x ∈ L/\x ∉ A)\/(x ∈ A/\x ∉ L)
noncomputable def ar (R:NW):NU:=(R.zip R.tail).map fun p=>gY p.1 p.2
section
variable {E:List Ent} {L:NU} {R:NW}
noncomputable def Hd (R:NW):NU:=ar R++[gY (R.getLastD ⟨#[]⟩) (R.headD ⟨#[]⟩)]
theorem Ci (h:R ≠ []):R[R.length - 1]?=some (R.getLastD ⟨#[]⟩):=by
 rw[<-Mt];cases R with
 | nil=>exact absurd rfl h
 | cons x r=>rw[Nw];rfl
end
abbrev j6:NW:=["one","other"]
noncomputable def jZ:fh:=(.cons (.ret (.tup (.cons (.blt .smin (.cons (.var 0) (.cons (.var 1) .nil))) (.cons (.smax (.var 0) (.var 1)) .nil))))
 .nil)
abbrev e7:NW:=["part","couples","swaps"]
noncomputable def eV:fh:=(.cons (.asg 1 (.idx (.var 0) (.con (.int 1))))
 (.cons (.asg 2 (.compZ ["one","other"] [] (.var 1) (.slc (.var 1) (.cons (.con (.int 1)) .nil) .nil) (.call "swap_of" (.cons (.var 0) (.cons (.var 1) .nil)))))
 (.cons (.iff (.cmp .Eq (.idx (.var 0) (.con (.int 0))) (.glob "RING")) (.cons (.exp (.mth .append (.var 2) (.cons (.call "swap_of" (.cons (.idx (.var 1) (.neg (.con (.int 1)))) (.cons (.idx (.var 1) (.con (.int 0))) .nil))) .nil)))
 .nil) .nil)
 (.cons (.ret (.var 2))
 .nil))))
abbrev nC:NW:=["plan","part","along","staying","coming"]
noncomputable def ni:fh:=(.cons (.asg 2 (.call "swaps_along" (.cons (.var 1) .nil)))
 (.cons (.asg 3 (.comp "swap" [("along",2)] (.ex (.var 0)) (.var 0) (.cons (.cmpI .NotIn (.var 0) (.var 1)) .nil)))
 (.cons (.asg 4 (.comp "swap" [("plan",0)] (.ex (.var 2)) (.var 0) (.cons (.cmpI .NotIn (.var 0) (.var 1)) .nil)))
 (.cons (.ret (.blt2 .sortT (.bin .Add (.var 3) (.var 4))))
 .nil))))
noncomputable def i9 (M:Mo):Sp:=fun vs H Q _=>∃a b,vs=[.str a,.str b]/\∀t,H t=none->M t=none->Q (.ref t) (upd H t (.tup [.str (gY a b).1,.str (gY a b).2]))
theorem wB {M:Mo} {Γ:b0} (gm:Γ.mod=M) (gc:Γ.cm=true) (vs:List V) (H:Hp) (Q:VK) (X:XK) (h:i9 M vs H Q X):eJ Γ j6 2 jZ vs H Q X:=by
 obtain⟨a,b,rfl,h⟩:=h;refine⟨rfl,?_⟩;obtain rfl:=gm;unfold jZ;walk_at "sw";refine⟨gc,Bi ⟨gc,?_⟩⟩;show([V.str (Gr.mn slt a b),V.str (if slt a b then b else a)]:List V).length<=sizeLine/\_;exact⟨by rw[Jy];simp,fun t ht mt=>h t ht mt⟩
theorem xw {ι:Type} {nxt:ι->Hp->(L2.St->Hp->Prop)->Prop} {te:TE} {tt:TT} {fvs:L2.St} {D:Addr} {aq:Hp->Prop} {k:Hp->Prop} {xs:List ι} (Pv:Nat->List V->Hp->Prop) (st:∀n acc H,Pv n acc H->aq H/\H D=some (.lst acc))
  (step:∀n v acc H (K:List V->Hp->Prop),xs[n]?=some v->Pv n acc H->(∀ acc' H',Pv (n + 1) acc' H'->K acc' H')->nxt v H fun w H0=>tt (w++fvs) H0 fun ok H1=>if ok=true then te (w++fvs) H1 fun y H2=>H2 D=some (.lst acc)/\acc.length < sizeLine/\K (acc++[y]) (upd H2 D (.lst (acc++[y])))else K acc H1)
  (fin:∀acc H,Pv xs.length acc H->k H) {acc:List V} {H:Hp} (h0:Pv 0 acc H):cB nxt te tt fvs D aq xs acc H k:=by
 have go:∀ (r:List ι) (n:Nat),xs.drop n=r->n<=xs.length->∀acc H,Pv n acc H->cB nxt te tt fvs D aq r acc H k:=by
  intro r
  induction r with
  | nil=>
   intro n e hn acc H p;have:xs.length<=n:=by simpa using e
   have hn':n=xs.length:=by omega
   subst hn';exact⟨(st _ _ _ p).1,(st _ _ _ p).2,fin acc H p⟩
  | cons v r ih=>
   intro n e hn acc H p
   have hlt:n < xs.length:=by
    have:=congrArg List.length e;simp at this;omega
   have hv:xs[n]?=some v:=by
    have:=congrArg (fun l=>l[0]?) e;simpa using this
   have hr:xs.drop (n + 1)=r:=by
    have:=congrArg List.tail e;simpa[Lr]using this
   exact⟨(st _ _ _ p).1,step n v acc H (fun acc' H'=>cB nxt te tt fvs D aq r acc' H' k) hv p fun acc' H' q=>ih (n + 1) hr hlt acc' H' q⟩
 exact go xs 0 (by simp) (J3 _) acc H h0
theorem vH {M:Mo} {H:Hp} {t:Addr} {a b:Str} (h:H t=some (.tup [.str a,.str b])) (n:Nat):data M H (n + 1) (.ref t)=some (pd (a,b)):=by
 unfold Sw.data;rw[ao h bG];show(allM (Sw.data M H n) ([a,b].map V.str)).map PyData.tuple=_;rw[allM_map (k:=PyData.str) fun x _=>jw n x];rfl
theorem Az {M:Mo} {H:Hp} {P:List Pr} (h:aF H P) (n:Nat):allM (data M H (n + 1)) (refs P)=some ((au P).map pd):=by
 unfold refs au;rw[JT];exact allM_map (k:=fun x:Pr=>pd x.2) fun x hx=>vH (h x hx) n
theorem ER (L:NU) (x:Str × Str):(L.map pd).any (fun e=>PyData.eqv e (pd x))=decide (x ∈ L):=by
 induction L with
 | nil=>rfl
 | cons y r ih=>
  rw[JF,LF,ih,An]
  by_cases e:y=x
  ·subst e;simp
  ·have:x ≠ y:=fun z=>e z.symm;simp[e,this]
theorem tG {M:Mo} {H:Hp} {p t:Addr} {P:List Pr} {a b:Str} {Q:VK} (hp:ay H p P) (ht:H t=some (.tup [.str a,.str b])) (q:Q (.bl (!decide ((a,b) ∈ au P))) H):oU M .NotIn (.ref t) (.ref p) H Q:=by
 unfold oU;dsimp only;rw[ao hp.at_ ai];dsimp only;rw[vH ht 7,Az hp.dI 7];dsimp only;rw[ER];exact q
noncomputable def nq (wd:Str) (R:NW):NU:=if wd=Str.ofString "ring" then Hd R else ar R
structure nz (M:Mo) (H:Hp) (pt:Addr) (wd:Str) (c:Addr) (R:NW):Prop where
 tup:rd M H pt=some (.tup [.str wd,.ref c])
 lst:rd M H c=some (.lst (R.map V.str))
theorem nz.ext {M:Mo} {H H':Hp} {pt c:Addr} {wd:Str} {R:NW} (h:nz M H pt wd c R) (x:Ext M H H'):nz M H' pt wd c R:=⟨x.rd h.tup,x.rd h.lst⟩
noncomputable def kN (M:Mo):Sp:=fun vs H Q _=>∃pt wd c R,vs=[.ref pt]/\nz M H pt wd c R/\(wd=Str.ofString "ring" ->R ≠ [])/\R.length<=100/\
 ∀H' q P,Ext M H H'->H q=none->M q=none->ay H' q P->au P=nq wd R->Q (.ref q) H'
theorem Ib (R:NW):iw (R.map V.str) (some 1) none=R.tail.map V.str:=by
 unfold iw HT.qT;dsimp only;rw[Ji (by decide)];cases R with
 | nil=>rfl
 | cons x r=>
  simp;exact Lv (by simp)
theorem Co {M:Mo} {H:Hp} {c:Addr} {R:NW} {Q:VK} (h:rd M H c=some (.lst (R.map V.str))) (ne:R ≠ []) (q:Q (.str (R.getLastD ⟨#[]⟩)) H):c_ M (.ref c) (.int (-1)) H Q:=by
 refine iA h (v:=.str (R.getLastD ⟨#[]⟩)) ?_ q;have l:0 < R.length:=M1.mpr ne;unfold k_ oF;rw[Ji (by decide),Jj (by rw[Jk];omega),Jk];show(R.map V.str)[(-1 + (R.length:Int)).toNat]?=_;rw[show(-1 + (R.length:Int)).toNat=R.length - 1 by omega,JJ,Ci ne];rfl
theorem Cp {M:Mo} {H:Hp} {c:Addr} {R:NW} {Q:VK} (h:rd M H c=some (.lst (R.map V.str))) (ne:R ≠ []) (q:Q (.str (R.headD ⟨#[]⟩)) H):c_ M (.ref c) (.int 0) H Q:=by
 refine iA h (v:=.str (R.headD ⟨#[]⟩)) ?_ q;cases R with
 | nil=>exact absurd rfl ne
 | cons x r=>
  unfold k_ oF;simp
theorem AY:∀ (R S:NW) (m:Nat) (v:V × V),((R.map V.str).zip (S.map V.str))[m]?=some v->∃a b,(R.zip S)[m]?=some (a,b)/\v=(.str a,.str b):=fun R S m v h=>by
 rw[List.zip_map,JJ]at h;obtain⟨p,hp,rfl⟩:=JW.mp h;exact⟨p.1,p.2,hp,rfl⟩
theorem zk {M:Mo} {Γ:b0} (gm:Γ.mod=M) (gc:Γ.cm=true) (gl:Γ.con "RING" =some (.str (Str.ofString "ring"))) (g1:Γ.has "swap_of" =true/\Γ.fn "swap_of" =i9 M) (vs:List V) (H:Hp) (Q:VK) (X:XK) (h:kN M vs H Q X):eJ Γ e7 1 eV vs H Q X:=by
 obtain⟨pt,wd,c,R,rfl,pa,rn,bK,h⟩:=h;refine⟨rfl,?_⟩;obtain rfl:=gm;unfold eV;refine seq ?_;walk_at "s1";rw[Sw.iC,pa.tup];show wSs _ Γ _ _ _ H;refine seq ?_;dsimp only[Sw.wS,Sw.wE,Sw.wEs,Sw.wTs,Sw.wI,Sw.wP,Sw.vars,Sw.dz,Sw.dw,Sw.cR,Sw.cQ,Sw.dq,Sw.dm,Sw.dC,Sw.dB,Sw.dt,L2.start,Sw.dY,Sw.dX,Sw.dW,Sw.dU,Nat.reduceAdd,Nat.reduceSub];refine⟨gc,?_⟩;rw[Sw.uN,pa.lst];intro l hl ml;rw[Ib];have x1:Ext Γ.mod H (upd H l (.lst (R.tail.map V.str))):=Ext.upd hl ml;have hll:upd H l (.lst (R.tail.map V.str)) l=some (.lst (R.tail.map V.str)):=ae;generalize upd H l (.lst (R.tail.map V.str))=H1 at x1 hll;have pa1:=pa.ext x1;have rl:=ao (M:=Γ.mod) hll ai;unfold sJ;dsimp only;rw[pa1.lst,rl];dsimp only;intro D hD mD;have xD:Ext Γ.mod H1 (upd H1 D (.lst [])):=Ext.upd hD mD;have zl:(R.zip R.tail).length<=100:=by rw[LY];omega
 refine xw (fun n acc Hm=>∃P:List Pr,acc=refs P/\Hm D=some (.lst (refs P))/\aF Hm P/\Ext Γ.mod H1 Hm/\au P=((R.zip R.tail).take n).map fun p=>gY p.1 p.2) (fun m acc Hm z=>?_) (fun m v acc Hm K hv pv nx=>?_) (fun acc Hm pv=>?_)
  ⟨[],rfl,ae,fun x hx=>by (cases hx),xD,rfl⟩
 ·obtain⟨P,rfl,z1,z2,z3,z4⟩:=z;exact⟨⟨z3.rd pa1.lst,z3.rd rl⟩,z1⟩
 ·obtain⟨P,rfl,z1,z2,z3,z4⟩:=pv;obtain⟨a,b,e1,rfl⟩:=AY R R.tail m v hv;intro t ht mt;dsimp only;rw[Jj rfl];refine⟨⟨gc,g1.1⟩,?_⟩;rw[g1.2];refine⟨a,b,rfl,fun s hs ms=>?_⟩;have x2:Ext Γ.mod Hm (upd Hm t (.tup [.str a,.str b])):=Ext.upd ht mt;have x3:Ext Γ.mod (upd Hm t (.tup [.str a,.str b])) (upd (upd Hm t (.tup [.str a,.str b])) s (.tup [.str (gY a b).1,.str (gY a b).2])):=Ext.upd hs ms;have hss:upd (upd Hm t (.tup [.str a,.str b])) s (.tup [.str (gY a b).1,.str (gY a b).2]) s=some (.tup [.str (gY a b).1,.str (gY a b).2]):=ae;have x23:=x2.trans x3;generalize upd (upd Hm t (.tup [.str a,.str b])) s (.tup [.str (gY a b).1,.str (gY a b).2])=H3 at x3 x23 hss;have hD3:=x23.same _ _ z1
  have lp:P.length<=100:=by
   have q:=congrArg List.length z4;unfold au at q;rw[Jk,Jk,J4]at q;omega
  have e:refs P++[V.ref s]=refs (P++[(s,gY a b)]):=by rw[<-cC];rfl
  refine⟨hD3,by rw[aP,Jy];omega,?_⟩;rw[e];refine nx _ _ ⟨P++[(s,gY a b)],rfl,ae,aF.upd (xs:=refs P) (aF.app (Ext.dI x23 z2) (fun y hy=>by rw[Jz.mp hy];exact hss)) hD3,(z3.trans x23).cn hD mD,?_⟩;rw[MC,e1,JA,<-z4];unfold au;rw[JA];rfl
 ·obtain⟨P,rfl,z1,z2,z3,z4⟩:=pv;have xx:=x1.trans z3
  have e:au P=ar R:=by
   rw[z4,List.zip_map,Jk,KC];rfl
  have pp:=pa.ext xx;refine seq ?_;walk_at "s1";rw[Sw.iC,pp.tup];show(match Γ.con "RING" with | some v=>_ | none=>False);rw[gl];dsimp only;rw[Sw.CQ];refine⟨_,rfl,?_⟩
  by_cases w:wd=Str.ofString "ring"
  ·rw[Jj (JV w)];have ne:=rn w;refine seq ?_;walk_at "s1";refine⟨gE z1,⟨gc,g1.1⟩,Co pp.lst ne (Cp pp.lst ne ?_)⟩;rw[g1.2];refine⟨_,_,rfl,fun s hs ms=>?_⟩;generalize e2:gY (R.getLastD ⟨#[]⟩) (R.headD ⟨#[]⟩)=sw;have x3:Ext Γ.mod Hm (upd Hm s (.tup [.str sw.1,.str sw.2])):=Ext.upd hs ms;have hss:upd Hm s (.tup [.str sw.1,.str sw.2]) s=some (.tup [.str sw.1,.str sw.2]):=ae;generalize upd Hm s (.tup [.str sw.1,.str sw.2])=H3 at x3 hss;have hD3:=x3.same _ _ z1
   have lp:P.length<=100:=by
    have q:=congrArg List.length z4;unfold au at q;rw[Jk,Jk,J4,List.zip_map,Jk]at q;omega
   refine append_at hD3 (by rw[aP,Jy];omega) ?_;have er:refs P++[V.ref s]=refs (P++[(s,sw)]):=by rw[<-cC];rfl
   rw[er];refine ck ?_;walk_at "sw";refine h _ D (P++[(s,sw)]) (x1.trans ((z3.trans x3).cn hD mD)) (x1.aQ hD) mD ⟨ae,aF.upd (xs:=refs P) (aF.app (Ext.dI x3 z2) (fun y hy=>by rw[Jz.mp hy];exact hss)) hD3⟩ ?_;unfold nq Hd;rw[Jj w,<-e,e2];unfold au;rw[JA];rfl
  ·rw[Ji (by rw[Ky];exact w)];refine ck ?_;walk_at "sw";refine h _ D P xx (x1.aQ hD) mD ⟨z1,z2⟩ ?_;unfold nq;rw[Ji w,e]
theorem fK {te:TE} {tt:TT} {fvs:L2.St} {D:Addr} {aq:Hp->Prop} {k:Hp->Prop} {H0:Hp} {A:NU}:∀ (P:List Pr) (acc:List V),(∀ l,aq (upd H0 D (.lst l)))->
  (∀ x ∈ P,∀acc R,R (!decide (x.2 ∈ A)) (upd H0 D (.lst acc))->tt (some (.ref x.1)::fvs) (upd H0 D (.lst acc)) R)->(∀ x ∈ P,∀acc Q,Q (.ref x.1) (upd H0 D (.lst acc))->te (some (.ref x.1)::fvs) (upd H0 D (.lst acc)) Q)->acc.length + P.length<=1000->
  k (upd H0 D (.lst (acc++refs (P.filter fun x=>!decide (x.2 ∈ A)))))->eA te tt fvs D aq (refs P) acc (upd H0 D (.lst acc)) k
 | [],acc,st,_,_,_,q=>⟨st _,ae,by simpa[refs]using q⟩
 | x::P,acc,st,ht,he,hl,q=>by
  rw[J5]at hl;refine⟨st _,ht x Js acc _ ?_⟩
  by_cases m:x.2 ∈ A
  ·rw[Ji (by simp[m])];refine fK P acc st (fun y hy=>ht y (Jo _ hy)) (fun y hy=>he y (Jo _ hy)) (by omega) ?_;rw[NK (by simp[m])]at q;exact q
  ·rw[Jj (by simp[m])];refine he x Js acc _ ⟨ae,by rw[Jy];omega,?_⟩;rw[dH];refine fK P _ st (fun y hy=>ht y (Jo _ hy)) (fun y hy=>he y (Jo _ hy)) (by rw[Jw];simp;omega) ?_;rw[NL (by simp[m])]at q;rw[JM];exact q
noncomputable def fk (M:Mo):Sp:=fun vs H Q _=>∃p pt P wd c R,vs=[.ref p,.ref pt]/\ay H p P/\(au P).Nodup/\P.length<=20/\nz M H pt wd c R/\(wd=Str.ofString "ring" ->R ≠ [])/\R.length<=20/\(nq wd R).Nodup/\
 ∀H' q T,Ext M H H'->H q=none->M q=none->ay H' q T->cx (au T)->(∀ x,x ∈ au T ↔ eZ (au P) (nq wd R) x)->T.length<=41->Q (.ref q) H'
theorem AI (wd:Str) (R:NW):(nq wd R).length<=R.length + 1:=by
 unfold nq Hd ar;split
 ·rw[Jw,Jk,LY];simp
 ·rw[Jk,LY];omega
theorem jt (P:List Pr) (A:NU):au (P.filter fun x=>!decide (x.2 ∈ A))=(au P).filter fun x=>!decide (x ∈ A):=by
 unfold au;rw[NN];rfl
theorem wA {M:Mo} {Γ:b0} (gm:Γ.mod=M) (gc:Γ.cm=true) (g1:Γ.has "swaps_along" =true/\Γ.fn "swaps_along" =kN M) (vs:List V) (H:Hp) (Q:VK) (X:XK) (h:fk M vs H Q X):eJ Γ nC 2 ni vs H Q X:=by
 obtain⟨p,pt,P,wd,c,R,rfl,hp,nd,bK,pa,rn,rf,an,h⟩:=h;refine⟨rfl,?_⟩;obtain rfl:=gm;unfold ni;refine seq ?_;walk_at "s1";refine⟨⟨gc,g1.1⟩,?_⟩;rw[g1.2];refine⟨pt,wd,c,R,rfl,pa,rn,by omega,fun H1 al A x1 hal mal ha ea=>?_⟩
 have la:A.length<=21:=by
  have q:=congrArg List.length ea;unfold au at q;rw[Jk]at q;have:=AI wd R;omega
 have hp1:=Ext.bL x1 hp;refine seq ?_;dsimp only[Sw.wS,Sw.wE,Sw.wT,Sw.wEs,Sw.wTs,Sw.wI,Sw.wP,Sw.vars,Sw.dz,Sw.dw,Sw.cR,Sw.cQ,Sw.dq,Sw.dm,Sw.dC,Sw.dB,Sw.dt,L2.start,Sw.dY,Sw.dX,Sw.dW,Sw.dU,Nat.reduceAdd,Nat.reduceSub];refine⟨gc,bJ (ao hp1.at_ ai) fun D hD mD=>?_⟩;have same:∀l,Ext Γ.mod H1 (upd H1 D (.lst l)):=fun l=>Ext.upd hD mD;refine fK (H0:=H1) (A:=au A) P [] (fun l=>ao (Ext.bL (same l) hp1).at_ ai) (fun x hx acc R q=>?_) (fun x hx acc Q q=>?_) (by simp;omega) ?_
 ·refine tG (Ext.bL (same acc) ha) ((same acc).same _ _ (hp1.dI x hx)) ⟨_,rfl,?_⟩;exact q
 ·exact q
 rw[Kk];have x2:=same (refs (P.filter fun x=>!decide (x.2 ∈ au A)));have hs:ay (upd H1 D (.lst (refs (P.filter fun x=>!decide (x.2 ∈ au A))))) D (P.filter fun x=>!decide (x.2 ∈ au A)):=⟨ae,aF.new (fun y hy=>hp1.dI y (J2.mp hy).1) hD⟩;generalize upd H1 D (.lst (refs (P.filter fun x=>!decide (x.2 ∈ au A))))=H2 at x2 hs;have hp2:=Ext.bL x2 hp1;have ha2:=Ext.bL x2 ha;refine seq ?_;dsimp only[Sw.wS,Sw.wE,Sw.wT,Sw.wEs,Sw.wTs,Sw.wI,Sw.wP,Sw.vars,Sw.dz,Sw.dw,Sw.cR,Sw.cQ,Sw.dq,Sw.dm,Sw.dC,Sw.dB,Sw.dt,L2.start,Sw.dY,Sw.dX,Sw.dW,Sw.dU,Nat.reduceAdd,Nat.reduceSub];refine⟨gc,bJ (ao ha2.at_ ai) fun B hB mB=>?_⟩;have sameB:∀l,Ext Γ.mod H2 (upd H2 B (.lst l)):=fun l=>Ext.upd hB mB;refine fK (H0:=H2) (A:=au P) A [] (fun l=>ao (Ext.bL (sameB l) ha2).at_ ai) (fun x hx acc R q=>?_) (fun x hx acc Q q=>?_) (by simp;omega) ?_
 ·refine tG (Ext.bL (sameB acc) hp2) ((sameB acc).same _ _ (ha2.dI x hx)) ⟨_,rfl,?_⟩;exact q
 ·exact q
 rw[Kk];have x3:=sameB (refs (A.filter fun x=>!decide (x.2 ∈ au P)));have hc:ay (upd H2 B (.lst (refs (A.filter fun x=>!decide (x.2 ∈ au P))))) B (A.filter fun x=>!decide (x.2 ∈ au P)):=⟨ae,aF.new (fun y hy=>ha2.dI y (J2.mp hy).1) hB⟩;generalize upd H2 B (.lst (refs (A.filter fun x=>!decide (x.2 ∈ au P))))=H3 at x3 hc;have l1:=Ks (fun x:Pr=>!decide (x.2 ∈ au A)) P;have l2:=Ks (fun x:Pr=>!decide (x.2 ∈ au P)) A;walk_at "sw";refine⟨gc,?_⟩;rw[Sw.x_,ao (Ext.bL x3 hs).at_ ai,ao hc.at_ ai];refine⟨by rw[aP,aP,Jy];omega,fun r hr mr=>?_⟩;rw[cC];have x4:Ext Γ.mod H3 (upd H3 r (.lst (refs ((P.filter fun x=>!decide (x.2 ∈ au A))++A.filter fun x=>!decide (x.2 ∈ au P))))):=Ext.upd hr mr;have hr':ay (upd H3 r (.lst (refs ((P.filter fun x=>!decide (x.2 ∈ au A))++A.filter fun x=>!decide (x.2 ∈ au P))))) r ((P.filter fun x=>!decide (x.2 ∈ au A))++A.filter fun x=>!decide (x.2 ∈ au P)):=⟨ae,aF.new (aF.app (Ext.bL x3 hs).dI hc.dI) hr⟩;generalize upd H3 r (.lst (refs ((P.filter fun x=>!decide (x.2 ∈ au A))++A.filter fun x=>!decide (x.2 ∈ au P))))=H4 at x4 hr'
 have et:au ((P.filter fun x=>!decide (x.2 ∈ au A))++A.filter fun x=>!decide (x.2 ∈ au P))=(au P).filter (fun x=>!decide (x ∈ au A))++(au A).filter fun x=>!decide (x ∈ au P):=by
  rw[<-jt,<-jt];unfold au;rw[JA]
 have nt:(au ((P.filter fun x=>!decide (x.2 ∈ au A))++A.filter fun x=>!decide (x.2 ∈ au P))).Nodup:=by
  rw[et];refine JI.mpr ⟨nd.filter _,(ea ▸ an:(au A).Nodup).filter _,fun x hx y hy e=>?_⟩;subst e;have q:=(J2.mp hy).2;simp at q;exact q (J2.mp hx).1
 refine iK hr' nt (by rw[Jw];omega) fun T q pm sD hq mq=>?_;have x14:=((x1.trans x2).trans x3).trans x4;refine h _ q T (x14.trans (Ext.upd hq mq)) (x14.aQ hq) mq ⟨ae,aF.new (fun y hy=>hr'.dI y (pm.mem_iff.mp hy)) hq⟩ sD (fun x=>?_) (by rw[pm.length_eq,Jw];omega);have pm':(au T).Perm (au ((P.filter fun x=>!decide (x.2 ∈ au A))++A.filter fun x=>!decide (x.2 ∈ au P))):=pm.map _;rw[pm'.mem_iff,et,JB,J2,J2,ea];unfold eZ;simp
theorem yw (l:NU) (x:Str):bQ (sK l) (.inr x)=(l.lookup x).map V.str:=gX (fun s=>V.str s) l x
theorem xt {M:Mo} {H:Hp} {p:Addr} {ns:NW} (h:rd M H p=some (.lst (ns.map V.str))) (n:Nat):data M H (n + 1) (.ref p)=some (.list (ns.map PyData.str)):=by
 unfold Sw.data;rw[h];dsimp only;rw[allM_map (k:=PyData.str) fun x _=>jw n x];rfl
end Gk
namespace Wk
variable {α:Type} [DecidableEq α]
structure qA (f:α->Option α):Prop where
 sym:∀x y,f x=some y->f y=some x
 nT:∀x,f x ≠ some x
noncomputable def T (f g:α->Option α) (k:Nat):α->Option α:=if k % 2=0 then f else g
theorem dG {f g:α->Option α} (F:qA f) (G:qA g) (k:Nat):qA (T f g k):=by
 unfold T;split<;>assumption
theorem ki {f g:α->Option α} {i j:Nat} (h:i % 2=j % 2):T f g i=T f g j:=by unfold T;rw[h]
structure Row (f g:α->Option α) (c:List α):Prop where
 nd:c.Nodup
 go:∀ (k:Nat) (x y:α),c[k]?=some x->c[k + 1]?=some y->T f g k x=some y
theorem inj {c:List α} (h:c.Nodup) {i j:Nat} {x:α} (hi:c[i]?=some x) (hj:c[j]?=some x):i=j:=by
 obtain⟨h1,_⟩:=Jv.mp hi;exact(List.getElem?_inj h1 h).mp (hi.trans hj.symm)
theorem B3 {f g:α->Option α} (s:α):Row f g [s]:=⟨by simp,fun k x y h1 h2=>by cases k<;>simp at h2⟩
theorem Row.next {f g:α->Option α} {c:List α} {l y s:α} (F:qA f) (G:qA g) (R:Row f g c) {n:Nat} (hn:c.length=n + 1) (hl:c[n]?=some l) (h0:c[0]?=some s) (hy:T f g n l=some y) (ne:y ≠ s):y ∉ c:=by
 intro hm;obtain⟨i,hi,e⟩:=JZ.mp hm;have ei:c[i]?=some y:=by rw[Jl hi,e]
 have back:=(dG F G n).sym _ _ hy;cases i with
 | zero=>rw[h0]at ei;exact ne (JL ei).symm
 | succ i=>
  obtain⟨x,ex⟩:∃x,c[i]?=some x:=⟨_,Jl (by omega)⟩;have l1:=R.go i x y ex ei
  by_cases p:n % 2=i % 2
  ·rw[ki p,(dG F G i).sym _ _ l1]at back;cases back
   have:=inj R.nd ex hl;omega
  ·by_cases q:i + 1=n
   ·subst q;rw[ei]at hl;cases hl
    exact(dG F G _).nT _ hy
   ·obtain⟨z,ez⟩:∃z,c[i + 1 + 1]?=some z:=⟨_,Jl (by omega)⟩;have l2:=R.go (i + 1) y z ei ez;rw[ki (j:=i + 1) (by omega),l2]at back;cases back
    have:=inj R.nd ez hl;omega
theorem Row.snoc {f g:α->Option α} {c:List α} {l y:α} (R:Row f g c) {n:Nat} (hn:c.length=n + 1) (hl:c[n]?=some l) (hy:T f g n l=some y) (hc:y ∉ c):Row f g (c++[y]):=by
 refine⟨JI.mpr ⟨R.nd,by simp,fun a ha b hb=>?_⟩,fun k x z h1 h2=>?_⟩
 ·rw[Jz.mp hb];exact fun e=>hc (e ▸ ha)
 ·by_cases q:k + 1 < c.length
  ·rw[JP (by omega)]at h1 h2;exact R.go k x z h1 h2
  ·have hk:k + 1 < (c++[y]).length:=(Jv.mp h2).1;rw[Jw]at hk;have e:k=n:=by simp at hk;omega
   subst e;rw[JP (by omega),hl]at h1;cases h1
   rw[J1 (by omega),hn]at h2;simp at h2;rw[<-h2];exact hy
structure Done (f g:α->Option α) (s:α) (c:List α):Prop extends Row f g c where
 ne:c ≠ []
 st:c[0]?=some s
 en:∀n l,c.length=n + 1->c[n]?=some l->T f g n l=none\/T f g n l=some s
theorem Done.len {f g:α->Option α} {s:α} {c:List α} (d:Done f g s c):∃n l,c.length=n + 1/\c[n]?=some l:=by
 cases h:c.length with
 | zero=>exact absurd (NJ.mp h) d.ne
 | succ n=>exact⟨n,_,rfl,Jl (by omega)⟩
theorem Done.row {f g:α->Option α} {s:α} {c:List α} (F:qA f) (G:qA g) (d:Done f g s c) (h:g s=none) {n:Nat} {l:α} (hn:c.length=n + 1) (hl:c[n]?=some l):T f g n l=none:=by
 rcases d.en n l hn hl with e | e
 ·exact e
 ·exfalso;have back:=(dG F G n).sym _ _ e
  by_cases p:n % 2=0
  ·rw[ki (j:=0) p]at back;cases n with
   | zero=>
    rw[d.st]at hl;cases hl;exact(dG F G 0).nT _ e
   | succ n=>
    obtain⟨y,ey⟩:∃y,c[0 + 1]?=some y:=⟨_,Jl (by omega)⟩;have:=d.go 0 s y d.st ey;rw[back]at this;cases this
    have:=inj d.nd ey hl;omega
  ·rw[ki (j:=1) (by omega)]at back;unfold T at back;rw[Ji (by decide),h]at back;cases back
theorem Done.ring {f g:α->Option α} {s:α} {c:List α} (F:qA f) (G:qA g) (fg:∀x y,f x=some y->g x ≠ some y) (d:Done f g s c) {n:Nat} {l:α} (hn:c.length=n + 1) (hl:c[n]?=some l) (e:T f g n l=some s):n % 2=1/\3<=n/\g l=some s:=by
 have back:=(dG F G n).sym _ _ e
 have odd:n % 2=1:=by
  by_cases p:n % 2=0
  ·exfalso;rw[ki (j:=0) p]at back;cases n with
   | zero=>
    rw[d.st]at hl;cases hl;exact(dG F G 0).nT _ e
   | succ n=>
    obtain⟨y,ey⟩:∃y,c[0 + 1]?=some y:=⟨_,Jl (by omega)⟩;have:=d.go 0 s y d.st ey;rw[back]at this;cases this
    have:=inj d.nd ey hl;omega
  ·omega
 rw[ki (j:=1) odd]at e back;unfold T at e back;rw[Ji (by decide)]at e back;refine⟨odd,?_,e⟩
 by_cases q:n=1
 ·subst q;have:=d.go 0 s l d.st hl;unfold T at this;rw[Jj rfl]at this;exact absurd back (fg _ _ this)
 ·omega
theorem Done.closed {f g:α->Option α} {s:α} {c:List α} (F:qA f) (G:qA g) (d:Done f g s c) (hs:g s=none\/∃n l,c.length=n + 1/\c[n]?=some l/\g l=some s/\n % 2=1) {x y:α} (hx:x ∈ c) (h:f x=some y\/g x=some y):y ∈ c:=by
 obtain⟨i,hi,e⟩:=JZ.mp hx;have ei:c[i]?=some x:=by rw[Jl hi,e]
 obtain⟨n,l,hn,hl⟩:=d.len
 -- one of the two links of the i-th
 have fwd:∀y,T f g i x=some y->y ∈ c:=fun y hy=>by
  by_cases q:i=n
  ·subst q;rcases d.en i x hn ei with z | z
   ·rw[z]at hy;cases hy
   ·rw[z]at hy;cases hy;exact Jp d.st
  ·obtain⟨z,ez⟩:∃z,c[i + 1]?=some z:=⟨_,Jl (by omega)⟩;have:=d.go i x z ei ez;rw[this]at hy;cases hy;exact Jp ez
 have bwd:∀y,T f g (i + 1) x=some y->y ∈ c:=fun y hy=>by
  cases i with
  | zero=>
   rw[d.st]at ei;cases ei;unfold T at hy;rw[Ji (by decide)]at hy;rcases hs with z | ⟨n',l',h1,h2,z,_⟩
   ·rw[z]at hy;cases hy
   ·have:=G.sym _ _ z;rw[this]at hy;cases hy;exact Jp h2
  | succ i=>
   obtain⟨z,ez⟩:∃z,c[i]?=some z:=⟨_,Jl (by omega)⟩;have:=(dG F G i).sym _ _ (d.go i z x ez ei);rw[ki (j:=i) (by omega),this]at hy;cases hy
   exact Jp ez
 by_cases p:i % 2=0
 ·rcases h with h | h
  ·exact fwd y (by unfold T;rw[Jj p];exact h)
  ·exact bwd y (by unfold T;rw[Ji (by omega)];exact h)
 ·rcases h with h | h
  ·exact bwd y (by unfold T;rw[Jj (by omega)];exact h)
  ·exact fwd y (by unfold T;rw[Ji p];exact h)
variable {α:Type} [DecidableEq α]
structure qt (f g:α->Option α):Prop where
 F:qA f
 G:qA g
 fg:∀x y,f x=some y->g x ≠ some y
theorem qt.swap {f g:α->Option α} (t:qt f g):qt g f:=⟨t.G,t.F,fun x y h z=>t.fg x y z h⟩
structure cL (f g:α->Option α) (p:Bool × List α):Prop where
 row:∃s,(Done f g s p.2/\f s ≠ none)\/(p.1=false/\Done g f s p.2/\f s=none/\g s ≠ none)
 wa:p.1=true->∃s n l,Done f g s p.2/\p.2.length=n + 1/\p.2[n]?=some l/\n % 2=1/\3<=n/\g l=some s
 Bp:p.1=false->∃s,p.2[0]?=some s/\((Done f g s p.2/\f s ≠ none/\g s=none)\/(Done g f s p.2/\f s=none/\g s ≠ none))
structure gS (f g:α->Option α) (P:List (Bool × List α)):Prop where
 ok:∀p ∈ P,cL f g p
 nd:((P.map (·.2)).flatten).Nodup
 cl:∀x ∈ (P.map (·.2)).flatten,∀y,f x=some y\/g x=some y->y ∈ (P.map (·.2)).flatten
theorem vW {f g:α->Option α}:gS f g []:=⟨fun p h=>(nomatch h),by simp,fun x h=>(nomatch h)⟩
theorem Done.off {f g:α->Option α} {s:α} {c:List α} {U:List α} (t:qt f g) (d:Done f g s c) (cl:∀x ∈ U,∀y,f x=some y\/g x=some y->y ∈ U) (hs:s ∉ U):∀x ∈ c,x ∉ U:=by
 intro x hx hu;obtain⟨i,hi,e⟩:=JZ.mp hx;have ei:c[i]?=some x:=by rw[Jl hi,e]
 clear hx hi e
 induction i generalizing x with
 | zero=>rw[d.st]at ei;cases ei;exact hs hu
 | succ i ih=>
  obtain⟨z,ez⟩:∃z,c[i]?=some z:=⟨_,Jl (by have:=(Jv.mp ei).1;omega)⟩;have l:=(dG t.F t.G i).sym _ _ (d.go i z x ez ei);refine ih z (cl x hu z ?_) ez;unfold T at l;split at l
  ·exact .inl l
  ·exact .inr l
theorem fE (P:List (Bool × List α)) (p:Bool × List α):((P++[p]).map (·.2)).flatten=(P.map (·.2)).flatten++p.2:=by simp
theorem gS.row {f g:α->Option α} {P:List (Bool × List α)} {s:α} {c:List α} (t:qt f g) (S:gS f g P) (hs:s ∉ (P.map (·.2)).flatten) (h:(Done f g s c/\f s ≠ none/\g s=none)\/(Done g f s c/\f s=none/\g s ≠ none)):gS f g (P++[(false,c)]):=by
 have st:c[0]?=some s:=h.elim (fun h=>h.1.st) (fun h=>h.1.st);have nd:c.Nodup:=h.elim (fun h=>h.1.nd) (fun h=>h.1.nd)
 have cl:∀x ∈ c,∀y,f x=some y\/g x=some y->y ∈ c:=by
  rcases h with h | h
  ·exact fun x hx y hy=>h.1.closed t.F t.G (.inl h.2.2) hx hy
  ·exact fun x hx y hy=>h.1.closed t.G t.F (.inl h.2.1) hx hy.symm
 have off:∀x ∈ c,x ∉ (P.map (·.2)).flatten:=by
  rcases h with h | h
  ·exact h.1.off t S.cl hs
  ·exact h.1.off t.swap (fun x hx y hy=>S.cl x hx y hy.symm) hs
 refine⟨fun p hp=>?_,?_,?_⟩
 ·rcases JB.mp hp with hp | hp
  ·exact S.ok p hp
  ·rw[Jz.mp hp];refine⟨⟨s,?_⟩,fun z=>(nomatch z),fun _=>⟨s,st,h⟩⟩;rcases h with h | h
   ·exact .inl ⟨h.1,h.2.1⟩
   ·exact .inr ⟨rfl,h.1,h.2⟩
 ·rw[fE];exact JI.mpr ⟨S.nd,nd,fun a ha b hb e=>off b hb (e ▸ ha)⟩
 ·rw[fE];intro x hx y hy;rcases JB.mp hx with hx | hx
  ·exact Ka _ (S.cl x hx y hy)
  ·exact JQ _ (cl x hx y hy)
theorem gS.ring {f g:α->Option α} {P:List (Bool × List α)} {s:α} {c:List α} (t:qt f g) (S:gS f g P) (hs:s ∉ (P.map (·.2)).flatten) (he:∀x,((f x=none/\g x ≠ none)\/(f x ≠ none/\g x=none))->x ∈ (P.map (·.2)).flatten) (d:Done f g s c) (h:f s ≠ none):gS f g (P++[(true,c)]):=by
 have off:=d.off t S.cl hs;obtain⟨n,l,hn,hl⟩:=d.len
 -- the last is no end
 have lm:l ∈ c:=Jp hl
 have Cq:∀x ∈ c,(f x ≠ none\/g x ≠ none):=by
  intro x hx;obtain⟨i,hi,e⟩:=JZ.mp hx;have ei:c[i]?=some x:=by rw[Jl hi,e]
  cases i with
  | zero=>rw[d.st]at ei;cases ei;exact .inl h
  | succ i=>
   obtain⟨z,ez⟩:∃z,c[i]?=some z:=⟨_,Jl (by omega)⟩;have l:=(dG t.F t.G i).sym _ _ (d.go i z x ez ei);unfold T at l;split at l
   ·exact .inl (by rw[l];exact fun z=>nomatch z)
   ·exact .inr (by rw[l];exact fun z=>nomatch z)
 have both:f l ≠ none/\g l ≠ none:=by
  by_cases a:f l=none
  ·have b:=(Cq l lm).resolve_left (fun z=>z a);exact absurd (he l (.inl ⟨a,b⟩)) (off l lm)
  ·by_cases b:g l=none
   ·exact absurd (he l (.inr ⟨a,b⟩)) (off l lm)
   ·exact⟨a,b⟩
 have e:T f g n l=some s:=by
  rcases d.en n l hn hl with z | z
  ·unfold T at z;split at z
   ·exact absurd z both.1
   ·exact absurd z both.2
  ·exact z
 obtain⟨odd,n3,gl⟩:=d.ring t.F t.G t.fg hn hl e;refine⟨fun p hp=>?_,?_,?_⟩
 ·rcases JB.mp hp with hp | hp
  ·exact S.ok p hp
  ·rw[Jz.mp hp];exact⟨⟨s,.inl ⟨d,h⟩⟩,fun _=>⟨s,n,l,d,hn,hl,odd,n3,gl⟩,fun z=>(nomatch z)⟩
 ·rw[fE];exact JI.mpr ⟨S.nd,d.nd,fun a ha b hb e=>off b hb (e ▸ ha)⟩
 ·rw[fE];intro x hx y hy;rcases JB.mp hx with hx | hx
  ·exact Ka _ (S.cl x hx y hy)
  ·exact JQ _ (d.closed t.F t.G (.inr ⟨n,l,hn,hl,gl,odd⟩) hx hy)
variable {α:Type} [DecidableEq α]
noncomputable def lk (p:Bool × List α):List (α × α):=p.2.zip p.2.tail++(match p.1,p.2.getLast?,p.2.head? with | true,some l,some s=>[(l,s)] | _,_,_=>[])
theorem jK (c:List α) (k:Nat) (x y:α):(c.zip c.tail)[k]?=some (x,y) ↔ c[k]?=some x/\c[k + 1]?=some y:=by
 rw[Nv,List.getElem?_tail]
theorem ur (c:List α):(c.zip c.tail).length=c.length - 1:=by
 rw[LY,List.length_tail];omega
theorem lk_row (c:List α):lk (false,c)=c.zip c.tail:=by unfold lk;simp
theorem jq {c:List α} {s l:α} {n:Nat} (hs:c[0]?=some s) (hn:c.length=n + 1) (hl:c[n]?=some l):lk (true,c)=c.zip c.tail++[(l,s)]:=by
 unfold lk;have e1:c.getLast?=some l:=by rw[Mt,hn];exact hl
 have e2:c.head?=some s:=by rw[List.head?_eq_getElem?];exact hs
 simp only[e1,e2]
theorem Done.links {f g:α->Option α} {s:α} {c:List α} (d:Done f g s c) {k:Nat} {x y:α} (h:(c.zip c.tail)[k]?=some (x,y)):T f g k x=some y:=by
 obtain⟨h1,h2⟩:=(jK c k x y).mp h;exact d.go k x y h1 h2
noncomputable def Jf (f g:α->Option α) (p:Bool × List α) (f' g':α->Option α):Prop:=(∀ (k:Nat) (x y:α),(lk p)[k]?=some (x,y)->T f' g' k x=some y)/\((f'=f/\g'=g)\/(p.1=false/\f'=g/\g'=f))
theorem cL.fst {f g:α->Option α} {p:Bool × List α} (h:cL f g p):∃f' g',Jf f g p f' g':=by
 obtain⟨b,c⟩:=p;cases b with
 | false=>
  obtain⟨s,st,h | h⟩:=h.Bp rfl
  ·exact⟨f,g,fun k x y e=>h.1.links (by rw[lk_row]at e;exact e),.inl ⟨rfl,rfl⟩⟩
  ·exact⟨g,f,fun k x y e=>h.1.links (by rw[lk_row]at e;exact e),.inr ⟨rfl,rfl,rfl⟩⟩
 | true=>
  obtain⟨s,n,l,d,hn,hl,odd,n3,gl⟩:=h.wa rfl;have hn:c.length=n + 1:=hn;have hl:c[n]?=some l:=hl;have d:Done f g s c:=d;refine⟨f,g,fun k x y e=>?_,.inl ⟨rfl,rfl⟩⟩;rw[jq d.st hn hl]at e;have zl:=ur c
  by_cases q:k < (c.zip c.tail).length
  ·rw[JP q]at e;exact d.links e
  ·have hk:=(Jv.mp e).1;rw[Jw,zl]at hk;have:k=n:=by simp at hk;omega
   subst this;rw[J1 (by omega),zl,hn]at e;simp at e;obtain⟨rfl,rfl⟩:=e;unfold T;rw[Ji (by omega)];exact gl
theorem tP {p:Bool × List α} {x y:α} (h:(x,y) ∈ lk p):x ∈ p.2/\y ∈ p.2:=by
 obtain⟨b,c⟩:=p;unfold lk at h;rcases JB.mp h with h | h
 ·obtain⟨h1,h2⟩:=Lz h;exact⟨h1,List.mem_of_mem_tail h2⟩
 ·split at h
  ·rename_i l s _ e1 e2;have:=Jz.mp h;cases this
   exact⟨List.mem_of_getLast? e1,List.mem_of_head? e2⟩
  ·cases h
theorem cL.all {f g:α->Option α} {p:Bool × List α} (t:qt f g) (h:cL f g p) {x y:α} (hx:x ∈ p.2) (e:f x=some y\/g x=some y):(x,y) ∈ lk p\/(y,x) ∈ lk p:=by
 have key:∀ {f g:α->Option α} {s:α} {c:List α} (b:Bool),qt f g->Done f g s c->(b=false->g s=none)->(b=true->∃n l,c.length=n + 1/\c[n]?=some l/\g l=some s/\n % 2=1)->∀ {x y:α},x ∈ c->(f x=some y\/g x=some y)->(x,y) ∈ lk (b,c)\/(y,x) ∈ lk (b,c):=by
  intro f g s c b t d h0 h1 x y hx e;obtain⟨i,hi,ex⟩:=JZ.mp hx;have ei:c[i]?=some x:=by rw[Jl hi,ex]
  obtain⟨n,l,hn,hl⟩:=d.len;have sub:∀z,z ∈ c.zip c.tail->z ∈ lk (b,c):=fun z hz=>by unfold lk;exact Ka _ hz
  have fwd:T f g i x=some y->(x,y) ∈ lk (b,c):=fun hy=>by
   by_cases q:i=n
   ·subst q;cases b with
    | false=>
     have:=d.row t.F t.G (h0 rfl) hn ei;rw[this]at hy;cases hy
    | true=>
     obtain⟨n',l',a1,a2,a3,a4⟩:=h1 rfl;have:n'=i:=by omega
     subst this;rw[ei]at a2;cases a2;unfold T at hy;rw[Ji (by omega),a3]at hy;cases hy;rw[jq d.st hn ei];simp
   ·obtain⟨z,ez⟩:∃z,c[i + 1]?=some z:=⟨_,Jl (by omega)⟩;have:=d.go i x z ei ez;rw[this]at hy;cases hy;exact sub _ (Jp ((jK c i x y).mpr ⟨ei,ez⟩))
  have bwd:T f g (i + 1) x=some y->(y,x) ∈ lk (b,c):=fun hy=>by
   cases i with
   | zero=>
    rw[d.st]at ei;cases ei;unfold T at hy;rw[Ji (by decide)]at hy;cases b with
    | false=>rw[h0 rfl]at hy;cases hy
    | true=>
     obtain⟨n',l',a1,a2,a3,a4⟩:=h1 rfl;have:=t.G.sym _ _ a3;rw[this]at hy;cases hy;rw[jq d.st a1 a2];simp
   | succ i=>
    obtain⟨z,ez⟩:∃z,c[i]?=some z:=⟨_,Jl (by omega)⟩;have:=(dG t.F t.G i).sym _ _ (d.go i z x ez ei);rw[ki (j:=i) (by omega),this]at hy;cases hy
    exact sub _ (Jp ((jK c i y x).mpr ⟨ez,ei⟩))
  by_cases p:i % 2=0
  ·rcases e with e | e
   ·exact .inl (fwd (by unfold T;rw[Jj p];exact e))
   ·exact .inr (bwd (by unfold T;rw[Ji (by omega)];exact e))
  ·rcases e with e | e
   ·exact .inr (bwd (by unfold T;rw[Jj (by omega)];exact e))
   ·exact .inl (fwd (by unfold T;rw[Ji p];exact e))
 obtain⟨b,c⟩:=p;cases b with
 | false=>
  obtain⟨s,st,h | h⟩:=h.Bp rfl
  ·exact key false t h.1 (fun _=>h.2.2) (fun z=>nomatch z) hx e
  ·exact key false t.swap h.1 (fun _=>h.2.1) (fun z=>nomatch z) hx e.symm
 | true=>
  obtain⟨s,n,l,d,hn,hl,odd,n3,gl⟩:=h.wa rfl;exact key true t d (fun z=>nomatch z) (fun _=>⟨n,l,hn,hl,gl,odd⟩) hx e
noncomputable def IB (a b:α × α):Prop:=a ≠ b/\a ≠ (b.2,b.1)
theorem cL.He {f g:α->Option α} {p:Bool × List α} (h:cL f g p):(lk p).Pairwise IB:=by
 have rowp:∀ {c:List α},c.Nodup->(c.zip c.tail).Pairwise IB:=fun{c} nd=>by
  rw[Kp];intro i j hi hj hij;obtain⟨a1,a2⟩:=(jK c i _ _).mp (show(c.zip c.tail)[i]?=some ((c.zip c.tail)[i].1,(c.zip c.tail)[i].2)from Jl hi);obtain⟨b1,b2⟩:=(jK c j _ _).mp (show(c.zip c.tail)[j]?=some ((c.zip c.tail)[j].1,(c.zip c.tail)[j].2)from Jl hj);constructor
  ·intro e;rw[e]at a1;have:=inj nd a1 b1;omega
  ·intro e;have e1:(c.zip c.tail)[i].1=(c.zip c.tail)[j].2:=by rw[e]
   rw[e1]at a1;have:=inj nd a1 b2;omega
 obtain⟨b,c⟩:=p;cases b with
 | false=>
  obtain⟨s,st,h | h⟩:=h.Bp rfl
  ·rw[lk_row];exact rowp h.1.nd
  ·rw[lk_row];exact rowp h.1.nd
 | true=>
  obtain⟨s,n,l,d,hn,hl,odd,n3,gl⟩:=h.wa rfl;have hn:c.length=n + 1:=hn;have hl:c[n]?=some l:=hl;have d:Done f g s c:=d;rw[jq d.st hn hl];refine Mi.mpr ⟨rowp d.nd,by simp,fun a ha b hb=>?_⟩;rw[Jz.mp hb];obtain⟨i,hi,e⟩:=JZ.mp ha;have ea:(c.zip c.tail)[i]?=some (a.1,a.2):=by rw[Jl hi,e]
  obtain⟨a1,a2⟩:=(jK c i _ _).mp ea;have zl:=ur c;constructor
  ·intro z;rw[z]at a1;have:=inj d.nd a1 hl;rw[zl]at hi;omega
  ·intro z;rw[z]at a1 a2;have h1:=inj d.nd a1 d.st;have h2:=inj d.nd a2 hl;omega
theorem gS.He {f g:α->Option α}:∀ {P:List (Bool × List α)},(∀ p ∈ P,cL f g p)->((P.map (·.2)).flatten).Nodup->((P.map lk).flatten).Pairwise IB
 | [],_,_=>by simp
 | p::r,h,nd=>by
  rw[JF,List.flatten_cons]at nd ⊢;obtain⟨n1,n2,n3⟩:=JI.mp nd;refine Mi.mpr ⟨(h p (by simp)).He,gS.He (fun q hq=>h q (Jo _ hq)) n2,fun a ha b hb=>?_⟩;obtain⟨l,hl,hb⟩:=Kb.mp hb;obtain⟨q,hq,rfl⟩:=Jn.mp hl;obtain⟨x,y⟩:=a;obtain⟨u,v⟩:=b;have m1:=tP ha;have m2:=tP hb;have inq:∀z,z ∈ q.2->z ∈ (r.map (·.2)).flatten:=fun z hz=>Kb.mpr ⟨q.2,Jn.mpr ⟨q,hq,rfl⟩,hz⟩;exact⟨fun e=>by cases e;exact n3 _ m1.1 _ (inq _ m2.1) rfl,fun e=>by cases e;exact n3 _ m1.1 _ (inq _ m2.2) rfl⟩
theorem j_:∀ {l₁ l₂:List α},l₁.Nodup->l₂.Nodup->(∀ x,x ∈ l₁ ↔ x ∈ l₂)->l₁.Perm l₂
 | [],l₂,_,_,h=>by
  cases l₂ with
  | nil=>exact .refl _
  | cons a r=>exact absurd ((h a).mpr (by simp)) (by simp)
 | a::r,l₂,n1,n2,h=>by
  have ha:a ∈ l₂:=(h a).mp (by simp);refine(List.Perm.cons a (j_ (l₂:=l₂.erase a) (JN.mp n1).2 (n2.erase a) fun x=>?_)).trans (List.perm_cons_erase ha).symm;rw[List.Nodup.mem_erase_iff n2];constructor
  ·intro hx;exact⟨fun e=>(JN.mp n1).1 (e ▸ hx),(h x).mp (Jo _ hx)⟩
  ·intro ⟨ne,hx⟩;exact(Jx.mp ((h x).mpr hx)).resolve_left ne
end Wk
namespace Ik
open PySem PySem.Spec PyProof.Rows L2 Sw Gw Gk Wk
abbrev e8:NW:=["plan","against"]
noncomputable def eW:fh:=(.cons (.ret (.call "mates_of" (.cons (.comp "swap" [("against",1)] (.ex (.var 0)) (.var 0) (.cons (.cmpI .NotIn (.var 0) (.var 1)) .nil)) .nil)))
 .nil)
abbrev uo:NW:=["start","first","then","couples","couple","mates"]
noncomputable def ua:fh:=(.cons (.asg 3 (.lst (.cons (.var 0) .nil)))
 (.cons (.asg 4 (.mth .get (.var 1) (.cons (.var 0) .nil)))
 (.cons (.whl (.and (.cmp .IsNot (.var 4) (.con .aQ)) (.cmp .NotEq (.var 4) (.var 0))) (.cons (.exp (.mth .append (.var 3) (.cons (.var 4) .nil)))
 (.cons (.asg 5 (.ite (.cmp .Eq (.bin .Mod (.blt .len (.cons (.var 3) .nil)) (.con (.int 2))) (.con (.int 1))) (.var 1) (.var 2)))
 (.cons (.asg 4 (.mth .get (.var 5) (.cons (.var 4) .nil)))
 .nil))))
 (.cons (.ret (.var 3))
 .nil))))
noncomputable def alone (A B:NU):NU:=A.filter fun x=>!decide (x ∈ B)
theorem jX (a:Str × Str) (L:NU):ends (a::L)=[a.1,a.2]++ends L:=rfl
theorem gM {L' L:NU} (h:L'.Sublist L):(ends L').Sublist (ends L):=by
 induction h with
 | slnil=>exact .refl _
 | cons a h ih=>rw[jX];exact ih.trans (Nx _ _)
 | cons_cons a h ih=>rw[jX,jX];exact List.Sublist.append (.refl _) ih
noncomputable def kO (M:Mo):Sp:=fun vs H Q _=>∃p q P R,vs=[.ref p,.ref q]/\ay H p P/\ay H q R/\(ends (au P)).Nodup/\P.length<=20/\
 ∀H' l,Ext M H H'->H l=none->M l=none->H' l=some (.dK (sK (mt (alone (au P) (au R)))))->Q (.ref l) H'
theorem zm {M:Mo} {Γ:b0} (gm:Γ.mod=M) (gc:Γ.cm=true) (g1:Γ.has "mates_of" =true/\Γ.fn "mates_of" =kK M) (vs:List V) (H:Hp) (Q:VK) (X:XK) (h:kO M vs H Q X):eJ Γ e8 2 eW vs H Q X:=by
 obtain⟨p,q,P,R,rfl,hp,hq,nd,bK,h⟩:=h;refine⟨rfl,?_⟩;obtain rfl:=gm;unfold eW;dsimp only[Sw.wSs,Sw.wS,Sw.wE,Sw.wT,Sw.wEs,Sw.wTs,Sw.wI,Sw.wP,Sw.vars,Sw.dz,Sw.dw,Sw.cR,Sw.cQ,Sw.dq,Sw.dm,Sw.dC,Sw.dB,Sw.dt,L2.start,Sw.dY,Sw.dX,Sw.dW,Sw.dU,Nat.reduceAdd,Nat.reduceSub];refine⟨⟨gc,g1.1⟩,gc,bJ (ao hp.at_ ai) fun D hD mD=>?_⟩;have same:∀l,Ext Γ.mod H (upd H D (.lst l)):=fun l=>Ext.upd hD mD;refine fK (H0:=H) (A:=au R) P [] (fun l=>ao (Ext.bL (same l) hp).at_ ai) (fun x hx acc R' q'=>?_) (fun x hx acc Q q=>?_) (by simp;omega) ?_
 ·exact tG (Ext.bL (same acc) hq) ((same acc).same _ _ (hp.dI x hx)) ⟨_,rfl,q'⟩
 ·exact q
 rw[Kk,g1.2];refine⟨D,P.filter fun x=>!decide (x.2 ∈ au R),rfl,⟨ae,aF.new (fun y hy=>hp.dI y (J2.mp hy).1) hD⟩,?_,JS (Ks _ _) bK,fun l hl ml=>?_⟩
 ·rw[jt];exact nd.sublist (gM Lq)
 ·refine h _ l ((same _).trans (Ext.upd hl ml)) ((same _).aQ hl) ml ?_;rw[ae,jt];rfl
noncomputable def BZ:Option Str->V
 | none=>.aQ
 | some x=>.str x
noncomputable def aC (l:NU) (x:Str):Option Str:=l.lookup x
theorem Ab {M:Mo} {H:Hp} {p:Addr} {l:NU} {x:Str} {Q:VK} (h:H p=some (.dK (sK l))) (q:Q (BZ (aC l x)) H):fq M .get (.ref p) [.str x] H Q:=by
 show(match H p with | some (.dK kvs)=>(match keyOf (.str x)with | some k=>Q ((bQ kvs k).getD .aQ) H | none=>False) | _=>False);rw[h];show Q ((bQ (sK l) (.inr x)).getD .aQ) H;rw[yw];unfold aC at q;cases e:l.lookup x with
 | none=>rw[e]at q;exact q
 | some y=>rw[e]at q;exact q
theorem HK {H:Hp} {p:Addr} {kvs:List (Key × V)} (h:H p=some (.dK kvs)):p7 (.ref p) H=true:=by
 unfold p7;simp only[h]
noncomputable def pH (M:Mo):Sp:=fun vs H Q _=>∃s a b la lb,∃U:NW,vs=[.str s,.ref a,.ref b]/\H a=some (.dK (sK la))/\H b=some (.dK (sK lb))/\qA (aC la)/\qA (aC lb)/\U.length<=40/\s ∈ U/\(∀ x y,aC la x=some y\/aC lb x=some y->y ∈ U)/\
 ∀l c,H l=none->M l=none->Done (aC la) (aC lb) s c->(∀ x ∈ c,x ∈ U)->Q (.ref l) (upd H l (.lst (c.map V.str)))
theorem B4 {M:Mo} {Γ:b0} (gm:Γ.mod=M) (gc:Γ.cm=true) (vs:List V) (H:Hp) (Q:VK) (X:XK) (h:pH M vs H Q X):eJ Γ uo 3 ua vs H Q X:=by
 obtain⟨s,a,b,la,lb,U,rfl,ha,hb,F,G,hU,sU,cU,h⟩:=h;refine⟨rfl,?_⟩;obtain rfl:=gm;unfold ua;refine seq ?_;walk_at "s1";refine⟨by rw[Jy];simp,fun l hl ml=>?_⟩;have na:a ≠ l:=aj ha hl;have nb:b ≠ l:=aj hb hl;have ha':∀c:NW,upd H l (.lst (c.map V.str)) a=some (.dK (sK la)):=fun c=>by rw[af na];exact ha
 have hb':∀c:NW,upd H l (.lst (c.map V.str)) b=some (.dK (sK lb)):=fun c=>by rw[af nb];exact hb
 refine seq ?_;walk_at "s1";refine⟨HK (ha' [s]),Ab (ha' [s]) ?_⟩;refine seq ?_;walk_at "s1";refine⟨fun m σ H'=>∃ (c:NW) (n:Nat) (z:Str) (v5:Option V),σ=[some (.str s),some (.ref a),some (.ref b),some (.ref l),some (BZ (T (aC la) (aC lb) n z)),v5]/\H'=upd H l (.lst (c.map V.str))/\Row (aC la) (aC lb) c/\c[0]?=some s/\c.length=n + 1/\c[n]?=some z/\(∀ x ∈ c,x ∈ U)/\m + c.length=41,⟨40,[s],0,s,none,rfl,rfl,B3 s,rfl,rfl,rfl,fun x hx=>by rw[Jz.mp hx];exact sU,rfl⟩,?_⟩
 rintro m σ H' ⟨c,n,z,v5,rfl,rfl,R,st,hn,hz,sub,hm⟩
 have bK:c.length<=40:=JS (R.nd.length_le_of_subset sub) hU
 have fin:(T (aC la) (aC lb) n z=none\/T (aC la) (aC lb) n z=some s)->wSs (.cons (.ret (.var 3)) .nil) Γ (fun C d _ H'=>X C d H') {nx:=fun _ H'=>Q .aQ H',rt:=Q} [some (.str s),some (.ref a),some (.ref b),some (.ref l),some (BZ (T (aC la) (aC lb) n z)),v5] (upd H l (.lst (c.map V.str))):=fun e=>by
  walk_at "sw";refine h l c hl ml ⟨R,(fun z=>by rw[z]at hn;exact absurd hn (by simp)),st,fun n' l' e1 e2=>?_⟩ sub;have:n'=n:=by omega
  subst this;rw[hz]at e2;cases e2
  exact e
 walk_at "s1";cases e:T (aC la) (aC lb) n z with
 | none=>
  have fin:=fin (.inl e);rw[e]at fin;show cT Γ.mod .IsNot .aQ .aQ _ _;rw[Sw.pj];refine⟨_,rfl,?_⟩;rw[Ji (by decide),Ji (by decide)];exact fin
 | some y=>
  show cT Γ.mod .IsNot (.str y) .aQ _ _;rw[Sw.pj];refine⟨_,rfl,?_⟩;rw[Jj (by rfl)];show cT Γ.mod .NotEq (.str y) (.str s) _ _;rw[Sw.xZ];refine⟨_,rfl,?_⟩
  by_cases q:y=s
  ·rw[Ji (by simp[q])];have fin:=fin (.inr (by rw[e,q]));rw[e]at fin;exact fin
  ·rw[Jj (by simpa using q)];have hy:=R.next F G hn hz st e q
   have yU:y ∈ U:=cU z y (by
    unfold T at e;split at e
    ·exact .inl e
    ·exact .inr e)
   refine⟨fun σ' H2=>∃v5,σ'=[some (.str s),some (.ref a),some (.ref b),some (.ref l),some (BZ (T (aC la) (aC lb) (n + 1) y)),v5]/\H2=upd H l (.lst ((c++[y]).map V.str)),fun σ' H2 ⟨v,e1,e2⟩=>⟨m - 1,by omega,c++[y],n + 1,y,v,e1,e2,R.snoc hn hz e hy,by rw[JP (by omega)];exact st,by rw[Jw,hn];rfl,by rw[J1 (by omega),hn];simp,fun x hx=>(JB.mp hx).elim (sub x) (fun hx=>by rw[Jz.mp hx];exact yU),by rw[Jw];simp;omega⟩,?_⟩;refine seq ?_;walk_at "s1";refine⟨gE ae,append_at ae (by rw[Jk,Jy];omega) ?_⟩;rw[dH];have em:c.map V.str++[V.str y]=(c++[y]).map V.str:=by rw[JA];rfl
   show wSs _ _ _ _ _ (upd H l (.lst (c.map V.str++[V.str y])));rw[em];refine seq ?_;walk_at "s1";refine⟨gc,gI (ao ae ai) ?_⟩;rw[Sw.v_mod];refine⟨by decide,?_⟩;rw[Sw.j8];refine⟨_,rfl,?_⟩;have ln:(((c++[y]).map V.str).length:Int)=(n:Int) + 2:=by rw[Jk,Jw,hn];simp;omega
   by_cases pr:n % 2=1
   ·rw[Jj (by rw[ln];simp;omega)];refine seq ?_;walk_at "s1";refine⟨HK (ha' _),Ab (ha' _) ?_⟩;refine ck ⟨some (.ref a),?_,rfl⟩;unfold T;rw[Jj (by omega)]
   ·rw[Ji (by rw[ln];simp;omega)];refine seq ?_;walk_at "s1";refine⟨HK (hb' _),Ab (hb' _) ?_⟩;refine ck ⟨some (.ref b),?_,rfl⟩;unfold T;rw[Ji (by omega)]
theorem jo:∀ {l:NU},(l.map (·.1)).Nodup->∀ {x y:Str},l.lookup x=some y ↔ (x,y) ∈ l
 | [],_,x,y=>by simp
 | (a, b) :: r, nd, x, y => by
  have nd:=JN.mp nd;rw[JU];cases e:(x == a)with
  | true=>
   have e:x=a:=eq_of_beq e;subst e;constructor
   ·intro h;cases h;simp
   ·intro h;rcases Jx.mp h with h | h
    ·cases h;rfl
    ·exact absurd (Jn.mpr ⟨(x,y),h,rfl⟩) nd.1
  | false=>
   have ne:x ≠ a:=fun z=>by rw[z]at e;simp at e
   show r.lookup x=some y ↔ _;rw[jo nd.2];constructor
   ·exact Jo _
   ·intro h;rcases Jx.mp h with h | h
    ·cases h;exact absurd rfl ne
    ·exact h
theorem Ed {L:NU} {x y:Str}:(x,y) ∈ mt L ↔ (x,y) ∈ L\/(y,x) ∈ L:=by
 unfold Gk.mt;rw[Kb];constructor
 ·rintro⟨l,hl,h⟩
  obtain⟨z,hz,rfl⟩:=Jn.mp hl;rcases Jx.mp h with h | h
  ·cases h;exact .inl hz
  ·have:=Jz.mp h;cases this
   exact .inr hz
 ·rintro(h | h)
  ·exact⟨_,Jn.mpr ⟨_,h,rfl⟩,by simp⟩
  ·exact⟨_,Jn.mpr ⟨_,h,rfl⟩,by simp⟩
theorem aX {L:NU} (nd:(ends L).Nodup) {x y:Str}:aC (mt L) x=some y ↔ (x,y) ∈ L\/(y,x) ∈ L:=by
 unfold aC;rw[jo (by rw[fX];exact nd),Ed]
theorem vw {L:NU} (nd:(ends L).Nodup) {x y:Str} (h:(x,y) ∈ L):x ≠ y:=by
 obtain⟨l1,l2,rfl⟩:=Ng h;have:ends (l1++(x,y)::l2)=ends l1++([x,y]++ends l2):=by unfold ends;simp
 rw[this]at nd;have:=(JI.mp (JI.mp nd).2.1).1;intro e;simp[e]at this
theorem rD {L:NU} (nd:(ends L).Nodup):qA (aC (mt L)) where
 sym:=fun x y h=>(aX nd).mpr ((aX nd).mp h).symm
 nT:=fun x h=>by
  rcases(aX nd).mp h with h | h
  ·exact vw nd h rfl
  ·exact vw nd h rfl
structure kj (A:NU):Prop where
 nd:(ends A).Nodup
 lt:∀x ∈ A,x.1.cps.toList < x.2.cps.toList
theorem kj.alone {A B:NU} (h:kj A):kj (alone A B):=⟨h.nd.sublist (gM Lq),fun x hx=>h.lt x (J2.mp hx).1⟩
theorem pV {a b:List Nat} (h:a < b):¬b < a:=fun z=>K0 _ (Nk h z)
theorem az {A B:NU} {x:Str × Str}:x ∈ alone A B ↔ x ∈ A/\x ∉ B:=by
 unfold Ik.alone;rw[J2];simp
theorem cO {A B:NU} (a:kj A) (b:kj B):qt (aC (mt (alone A B))) (aC (mt (alone B A))):=by
 refine⟨rD a.alone.nd,rD b.alone.nd,fun x y h z=>?_⟩;rcases(aX a.alone.nd).mp h with h | h<;>rcases(aX b.alone.nd).mp z with z | z
 ·exact(az.mp h).2 (az.mp z).1
 ·exact pV (a.alone.lt _ h) (b.alone.lt _ z)
 ·exact pV (a.alone.lt _ h) (b.alone.lt _ z)
 ·exact(az.mp h).2 (az.mp z).1
theorem cJ {L:NU} (nd:(ends L).Nodup) {x:Str}:aC (mt L) x ≠ none ↔ x ∈ ends L:=by
 have e:=fX L;unfold aC;constructor
 ·intro h;cases q:(mt L).lookup x with
  | none=>exact absurd q h
  | some y=>
   have:=(jo (by rw[e];exact nd)).mp q;rw[<-e];exact Jn.mpr ⟨(x,y),this,rfl⟩
 ·intro h z;rw[<-e]at h;obtain⟨⟨a,b⟩,hz,rfl⟩:=Jn.mp h;rw[(jo (by rw[e];exact nd)).mpr hz]at z;cases z
end Ik
namespace Wk
variable {α:Type} [DecidableEq α]
theorem Done.pre {f g:α->Option α} {s:α} {c c':List α} (d:Done f g s c) (d':Done f g s c'):∀ (k:Nat) (x:α),c[k]?=some x->c'[k]?=some x
 | 0,x,h=>by rw[d.st]at h;rw[d'.st];exact h
 | k + 1,x,h=>by
  obtain⟨z,ez⟩:∃z,c[k]?=some z:=⟨_,Jl (by have:=(Jv.mp h).1;omega)⟩;have l:=d.go k z x ez h;have ih:=d.pre d' k z ez;cases e:c'[k + 1]? with
  | some y=>rw[d'.go k z y ih e]at l;rw[l]
  | none=>
   exfalso;have hk:=(Jv.mp ih).1
   have hl:c'.length=k + 1:=by
    have:=Mq.mp e;omega
   rcases d'.en k z hl ih with q | q
   ·rw[q]at l;cases l
   ·rw[q]at l;cases l;have:=inj d.nd h d.st;omega
theorem Done.uniq {f g:α->Option α} {s:α} {c c':List α} (d:Done f g s c) (d':Done f g s c'):c=c':=by
 refine List.ext_getElem? fun k=>?_;cases e:c[k]? with
 | some x=>exact(d.pre d' k x e).symm
 | none=>
  cases e':c'[k]? with
  | none=>rfl
  | some x=>rw[d'.pre d k x e']at e;cases e
end Wk
namespace Ik
open PySem PySem.Spec PyProof.Rows L2 Sw Gw Gk Wk
noncomputable def sF (x y:Str):Prop:=x.cps.toList < y.cps.toList
noncomputable def flat (P:List (Bool × List Str)):NW:=(P.map (·.2)).flatten
structure ny (f g:Str->Option Str) (ss ks:NW):Prop where
 s:ss.Pairwise fun a b=>¬sF b a
 k:ks.Pairwise fun a b=>¬sF b a
 ns:ss.Nodup
 nk:ks.Nodup
 me:∀x,x ∈ ss ↔ (f x=none/\g x ≠ none)\/(f x ≠ none/\g x=none)
 mf:∀x,x ∈ ks ↔ f x ≠ none
noncomputable def AN (p:Bool × List Str):Prop:=∀s,p.2[0]?=some s->(p.1=false->∀n l,p.2.length=n + 1->p.2[n]?=some l->¬sF l s)/\(p.1=true->∀x ∈ p.2,¬sF x s)
inductive Run (f g:Str->Option Str) (S:NW):Nat->List (Bool × List Str)->Prop where
 | nil:Run f g S 0 []
 | skip {n:Nat} {P:List (Bool × List Str)} {s:Str}:Run f g S n P->S[n]?=some s->s ∈ flat P->Run f g S (n + 1) P
 | row {n:Nat} {P:List (Bool × List Str)} {s:Str} {c:NW}:Run f g S n P->S[n]?=some s->s ∉ flat P->((Done f g s c/\f s ≠ none/\g s=none)\/(Done g f s c/\f s=none/\g s ≠ none))->Run f g S (n + 1) (P++[(false,c)])
 | ring {n:Nat} {P:List (Bool × List Str)} {s:Str} {c:NW}:Run f g S n P->S[n]?=some s->s ∉ flat P->Done f g s c->f s ≠ none->g s ≠ none->Run f g S (n + 1) (P++[(true,c)])
structure eF (f g:Str->Option Str) (S:NW) (n:Nat) (P:List (Bool × List Str)):Prop where
 so:gS f g P
 pl:∀i,i < n->∀x,S[i]?=some x->x ∈ flat P
 or:∀p ∈ P,AN p
 tr:Run f g S n P
theorem zF {f g:Str->Option Str} {S:NW}:eF f g S 0 []:=⟨vW,fun i h=>absurd h (Nat.not_lt_zero _),fun p h=>(nomatch h),.nil⟩
theorem eF.skip {f g:Str->Option Str} {S:NW} {n:Nat} {P:List (Bool × List Str)} {s:Str} (L:eF f g S n P) (hs:S[n]?=some s) (h:s ∈ flat P):eF f g S (n + 1) P:=by
 refine⟨L.so,fun i hi x hx=>?_,L.or,.skip L.tr hs h⟩
 by_cases q:i=n
 ·subst q;rw[hs]at hx;cases hx;exact h
 ·exact L.pl i (by omega) x hx
theorem fG (P:List (Bool × List Str)) (p:Bool × List Str):flat (P++[p])=flat P++p.2:=fE P p
theorem zc {l:NW} (h:l.Pairwise fun a b=>¬sF b a) {n:Nat} {s x:Str} (hs:l[n]?=some s) (hx:x ∈ l) (no:∀i,i < n->l[i]? ≠ some x):¬sF x s:=by
 obtain⟨j,hj,e⟩:=JZ.mp hx;have ej:l[j]?=some x:=by rw[Jl hj,e]
 by_cases q:j < n
 ·exact absurd ej (no j q)
 ·by_cases z:j=n
  ·subst z;rw[hs]at ej;cases ej;exact K0 _
  ·obtain⟨hn,en⟩:=Jv.mp hs;have:=Kp.mp h n j hn hj (by omega);rw[e,en]at this;exact this
theorem head_mem {c:NW} {s:Str} (h:c[0]?=some s):s ∈ c:=Jp h
theorem eF.row {f g:Str->Option Str} {ss ks:NW} {n:Nat} {P:List (Bool × List Str)} {s:Str} {c:NW} (t:qt f g) (K:ny f g ss ks) (L:eF f g (ss++ks) n P) (hn:ss[n]?=some s) (hs:s ∉ flat P)
  (h:(Done f g s c/\f s ≠ none/\g s=none)\/(Done g f s c/\f s=none/\g s ≠ none)):eF f g (ss++ks) (n + 1) (P++[(false,c)]):=by
 have st:c[0]?=some s:=h.elim (fun h=>h.1.st) (fun h=>h.1.st);have lt:n < ss.length:=(Jv.mp hn).1;have hn':(ss++ks)[n]?=some s:=by rw[JP lt];exact hn
 have off:∀x ∈ c,x ∉ flat P:=by
  rcases h with h | h
  ·exact h.1.off t L.so.cl hs
  ·exact h.1.off t.swap (fun x hx y hy=>L.so.cl x hx y hy.symm) hs
 refine⟨L.so.row t hs h,fun i hi x hx=>?_,fun p hp=>?_,.row L.tr hn' hs h⟩
 ·rw[fG]
  by_cases q:i=n
  ·subst q;rw[hn']at hx;cases hx;exact JQ _ (head_mem st)
  ·exact Ka _ (L.pl i (by omega) x hx)
 ·rcases JB.mp hp with hp | hp
  ·exact L.or p hp
  ·rw[Jz.mp hp];intro s' e';have e':c[0]?=some s':=e';rw[st]at e';cases e'
   refine⟨fun _ m l hm hl=>?_,fun z=>(nomatch z)⟩;have hm:c.length=m + 1:=hm;have hl:c[m]?=some l:=hl
   -- the last is an end
   have le:l ∈ ss:=by
    have key:∀ {f g:Str->Option Str},qt f g->Done f g s c->f s ≠ none->g s=none->(f l=none/\g l ≠ none)\/(f l ≠ none/\g l=none):=by
     intro f g t d h1 h2;have e0:=d.row t.F t.G h2 hm hl;cases m with
     | zero=>
      rw[st]at hl;cases hl;unfold T at e0;rw[Jj rfl]at e0;exact absurd e0 h1
     | succ m=>
      obtain⟨z,ez⟩:∃z,c[m]?=some z:=⟨_,Jl (by omega)⟩;have b:=(dG t.F t.G m).sym _ _ (d.go m z l ez hl);unfold T at e0 b
      by_cases p:m % 2=0
      ·rw[Ji (by omega)]at e0;rw[Jj p]at b;exact .inr ⟨by rw[b];exact fun z=>(nomatch z),e0⟩
      ·rw[Jj (by omega)]at e0;rw[Ji p]at b;exact .inl ⟨e0,by rw[b];exact fun z=>(nomatch z)⟩
    rw[K.me];rcases h with h | h
    ·exact key t h.1 h.2.1 h.2.2
    ·rcases key t.swap h.1 h.2.2 h.2.1 with q | q
     ·exact .inr ⟨q.2,q.1⟩
     ·exact .inl ⟨q.2,q.1⟩
   refine zc K.s hn le fun i hi e=>?_;exact off l (Jp hl) (L.pl i hi l (by rw[JP (by omega)];exact e))
theorem eF.ring {f g:Str->Option Str} {ss ks:NW} {n:Nat} {P:List (Bool × List Str)} {s:Str} {c:NW} (t:qt f g) (K:ny f g ss ks) (L:eF f g (ss++ks) (ss.length + n) P) (hn:ks[n]?=some s) (hs:s ∉ flat P) (d:Done f g s c):eF f g (ss++ks) (ss.length + n + 1) (P++[(true,c)]):=by
 have fs:f s ≠ none:=(K.mf s).mp (Jp hn);have hn':(ss++ks)[ss.length + n]?=some s:=by rw[J1 (by omega),ME];exact hn
 have he:∀x,((f x=none/\g x ≠ none)\/(f x ≠ none/\g x=none))->x ∈ (P.map (·.2)).flatten:=fun x hx=>by
  obtain⟨i,hi,e⟩:=JZ.mp ((K.me x).mpr hx);exact L.pl i (by omega) x (by rw[JP hi,Jl hi,e])
 have off:=d.off t L.so.cl hs;have S':=L.so.ring t hs he d fs;refine⟨S',fun i hi x hx=>?_,fun p hp=>?_,.ring L.tr hn' hs d fs fun z=>hs (he s (.inr ⟨fs,z⟩))⟩
 ·rw[fG]
  by_cases q:i=ss.length + n
  ·subst q;rw[hn']at hx;cases hx;exact JQ _ (head_mem d.st)
  ·exact Ka _ (L.pl i (by omega) x hx)
 ·rcases JB.mp hp with hp | hp
  ·exact L.or p hp
  ·rw[Jz.mp hp];intro s' e';have e':c[0]?=some s':=e';rw[d.st]at e';cases e'
   refine⟨fun z=>(nomatch z),fun _ x hx=>?_⟩;have hx:x ∈ c:=hx
   -- a member has a link by f: else it were an end, and placed
   have fx:f x ≠ none:=fun a=>by
    have b:g x ≠ none:=fun b=>by
     obtain⟨i,hi,e⟩:=JZ.mp hx;have ei:c[i]?=some x:=by rw[Jl hi,e]
     cases i with
     | zero=>rw[d.st]at ei;cases ei;exact fs a
     | succ i=>
      obtain⟨z,ez⟩:∃z,c[i]?=some z:=⟨_,Jl (by omega)⟩;have q:=(dG t.F t.G i).sym _ _ (d.go i z x ez ei);unfold T at q;split at q
      ·rw[a]at q;cases q
      ·rw[b]at q;cases q
    exact off x hx (he x (.inl ⟨a,b⟩))
   refine zc K.k hn ((K.mf x).mpr fx) fun i hi e=>?_;exact off x hx (L.pl (ss.length + i) (by omega) x (by rw[J1 (by omega),ME];exact e))
theorem eF.all {f g:Str->Option Str} {ss ks:NW} {P:List (Bool × List Str)} (K:ny f g ss ks) (L:eF f g (ss++ks) (ss++ks).length P) {x:Str} (h:f x ≠ none\/g x ≠ none):x ∈ flat P:=by
 have:x ∈ ss++ks:=by
  by_cases a:f x=none
  ·exact Ka _ ((K.me x).mpr (.inl ⟨a,h.resolve_left (fun z=>z a)⟩))
  ·exact JQ _ ((K.mf x).mpr a)
 obtain⟨i,hi,e⟩:=JZ.mp this;exact L.pl i hi x (by rw[Jl hi,e])
abbrev lj:NW:=["one","other","ones","others","ends","found","placed","start","couples","couple"]
noncomputable def CS:fh:=(.cons (.fr 9 (.ex (.var 8)) (.cons (.sto (.var 6) (.var 9) (.con (.bl true))) .nil)) .nil)
noncomputable def yg:fh:=(.cons (.exp (.mth .append (.var 5) (.cons (.tup (.cons (.ite (.cmp .In (.var 7) (.var 4)) (.glob "ROW") (.glob "RING")) (.cons (.var 8) .nil))) .nil))) CS)
noncomputable def ql (wU:Expr):fh:=(.cons (.asg 2 (.call "mates_alone" (.cons (.var 0) (.cons (.var 1) .nil)))) (.cons (.asg 3 (.call "mates_alone" (.cons (.var 1) (.cons (.var 0) .nil)))) (.cons (.asg 4 (.xors 2 3)) (.cons (.asg 5 (.lst .nil)) (.cons (.asg 6 .dnew) (.cons (.fr 7 (.ex (.bin .Add (.var 4) (.blt .dsorted (.cons (.var 2) .nil)))) (.cons (.iff (.cmpD .NotIn (.var 7) (.var 6)) (.cons (.asg 8 (.ite (.cmpD .In (.var 7) (.var 2)) (.call "walk" (.cons (.var 7) (.cons (.var 2) (.cons (.var 3) .nil)))) (.call "walk" (.cons (.var 7) (.cons (.var 3) (.cons (.var 2) .nil)))))) yg) .nil) .nil)) (.cons (.retK (.var 5) ⟨33,25,33,52⟩ wU) .nil)))))))
noncomputable def tB (U:NW):List (Key × V):=(U.map fun x=>(x,true)).map fun y=>((Sum.inr y.1:Key),V.bl y.2)
theorem BJ (U:NW):(tB U).length=U.length:=by unfold tB;rw[Jk,Jk]
theorem oC:∀ (U:NW) (x:Str),((U.map fun x=>(x,true)).lookup x).isSome=decide (x ∈ U)
 | [],x=>rfl
 | a::r,x=>by
  rw[JF,JU];cases e:(x == a)with
  | true=>have e:x=a:=eq_of_beq e;subst e;simp
  | false=>
   have ne:x ≠ a:=fun z=>by rw[z]at e;simp at e
   show((r.map fun x=>(x,true)).lookup x).isSome=_;rw[oC r x];simp[ne]
theorem BH (U:NW) (x:Str):(bQ (tB U) (.inr x)).isSome=decide (x ∈ U):=by
 unfold tB;rw[gX (fun b=>V.bl b) (U.map fun x=>(x,true)) x,L6,oC]
theorem BI {U:NW} {x:Str} (h:x ∉ U):putK (tB U) (.inr x) (.bl true)=tB (U++[x]):=by
 unfold tB;rw[kP (fun b=>V.bl b) (U.map fun x=>(x,true)) x true (by rw[JT];simpa using h),JA (l₁:=U) (l₂:=[x])];rfl
noncomputable abbrev Fp:=Addr × Addr × Bool × List Str
noncomputable def word (b:Bool):Str:=if b then "ring" else "row"
noncomputable def aE (F:List Fp):List (Bool × List Str):=F.map fun x=>(x.2.2.1,x.2.2.2)
noncomputable def aB (F:List Fp):List V:=F.map fun x=>.ref x.1
noncomputable def uq (H:Hp) (F:List Fp):Prop:=∀x ∈ F,H x.1=some (.tup [.str (word x.2.2.1),.ref x.2.1])/\H x.2.1=some (.lst (x.2.2.2.map V.str))
theorem uq.ext {M:Mo} {H H':Hp} {F:List Fp} (h:uq H F) (x:Ext M H H'):uq H' F:=fun y hy=>⟨x.same _ _ (h y hy).1,x.same _ _ (h y hy).2⟩
theorem wj {Γ:b0} {H:Hp} {c p:Addr} {C U:NW} {D:Ends} {s0 s1 s2 s3 s4 s5 s7 s8 s9:Option V} (hc:H c=some (.lst (C.map V.str))) (hp:H p=some (.dK (tB U))) (nd:C.Nodup) (off:∀x ∈ C,x ∉ U) (bK:U.length + C.length<=100)
  (q:∀v,D.nx [s0,s1,s2,s3,s4,s5,some (.ref p),s7,s8,v] (upd H p (.dK (tB (U++C))))):
  p9 9 (wSs (.cons (.sto (.var 6) (.var 9) (.con (.bl true))) .nil) Γ X0) (fun H'=>rd Γ.mod H' c=some (.lst (C.map V.str))) (C.map V.str) D [s0,s1,s2,s3,s4,s5,some (.ref p),s7,s8,s9] H:=by
 have ne:c ≠ p:=fun z=>by rw[z,hp]at hc;cases hc
 refine cy (fun n σ H'=>∃v,σ=[s0,s1,s2,s3,s4,s5,some (.ref p),s7,s8,v]/\H'=upd H p (.dK (tB (U++C.take n)))) (fun n σ H' z=>?_) (fun n v σ H' D' hv pv nx ct _ _=>?_) (fun σ H' pv=>?_) ⟨s9,rfl,?_⟩
 ·obtain⟨_,_,rfl⟩:=z;exact ao (by rw[af ne];exact hc) ai
 ·obtain⟨v9,rfl,rfl⟩:=pv;rw[JJ]at hv;obtain⟨x,hx,rfl⟩:=JW.mp hv;have hn:=(Jv.mp hx).1;walk_at "sw"
  have xn:x ∉ U++C.take n:=fun z=>by
   rcases JB.mp z with z | z
   ·exact off x (Jp hx) z
   ·obtain⟨j,hj,e⟩:=JZ.mp z;rw[J4]at hj;have:C[j]?=some x:=by rw[Jl (by omega),<-e,List.getElem_take]
    have:=inj nd this hx;omega
  refine jN ae (by rw[BJ,Jw,J4,Jy];omega) ?_;rw[dH,BI xn];refine nx _ _ ⟨_,rfl,?_⟩;rw[L9,hx,JM];rfl
 ·obtain⟨v9,rfl,rfl⟩:=pv;rw[Jk,KC];exact q v9
 ·funext b
  by_cases z:b=p
  ·subst z;rw[ae,M7,LV];exact hp
  ·rw[af z]
noncomputable def qu (f g:Str->Option Str) (Ps:List (Bool × List Str)):Prop:=∃P0 ss ks,ny f g ss ks/\eF f g (ss++ks) (ss++ks).length P0/\Ps.Perm P0/\Ps.Pairwise fun a b=>∀s t,a.2[0]?=some s->b.2[0]?=some t->¬sF t s
noncomputable def i_ (M:Mo) (Ts:List Tb):Sp:=fun vs H Q _=>∃p q P R,vs=[.ref p,.ref q]/\ay H p P/\ay H q R/\kj (au P)/\kj (au R)/\P.length<=10/\R.length<=10/\(∀ t ∈ Ts,TabAt H t)/\
 ∀H' l F,eK M H H'->(∀ t ∈ Ts,TabAt H' t)->H l=none->M l=none->H' l=some (.lst (aB F))->uq H' F->qu (aC (mt (alone (au P) (au R)))) (aC (mt (alone (au R) (au P)))) (aE F)->Q (.ref l) H'
structure PG (Γ:b0) (M:Mo) (L:jH) (Ts:List Tb):Prop where
 cm:Γ.cm=true
 mod:Γ.mod=M
 al:Γ.has "mates_alone" =true/\Γ.fn "mates_alone" =kO M
 wk:Γ.has "walk" =true/\Γ.fn "walk" =pH M
 ro:Γ.con "ROW" =some (.str "row")
 ri:Γ.con "RING" =some (.str "ring")
 lm:Γ.lm=some (L,Ts)
theorem qS (L:NU):(sK (mt L)).map (·.1)=(ends L).map Sum.inr:=by
 rw[<-fX];unfold sK;rw[JT,JT];rfl
theorem ir (A B:NU):(alone A B).length<=A.length:=Ks _ _
theorem cX (P:List Pr):(au P).length=P.length:=Jk _
theorem yl {l:NW} (h:sortedS l=true) (nd:l.Nodup):l.Pairwise fun a b=>¬sF b a:=(wb h nd).imp fun h=>pV h
theorem hX {M:Mo} {H H':Hp} (x:Ext M H H'):eK M H H':=⟨fun a o h _=>x.same a o h,x.off,fun a h z=>by
 cases q:H a with
 | none=>exact h q
 | some o=>rw[x.same a o q]at z;cases z⟩
theorem _root_.Sw.eK.lI {M:Mo} {H H1 H2:Hp} (a:eK M H H1) (b:eK M H1 H2):eK M H H2:=⟨fun c o h n=>b.same c o (a.same c o h n) n,fun c m h=>b.off c m (a.off c m h),fun c h=>b.Hb c (a.Hb c h)⟩
theorem fQ {M:Mo} {H H':Hp} {t:Tb} (x:Ext M H H') (h:TabAt H t):TabAt H' t:=by
 rcases h with q | ⟨c,q,q2⟩
 ·exact .inl (x.same _ _ q)
 ·exact .inr ⟨c,x.same _ _ q,x.same _ _ q2⟩
theorem ji {α β:Type} {φ:α->β}:∀ {zs:List β} {F:List α},zs.Perm (F.map φ)->∃F':List α,F'.Perm F/\F'.map φ=zs
 | [],F,h=>by
  have:=h.nil_eq;exact⟨F,.refl _,this.symm⟩
 | z::r,F,h=>by
  obtain⟨x,hx,rfl⟩:=Jn.mp (h.mem_iff.mp Js);obtain⟨F1,F2,rfl⟩:=Ng hx;have h2:(φ x::r).Perm (φ x::(F1++F2).map φ):=h.trans (by rw[<-JF];exact LO.map φ);obtain⟨F',p,e⟩:=ji h2.cons_inv;exact⟨x::F',(p.cons x).trans LO.symm,by rw[JF,e]⟩
theorem wq {Γ:b0} {L:jH} {Ts:List Tb} {D:Ends} {Hc:Hp} {e fl pd cl:Addr} {ss C U:NW} {F:List Fp} {x:Str} {s0 s1 s2 s3 v9:Option V} (gp:PG Γ Γ.mod L Ts) (he:Hc e=some (.lst (ss.map V.str))) (hf:Hc fl=some (.lst (aB F))) (hp:Hc pd=some (.dK (tB U))) (hc:Hc cl=some (.lst (C.map V.str))) (ncf:cl ≠ fl)
  (nd:C.Nodup) (off:∀y ∈ C,y ∉ U) (bK:U.length + C.length<=100) (fF:F.length<=100) (sl:ss.length<=100)
  (q:∀t v9,Hc t=none->Γ.mod t=none->D.nx [s0,s1,s2,s3,some (.ref e),some (.ref fl),some (.ref pd),some (.str x),some (.ref cl),v9] (upd (upd (upd Hc t (.tup [.str (word (!decide (x ∈ ss))),.ref cl])) fl (.lst (aB (F++[(t,cl,!decide (x ∈ ss),C)])))) pd (.dK (tB (U++C))))):
  wSs yg Γ X0 D [s0,s1,s2,s3,some (.ref e),some (.ref fl),some (.ref pd),some (.str x),some (.ref cl),v9] Hc:=by
 refine seq ?_;walk_at "s1";refine⟨gE hf,vn (ao he ai) ⟨_,rfl,?_⟩⟩
 have fin:∀w:Str,w=word (!decide (x ∈ ss))->2<=sizeLine/\∀ (t:Addr),Hc t=none->Γ.mod t=none->fq Γ.mod .append (.ref fl) [.ref t] (upd Hc t (.tup [.str w,.ref cl])) fun _ H1=>wSs CS Γ X0 D [s0,s1,s2,s3,some (.ref e),some (.ref fl),some (.ref pd),some (.str x),some (.ref cl),v9] H1:=fun w ew=>by
  subst ew;refine⟨by rw[Jy];omega,fun t ht mt=>?_⟩;have nf:=aj hf ht;have np:=aj hp ht;have nc:=aj hc ht;have pf:pd ≠ fl:=fun z=>by rw[z,hf]at hp;cases hp
  have pc:cl ≠ pd:=fun z=>by rw[z,hp]at hc;cases hc
  refine append_at (by rw[af nf];exact hf) (by unfold aB;rw[Jk,Jy];omega) ?_;have ef:aB F++[V.ref t]=aB (F++[(t,cl,!decide (x ∈ ss),C)]):=by unfold aB;rw[JA];rfl
  rw[ef];refine seq ?_;walk_at "s1";refine⟨gp.cm,bJ (ao (by rw[af ncf,af nc];exact hc) ai) ?_⟩;refine wj (by rw[af ncf,af nc];exact hc) (by rw[af pf,af np];exact hp) nd off bK fun v=>?_;exact q t v ht mt
 by_cases m:x ∈ ss
 ·rw[Jj (JV m),gp.ro];exact fin "row" (by rw[JV m];rfl)
 ·rw[Ji (by simpa using m),gp.ri];exact fin "ring" (by rw[JR m];rfl)
theorem ze {M:Mo} {Γ:b0} {L:jH} {Ts:List Tb} (gp:PG Γ M L Ts) (vs:List V) (H:Hp) (Q:VK) (X:XK) (h:i_ M Ts vs H Q X):eJ Γ lj 2 (ql L.le) vs H Q X:=by
 obtain⟨p,q,P,R,rfl,hp,hq,pp,pr,fp,fr,tb,h⟩:=h;refine⟨rfl,?_⟩;obtain rfl:=gp.mod;have gc:=gp.cm;have t2:=cO pp pr;unfold ql;refine seq ?_;walk_at "s1";refine⟨⟨gc,gp.al.1⟩,?_⟩;rw[gp.al.2];refine⟨p,q,P,R,rfl,hp,hq,pp.nd,by omega,fun H1 a x1 na ma ha=>?_⟩;refine seq ?_;walk_at "s1";refine⟨⟨gc,gp.al.1⟩,?_⟩;rw[gp.al.2];refine⟨q,p,R,P,rfl,Ext.bL x1 hq,Ext.bL x1 hp,pr.nd,by omega,fun H2 b x2 nb mb hb=>?_⟩;have ha2:=x2.same _ _ ha;have la:(alone (au P) (au R)).length<=10:=JS (ir _ _) (by rw[cX];exact fp);have lb:(alone (au R) (au P)).length<=10:=JS (ir _ _) (by rw[cX];exact fr);refine seq ?_;walk_at "s1";refine⟨gc,_,_,rfl,rfl,a,b,ends (alone (au P) (au R)),ends (alone (au R) (au P)),rfl,rfl,⟨_,ha2,qS _⟩,⟨_,hb,qS _⟩,by rw[a_];omega,by rw[a_];omega,fun ss e snd sme ssr he me=>?_⟩
 have ssl:ss.length<=40:=by
  have:=snd.length_le_of_subset (l₂:=ends (alone (au P) (au R))++ends (alone (au R) (au P))) fun z hz=>JB.mpr (((sme z).mp hz).elim (fun h=>.inl h.1) (fun h=>.inr h.1));rw[Jw,a_,a_]at this;omega
 have x3:=Ext.upd (M:=Γ.mod) (H:=H2) (o:=.lst (ss.map V.str)) he me;refine seq ?_;walk_at "s1";refine⟨by rw[Jy];simp,fun fl hf mf=>?_⟩;refine seq ?_;walk_at "s1";intro pd hpd mpd;have x4:=x3.trans (Ext.upd (o:=.lst []) hf mf);have x5:=x4.trans (Ext.upd (o:=.dK []) hpd mpd);have e5:upd (upd (upd H2 e (.lst (ss.map V.str))) fl (.lst [])) pd (.dK []) e=some (.lst (ss.map V.str)):=(Ext.upd (M:=Γ.mod) hpd mpd).same _ _ ((Ext.upd (M:=Γ.mod) hf mf).same _ _ ae);have f5:upd (upd (upd H2 e (.lst (ss.map V.str))) fl (.lst [])) pd (.dK []) fl=some (.lst []):=(Ext.upd (M:=Γ.mod) hpd mpd).same _ _ ae;have d5:upd (upd (upd H2 e (.lst (ss.map V.str))) fl (.lst [])) pd (.dK []) pd=some (.dK (tB [])):=ae;have nf2:H2 fl=none:=x3.aQ hf;have np2:H2 pd=none:=x4.aQ hpd;have efl:e ≠ fl:=fun z=>by rw[<-z,ae]at hf;cases hf
 have npf:pd ≠ fl:=fun z=>by rw[z,ae]at hpd;cases hpd
 generalize upd (upd (upd H2 e (.lst (ss.map V.str))) fl (.lst [])) pd (.dK [])=H5 at x5 e5 f5 d5;have a5:=x5.same _ _ ha2;have b5:=x5.same _ _ hb;have x05:=(x1.trans x2).trans x5;refine seq ?_;walk_at "s1";refine⟨gc,gc,Fx a5 ⟨by rw[Jk,zy];omega,fun ks kl kpm ksr hk mk=>?_⟩⟩;rw[fX]at kpm;have k6:=Ext.upd (M:=Γ.mod) (H:=H5) (o:=.lst (ks.map V.str)) hk mk;rw[Sw.x_,ao (k6.same _ _ e5) ai,ao ae ai];refine⟨by rw[Jk,Jk,Jy,kpm.length_eq,a_];have:=ssl;omega,fun sl hsl msl=>?_⟩;have sfl:sl ≠ fl:=Kv (aj (k6.same _ _ f5) hsl);rw[<-JA];have k7:=k6.trans (Ext.upd (M:=Γ.mod) (o:=.lst ((ss++ks).map V.str)) hsl msl)
 have K:ny (aC (mt (alone (au P) (au R)))) (aC (mt (alone (au R) (au P)))) ss ks:=by
  refine⟨yl ssr snd,yl ksr (kpm.nodup_iff.mpr pp.alone.nd),snd,kpm.nodup_iff.mpr pp.alone.nd,fun x=>?_,fun x=>?_⟩
  ·rw[sme,<-cJ pp.alone.nd,<-cJ pr.alone.nd];constructor
   ·rintro(⟨h1,h2⟩ | ⟨h1,h2⟩)
    ·exact .inr ⟨h1,Classical.not_not.mp h2⟩
    ·exact .inl ⟨Classical.not_not.mp h2,h1⟩
   ·rintro(⟨h1,h2⟩ | ⟨h1,h2⟩)
    ·exact .inr ⟨h2,fun z=>z h1⟩
    ·exact .inl ⟨h1,fun z=>z h2⟩
  ·rw[kpm.mem_iff,cJ pp.alone.nd]
 generalize hG:upd (upd H5 kl (.lst (ks.map V.str))) sl (.lst ((ss++ks).map V.str))=H7 at k7 ⊢;have s7:H7 sl=some (.lst ((ss++ks).map V.str)):=by rw[<-hG];exact ae
 have x7:=x5.trans k7;refine bJ (ao s7 ai) ?_
 refine cy (fun n σ Hn=>∃ (F:List Fp) (v7 v8 v9:Option V),σ=[some (.ref p),some (.ref q),some (.ref a),some (.ref b),some (.ref e),some (.ref fl),some (.ref pd),v7,v8,v9]/\Ext Γ.mod H2 Hn/\Hn e=some (.lst (ss.map V.str))/\Hn sl=some (.lst ((ss++ks).map V.str))/\Hn fl=some (.lst (aB F))/\Hn pd=some (.dK (tB (flat (aE F))))/\uq Hn F/\(∀ x ∈ F,x.2.1 ≠ fl)/\eF (aC (mt (alone (au P) (au R)))) (aC (mt (alone (au R) (au P)))) (ss++ks) n (aE F)/\F.length<=n/\∀y ∈ flat (aE F),y ∈ ends (alone (au P) (au R))++ends (alone (au R) (au P))) (fun n σ Hn z=>?_) (fun n v σ Hn D' hv pv nx ct _ _=>?_) (fun σ Hn pv=>?_)
  ⟨[],none,none,none,rfl,x7,k7.same _ _ e5,s7,k7.same _ _ f5,k7.same _ _ d5,fun x hx=>(nomatch hx),fun x hx=>(nomatch hx),zF,JG _,fun y hy=>(nomatch hy)⟩
 ·obtain⟨_,_,_,_,_,_,_,z,_⟩:=z;exact ao z ai
 ·obtain⟨F,v7,v8,v9,rfl,y1,y2,y3,y4,y5,y6,y7,y8,y9,y10⟩:=pv;rw[JJ]at hv;obtain⟨x,hx,rfl⟩:=JW.mp hv;have nlt:=(Jv.mp hx).1;have skl:(ss++ks).length<=60:=by rw[Jw,kpm.length_eq,a_];omega
  have uul:(ends (alone (au P) (au R))++ends (alone (au R) (au P))).length<=40:=by rw[Jw,a_,a_];omega
  have go:∀ (c:Addr) (C:NW),Hn c=none->Γ.mod c=none->eF (aC (mt (alone (au P) (au R)))) (aC (mt (alone (au R) (au P)))) (ss++ks) (n + 1) (aE F++[(!decide (x ∈ ss),C)])->(∀ y ∈ C,y ∈ ends (alone (au P) (au R))++ends (alone (au R) (au P)))->
    wSs yg Γ X0 D' [some (.ref p),some (.ref q),some (.ref a),some (.ref b),some (.ref e),some (.ref fl),some (.ref pd),some (.str x),some (.ref c),v9] (upd Hn c (.lst (C.map V.str))):=by
   intro c C hc mc LI cu;have ndF:=LI.so.nd;have ec:flat (aE F++[(!decide (x ∈ ss),C)])=flat (aE F)++C:=fG _ _;have ndF:(flat (aE F)++C).Nodup:=by rw[<-ec];exact ndF
   obtain⟨n1,n2,n3⟩:=JI.mp ndF;have nfc:=aj y4 hc
   have bK:(flat (aE F)).length + C.length<=100:=by
    have:=n1.length_le_of_subset y10;have:=n2.length_le_of_subset cu;omega
   refine wq gp (by rw[af (aj y2 hc)];exact y2) (by rw[af nfc];exact y4) (by rw[af (aj y5 hc)];exact y5) ae (Kv nfc) n2 (fun y hy hu=>n3 y hu y hy rfl) bK (by omega) (by omega) fun t v9' ht mt=>?_;have htn:Hn t=none:=(Ext.upd (M:=Γ.mod) hc mc).aQ ht;have htc:t ≠ c:=fun z=>by rw[z,ae]at ht;cases ht
   have pf:pd ≠ fl:=fun z=>by rw[z,y4]at y5;cases y5
   have kc:∀ {w:Addr} {o:HO},Hn w=some o->w ≠ fl->w ≠ pd->upd (upd (upd (upd Hn c (.lst (C.map V.str))) t (.tup [.str (word (!decide (x ∈ ss))),.ref c])) fl (.lst (aB (F++[(t,c,!decide (x ∈ ss),C)])))) pd (.dK (tB (flat (aE F)++C))) w=some o:=fun{w o} hw w1 w2=>by
    rw[af w2,af w1,af (aj hw htn),af (aj hw hc)];exact hw
   have nl:∀ {w:Addr} {xs:List V},Hn w=some (.tup xs)->w ≠ fl/\w ≠ pd:=fun{w xs} hw=>⟨(fun z=>by rw[z,y4]at hw;cases hw),(fun z=>by rw[z,y5]at hw;cases hw)⟩;have ef:=efl;have sf:=sfl;have np':∀ {w:Addr} {xs:List V},Hn w=some (.lst xs)->w ≠ pd:=fun{w xs} hw z=>by rw[z,y5]at hw;cases hw
   refine nx _ _ ⟨F++[(t,c,!decide (x ∈ ss),C)],_,_,_,rfl,(((y1.cn (y1.aQ hc) mc).cn (y1.aQ htn) mt).cn nf2 mf).cn np2 mpd,kc y2 ef (np' y2),kc y3 sf (np' y3),?_,?_,fun z hz=>?_,fun z hz=>?_,?_,by rw[Jw];simp;omega,fun y hy=>?_⟩
   ·rw[af (Kv pf),ae]
   ·rw[ae];have:flat (aE (F++[(t,c,!decide (x ∈ ss),C)]))=flat (aE F)++C:=by unfold aE;rw[JA];exact ec
    rw[this]
   ·rcases JB.mp hz with hz | hz
    ·obtain⟨z1,z2⟩:=y6 z hz;exact⟨kc z1 (nl z1).1 (nl z1).2,kc z2 (y7 z hz) (np' z2)⟩
    ·rw[Jz.mp hz];refine⟨?_,?_⟩
     ·rw[af (Kv (aj y5 htn)),af (Kv (aj y4 htn)),ae]
     ·rw[af (Kv (aj y5 hc)),af (Kv (aj y4 hc)),af (Kv htc),ae]
   ·rcases JB.mp hz with hz | hz
    ·exact y7 z hz
    ·rw[Jz.mp hz];exact Kv nfc
   ·have:aE (F++[(t,c,!decide (x ∈ ss),C)])=aE F++[(!decide (x ∈ ss),C)]:=by unfold aE;rw[JA];rfl
    rw[this];exact LI
   ·have:flat (aE (F++[(t,c,!decide (x ∈ ss),C)]))=flat (aE F)++C:=by unfold aE;rw[JA];exact ec
    rw[this]at hy;exact(JB.mp hy).elim (y10 y) (cu y)
  refine seq ?_;walk_at "s1";refine tU (ao y5 fW) ⟨_,rfl,?_⟩;rw[BH]
  by_cases m:x ∈ flat (aE F)
  ·rw[Ji (by simp[m])];exact nx _ _ ⟨F,_,v8,v9,rfl,y1,y2,y3,y4,y5,y6,y7,y8.skip hx m,by omega,y10⟩
  ·rw[Jj (by simp[m])];refine seq ?_;walk_at "s1";refine vo (ao (y1.same _ _ ha2) fW) ⟨_,rfl,?_⟩;rw[yw,L6]
   have xk:((mt (alone (au P) (au R))).lookup x).isSome=decide (aC (mt (alone (au P) (au R))) x ≠ none):=by
    unfold aC;cases (mt (alone (au P) (au R))).lookup x<;>rfl
   rw[xk]
   have cU:∀u v,aC (mt (alone (au P) (au R))) u=some v\/aC (mt (alone (au R) (au P))) u=some v->v ∈ ends (alone (au P) (au R))++ends (alone (au R) (au P)):=fun u v hv=>by
    rcases hv with hv | hv
    ·exact Ka _ ((cJ pp.alone.nd).mp (by rw[t2.F.sym _ _ hv];exact fun z=>(nomatch z)))
    ·exact JQ _ ((cJ pr.alone.nd).mp (by rw[t2.G.sym _ _ hv];exact fun z=>(nomatch z)))
   have xU:x ∈ ends (alone (au P) (au R))++ends (alone (au R) (au P)):=by
    rcases JB.mp (Jp hx)with z | z
    ·exact JB.mpr (((sme x).mp z).elim (fun h=>.inl h.1) (fun h=>.inr h.1))
    ·exact Ka _ (kpm.mem_iff.mp z)
   by_cases fx:aC (mt (alone (au P) (au R))) x=none
   ·rw[Ji (by simp[fx])];refine⟨⟨gc,gp.wk.1⟩,?_⟩;rw[gp.wk.2];refine⟨x,b,a,_,_,_,rfl,y1.same _ _ hb,y1.same _ _ ha2,t2.G,t2.F,uul,xU,fun u v hv=>cU u v hv.symm,fun c C hc mc d sub=>go c C hc mc ?_ sub⟩;have xs:x ∈ ss:=(JB.mp (Jp hx)).resolve_right fun z=>(K.mf x).mp z fx
    have nl:n < ss.length:=Nat.lt_of_not_le fun z=>by
     rw[J1 z]at hx;exact(K.mf x).mp (Jp hx) fx
    have hn:ss[n]?=some x:=by rw[JP nl]at hx;exact hx
    have gx:aC (mt (alone (au R) (au P))) x ≠ none:=((K.me x).mp xs).elim (fun h=>h.2) (fun h=>absurd fx h.1);have:=y8.row t2 K hn m (.inr ⟨d,fx,gx⟩);rw[JV xs];exact this
   ·rw[Jj (by simp[fx])];refine⟨⟨gc,gp.wk.1⟩,?_⟩;rw[gp.wk.2];refine⟨x,a,b,_,_,_,rfl,y1.same _ _ ha2,y1.same _ _ hb,t2.F,t2.G,uul,xU,cU,fun c C hc mc d sub=>go c C hc mc ?_ sub⟩
    by_cases nl:n < ss.length
    ·have hn:ss[n]?=some x:=by rw[JP nl]at hx;exact hx
     have xs:x ∈ ss:=Jp hn;have gx:aC (mt (alone (au R) (au P))) x=none:=((K.me x).mp xs).elim (fun h=>absurd h.1 fx) (fun h=>h.2);have:=y8.row t2 K hn m (.inl ⟨d,fx,gx⟩);rw[JV xs];exact this
    ·obtain⟨k,rfl⟩:∃k,n=ss.length + k:=⟨n - ss.length,by omega⟩;have hn:ks[k]?=some x:=by rw[J1 (by omega),ME]at hx;exact hx
     have xs:x ∉ ss:=fun z=>by
      obtain⟨i,hi,e⟩:=JZ.mp z;exact m (y8.pl i (by omega) x (by rw[JP hi,Jl hi,e]))
     have:=y8.ring t2 K hn m d;rw[JR xs];exact this
 ·obtain⟨F,v7,v8,v9,rfl,y1,y2,y3,y4,y5,y6,y7,y8,y9,y10⟩:=pv;rw[Jk]at y8 y9
  show(match Γ.lm with
   | some (L',Ts')=>L.le=L'.le/\Γ.cm=true/\((∀ t ∈ Ts',TabAt Hn t)/\∃ (p:Addr) (ys:List (Addr × Str)),V.ref fl=.ref p/\Hn p=some (.lst (ys.map fun y=>.ref y.1))/\ys.length < 64/\(∀ y ∈ ys,km Hn y)/\
    ∀ (H2:Hp) (l:Addr) (zs:List (Addr × Str)),eK Γ.mod Hn H2->(∀ t ∈ Ts',TabAt H2 t)->Hn l=none->Γ.mod l=none->H2 l=some (.lst (zs.map fun z=>.ref z.1))->zs.Perm ys->zs.Pairwise E9->Q (.ref l) H2)
   | none=>False)
  rw[gp.lm];have xx:=(x1.trans x2).trans y1
  have ne:∀z ∈ F,∃u r,z.2.2.2=u::r:=fun z hz=>by
   obtain⟨s',h' | h'⟩:=(y8.so.ok (z.2.2.1,z.2.2.2) (Jn.mpr ⟨z,hz,rfl⟩)).row
   ·have:=h'.1.ne;cases q:z.2.2.2 with
    | nil=>exact absurd q this
    | cons u r=>exact⟨u,r,rfl⟩
   ·have:=h'.2.1.ne;cases q:z.2.2.2 with
    | nil=>exact absurd q this
    | cons u r=>exact⟨u,r,rfl⟩
  have skl:(ss++ks).length<=60:=by rw[Jw,kpm.length_eq,a_];omega
  refine⟨rfl,gc,fun t ht=>fQ xx (tb t ht),fl,F.map fun z=>(z.1,z.2.2.2.headD Str.empty),rfl,?_,?_,fun y hy=>?_,fun H8 l zs x8 t8 nl ml hl pm up=>?_⟩
  ·rw[y4,JT];rfl
  ·rw[Jk];omega
  ·obtain⟨z,hz,rfl⟩:=Jn.mp hy;obtain⟨u,r,e'⟩:=ne z hz;obtain⟨z1,z2⟩:=y6 z hz;exact⟨_,_,r.map V.str,z1,by rw[z2,e'];rfl⟩
  ·obtain⟨F',pf,rfl⟩:=ji pm;refine h H8 l F' ((hX xx).lI x8) t8 (xx.aQ nl) ml (by rw[hl,JT];rfl) (fun z hz=>?_) ⟨aE F,ss,ks,K,y8,pf.map _,?_⟩
   ·obtain⟨z1,z2⟩:=y6 z (pf.mem_iff.mp hz);exact⟨x8.same _ _ z1 (fun _ z=>(nomatch z)),x8.same _ _ z2 (fun _ z=>(nomatch z))⟩
   ·refine Ku.mpr ((Ku.mp up).imp_of_mem fun{c d} hc hd hl s' t' e1 e2=>?_);obtain⟨u,r,e3⟩:=ne c (pf.mem_iff.mp hc);obtain⟨w,r2,e4⟩:=ne d (pf.mem_iff.mp hd);have e1:c.2.2.2[0]?=some s':=e1;have e2:d.2.2.2[0]?=some t':=e2;rw[e3]at e1;rw[e4]at e2;cases e1
    cases e2
    have hl:ltCps (d.2.2.2.headD Str.empty).cps.toList (c.2.2.2.headD Str.empty).cps.toList=false:=hl;rw[e3,e4,ltCps_eq]at hl;exact(LX hl:¬_ < _)
abbrev fc:NW:=["_law_plan_here","_law_cell_here"]
noncomputable def eY:fh:=(.cons (.iff (.cmp .Gt (.bin .Mod (.var 1) (.con (.int 3))) (.con (.int 0))) (.cons (.ret (.lst .nil))
 .nil) .nil)
 (.cons (.ret (.comp "_law_k" [("_law_plan_here",0),("_law_cell_here",1)] (.rng1 (.blt .len (.cons (.var 0) .nil))) (.idx (.var 1) (.var 0)) (.cons (.cmp .Gt (.bin .Mod (.call "_law_mix" (.cons (.var 2) (.cons (.bin .Add (.con (.int 900)) (.var 0)) .nil))) (.con (.int 3))) (.con (.int 0))) .nil)))
 .nil))
noncomputable def jb (M:Mo):Sp:=fun vs H Q _=>∃p c P,vs=[.ref p,.int c]/\ay H p P/\P.length<=20/\∀H' q P',Ext M H H'->H q=none->M q=none->ay H' q P'->P'.Sublist P->Q (.ref q) H'
theorem wC {M:Mo} {Γ:b0} (gm:Γ.mod=M) (gc:Γ.cm=true) (g2:Γ.has "_law_mix" =true/\Γ.fn "_law_mix" =Gk.ja) (vs:List V) (H:Hp) (Q:VK) (X:XK) (h:jb M vs H Q X):eJ Γ fc 2 eY vs H Q X:=by
 obtain⟨p,c,P,rfl,hp,bK,h⟩:=h;refine⟨rfl,?_⟩;obtain rfl:=gm;unfold eY;refine seq ?_;walk_at "s1";rw[Sw.v_mod];refine⟨by decide,?_⟩;rw[Sw.x9];refine⟨_,rfl,?_⟩
 by_cases c3:c % 3 > 0
 ·rw[Jj (by simpa using c3)];walk_at "sw";exact⟨by rw[Jy];simp,fun q hq mq=>h _ q [] (Ext.upd hq mq) hq mq ⟨ae,fun y hy=>(nomatch hy)⟩ (List.nil_sublist _)⟩
 ·rw[Ji (by simpa using c3)];refine ck ?_;dsimp only[Sw.wSs,Sw.wS,Sw.wE,Sw.wT,Sw.wEs,Sw.wTs,Sw.wI,Sw.vars,Sw.dz,Sw.dw,Sw.cR,Sw.cQ,Sw.dq,Sw.dm,Sw.dC,Sw.dB,Sw.dt,L2.start,Sw.dY,Sw.dX,Sw.dW,Sw.dU,Nat.reduceAdd,Nat.reduceSub];refine⟨gc,gc,gI (ao hp.at_ ai) ?_⟩;dsimp only;rw[aP];refine⟨by omega,by omega,fun D hD mD=>?_⟩;rw[show((P.length:Int)).toNat=P.length from rfl];have xD:∀l,Ext Γ.mod H (upd H D (.lst l)):=fun l=>Ext.upd hD mD;refine jy (fun m acc Hm=>∃T:List Pr,acc=refs T/\Hm=upd H D (.lst (refs T))/\T.Sublist (P.take m)) (fun m acc Hm z=>?_) (fun m v acc Hm K hv pv nx2=>?_) (fun acc Hm pv=>?_) ⟨[],rfl,rfl,List.nil_sublist _⟩
  ·obtain⟨T,rfl,rfl,_⟩:=z;exact⟨trivial,ae⟩
  ·obtain⟨T,rfl,rfl,z3⟩:=pv;obtain⟨k1,rfl⟩:=cP hv;obtain⟨x,ex⟩:∃x,P[m]?=some x:=⟨_,Jl (by omega)⟩;have tk:P.take (m + 1)=P.take m++[x]:=by rw[L9,ex];rfl
   have tl:T.length<=20:=JS z3.length_le (by rw[J4];omega);walk_at "s1";refine⟨⟨gc,g2.1⟩,?_⟩;rw[Sw.v_add,g2.2];refine⟨c,_,rfl,by omega,by omega,fun z _ _ _=>?_⟩;dsimp only;rw[Sw.v_mod];refine⟨by decide,?_⟩;rw[Sw.x9];refine⟨_,rfl,?_⟩
   by_cases z0:z % 3 > 0
   ·rw[Jj (by simpa using z0)];obtain⟨v,e1,e2⟩:=qp (xs:=refs P) (i:=(m:Int)) (by omega) (by rw[aP];omega)
    have ev:v=.ref x.1:=by
     unfold k_ oF at e1;rw[Jj (by omega),Jj (by rw[aP];omega)]at e1;have e1:(refs P)[m]?=some v:=e1;unfold refs at e1;rw[JJ,ex]at e1;exact(JL e1).symm
    subst ev;refine iA (ao ((xD _).same _ _ hp.at_) ai) e1 ?_;refine⟨ae,by rw[aP,Jy];omega,nx2 _ _ ⟨T++[x],?_,?_,?_⟩⟩
    ·rw[<-cC];rfl
    ·rw[dH,<-cC];rfl
    ·rw[tk];exact z3.append (.refl _)
   ·rw[Ji (by simpa using z0)];exact nx2 _ _ ⟨T,rfl,rfl,by rw[tk];exact z3.trans (List.sublist_append_left _ _)⟩
  ·obtain⟨T,rfl,rfl,z3⟩:=pv;rw[Jk,J8,KC]at z3;exact h _ D T (xD _) hD mD ⟨ae,fun y hy=>(xD _).same _ _ (hp.dI y (z3.subset hy))⟩ z3
theorem u9 {a b:Str} (h1:¬sF a b) (h2:¬sF b a):a=b:=by
 have:a.cps.toList=b.cps.toList:=NC (LM.mp h2) (LM.mp h1);obtain⟨⟨x⟩⟩:=a;obtain⟨⟨y⟩⟩:=b;have:x=y:=this;rw[this]
theorem js {f g:Str->Option Str} {p:Bool × List Str} (h:cL f g p):∃s,p.2[0]?=some s:=by
 obtain⟨s,h | h⟩:=h.row
 ·exact⟨s,h.1.st⟩
 ·exact⟨s,h.2.1.st⟩
theorem mU:∀ {P:List (Bool × List Str)},(flat P).Nodup->∀p ∈ P,∀q ∈ P,∀x,x ∈ p.2->x ∈ q.2->p=q
 | [],_,p,hp,_,_,_,_,_=>(nomatch hp)
 | a::r,nd,p,hp,q,hq,x,h1,h2=>by
  have nd:(a.2++flat r).Nodup:=nd;obtain⟨n1,n2,n3⟩:=JI.mp nd;have inr:∀z ∈ r,∀y ∈ z.2,y ∈ flat r:=fun z hz y hy=>Kb.mpr ⟨z.2,Jn.mpr ⟨z,hz,rfl⟩,hy⟩;rcases Jx.mp hp with e1 | e1<;>rcases Jx.mp hq with e2 | e2
  ·rw[e1,e2]
  ·rw[e1]at h1;exact absurd rfl (n3 x h1 x (inr q e2 x h2))
  ·rw[e2]at h2;exact absurd rfl (n3 x h2 x (inr p e1 x h1))
  ·exact mU n2 p e1 q e2 x h1 h2
noncomputable def sC (p:Str × Str):Str × Str:=gY p.1 p.2
theorem n8:(word true=Str.ofString "ring")/\¬ (word false=Str.ofString "ring"):=by
 constructor
 ·rfl
 ·decide
theorem zK {C:NW} {n:Nat} {l:Str} (hn:C.length=n + 1) (hl:C[n]?=some l):C.getLastD ⟨#[]⟩=l:=by
 rw[Nw,Mt,hn];show(C[n]?).getD _=l;rw[hl];rfl
theorem Aa {C:NW} {s:Str} (h:C[0]?=some s):C.headD ⟨#[]⟩=s:=by
 cases C with
 | nil=>cases h
 | cons a r=>cases h;rfl
theorem CF {f g:Str->Option Str} {p:Bool × List Str} (h:cL f g p):nq (word p.1) p.2=(lk p).map sC:=by
 obtain⟨b,C⟩:=p;cases b with
 | false=>
  unfold nq;rw[Ji n8.2,lk_row];rfl
 | true=>
  obtain⟨s,n,l,d,hn,hl,_⟩:=h.wa rfl;have hn:C.length=n + 1:=hn;have hl:C[n]?=some l:=hl;have st:C[0]?=some s:=d.st;unfold nq;rw[Jj n8.1,jq st hn hl,JA];unfold Hd ar;show _=_++[gY l s];rw[zK hn hl,Aa st];rfl
theorem kT {A B:NU} (a:kj A) {x y:Str} (h:aC (mt (alone A B)) x=some y):gY x y ∈ A/\gY x y ∉ B:=by
 rcases(aX a.alone.nd).mp h with h | h
 ·have l:slt x y:=a.alone.lt _ h;rw[pD l];exact az.mp h
 ·have l:slt y x:=a.alone.lt _ h;rw[pE l];exact az.mp h
theorem Er {M:Mo} {H:Hp} {p:Addr} {a b:V} (h:H p=some (.tup [a,b])):(∀ {Q:VK},Q a H->c_ M (.ref p) (.int 0) H Q)/\∀ {Q:VK},Q b H->c_ M (.ref p) (.int 1) H Q:=by
 constructor
 ·intro Q q;rw[iC,ao h bG];exact q
 ·intro Q q;rw[iC,ao h bG];exact q
theorem vC {f g:Str->Option Str} {s:Str} {c:NW} (t:qt f g) (d:Done f g s c) (h:f s ≠ none) {x:Str} (hx:x ∈ c):f x ≠ none\/g x ≠ none:=by
 obtain⟨i,hi,e⟩:=JZ.mp hx;have ei:c[i]?=some x:=by rw[Jl hi,e]
 cases i with
 | zero=>rw[d.st]at ei;cases ei;exact .inl h
 | succ i=>
  obtain⟨z,ez⟩:∃z,c[i]?=some z:=⟨_,Jl (by omega)⟩;have l:=(dG t.F t.G i).sym _ _ (d.go i z x ez ei);unfold T at l;split at l
  ·exact .inl (by rw[l];exact fun z=>nomatch z)
  ·exact .inr (by rw[l];exact fun z=>nomatch z)
theorem _root_.Wk.cL.Cq {f g:Str->Option Str} {p:Bool × List Str} (t:qt f g) (h:cL f g p) {x:Str} (hx:x ∈ p.2):f x ≠ none\/g x ≠ none:=by
 obtain⟨s,h | h⟩:=h.row
 ·exact vC t h.1 h.2 hx
 ·exact(vC t.swap h.2.1 h.2.2.2 hx).symm
noncomputable def iZ (P:List (Bool × List Str)):NU:=(P.map fun p=>(lk p).map sC).flatten
theorem qq (P:List (Bool × List Str)) (p:Bool × List Str):iZ (P++[p])=iZ P++(lk p).map sC:=by
 unfold iZ;rw[JA,LP];show _++(_++[])=_;rw[LV]
theorem ue (P:List (Bool × List Str)):iZ P=((P.map lk).flatten).map sC:=by
 unfold iZ;rw[List.map_flatten,JT];rfl
structure o9 (A B:NU) (P:List (Bool × List Str)):Prop where
 ok:∀p ∈ P,cL (aC (mt (alone A B))) (aC (mt (alone B A))) p
 od:∀p ∈ P,AN p
 nd:(flat P).Nodup
 bK:(flat P).length<=40
 so:P.Pairwise fun a b=>∀s t,a.2[0]?=some s->b.2[0]?=some t->¬sF t s
 al:∀x,(aC (mt (alone A B)) x ≠ none\/aC (mt (alone B A)) x ≠ none)->x ∈ flat P
theorem yF {A B:NU} {P:List (Bool × List Str)} (a:kj A) (b:kj B) (la:A.length<=10) (lb:B.length<=10) (h:qu (aC (mt (alone A B))) (aC (mt (alone B A))) P):o9 A B P:=by
 obtain⟨P0,ss,ks,K,L,pm,o⟩:=h;have pf:(flat P).Perm (flat P0):=(pm.map _).flatten;have ok:∀p ∈ P,cL (aC (mt (alone A B))) (aC (mt (alone B A))) p:=fun p hp=>L.so.ok p (pm.mem_iff.mp hp);have nd:(flat P).Nodup:=pf.nodup_iff.mpr L.so.nd;refine⟨ok,fun p hp=>L.or p (pm.mem_iff.mp hp),nd,?_,o,fun x hx=>pf.mem_iff.mpr (L.all K hx)⟩
 have:=nd.length_le_of_subset (l₂:=ends (alone A B)++ends (alone B A)) fun x hx=>by
  obtain⟨l,hl,hx⟩:=Kb.mp hx;obtain⟨p,hp,rfl⟩:=Jn.mp hl;rcases(ok p hp).Cq (cO a b) hx with z | z
  ·exact Ka _ ((cJ a.alone.nd).mp z)
  ·exact JQ _ ((cJ b.alone.nd).mp z)
 rw[Jw,a_,a_]at this;have:=ir A B;have:=ir B A;omega
theorem kW {f g:Str->Option Str} {p:Bool × List Str} (h:cL f g p) {x y:Str} (m:(x,y) ∈ lk p):f x=some y\/g x=some y:=by
 obtain⟨f',g',l,w⟩:=h.fst;obtain⟨k,hk⟩:=List.mem_iff_getElem?.mp m;have:=l k x y hk;unfold T at this;rcases w with ⟨rfl,rfl⟩ | ⟨_,rfl,rfl⟩
 ·split at this
  ·exact .inl this
  ·exact .inr this
 ·split at this
  ·exact .inr this
  ·exact .inl this
theorem o9.links {A B:NU} {P:List (Bool × List Str)} (a:kj A) (b:kj B) (h:o9 A B P) (s:Str × Str):s ∈ iZ P ↔ s ∈ alone A B++alone B A:=by
 have t:=cO a b;rw[ue,JB];constructor
 ·intro hs;obtain⟨⟨x,y⟩,hx,rfl⟩:=Jn.mp hs;obtain⟨l,hl,hx⟩:=Kb.mp hx;obtain⟨p,hp,rfl⟩:=Jn.mp hl;show gY x y ∈ _\/gY x y ∈ _;rcases kW (h.ok p hp) hx with z | z
  ·exact .inl (az.mpr (kT a z))
  ·exact .inr (az.mpr (kT b z))
 ·intro hs;obtain⟨x,y⟩:=s;have lt:slt x y:=hs.elim (fun z=>a.alone.lt _ z) (fun z=>b.alone.lt _ z);have lnk:aC (mt (alone A B)) x=some y\/aC (mt (alone B A)) x=some y:=hs.imp (fun z=>(aX a.alone.nd).mpr (.inl z)) (fun z=>(aX b.alone.nd).mpr (.inl z));have xf:x ∈ flat P:=h.al x (lnk.imp (fun z=>by rw[z];exact fun q=>nomatch q) (fun z=>by rw[z];exact fun q=>nomatch q));obtain⟨l,hl,hx⟩:=Kb.mp xf;obtain⟨p,hp,rfl⟩:=Jn.mp hl;have out:∀z ∈ lk p,sC z=(x,y)->(x,y) ∈ ((P.map lk).flatten).map sC:=fun z hz e=>Jn.mpr ⟨z,Kb.mpr ⟨lk p,Jn.mpr ⟨p,hp,rfl⟩,hz⟩,e⟩;rcases(h.ok p hp).all t hx lnk with z | z
  ·exact out _ z (pD lt)
  ·exact out _ z (pE lt)
theorem o9.head {A B:NU} {P:List (Bool × List Str)} (h:o9 A B P):∀p ∈ P,∃s,p.2[0]?=some s:=fun p hp=>js (h.ok p hp)
theorem mV:∀ {P:List (Bool × List Str)},(∀ p ∈ P,p.2 ≠ [])->P.length<=(flat P).length
 | [],_=>JG _
 | p::r,h=>by
  show r.length + 1<=(p.2++flat r).length;rw[Jw];have:=mV (P:=r) fun q hq=>h q (Jo _ hq);have:=M1.mpr (h p Js);omega
theorem o9.len {A B:NU} {P:List (Bool × List Str)} (h:o9 A B P):P.length<=40:=JS (mV fun p hp z=>by
 obtain⟨s,e⟩:=h.head p hp;rw[z]at e;cases e) h.bK
section
variable {f g:Str->Option Str} {s:Str} {c:NW} {U:NW} {p q:Bool × List Str}
theorem rZ (d:Done f g s c) (cl:∀x ∈ U,∀y,f x=some y\/g x=some y->y ∈ U) (hs:s ∈ U):∀x ∈ c,x ∈ U:=by
 intro x hx;obtain⟨i,hi,e⟩:=JZ.mp hx;have ei:c[i]?=some x:=by rw[Jl hi,e]
 clear hx hi e
 induction i generalizing x with
 | zero=>rw[d.st]at ei;cases ei;exact hs
 | succ i ih=>
  obtain⟨z,ez⟩:∃z,c[i]?=some z:=⟨_,Jl (by have:=(Jv.mp ei).1;omega)⟩;have l:=d.go i z x ez ei;unfold T at l;split at l
  ·exact cl z (ih z ez) x (.inl l)
  ·exact cl z (ih z ez) x (.inr l)
theorem cL.cl (t:qt f g) (h:cL f g p):∀x ∈ p.2,∀y,f x=some y\/g x=some y->y ∈ p.2:=by
 obtain⟨b,c⟩:=p;cases b with
 | false=>
  obtain⟨s,st,h | h⟩:=h.Bp rfl
  ·exact fun x hx y hy=>h.1.closed t.F t.G (.inl h.2.2) hx hy
  ·exact fun x hx y hy=>h.1.closed t.G t.F (.inl h.2.1) hx hy.symm
 | true=>
  obtain⟨s,n,l,d,hn,hl,odd,n3,gl⟩:=h.wa rfl;exact fun x hx y hy=>d.closed t.F t.G (.inr ⟨n,l,hn,hl,gl,odd⟩) hx hy
theorem cL.into (t:qt f g) (h:cL f g p) (cl:∀x ∈ U,∀y,f x=some y\/g x=some y->y ∈ U) {x:Str} (h1:x ∈ p.2) (h2:x ∈ U):∀y ∈ p.2,y ∈ U:=by
 obtain⟨s,d | d⟩:=h.row
 ·refine rZ d.1 cl ?_;exact Mu fun z=>d.1.off t cl z x h1 h2
 ·refine rZ d.2.1 (fun x hx y hy=>cl x hx y hy.symm) ?_;exact Mu fun z=>d.2.1.off t.swap (fun x hx y hy=>cl x hx y hy.symm) z x h1 h2
theorem mY (F:qA f) (G:qA g) (d:Done f g s c) {i n:Nat} {x:Str} (hn:c.length=n + 1) (hi:c[i]?=some x) (i0:i ≠ 0) (in_:i ≠ n):f x ≠ none/\g x ≠ none:=by
 have li:=(Jv.mp hi).1;obtain⟨j,rfl⟩:∃j,i=j + 1:=⟨i - 1,by omega⟩;obtain⟨z,ez⟩:∃z,c[j]?=some z:=⟨_,Jl (by omega)⟩;obtain⟨y,ey⟩:∃y,c[j + 1 + 1]?=some y:=⟨_,Jl (by omega)⟩;have a:=(dG F G j).sym _ _ (d.go j z x ez hi);have b:=d.go (j + 1) x y hi ey;unfold T at a b
 by_cases p:j % 2=0
 ·rw[Jj p]at a;rw[Ji (by omega)]at b;rw[a,b];exact⟨(fun z=>nomatch z),fun z=>nomatch z⟩
 ·rw[Ji p]at a;rw[Jj (by omega)]at b;rw[a,b];exact⟨(fun z=>nomatch z),fun z=>nomatch z⟩
theorem cL.ID (t:qt f g) {c:NW} (h:cL f g (false,c)) {n:Nat} (hn:c.length=n + 1) {x:Str} (hx:x ∈ c) (e:f x=none\/g x=none):c[0]?=some x\/c[n]?=some x:=by
 obtain⟨i,hi,ex⟩:=JZ.mp hx;have ei:c[i]?=some x:=by rw[Jl hi,ex]
 by_cases i0:i=0
 ·subst i0;exact .inl ei
 ·by_cases in_:i=n
  ·subst in_;exact .inr ei
  ·exfalso;obtain⟨s,st,h | h⟩:=h.Bp rfl
   ·have:=mY t.F t.G h.1 hn ei i0 in_;exact e.elim this.1 this.2
   ·have:=mY t.G t.F h.1 hn ei i0 in_;exact e.elim this.2 this.1
theorem cL.both (t:qt f g) {c:NW} (h:cL f g (true,c)) {x:Str} (hx:x ∈ c):f x ≠ none/\g x ≠ none:=by
 obtain⟨s,n,l,d,hn,hl,odd,n3,gl⟩:=h.wa rfl;have hn:c.length=n + 1:=hn;have hl:c[n]?=some l:=hl;have d:Done f g s c:=d;obtain⟨i,hi,ex⟩:=JZ.mp hx;have ei:c[i]?=some x:=by rw[Jl hi,ex]
 by_cases i0:i=0
 ·subst i0;rw[d.st]at ei;obtain rfl:=JL ei;obtain⟨y,ey⟩:∃y,c[0 + 1]?=some y:=⟨_,Jl (by omega)⟩;have:=d.go 0 s y d.st ey;unfold T at this;rw[Jj rfl]at this;rw[this,t.G.sym _ _ gl];exact⟨(fun z=>nomatch z),fun z=>nomatch z⟩
 ·by_cases in_:i=n
  ·subst in_;rw[hl]at ei;obtain rfl:=JL ei;obtain⟨j,rfl⟩:∃j,i=j + 1:=⟨i - 1,by omega⟩;obtain⟨z,ez⟩:∃z,c[j]?=some z:=⟨_,Jl (by omega)⟩;have a:=(dG t.F t.G j).sym _ _ (d.go j z l ez hl);unfold T at a;rw[Jj (by omega)]at a;rw[a,gl];exact⟨(fun z=>nomatch z),fun z=>nomatch z⟩
  ·exact mY t.F t.G d hn ei i0 in_
theorem zd {c':NW} (a:(Done f g s c/\f s ≠ none/\g s=none)\/(Done g f s c/\f s=none/\g s ≠ none)) (b:(Done f g s c'/\f s ≠ none/\g s=none)\/(Done g f s c'/\f s=none/\g s ≠ none)):c=c':=by
 rcases a with a | a<;>rcases b with b | b
 ·exact a.1.uniq b.1
 ·exact absurd b.2.1 a.2.1
 ·exact absurd a.2.1 b.2.1
 ·exact a.1.uniq b.1
theorem cL.canon (t:qt f g) (hp:cL f g p) (hq:cL f g q) (op:AN p) (oq:AN q) {x:Str} (h1:x ∈ p.2) (h2:x ∈ q.2):p=q:=by
 have s1:=cL.into t hp (cL.cl t hq) h1 h2;have s2:=cL.into t hq (cL.cl t hp) h2 h1;obtain⟨b,c⟩:=p;obtain⟨b',c'⟩:=q;have s1:∀y ∈ c,y ∈ c':=s1;have s2:∀y ∈ c',y ∈ c:=s2
 have mix:∀ {c c':NW},cL f g (false,c)->cL f g (true,c')->(∀ y ∈ c,y ∈ c')->False:=fun{c c'} a b s=>by
  obtain⟨s0,st,h⟩:=a.Bp rfl;have:=cL.both t b (s s0 (Jp st));rcases h with h | h
  ·exact this.2 h.2.2
  ·exact this.1 h.2.1
 cases b<;>cases b'
 ·obtain⟨s,st,a⟩:=hp.Bp rfl;obtain⟨s',st',a'⟩:=hq.Bp rfl;have st:c[0]?=some s:=st;have st':c'[0]?=some s':=st';obtain⟨n,hn⟩:∃n,c.length=n + 1:=⟨c.length - 1,by have:=(Jv.mp st).1;omega⟩;obtain⟨n',hn'⟩:∃n,c'.length=n + 1:=⟨c'.length - 1,by have:=(Jv.mp st').1;omega⟩
  have e:s=s':=by
   have k1:=cL.ID t hq hn' (s1 s (Jp st)) (a.elim (fun z=>.inr z.2.2) (fun z=>.inl z.2.1));have k2:=cL.ID t hp hn (s2 s' (Jp st')) (a'.elim (fun z=>.inr z.2.2) (fun z=>.inl z.2.1));rcases k1 with k1 | k1
   ·rw[st']at k1;exact(JL k1).symm
   ·rcases k2 with k2 | k2
    ·rw[st]at k2;exact JL k2
    ·exact u9 ((oq s' st').1 rfl n' s hn' k1) ((op s st).1 rfl n s' hn k2)
  subst e;have e:c=c':=zd a a';rw[e]
 ·exact(mix hp hq s1).elim
 ·exact(mix hq hp s2).elim
 ·obtain⟨s,n,l,d,_⟩:=hp.wa rfl;obtain⟨s',n',l',d',_⟩:=hq.wa rfl;have d:Done f g s c:=d;have d':Done f g s' c':=d';have e:s=s':=u9 ((oq s' d'.st).2 rfl s (s1 s (Jp d.st))) ((op s d.st).2 rfl s' (s2 s' (Jp d'.st)));subst e;rw[d.uniq d']
end
theorem fJ {f g f' g':Str->Option Str} {s:Str} {c:NW} (e:∀x ∈ c,f' x=f x/\g' x=g x) (d:Done f' g' s c):Done f g s c:=by
 have te:∀ (k:Nat) x,x ∈ c->T f' g' k x=T f g k x:=fun k x hx=>by
  unfold T;split
  ·exact(e x hx).1
  ·exact(e x hx).2
 refine⟨⟨d.nd,fun k x y h1 h2=>?_⟩,d.ne,d.st,fun n l hn hl=>?_⟩
 ·rw[<-te k x (Jp h1)];exact d.go k x y h1 h2
 ·rw[<-te n l (Jp hl)];exact d.en n l hn hl
theorem cL.Ej {f g f' g':Str->Option Str} {p:Bool × List Str} (e:∀x ∈ p.2,f' x=f x/\g' x=g x) (h:cL f' g' p):cL f g p:=by
 have e':∀x ∈ p.2,g' x=g x/\f' x=f x:=fun x hx=>(e x hx).symm;refine⟨?_,fun b=>?_,fun b=>?_⟩
 ·obtain⟨s,d | ⟨b,d,d2,d3⟩⟩:=h.row
  ·exact⟨s,.inl ⟨fJ e d.1,by rw[<-(e s (Jp d.1.st)).1];exact d.2⟩⟩
  ·have:=e s (Jp d.st);exact⟨s,.inr ⟨b,fJ e' d,by rw[<-this.1];exact d2,by rw[<-this.2];exact d3⟩⟩
 ·obtain⟨s,n,l,d,hn,hl,odd,n3,gl⟩:=h.wa b;exact⟨s,n,l,fJ e d,hn,hl,odd,n3,by rw[<-(e l (Jp hl)).2];exact gl⟩
 ·obtain⟨s,st,d | d⟩:=h.Bp b
  ·have:=e s (Jp st);exact⟨s,st,.inl ⟨fJ e d.1,by rw[<-this.1];exact d.2.1,by rw[<-this.2];exact d.2.2⟩⟩
  ·have:=e s (Jp st);exact⟨s,st,.inr ⟨fJ e' d.1,by rw[<-this.1];exact d.2.1,by rw[<-this.2];exact d.2.2⟩⟩
structure cW (A B:NU) (P S:List (Bool × List Str)):Prop where
 a:kj A
 b:kj B
 p:o9 A B P
 sub:∀q ∈ S,q ∈ P
 nd:(flat S).Nodup
theorem bA {S:List (Bool × List Str)} {x:Str}:x ∈ flat S ↔ ∃p ∈ S,x ∈ p.2:=by
 constructor
 ·intro h;obtain⟨l,hl,hx⟩:=Kb.mp h;obtain⟨p,hp,rfl⟩:=Jn.mp hl;exact⟨p,hp,hx⟩
 ·rintro⟨p,hp,hx⟩
  exact Kb.mpr ⟨p.2,Jn.mpr ⟨p,hp,rfl⟩,hx⟩
section
variable {A B:NU} {P S:List (Bool × List Str)}
theorem cW.cl (h:cW A B P S):∀x ∈ flat S,∀y,aC (mt (alone A B)) x=some y\/aC (mt (alone B A)) x=some y->y ∈ flat S:=fun x hx y hy=>by
 obtain⟨p,hp,hx⟩:=bA.mp hx;exact bA.mpr ⟨p,hp,cL.cl (cO h.a h.b) (h.p.ok p (h.sub p hp)) x hx y hy⟩
theorem o9.both (a:kj A) (b:kj B) (h:o9 A B P) {x:Str × Str} (ha:x ∈ A) (hb:x ∈ B) {v:Str} (on:On v x):v ∉ flat P:=fun hv=>by
 obtain⟨p,hp,hv⟩:=bA.mp hv
 have key:∀ {A B:NU},kj A->x ∈ A->x ∈ B->aC (mt (alone A B)) v ≠ none->False:=fun{A B} a ha hb hm=>by
  cases e:aC (mt (alone A B)) v with
  | none=>exact hm e
  | some y=>
   rcases(aX a.alone.nd).mp e with m | m
   ·have:=fI a.nd ha (az.mp m).1 on (.inl rfl);exact(az.mp m).2 (this ▸ hb)
   ·have:=fI a.nd ha (az.mp m).1 on (.inr rfl);exact(az.mp m).2 (this ▸ hb)
 rcases(h.ok p hp).Cq (cO a b) hv with z | z
 ·exact key a ha hb z
 ·exact key b hb ha z
theorem cW.up (h:cW A B P S) {x:Str} (hx:x ∈ flat S):x ∈ flat P:=by
 obtain⟨p,hp,hx⟩:=bA.mp hx;exact bA.mpr ⟨p,h.sub p hp,hx⟩
theorem cW.sym (h:cW A B P S) {x:Str × Str} (m:x ∈ alone A B\/x ∈ alone B A):x.1 ∈ flat S ↔ x.2 ∈ flat S:=by
 have l1:aC (mt (alone A B)) x.1=some x.2\/aC (mt (alone B A)) x.1=some x.2:=m.imp (fun z=>(aX h.a.alone.nd).mpr (.inl z)) (fun z=>(aX h.b.alone.nd).mpr (.inl z));have l2:aC (mt (alone A B)) x.2=some x.1\/aC (mt (alone B A)) x.2=some x.1:=m.imp (fun z=>(aX h.a.alone.nd).mpr (.inr z)) (fun z=>(aX h.b.alone.nd).mpr (.inr z));exact⟨fun z=>h.cl _ z _ l1,fun z=>h.cl _ z _ l2⟩
theorem cW.iZ (h:cW A B P S) {x:Str × Str}:x ∈ iZ S ↔ (x ∈ alone A B\/x ∈ alone B A)/\x.1 ∈ flat S:=by
 have t:=cO h.a h.b;rw[ue];constructor
 ·intro hs;obtain⟨⟨u,v⟩,hx,rfl⟩:=Jn.mp hs;obtain⟨l,hl,hx⟩:=Kb.mp hx;obtain⟨p,hp,rfl⟩:=Jn.mp hl;have m:gY u v ∈ alone A B\/gY u v ∈ alone B A:=(kW (h.p.ok p (h.sub p hp)) hx).imp (fun z=>az.mpr (kT h.a z)) (fun z=>az.mpr (kT h.b z));refine⟨m,?_⟩;have uv:=tP hx
  have ne:u ≠ v:=fun z=>by
   subst z;exact(kW (h.p.ok p (h.sub p hp)) hx).elim (t.F.nT u) (t.G.nT u)
  rcases(mm ne (v:=(gY u v).1)).mp (.inl rfl)with e | e
  ·show(gY u v).1 ∈ _;rw[e];exact bA.mpr ⟨p,hp,uv.1⟩
  ·show(gY u v).1 ∈ _;rw[e];exact bA.mpr ⟨p,hp,uv.2⟩
 ·rintro⟨m,hx⟩
  obtain⟨x,y⟩:=x;have lt:slt x y:=m.elim (fun z=>h.a.alone.lt _ z) (fun z=>h.b.alone.lt _ z);have lnk:aC (mt (alone A B)) x=some y\/aC (mt (alone B A)) x=some y:=m.imp (fun z=>(aX h.a.alone.nd).mpr (.inl z)) (fun z=>(aX h.b.alone.nd).mpr (.inl z));obtain⟨p,hp,hx⟩:=bA.mp hx;have out:∀z ∈ lk p,sC z=(x,y)->(x,y) ∈ ((S.map lk).flatten).map sC:=fun z hz e=>Jn.mpr ⟨z,Kb.mpr ⟨lk p,Jn.mpr ⟨p,hp,rfl⟩,hz⟩,e⟩;rcases(h.p.ok p (h.sub p hp)).all t hx lnk with z | z
  ·exact out _ z (pD lt)
  ·exact out _ z (pE lt)
noncomputable def Due (A B:NU) (C:NW) (x:Str × Str):Prop:=(x ∈ A/\x.1 ∉ C)\/(x ∈ B/\x.1 ∈ C)
theorem cW.Gj (h:cW A B P S) (x:Str × Str):Due A B (flat S) x ↔ eZ A (Ik.iZ S) x:=by
 unfold Due eZ;rw[h.iZ];constructor
 ·rintro(⟨q1,q2⟩ | ⟨q1,q2⟩)
  ·exact .inl ⟨q1,fun z=>q2 z.2⟩
  ·have na:x ∉ A:=fun z=>o9.both h.a h.b h.p z q1 (.inl rfl) (h.up q2);exact .inr ⟨⟨.inr (az.mpr ⟨q1,na⟩),q2⟩,na⟩
 ·rintro(⟨q1,q2⟩ | ⟨⟨q1,q2⟩,q3⟩)
  ·refine .inl ⟨q1,fun z=>q2 ⟨.inl (az.mpr ⟨q1,fun y=>?_⟩),z⟩⟩;exact o9.both h.a h.b h.p q1 y (.inl rfl) (h.up z)
  ·exact .inr ⟨q1.elim (fun z=>absurd (az.mp z).1 q3) (fun z=>(az.mp z).1),q2⟩
theorem cW.out (h:cW A B P S) {x:Str × Str} (q:Due A B (flat S) x):(x ∈ A/\∀v,On v x->v ∉ flat S)\/(x ∈ B/\∀v,On v x->v ∈ flat S):=by
 rcases q with ⟨q1,q2⟩ | ⟨q1,q2⟩
 ·refine .inl ⟨q1,fun v on hv=>?_⟩
  by_cases xb:x ∈ B
  ·exact o9.both h.a h.b h.p q1 xb on (h.up hv)
  ·have m:x ∈ alone A B:=az.mpr ⟨q1,xb⟩;rcases on with rfl | rfl
   ·exact q2 hv
   ·exact q2 ((h.sym (.inl m)).mpr hv)
 ·refine .inr ⟨q1,fun v on=>?_⟩;have na:x ∉ A:=fun z=>o9.both h.a h.b h.p z q1 (.inl rfl) (h.up q2);have m:x ∈ alone B A:=az.mpr ⟨q1,na⟩;rcases on with rfl | rfl
  ·exact q2
  ·exact(h.sym (.inr m)).mp q2
theorem cW.bL {E:List Ent} {T:NU} (h:cW A B P S) (pa:aG E A) (pb:aG E B) (r:cx T) (m:∀x,x ∈ T ↔ Due A B (flat S) x):aG E T:=by
 have sw:∀x ∈ T,slt x.1 x.2/\x.2 ∈ Gw.nE E x.1:=fun x hx=>by
  rcases(m x).mp hx with q | q
  ·exact pa.sw x q.1
  ·exact pb.sw x q.1
 refine⟨sw,vz (dN r) (fun x hx z=>?_) (fun x hx y hy v vx vy=>?_),r⟩
 ·have:=(sw x hx).1;rw[z]at this;exact bW.nT _ this
 ·rcases h.out ((m x).mp hx)with q | q<;>rcases h.out ((m y).mp hy)with k | k
  ·exact fI pa.nd q.1 k.1 vx vy
  ·exact absurd (k.2 v vy) (q.2 v vx)
  ·exact absurd (q.2 v vx) (k.2 v vy)
  ·exact fI pb.nd q.1 k.1 vx vy
theorem AH (h:cW A B P S):(Ik.iZ S).Nodup:=by
 have t:=cO h.a h.b;rw[ue];refine Ku.mpr ((gS.He (fun p hp=>h.p.ok p (h.sub p hp)) h.nd).imp_of_mem fun{u v} hu hv ap e=>?_)
 have ne:∀w ∈ (S.map lk).flatten,w.1 ≠ w.2:=fun w hw q=>by
  obtain⟨l,hl,hx⟩:=Kb.mp hw;obtain⟨p,hp,rfl⟩:=Jn.mp hl;obtain⟨x,y⟩:=w;have q:x=y:=q;subst q;exact(kW (h.p.ok p (h.sub p hp)) hx).elim (t.F.nT x) (t.G.nT x)
 obtain⟨x,y⟩:=u;obtain⟨z,w⟩:=v;rcases Ba (ne _ hu) (ne _ hv) e with ⟨e1,e2⟩ | ⟨e1,e2⟩
 ·exact ap.1 (by have e1:x=z:=e1;have e2:y=w:=e2;rw[e1,e2])
 ·exact ap.2 (by have e1:x=w:=e1;have e2:y=z:=e2;rw[e1,e2])
theorem lr {L T T':NU} {p:Bool × List Str} (nd:(Ik.iZ (S++[p])).Nodup) (m:∀x,x ∈ T ↔ eZ L (Ik.iZ S) x) (m':∀x,x ∈ T' ↔ eZ T ((lk p).map sC) x) (x:Str × Str):x ∈ T' ↔ eZ L (Ik.iZ (S++[p])) x:=by
 rw[qq]at nd ⊢;have dj:=(JI.mp nd).2.2;rw[m'];unfold eZ;rw[m];unfold eZ;rw[JB];have d:x ∈ Ik.iZ S->x ∈ (lk p).map sC->False:=fun h1 h2=>dj x h1 x h2 rfl
 by_cases h1:x ∈ L<;>by_cases h2:x ∈ Ik.iZ S<;>by_cases h3:x ∈ (lk p).map sC<;>simp[h1,h2,h3]
 ·exact d h2 h3
 ·exact d h2 h3
theorem uw (a:kj A) (b:kj B) (h:o9 A B P) (pm:S.Perm P) (x:Str × Str):(eZ A (Ik.iZ S) x ↔ x ∈ B)/\(eZ B (Ik.iZ S) x ↔ x ∈ A):=by
 have e:x ∈ Ik.iZ S ↔ (x ∈ A/\x ∉ B)\/(x ∈ B/\x ∉ A):=by
  have:x ∈ Ik.iZ S ↔ x ∈ Ik.iZ P:=(pm.map _).flatten.mem_iff;rw[this,o9.links a b h,JB,az,az]
 unfold eZ;rw[e]
 by_cases h1:x ∈ A<;>by_cases h2:x ∈ B<;>simp[h1,h2]
end
section
variable {A B T:NU} {P S Q:List (Bool × List Str)}
theorem cW.u7 (h:cW A B P S) (pT:kj T) (m:∀x,x ∈ T ↔ Due A B (flat S) x) (x y:Str):(aC (mt (alone A T)) x=some y ↔ aC (mt (alone A B)) x=some y/\x ∈ flat S)/\(aC (mt (alone T A)) x=some y ↔ aC (mt (alone B A)) x=some y/\x ∈ flat S):=by
 have k1:∀z:Str × Str,z ∈ alone A T ↔ z ∈ alone A B/\z.1 ∈ flat S:=fun z=>by
  rw[az,az,m];constructor
  ·rintro⟨h1,h2⟩
   have hz:z.1 ∈ flat S:=Mu fun q=>h2 (.inl ⟨h1,q⟩);exact⟨⟨h1,fun q=>h2 (.inr ⟨q,hz⟩)⟩,hz⟩
  ·rintro⟨⟨h1,h2⟩,h3⟩
   exact⟨h1,fun q=>q.elim (fun q=>q.2 h3) (fun q=>h2 q.1)⟩
 have k2:∀z:Str × Str,z ∈ alone T A ↔ z ∈ alone B A/\z.1 ∈ flat S:=fun z=>by
  rw[az,az,m];constructor
  ·rintro⟨h1,h2⟩
   rcases h1 with q | q
   ·exact absurd q.1 h2
   ·exact⟨⟨q.1,h2⟩,q.2⟩
  ·rintro⟨⟨h1,h2⟩,h3⟩
   exact⟨.inr ⟨h1,h3⟩,h2⟩
 rw[aX h.a.alone.nd,aX h.a.alone.nd,aX pT.alone.nd,aX h.b.alone.nd,k1,k1,k2,k2];constructor
 ·constructor
  ·rintro(q | q)
   ·exact⟨.inl q.1,q.2⟩
   ·exact⟨.inr q.1,(h.sym (.inl q.1)).mp q.2⟩
  ·rintro⟨q | q,z⟩
   ·exact .inl ⟨q,z⟩
   ·exact .inr ⟨q,(h.sym (.inl q)).mpr z⟩
 ·constructor
  ·rintro(q | q)
   ·exact⟨.inl q.1,q.2⟩
   ·exact⟨.inr q.1,(h.sym (.inr q.1)).mp q.2⟩
  ·rintro⟨q | q,z⟩
   ·exact .inl ⟨q,z⟩
   ·exact .inr ⟨q,(h.sym (.inr q)).mpr z⟩
theorem jj {P:List (Bool × List Str)} (ne:∀p ∈ P,p.2 ≠ []) (nd:(flat P).Nodup):P.Nodup:=by
 induction P with
 | nil=>exact .nil
 | cons p r ih=>
  have nd:(p.2++flat r).Nodup:=nd;obtain⟨n1,n2,n3⟩:=JI.mp nd;refine JN.mpr ⟨fun m=>?_,ih (fun q hq=>ne q (Jo _ hq)) n2⟩;cases e:p.2 with
  | nil=>exact ne p Js e
  | cons x t=>exact n3 x (by rw[e];simp) x (bA.mpr ⟨p,m,by rw[e];simp⟩) rfl
theorem cL.ne {f g:Str->Option Str} {p:Bool × List Str} (h:cL f g p):p.2 ≠ []:=fun z=>by
 obtain⟨s,e⟩:=js h;rw[z]at e;cases e
theorem cW.back (h:cW A B P S) (pT:kj T) (m:∀x,x ∈ T ↔ Due A B (flat S) x) (hq:qu (aC (mt (alone A T))) (aC (mt (alone T A))) Q):Q.Perm S:=by
 obtain⟨P0,ss,ks,K,L,pm,_⟩:=hq;have t:=cO h.a h.b;have t':=cO h.a pT;have ok:∀q ∈ Q,cL (aC (mt (alone A T))) (aC (mt (alone T A))) q:=fun q hq=>L.so.ok q (pm.mem_iff.mp hq)
 have mem:∀x,(aC (mt (alone A T)) x ≠ none\/aC (mt (alone T A)) x ≠ none)->x ∈ flat S:=fun x hx=>by
  rcases hx with hx | hx
  ·cases e:aC (mt (alone A T)) x with
   | none=>exact absurd e hx
   | some y=>exact((h.u7 pT m x y).1.mp e).2
  ·cases e:aC (mt (alone T A)) x with
   | none=>exact absurd e hx
   | some y=>exact((h.u7 pT m x y).2.mp e).2
 have same:∀x ∈ flat S,aC (mt (alone A T)) x=aC (mt (alone A B)) x/\aC (mt (alone T A)) x=aC (mt (alone B A)) x:=fun x hx=>by
  constructor
  ·refine Option.ext fun y=>?_;exact(h.u7 pT m x y).1.trans ⟨fun z=>z.1,fun z=>⟨z,hx⟩⟩
  ·refine Option.ext fun y=>?_;exact(h.u7 pT m x y).2.trans ⟨fun z=>z.1,fun z=>⟨z,hx⟩⟩
 have conv:∀q ∈ Q,cL (aC (mt (alone A B))) (aC (mt (alone B A))) q:=fun q hq=>cL.Ej (fun x hx=>same x (mem x ((ok q hq).Cq t' hx))) (ok q hq)
 have okS:∀p ∈ S,cL (aC (mt (alone A B))) (aC (mt (alone B A))) p:=fun p hp=>h.p.ok p (h.sub p hp);have ndQ:(flat Q).Nodup:=(pm.map _).flatten.nodup_iff.mpr L.so.nd;have oQ:∀q ∈ Q,AN q:=fun q hq=>L.or q (pm.mem_iff.mp hq);refine j_ (jj (fun q hq=>cL.ne (ok q hq)) ndQ) (jj (fun p hp=>cL.ne (okS p hp)) h.nd) fun q=>⟨fun hq=>?_,fun hq=>?_⟩
 ·obtain⟨s,e⟩:=js (ok q hq);have sq:s ∈ q.2:=Jp e;obtain⟨p,hp,sp⟩:=bA.mp (mem s ((ok q hq).Cq t' sq));rw[cL.canon t (conv q hq) (okS p hp) (oQ q hq) (h.p.od p (h.sub p hp)) sq sp];exact hp
 ·obtain⟨s,e⟩:=js (okS q hq);have sq:s ∈ q.2:=Jp e;have sS:s ∈ flat S:=bA.mpr ⟨q,hq,sq⟩;have:s ∈ flat P0:=L.all K (by rw[(same s sS).1,(same s sS).2];exact(okS q hq).Cq t sq);have:s ∈ flat Q:=(pm.map _).flatten.mem_iff.mpr this;obtain⟨p,hp,sp⟩:=bA.mp this;rw[cL.canon t (okS q hq) (conv p hp) (h.p.od q (h.sub q hq)) (oQ p hp) sq sp];exact hp
theorem rh {A B:NU} {P Q:List (Bool × List Str)} (a:kj A) (b:kj B) (h:o9 A B P) (k:o9 B A Q):P.length<=Q.length:=by
 have t:=cO a b
 have ex:∀p ∈ P,∃q ∈ Q,∃s,p.2[0]?=some s/\s ∈ q.2:=fun p hp=>by
  obtain⟨s,e⟩:=js (h.ok p hp);obtain⟨q,hq,sq⟩:=bA.mp (k.al s ((h.ok p hp).Cq t (Jp e)).symm);exact⟨q,hq,s,e,sq⟩
 let φ:Bool × List Str->Bool × List Str:=fun p=>if hp:p ∈ P then(ex p hp).choose else p
 have φs:∀p (hp:p ∈ P),φ p ∈ Q/\∃s,p.2[0]?=some s/\s ∈ (φ p).2:=fun p hp=>by
  have:=(ex p hp).choose_spec;have e:φ p=(ex p hp).choose:=dif_pos hp;rw[e];exact this
 have ndP:=jj (fun p hp=>cL.ne (h.ok p hp)) h.nd
 have inj:(P.map φ).Nodup:=by
  refine Ku.mpr (ndP.imp_of_mem fun{p q} hp hq ne e=>ne ?_);obtain⟨m1,s,e1,s1⟩:=φs p hp;obtain⟨_,s',e2,s2⟩:=φs q hq;rw[<-e]at s2;have c:=k.ok _ m1
  -- both firsts lie in one part of the other side, which lies in the first's part
  have:s' ∈ p.2:=cL.into t.swap c (fun x hx y hy=>cL.cl t (h.ok p hp) x hx y hy.symm) s1 (Jp e1) s' s2;exact mU h.nd p hp q hq s' this (Jp e2)
 have:=inj.length_le_of_subset (l₂:=Q) fun x hx=>by
  obtain⟨p,hp,rfl⟩:=Jn.mp hx;exact(φs p hp).1
 rw[Jk]at this;exact this
end
abbrev iY:NW:=["_law_one","_law_other","_law_couples","_law_found"]
noncomputable def iS:fh:=(.cons (.asg 3 (.comp "_law_pair" [("_law_couples",2)] (.ex (.var 0)) (.var 0) (.cons (.cmp .NotIn (.idx (.var 0) (.con (.int 0))) (.var 1)) .nil))) (.cons (.ret (.blt2 .sortT (.bin .Add (.var 3) (.comp "_law_pair" [("_law_couples",2)] (.ex (.var 1)) (.var 0) (.cons (.cmp .In (.idx (.var 0) (.con (.int 0))) (.var 1)) .nil))))) .nil))
theorem ic {te:TE} {tt:TT} {fvs:L2.St} {D:Addr} {aq:Hp->Prop} {k:Hp->Prop} {H0:Hp} (f:Pr->Bool):∀ (P:List Pr) (acc:List V),(∀ l,aq (upd H0 D (.lst l)))->
  (∀ x ∈ P,∀acc R,R (f x) (upd H0 D (.lst acc))->tt (some (.ref x.1)::fvs) (upd H0 D (.lst acc)) R)->(∀ x ∈ P,∀acc Q,Q (.ref x.1) (upd H0 D (.lst acc))->te (some (.ref x.1)::fvs) (upd H0 D (.lst acc)) Q)->acc.length + P.length<=1000->
  k (upd H0 D (.lst (acc++refs (P.filter f))))->eA te tt fvs D aq (refs P) acc (upd H0 D (.lst acc)) k
 | [],acc,st,_,_,_,q=>⟨st _,ae,by simpa[refs]using q⟩
 | x::P,acc,st,ht,he,hl,q=>by
  rw[J5]at hl;refine⟨st _,ht x Js acc _ ?_⟩
  by_cases m:f x=true
  ·rw[Jj m];refine he x Js acc _ ⟨ae,by rw[Jy];omega,?_⟩;rw[dH];refine ic f P _ st (fun y hy=>ht y (Jo _ hy)) (fun y hy=>he y (Jo _ hy)) (by rw[Jw];simp;omega) ?_;rw[NL m]at q;rw[JM];exact q
  ·rw[Ji m];refine ic f P acc st (fun y hy=>ht y (Jo _ hy)) (fun y hy=>he y (Jo _ hy)) (by omega) ?_;rw[NK m]at q;exact q
theorem EH {M:Mo} {H:Hp} {q r:Addr} {P R:List Pr} {Q:VK} (h:ay H q P) (g:ay H r R) (f:P.length + R.length<=1000) (k:∀l,H l=none->M l=none->ay (upd H l (.lst (refs (P++R)))) l (P++R)->Q (.ref l) (upd H l (.lst (refs (P++R))))):nh M .Add (.ref q) (.ref r) H Q:=by
 rw[Sw.x_,ao h.at_ ai,ao g.at_ ai];refine⟨by rw[aP,aP,Jy];omega,fun l hl ml=>?_⟩;rw[cC];exact k l hl ml ⟨ae,aF.new (aF.app h.dI g.dI) hl⟩
noncomputable def kL (M:Mo):Sp:=fun vs H Q _=>∃a b c P R C,vs=[.ref a,.ref b,.ref c]/\ay H a P/\ay H b R/\H c=some (.lst (C.map V.str))/\(au P).Nodup/\(au R).Nodup/\P.length<=20/\R.length<=20/\
 ∀H' q T,Ext M H H'->ay H' q T->cx (au T)->(∀ x,x ∈ au T ↔ Due (au P) (au R) C x)->Q (.ref q) H'
theorem vq (f:Str × Str->Bool) (P:List Pr):au (P.filter fun x=>f x.2)=(au P).filter f:=by
 unfold au;rw[NN];rfl
theorem zj {M:Mo} {Γ:b0} (gm:Γ.mod=M) (gc:Γ.cm=true) (vs:List V) (H:Hp) (Q:VK) (X:XK) (h:kL M vs H Q X):eJ Γ iY 3 iS vs H Q X:=by
 obtain⟨a,b,c,P,R,C,rfl,ha,hb,hc,na,nb,fa,fb,h⟩:=h;refine⟨rfl,?_⟩;obtain rfl:=gm;unfold iS;refine seq ?_;dsimp only[Sw.wS,Sw.wE,Sw.wT,Sw.wEs,Sw.wTs,Sw.wI,Sw.wP,Sw.vars,Sw.dz,Sw.dw,Sw.cR,Sw.cQ,Sw.dq,Sw.dm,Sw.dC,Sw.dB,Sw.dt,L2.start,Sw.dY,Sw.dX,Sw.dW,Sw.dU,Nat.reduceAdd,Nat.reduceSub];refine⟨gc,bJ (ao ha.at_ ai) fun D1 h1 m1=>?_⟩;have s1:∀o,Ext Γ.mod H (upd H D1 (.lst o)):=fun o=>Ext.upd h1 m1;refine ic (H0:=H) (fun x=>!decide (x.2.1 ∈ C)) P [] (fun o=>ao (Ext.bL (s1 o) ha).at_ ai) (fun x hx acc R' q'=>?_) (fun x hx acc Q q=>q) (by simp;omega) ?_
 ·exact(kX ((s1 acc).same _ _ (ha.dI x hx))).1 (mv (ao ((s1 acc).same _ _ hc) ai) ⟨_,rfl,q'⟩)
 rw[Kk];have pa:ay (upd H D1 (.lst (refs (P.filter fun x=>!decide (x.2.1 ∈ C))))) D1 (P.filter fun x=>!decide (x.2.1 ∈ C)):=⟨ae,aF.new (fun y hy=>ha.dI y (J2.mp hy).1) h1⟩;have x4:=s1 (refs (P.filter fun x=>!decide (x.2.1 ∈ C)));have ea:=vq (fun x=>!decide (x.1 ∈ C)) P;have la:=Ks (fun x:Pr=>!decide (x.2.1 ∈ C)) P;generalize (P.filter fun x=>!decide (x.2.1 ∈ C))=PA at pa x4 ea la;generalize upd H D1 (.lst (refs PA))=H4 at pa x4;dsimp only[Sw.wSs,Sw.wS,Sw.wE,Sw.wT,Sw.wEs,Sw.wTs,Sw.wI,Sw.wP,Sw.vars,Sw.dz,Sw.dw,Sw.cR,Sw.cQ,Sw.dq,Sw.dm,Sw.dC,Sw.dB,Sw.dt,L2.start,Sw.dY,Sw.dX,Sw.dW,Sw.dU,Nat.reduceAdd,Nat.reduceSub];have hb4:=Ext.bL x4 hb;refine⟨gc,gc,bJ (ao hb4.at_ ai) fun D2 h2 m2=>?_⟩;have s2:∀o,Ext Γ.mod H4 (upd H4 D2 (.lst o)):=fun o=>Ext.upd h2 m2;refine ic (H0:=H4) (fun x=>decide (x.2.1 ∈ C)) R [] (fun o=>ao (Ext.bL (s2 o) hb4).at_ ai) (fun x hx acc R' q'=>?_) (fun x hx acc Q q=>q) (by simp;omega) ?_
 ·exact(kX ((s2 acc).same _ _ (hb4.dI x hx))).1 (vn (ao ((x4.trans (s2 acc)).same _ _ hc) ai) ⟨_,rfl,q'⟩)
 rw[Kk];have pb:ay (upd H4 D2 (.lst (refs (R.filter fun x=>decide (x.2.1 ∈ C))))) D2 (R.filter fun x=>decide (x.2.1 ∈ C)):=⟨ae,aF.new (fun y hy=>hb4.dI y (J2.mp hy).1) h2⟩;have x5:=s2 (refs (R.filter fun x=>decide (x.2.1 ∈ C)));have eb:=vq (fun x=>decide (x.1 ∈ C)) R;have lb:=Ks (fun x:Pr=>decide (x.2.1 ∈ C)) R;generalize (R.filter fun x=>decide (x.2.1 ∈ C))=PB at pb x5 eb lb;generalize upd H4 D2 (.lst (refs PB))=H5 at pb x5;refine EH (Ext.bL x5 pa) pb (by omega) fun du hdu mdu pd_=>?_;have x6:=Ext.upd (M:=Γ.mod) (H:=H5) (o:=.lst (refs (PA++PB))) hdu mdu;generalize upd H5 du (.lst (refs (PA++PB)))=H6 at pd_ x6
 have mem:∀x,x ∈ au (PA++PB) ↔ Due (au P) (au R) C x:=fun x=>by
  have:au (PA++PB)=au PA++au PB:=by unfold au;rw[JA]
  rw[this,JB,ea,eb,J2,J2];unfold Due;simp
 have nd:(au (PA++PB)).Nodup:=by
  have:au (PA++PB)=au PA++au PB:=by unfold au;rw[JA]
  rw[this,ea,eb];refine JI.mpr ⟨na.filter _,nb.filter _,fun x hx y hy e=>?_⟩;subst e;have h1:=(J2.mp hx).2;have h2:=(J2.mp hy).2;simp at h1 h2;exact h1 h2
 refine iK pd_ nd (by rw[Jw];omega) fun T q pm sD hq mq=>?_;refine h _ q T (((x4.trans x5).trans x6).trans (Ext.upd hq mq)) ⟨ae,aF.new (fun y hy=>pd_.dI y (pm.mem_iff.mp hy)) hq⟩ sD fun x=>?_;have k:x ∈ au T ↔ x ∈ au (PA++PB):=(pm.map (·.2)).mem_iff;rw[k,mem]
noncomputable def rN (p:Bool × List Str):Str × Str:=(word p.1,p.2.headD ⟨#[]⟩)
theorem gD {M:Mo} {H:Hp} {F:List Fp} (fa:uq H F) {x:Fp} (hx:x ∈ F) (ne:x.2.2.2 ≠ []):cg M H (.ref x.1)=some (rN (x.2.2.1,x.2.2.2)):=by
 obtain⟨f1,f2⟩:=fa x hx
 show(match rd M H x.1 with
  | some (.tup [.str w,.ref q])=>(match rd M H q with
   | some (.lst xs)=>(match allM o5 xs with | some (h::_)=>some (w,h) | _=>none)
   | _=>none)
  | _=>none)=_
 rw[ao f1 bG];dsimp only;rw[ao f2 ai];dsimp only
 have e:allM o5 (x.2.2.2.map V.str)=some x.2.2.2:=by
  have:=allM_map (f:=o5) (g:=V.str) (k:=id) (l:=x.2.2.2) fun _ _=>rfl;rw[List.map_id]at this;exact this
 rw[e];cases q:x.2.2.2 with
 | nil=>exact absurd q ne
 | cons h r=>rfl
theorem pY {P:List (Bool × List Str)} (ne:∀p ∈ P,p.2 ≠ []) (nd:(flat P).Nodup):∀p ∈ P,∀q ∈ P,(rN p).2=(rN q).2->p=q:=fun p hp q hq e=>by
 have hd:∀p ∈ P,(rN p).2 ∈ p.2:=fun p hp=>by
  show p.2.headD _ ∈ p.2;cases z:p.2 with
  | nil=>exact absurd z (ne p hp)
  | cons a r=>exact Js
 exact mU nd p hp q hq _ (hd p hp) (e ▸ hd q hq)
theorem Ae:∀ {F:List Fp},(∀ p ∈ aE F,p.2 ≠ [])->(flat (aE F)).Nodup->∀x ∈ F,∀y ∈ F,(x.2.2.1,x.2.2.2)=(y.2.2.1,y.2.2.2)->x=y
 | [],_,_,x,hx,_,_,_=>nomatch hx
 | a::r,ne,nd,x,hx,y,hy,e=>by
  have nd:(a.2.2.2++flat (aE r)).Nodup:=nd;obtain⟨n1,n2,n3⟩:=JI.mp nd;have nea:a.2.2.2 ≠ []:=ne (a.2.2.1,a.2.2.2) Js
  have out:∀z ∈ r,(a.2.2.1,a.2.2.2)=(z.2.2.1,z.2.2.2)->False:=fun z hz e=>by
   have e:a.2.2.2=z.2.2.2:=congrArg (fun p:Bool × List Str=>p.2) e;cases q:a.2.2.2 with
   | nil=>exact nea q
   | cons h t=>exact n3 h (by rw[q];simp) h (bA.mpr ⟨(z.2.2.1,z.2.2.2),Jn.mpr ⟨z,hz,rfl⟩,by show h ∈ z.2.2.2;rw[<-e,q];simp⟩) rfl
  rcases Jx.mp hx with h1 | h1<;>rcases Jx.mp hy with h2 | h2
  ·rw[h1,h2]
  ·exact(out y h2 (h1 ▸ e)).elim
  ·exact(out x h1 (h2 ▸ e.symm)).elim
  ·exact Ae (fun p hp=>ne p (Jo _ hp)) n2 x h1 y h2 e
theorem rE {α β:Type} {k:α->β}:∀ {L1 L2:List α},(∀ a ∈ L1,∀b ∈ L2,k a=k b->a=b)->L1.map k=L2.map k->L1=L2
 | [],[],_,_=>rfl
 | [],_::_,_,h=>by cases h
 | _::_,[],_,h=>by cases h
 | a::r,b::t,inj,h=>by
  rw[JF,JF]at h;injection h with h1 h2
  rw[inj a Js b Js h1,rE (fun x hx y hy=>inj x (Jo _ hx) y (Jo _ hy)) h2]
theorem lM {M:Mo} {H:Hp} {l:Addr} {F:List Fp} {Q:VK} (hl:H l=some (.lst (aB F))) (fa:uq H F) (bK:F.length < 64) (ne:∀p ∈ aE F,p.2 ≠ []) (nd:(flat (aE F)).Nodup)
  (h:∀F' q,F'.Perm F->cx ((aE F').map rN)->H q=none->M q=none->Q (.ref q) (upd H q (.lst (aB F')))):Dg M .sortP (.ref l) H Q:=by
 show(match rd M H l with
  | some (.lst xs)=>(xs.length < 64/\xs.all (fun x=>(cg M H x).isSome)=true/\∀x ∈ xs,∀y ∈ xs,∀a b,cg M H x=some a->cg M H y=some b->a.2=b.2->x=y)/\∀ws l,List.Perm ws xs->ws.Pairwise (fun x y=>∀a b,cg M H x=some a->cg M H y=some b->eS b a=false)->H l=none->M l=none->Q (.ref l) (upd H l (.lst ws))
  | _=>False)
 rw[ao hl ai];have pn:∀x ∈ F,x.2.2.2 ≠ []:=fun x hx=>ne (x.2.2.1,x.2.2.2) (Jn.mpr ⟨x,hx,rfl⟩);have pin:∀x ∈ F,(x.2.2.1,x.2.2.2) ∈ aE F:=fun x hx=>Jn.mpr ⟨x,hx,rfl⟩;refine⟨⟨by unfold aB;rw[Jk];exact bK,?_,fun v hv u hu a b ha hb e=>?_⟩,fun ws q pm pw hq mq=>?_⟩
 ·rw[KA];intro v hv;obtain⟨x,hx,rfl⟩:=Jn.mp hv;rw[gD fa hx (pn x hx)];rfl
 ·obtain⟨x,hx,rfl⟩:=Jn.mp hv;obtain⟨y,hy,rfl⟩:=Jn.mp hu;rw[gD fa hx (pn x hx)]at ha;rw[gD fa hy (pn y hy)]at hb;cases ha
  cases hb
  rw[Ae ne nd x hx y hy (pY ne nd _ (pin x hx) _ (pin y hy) e)]
 ·obtain⟨F',p1,rfl⟩:=ji (φ:=fun x:Fp=>V.ref x.1) pm;refine h F' q p1 ?_ hq mq;have sub:∀x ∈ F',x ∈ F:=fun x hx=>p1.mem_iff.mp hx
  have kn:((aE F').map rN).Nodup:=by
   have pmp:(aE F').Perm (aE F):=p1.map _;have:(aE F').Nodup:=pmp.nodup_iff.mpr (jj ne nd);refine Ku.mpr (this.imp_of_mem fun{a b} ha hb n e=>n ?_);exact pY ne nd a (pmp.mem_iff.mp ha) b (pmp.mem_iff.mp hb) (congrArg (·.2) e)
  refine jQ ?_ kn;unfold aE;rw[JT,Ku];rw[Ku]at pw;exact pw.imp_of_mem fun{x y} hx hy z=>z _ _ (gD fa (sub x hx) (pn x (sub x hx))) (gD fa (sub y hy) (pn y (sub y hy)))
noncomputable def IF (p:Bool × List Str):PyData:=.tuple [.str (word p.1),.list (p.2.map PyData.str)]
theorem mZ {M:Mo} {H:Hp} {l:Addr} {F:List Fp} (h:H l=some (.lst (aB F))) (fa:uq H F):data M H 16 (.ref l)=some (.list ((aE F).map IF)):=by
 unfold Sw.data;rw[ao h ai];dsimp only;unfold aB aE;rw[allM_map (k:=fun z:Fp=>IF (z.2.2.1,z.2.2.2)) fun z hz=>?_]
 ·rw[JT];rfl
 ·obtain⟨f1,f2⟩:=fa z hz;unfold Sw.data;rw[ao f1 bG];dsimp only;unfold Sw.allM;rw[jw];unfold Sw.allM;rw[xt (ao f2 ai) 13];rfl
theorem eq_data {M:Mo} {H:Hp} {l m:Addr} {d:PyData} {Q:VK} (a:data M H 16 (.ref l)=some d) (b:data M H 16 (.ref m)=some d) (k:Q (.bl true) H):cT M .Eq (.ref l) (.ref m) H Q:=by
 have e:=jY _ _ _ a;show if jg (.ref l) (.ref m)=true then Q (.bl (decide (V.ref l=V.ref m))) H else(match data M H 16 (.ref l),data M H 16 (.ref m)with | some d,some e=>Q (.bl (PyData.eqv d e)) H | _,_=>False)
 rw[Dz,Ji (by decide),a,b];dsimp only;rw[e];exact k
theorem FU {M:Mo} {H:Hp} {p q:Addr} {P R:List Pr} {Q:VK} (a:ay H p P) (b:ay H q R) (e:au P=au R) (h:Q (.bl false) H):cT M .NotEq (.ref p) (.ref q) H Q:=by
 show if jg (.ref p) (.ref q)=true then Q (.bl (!decide (V.ref p=V.ref q))) H else(match data M H 16 (.ref p),data M H 16 (.ref q)with | some d,some e=>Q (.bl (!PyData.eqv d e)) H | _,_=>False)
 rw[Dz,Ji (by decide),h_ a 14,h_ b 14];dsimp only;rw[oO,JV e];exact h
theorem jS {E:List Ent} {L:NU} (ok:gk (cont E)) (p:aG E L):∀v ∈ ends L,v ∈ E.map (·.1):=fun v hv=>by
 have key:∀a b,b ∈ Gw.nE E a->b ∈ E.map (·.1):=fun a b h=>by
  have:=ok.cl a b (by rw[<-df];exact h);rw[show(cont E).map (·.1)=E.map (·.1)from by unfold cont;rw[JT];rfl]at this;exact this
 obtain⟨x,hx,q⟩:=qa.mp hv;have ad:=(p.sw x hx).2;rcases q with q | q
 ·rw[q];have:x.1 ∈ Gw.nE E x.2:=by rw[df]at ad ⊢;exact ok.sy _ _ ad
  exact key _ _ this
 ·rw[q];exact key _ _ ad
theorem cq {E:List Ent} {P:List Pr} (ok:gk (cont E)) (bK:E.length<=20) (p:aG E (au P)):P.length<=10:=by
 have:=p.nd.length_le_of_subset (jS ok p);rw[a_,Jk,cX]at this;omega
theorem cW.bK {A B:NU} {P S:List (Bool × List Str)} {E:List Ent} (h:cW A B P S) (ok:gk (cont E)) (bK:E.length<=20) (pa:aG E A) (pb:aG E B):(flat S).length<=20:=by
 have:=h.nd.length_le_of_subset (l₂:=E.map (·.1)) fun x hx=>by
  obtain⟨p,hp,hx⟩:=bA.mp hx;rcases(h.p.ok p (h.sub p hp)).Cq (cO h.a h.b) hx with z | z
  ·exact jS ok pa x ((gM Lq).subset ((cJ h.a.alone.nd).mp z))
  ·exact jS ok pb x ((gM Lq).subset ((cJ h.b.alone.nd).mp z))
 rw[Jk]at this;omega
theorem fU {E:List Ent} {L:NU} (p:aG E L):kj L:=⟨p.nd,fun x hx=>(p.sw x hx).1⟩
theorem cW.take {A B:NU} {P S:List (Bool × List Str)} (h:cW A B P S) (n:Nat):cW A B P (S.take n):=by
 refine⟨h.a,h.b,h.p,fun q hq=>h.sub q (KZ hq),?_⟩
 have e:flat S=flat (S.take n)++flat (S.drop n):=by
  conv=>lhs;rw[<-Kl n S]
  unfold flat;rw[JA,LP]
 have:=h.nd;rw[e]at this;exact(JI.mp this).1
abbrev e_:NW:=["_law_web_here","_law_one","_law_other","_law_some","_law_plan_here","_law_couples","_law_part"]
noncomputable def eX:fh:=(.cons (.asg 4 (.blt .list (.cons (.var 1) .nil))) (.cons (.asg 5 (.lst .nil)) (.cons (.fr 6 (.ex (.var 3)) (.cons (.asg 4 (.call "turned" (.cons (.var 4) (.cons (.var 6) .nil)))) (.cons (.exp (.mth .extend (.var 5) (.cons (.idx (.var 6) (.con (.int 1))) .nil))) (.cons (.iff (.or (.not (.call "_law_is_plan" (.cons (.var 0) (.cons (.var 4) .nil)))) (.cmp .NotEq (.var 4) (.call "_law_due" (.cons (.var 1) (.cons (.var 2) (.cons (.var 5) .nil)))))) (.cons (.ret (.con (.bl false))) .nil) .nil) .nil)))) (.cons (.ret (.cmp .Eq (.blt2 .sortP (.call "parts" (.cons (.var 1) (.cons (.var 4) .nil)))) (.blt2 .sortP (.var 3)))) .nil))))
theorem lY {F:List Fp} {n:Nat} {x:Fp} (h:F[n]?=some x):(aE F)[n]?=some (x.2.2.1,x.2.2.2):=by
 unfold aE;rw[JJ,h];rfl
theorem dO {F:List Fp} {n:Nat} {x:Fp} (h:F[n]?=some x):(aE F).take (n + 1)=(aE F).take n++[(x.2.2.1,x.2.2.2)]:=by
 rw[L9,lY h];rfl
theorem dZ (F:List Fp):(aE F).length=F.length:=Jk _
theorem _root_.Sw.eK.uX {M:Mo} {H H':Hp} {p:Addr} {P:List Pr} (x:eK M H H') (h:ay H p P):ay H' p P:=⟨x.same _ _ h.at_ (fun _ z=>nomatch z),fun y hy=>x.same _ _ (h.dI y hy) (fun _ z=>nomatch z)⟩
theorem _root_.Sw.eK.xi {M:Mo} {H H':Hp} {F:List Fp} (x:eK M H H') (h:uq H F):uq H' F:=fun y hy=>⟨x.same _ _ (h y hy).1 (fun _ z=>nomatch z),x.same _ _ (h y hy).2 (fun _ z=>nomatch z)⟩
theorem _root_.Sw.eK.Fd {M:Mo} {H H':Hp} {w:Addr} {E:List Ent} (x:eK M H H') (W:bu H w E):bu H' w E:=
 ⟨x.same _ _ W.top (fun _ z=>nomatch z),fun e he=>x.same _ _ (W.row e he) (fun _ z=>nomatch z),W.nd,W.keys,W.rk,W.bK,W.lR⟩
noncomputable def Bh (M:Mo) (Ts:List Tb):Sp:=fun vs H Q _=>∃w a b l E A B F Pall,vs=[.ref w,.ref a,.ref b,.ref l]/\bu H w E/\gk (cont E)/\ay H a A/\ay H b B/\aG E (au A)/\aG E (au B)/\H l=some (.lst (aB F))/\uq H F/\cW (au A) (au B) Pall (aE F)/\(∀ t ∈ Ts,TabAt H t)/\
 ∀H',eK M H H'->(∀ t ∈ Ts,TabAt H' t)->Q (.bl true) H'
structure TG (M:Mo) (Γ:b0) (Ts:List Tb):Prop where
 gm:Γ.mod=M
 gc:Γ.cm=true
 tu:Γ.has "turned" =true/\Γ.fn "turned" =fk M
 ip:Γ.has "_law_is_plan" =true/\Γ.fn "_law_is_plan" =uI M
 du:Γ.has "_law_due" =true/\Γ.fn "_law_due" =kL M
 pa:Γ.has "parts" =true/\Γ.fn "parts" =i_ M Ts
theorem lG {Γ:b0} {Ts:List Tb} {X:XK} {Q:VK} {H:Hp} {q:Addr} {T:List Pr} {x:Fp} {f g:Str->Option Str} (hu:Γ.fn "turned" =fk Γ.mod) (hq:ay H q T) (nd:(au T).Nodup) (bK:T.length<=20) (f1:H x.1=some (.tup [.str (word x.2.2.1),.ref x.2.1])) (f2:H x.2.1=some (.lst (x.2.2.2.map V.str))) (pt:cL f g (x.2.2.1,x.2.2.2)) (l20:x.2.2.2.length<=20) (an:((lk (x.2.2.1,x.2.2.2)).map sC).Nodup)
  (h:∀H' q' T',Ext Γ.mod H H'->H q'=none->ay H' q' T'->cx (au T')->(∀ y,y ∈ au T' ↔ eZ (au T) ((lk (x.2.2.1,x.2.2.2)).map sC) y)->Q (.ref q') H'):Γ.fn "turned" [.ref q,.ref x.1] H Q X:=by
 have e:=CF pt;have e:nq (word x.2.2.1) x.2.2.2=(lk (x.2.2.1,x.2.2.2)).map sC:=e;rw[hu];refine⟨q,x.1,T,word x.2.2.1,x.2.1,x.2.2.2,rfl,hq,nd,bK,⟨ao f1 bG,ao f2 ai⟩,fun _=>cL.ne pt,l20,by rw[e];exact an,fun H' q' T' x' n' _ p' r' m' _=>h H' q' T' x' n' p' r' fun y=>?_⟩;rw[m' y,e]
theorem tD {M:Mo} {Γ:b0} {Ts:List Tb} (g:TG M Γ Ts) (vs:List V) (H:Hp) (Q:VK) (X:XK) (h:Bh M Ts vs H Q X):eJ Γ e_ 4 eX vs H Q X:=by
 obtain⟨w,a,b,l,E,A,B,F,Pall,rfl,W,ok,ha,hb,ia,ib,hl,fa,so,tb,h⟩:=h;refine⟨rfl,?_⟩;obtain⟨rfl,gc,tu,ip,du,pa⟩:=g;have fA:=cq ok W.bK ia;have fB:=cq ok W.bK ib;have sf:=so.bK ok W.bK ia ib;have okp:∀p ∈ aE F,cL (aC (mt (alone (au A) (au B)))) (aC (mt (alone (au B) (au A)))) p:=fun p hp=>so.p.ok p (so.sub p hp);have ne:∀p ∈ aE F,p.2 ≠ []:=fun p hp=>cL.ne (okp p hp);have fl:F.length<=20:=by rw[<-dZ];exact JS (mV ne) sf
 unfold eX;refine seq ?_;walk_at "s1";refine⟨gc,pW ha.at_ fun q0 h0 m0=>?_⟩;have x0:=Ext.upd (M:=Γ.mod) (H:=H) (o:=.lst (refs A)) h0 m0;have p0:ay (upd H q0 (.lst (refs A))) q0 A:=⟨ae,aF.new ha.dI h0⟩;generalize upd H q0 (.lst (refs A))=H0 at x0 p0;refine seq ?_;walk_at "s1";refine⟨by rw[Jy];simp,fun cl hcl mcl=>?_⟩;have hcl0:=x0.aQ hcl;have x1:=x0.trans (Ext.upd (M:=Γ.mod) (o:=.lst []) hcl mcl);have p1:=Ext.bL (Ext.upd (M:=Γ.mod) (o:=.lst []) hcl mcl) p0;have c1:upd H0 cl (.lst []) cl=some (.lst []):=ae;generalize upd H0 cl (.lst [])=H1 at x1 p1 c1;refine seq ?_;walk_at "s1";refine⟨gc,bJ (ao (x1.same _ _ hl) ai) ?_⟩
 refine cy (fun n σ Hk=>∃ (v6:Option V) (q:Addr) (T:List Pr),σ=[some (.ref w),some (.ref a),some (.ref b),some (.ref l),some (.ref q),some (.ref cl),v6]/\Ext Γ.mod H Hk/\ay Hk q T/\Hk cl=some (.lst ((flat ((aE F).take n)).map V.str))/\cx (au T)/\∀x,x ∈ au T ↔ eZ (au A) (iZ ((aE F).take n)) x) (fun n σ Hk z=>?_) (fun n v σ Hk D' hv pv nx ct _ _=>?_) (fun σ Hk pv=>?_)
  ⟨none,q0,A,rfl,x1,p1,c1,ia.sD,fun x=>by unfold eZ iZ;simp⟩
 ·obtain⟨_,_,_,_,z,_⟩:=z;exact ao (z.same _ _ hl) ai
 ·obtain⟨v6,q,T,rfl,y1,y2,y3,y4,y5⟩:=pv;unfold aB at hv;rw[JJ]at hv;obtain⟨x,hx,rfl⟩:=JW.mp hv;have hxp:(x.2.2.1,x.2.2.2) ∈ aE F:=Jp (lY hx);obtain⟨f1,f2⟩:=fa x (Jp hx);have sn:=so.take n;have s1:=so.take (n + 1);have iT:aG E (au T):=sn.bL ia ib y4 fun z=>(y5 z).trans (sn.Gj z).symm;have fT:=cq ok W.bK iT;have bK:(flat ((aE F).take n)).length<=20:=sn.bK ok W.bK ia ib;have few1:(flat ((aE F).take (n + 1))).length<=20:=s1.bK ok W.bK ia ib;have and1:=AH s1;rw[dO hx]at few1 and1;have cf:x.2.2.2.length<=20:=by rw[fG,Jw]at few1;exact JS (Nat.le_add_left _ _) few1
  have an:((lk (x.2.2.1,x.2.2.2)).map sC).Nodup:=by have z:=and1;rw[qq]at z;exact(JI.mp z).2.1
  refine seq ?_;walk_at "s1";refine⟨⟨gc,tu.1⟩,lG (Ts:=Ts) tu.2 y2 (dN y4) (by omega) (y1.same _ _ f1) (y1.same _ _ f2) (okp _ hxp) cf an fun H3 q2 T2 x3 n3 p3 r3 m3=>?_⟩;have y3':=y1.trans x3;refine seq ?_;walk_at "s1";refine⟨gE (x3.same _ _ y3),(Er (y3'.same _ _ f1)).2 (fH (x3.same _ _ y3) (y3'.same _ _ f2) (by rw[Jk,Jk,Jy];omega) ?_)⟩;have x4:=y3'.cn (o:=.lst ((flat ((aE F).take n)).map V.str++x.2.2.2.map V.str)) hcl0 mcl
  have c4:upd H3 cl (.lst ((flat ((aE F).take n)).map V.str++x.2.2.2.map V.str)) cl=some (.lst ((flat ((aE F).take (n + 1))).map V.str)):=by
   rw[ae,dO hx,fG,JA]
  have ncq:q2 ≠ cl:=fun z=>by rw[z,y3]at n3;cases n3
  have p4:ay (upd H3 cl (.lst ((flat ((aE F).take n)).map V.str++x.2.2.2.map V.str))) q2 T2:=⟨by rw[af ncq];exact p3.at_,aF.upd p3.dI (x3.same _ _ y3)⟩;generalize upd H3 cl (.lst ((flat ((aE F).take n)).map V.str++x.2.2.2.map V.str))=H4 at x4 c4 p4
  have m4:∀z,z ∈ au T2 ↔ eZ (au A) (iZ ((aE F).take (n + 1))) z:=fun z=>by
   rw[dO hx];exact lr and1 y5 m3 z
  have i2:aG E (au T2):=s1.bL ia ib r3 fun z=>(m4 z).trans (s1.Gj z).symm;have f2':=cq ok W.bK i2;refine seq ?_;walk_at "s1";refine⟨⟨gc,ip.1⟩,?_⟩;rw[ip.2];refine⟨w,q2,E,T2,rfl,Ext.nD x4 W,p4,by omega,fun H5 k x5 hk=>?_⟩;have ek:k=true:=hk.mpr i2;subst ek
  try dsimp only
  rw[Sw.pC,Ji (by decide)];refine⟨⟨gc,du.1⟩,?_⟩;rw[du.2];have x45:=x4.trans x5;refine⟨a,b,cl,A,B,_,rfl,Ext.bL x45 ha,Ext.bL x45 hb,x5.same _ _ c4,ia.IG,ib.IG,by omega,by omega,fun H6 q6 T6 x6 p6 r6 m6=>?_⟩;refine FU (Ext.bL (x5.trans x6) p4) p6 (eN r3 r6 fun z=>by rw[m4 z,m6 z];exact(s1.Gj z).symm) ⟨_,rfl,?_⟩;rw[Ji (by decide)];exact oi (nx _ _ ⟨_,q2,T2,rfl,x45.trans x6,Ext.bL (x5.trans x6) p4,x6.same _ _ (x5.same _ _ c4),r3,m4⟩)
 ·obtain⟨v6,q,T,rfl,y1,y2,y3,y4,y5⟩:=pv;have el:(aB F).length=(aE F).length:=by unfold aB aE;rw[Jk,Jk]
  rw[el,KC]at y5;have iT:aG E (au T):=so.bL ia ib y4 fun z=>(y5 z).trans (so.Gj z).symm;have fT:=cq ok W.bK iT;walk_at "sw";refine⟨gc,⟨gc,pa.1⟩,?_⟩;rw[pa.2];refine⟨a,q,A,T,rfl,Ext.bL y1 ha,y2,fU ia,fU iT,fA,fT,fun t ht=>fQ y1 (tb t ht),fun H2 l2 F2 x2 t2 n2 m2 hl2 fa2 po=>?_⟩;have pm:=so.back (fU iT) (fun z=>(y5 z).trans (so.Gj z).symm) po;have ne2:∀p ∈ aE F2,p.2 ≠ []:=fun p hp=>ne p (pm.mem_iff.mp hp);have nd2:(flat (aE F2)).Nodup:=(pm.map _).flatten.nodup_iff.mpr so.nd;have fl2:F2.length<=20:=by rw[<-dZ,pm.length_eq,dZ];exact fl
  refine lM hl2 fa2 (by omega) ne2 nd2 fun F3 l3 pm3 r3 h3 m3=>?_;have x3:=Ext.upd (M:=Γ.mod) (H:=H2) (o:=.lst (aB F3)) h3 m3;have hl3:upd H2 l3 (.lst (aB F3)) l3=some (.lst (aB F3)):=ae;have fa3:uq (upd H2 l3 (.lst (aB F3))) F3:=fun z hz=>(fa2.ext x3) z (pm3.mem_iff.mp hz);generalize upd H2 l3 (.lst (aB F3))=H3 at x3 hl3 fa3;have xl:=(hX y1).lI (x2.lI (hX x3));refine⟨gc,lM (xl.same _ _ hl (fun _ z=>nomatch z)) (xl.xi fa) (by omega) ne so.nd fun F4 l4 pm4 r4 h4 m4=>?_⟩;have x4:=Ext.upd (M:=Γ.mod) (H:=H3) (o:=.lst (aB F4)) h4 m4;have fa4:uq (upd H3 l4 (.lst (aB F4))) F4:=fun z hz=>((xl.xi fa).ext x4) z (pm4.mem_iff.mp hz)
  have e34:aE F3=aE F4:=by
   have p3:(aE F3).Perm (aE F2):=pm3.map _;have p4:(aE F4).Perm (aE F):=pm4.map _;have p34:(aE F3).Perm (aE F4):=(p3.trans pm).trans p4.symm;refine rE (k:=rN) (fun u hu v hv e=>pY ne so.nd u ((p3.trans pm).mem_iff.mp hu) v (p4.mem_iff.mp hv) (congrArg (·.2) e)) ?_;exact eN r3 r4 fun z=>(p34.map rN).mem_iff
  have d3:=mZ (M:=Γ.mod) (x4.same _ _ hl3) (fa3.ext x4);have d4:=mZ (M:=Γ.mod) (l:=l4) ae fa4;rw[e34]at d3;exact eq_data d3 d4 (h _ (xl.lI (hX x4)) fun t ht=>fQ x4 (fQ x3 (t2 t ht)))
end Ik
namespace Gk
open PySem PySem.Spec PyProof.Rows L2 Sw Gw
noncomputable def zR (g:List Nat):List Str->List Nat
 | []=>[]
 | x::r=>cps x++(r.map fun p=>g++cps p).flatten
theorem oJ (g:Array Nat):∀ (ps:NW) (acc:Array Nat),(ps.foldl (fun acc p=>acc++g++p.cps) acc).toList=acc.toList++(ps.map fun p=>g.toList++cps p).flatten
 | [],acc=>by simp
 | p::r,acc=>by
  rw[NM,oJ g r];simp[cps]
theorem AA (sep:Str) (l:NW):cps (Txt.join sep l)=zR (cps sep) l:=by
 cases l with
 | nil=>rfl
 | cons x r=>
  show((r.foldl (fun acc p=>acc++sep.cps++p.cps) x.cps)).toList=_;rw[oJ];rfl
theorem w4:∀l:NW,zR [] l=(l.map cps).flatten
 | []=>rfl
 | x::r=>by simp[zR]
theorem rT (n B:Nat):∀ (l:NW) (a:Nat),(∀ x ∈ l,x.length<=B)->l.foldl (fun a (x:Str)=>a + x.length + n) a<=a + l.length * (B + n)
 | [],a,h=>by simp
 | x::r,a,h=>by
  rw[NM];refine JS (rT n B r _ fun y hy=>h y (Jo _ hy)) ?_;have:=h x Js;rw[J5,Nat.succ_mul];omega
theorem Ep (sep:Str) (l:NW) (B:Nat) (h:∀x ∈ l,x.length<=B) (hb:l.length * (B + sep.length)<=16777216):JoinOk sep l=true:=by
 unfold JoinOk Builtin.Str.tooLong;have z:=rT sep.length B l 0 h;rw[List.foldl_toArray];simp only[LH,MD,gt_iff_lt,MA];rw[Jy];omega
theorem join_one (cs:List Nat) (h:cs.length<=8):JoinOk (Str.ofString "") (cs.map fun c=>(⟨#[c]⟩:Str))=true/\(Txt.join (Str.ofString "") (cs.map fun c=>(⟨#[c]⟩:Str))).cps.toList=cs:=by
 refine⟨Ep _ _ 1 (fun x hx=>?_) ?_,?_⟩
 ·obtain⟨c,_,rfl⟩:=Jn.mp hx;exact JG 1
 ·rw[Jk,show(Str.ofString "").length=0 from rfl];omega
 ·have e:=AA (Str.ofString "") (cs.map fun c=>(⟨#[c]⟩:Str));rw[show cps (Str.ofString "")=[]from rfl,w4,JT]at e
  have e2:∀l:List Nat,(l.map (cps ∘ fun c=>(⟨#[c]⟩:Str))).flatten=l:=fun l=>by
   induction l with
   | nil=>rfl
   | cons c r ih=>
    rw[JF,List.flatten_cons,ih];rfl
  rw[e2]at e;exact e
noncomputable def lc (i:Int):Nat:=97 + i.toNat
noncomputable def p0 (c:Int) (j:Nat):Int:=wH c (10 + j) % 26
noncomputable def ud (c:Int):Int:=wH c 7 % 8
structure Nm (c:Int) (k:Nat) (x:Str) (L:List Int):Prop where
 tx:x.cps.toList=L.map lc
 fst:c % 3 < 2->L[(ud c).toNat]?=some ((p0 c (ud c).toNat + k) % 26)
 snd:¬c % 3 < 2->L.length=(1 + (ud c + k) % 8).toNat/\L[0]?=some ((p0 c 0 + k / 8) % 26)
theorem Nm.ne {c:Int} {k k':Nat} {x:Str} {L L':List Int} (n:Nm c k x L) (n':Nm c k' x L') (h:k < 20) (h':k' < 20):k=k':=by
 have e:L.map lc=L'.map lc:=n.tx.symm.trans n'.tx
 have ix:∀ (i:Nat) (a b:Int),0<=a->0<=b->L[i]?=some a->L'[i]?=some b->a=b:=fun i a b ha hb h1 h2=>by
  have:=congrArg (fun l=>l[i]?) e;simp only[JJ,h1,h2,K5]at this;have z:=JL this;unfold lc at z;omega
 by_cases q:c % 3 < 2
 ·have:=ix _ _ _ (by omega) (by omega) (n.fst q) (n'.fst q);omega
 ·obtain⟨l1,f1⟩:=n.snd q;obtain⟨l2,f2⟩:=n'.snd q;have:=ix _ _ _ (by omega) (by omega) f1 f2;have ll:L.length=L'.length:=by simpa using congrArg List.length e
  rw[l1,l2]at ll;omega
noncomputable def Fc (c:Int) (ns:NW):Prop:=∀i x,ns[i]?=some x->∃L,Nm c i x L
theorem Fc.nodup {c:Int} {ns:NW} (h:Fc c ns) (bK:ns.length<=20):ns.Nodup:=by
 refine Kp.mpr fun i j hi hj lt e=>?_;obtain⟨L,n⟩:=h i _ (Jl hi);obtain⟨L',n'⟩:=h j _ (Jl hj);rw[<-e]at n';have:=n.ne n' (by omega) (by omega);omega
theorem Fc.snoc {c:Int} {ns:NW} {x:Str} {L:List Int} (h:Fc c ns) (n:Nm c ns.length x L):Fc c (ns++[x]):=fun i y e=>by
 by_cases hi:i < ns.length
 ·rw[JP hi]at e;exact h i y e
 ·rw[J1 (by omega)]at e
  have:i - ns.length=0:=by
   cases q:i - ns.length with
   | zero=>rfl
   | succ m=>rw[q]at e;simp at e
  rw[this]at e;have ei:i=ns.length:=by omega
  subst ei;cases (show some x=some y from e)
  exact⟨L,n⟩
theorem CD {i:Int} {M:Mo} {H:Hp} {Q:VK} (h0:0<=i) (h1:i < 26) (q:Q (.str ⟨#[lc i]⟩) H):c_ M (.str (Str.ofString "abcdefghijklmnopqrstuvwxyz")) (.int i) H Q:=by
 rw[C7];have e:(Str.ofString "abcdefghijklmnopqrstuvwxyz").cps.toList=(List.range 26).map (97 + ·):=by decide +kernel
 refine⟨by rw[Jy];decide +kernel,?_⟩;rw[e];unfold k_ oF;rw[Jj h0,Jj (by simp;omega),Mh,JJ,M0 (by omega)];exact q
theorem CT {H:Hp} {p:Addr} {xs:List Int} {j:Int} {v:Int} {Q:Hp->Prop} (h:H p=some (.lst (xs.map V.int))) (h0:0<=j) (h1:j < xs.length) (q:Q (upd H p (.lst ((xs.set j.toNat v).map V.int)))):vV (.ref p) (.int j) (.int v) H Q:=by
 show(match H p with
  | some (.lst xs)=>(match V.int j with | .int j=>(match oF xs.length j with | some n=>Q (upd H p (.lst (xs.set n (.int v)))) | none=>False) | _=>False)
  | some (.dK kvs)=>(match keyOf (V.int j)with | some kk=>kvs.length < sizeLine/\Q (upd H p (.dK (putK kvs kk (.int v)))) | none=>False)
  | _=>False)
 rw[h];dsimp only
 have e:oF (xs.map V.int).length j=some j.toNat:=by
  unfold oF;rw[Jj h0,Jj (by rw[Jk];exact h1)]
 rw[e];dsimp only;rw[<-List.map_set];exact q
theorem zT {M:Mo} {H:Hp} {p:Addr} {xs:List Int} {j:Int} {v:Int} {Q:VK} (h:rd M H p=some (.lst (xs.map V.int))) (h0:0<=j) (h1:xs[j.toNat]?=some v) (q:Q (.int v) H):c_ M (.ref p) (.int j) H Q:=by
 refine iA h ?_ q;unfold k_ oF;obtain⟨hj,_⟩:=Jv.mp h1;rw[Jj h0,Jj (by rw[Jk];omega),Mh,JJ,h1];rfl
theorem EF (xs:List Int) (n:Int) (h0:0<=n):iw (xs.map V.int) none (some n)=(xs.take n.toNat).map V.int:=by
 unfold iw HT.qT;dsimp only;rw[List.drop_zero,Ji (by omega),Nat.sub_zero,Nl,Jk]
 by_cases h:n.toNat<=xs.length
 ·rw[Nat.min_eq_left h]
 ·rw[Nat.min_eq_right (by omega),Lv (by simp),Lv (by simp;omega)]
abbrev gi:NW:=["_law_cell_here","_law_many","_law_letters","_law_at","_law_names_here","_law_k","_law_places","_law_size"]
noncomputable def gg:fh:=(.cons (.asg 2 (.con (.str "abcdefghijklmnopqrstuvwxyz")))
 (.cons (.asg 3 (.bin .Mod (.call "_law_mix" (.cons (.var 0) (.cons (.con (.int 7)) .nil))) (.con (.int 8))))
 (.cons (.asg 4 (.lst .nil))
 (.cons (.fr 5 (.rng1 (.var 1)) (.cons (.asg 6 (.comp "_law_j" [("_law_cell_here",0)] (.rng1 (.con (.int 8))) (.bin .Mod (.call "_law_mix" (.cons (.var 1) (.cons (.bin .Add (.con (.int 10)) (.var 0)) .nil))) (.con (.int 26))) .nil))
 (.cons (.asg 7 (.bin .Add (.bin .Add (.var 3) (.con (.int 1))) (.bin .Mod (.bin .FloorDiv (.var 0) (.con (.int 3))) (.bin .Sub (.con (.int 8)) (.var 3)))))
 (.cons (.iff (.cmp .Eq (.bin .Mod (.var 0) (.con (.int 3))) (.con (.int 1))) (.cons (.asg 7 (.bin .Add (.bin .Add (.var 3) (.con (.int 1))) (.bin .Mod (.call "_law_mix" (.cons (.var 0) (.cons (.bin .Add (.con (.int 30)) (.var 5)) .nil))) (.bin .Sub (.con (.int 8)) (.var 3)))))
  .nil) .nil)
 (.cons (.iff (.cmp .Lt (.bin .Mod (.var 0) (.con (.int 3))) (.con (.int 2))) (.cons (.sto (.var 6) (.var 3) (.bin .Mod (.bin .Add (.idx (.var 6) (.var 3)) (.var 5)) (.con (.int 26))))
  .nil) (.cons (.sto (.var 6) (.con (.int 0)) (.bin .Mod (.bin .Add (.idx (.var 6) (.con (.int 0))) (.bin .FloorDiv (.var 5) (.con (.int 8)))) (.con (.int 26))))
  (.cons (.asg 7 (.bin .Add (.con (.int 1)) (.bin .Mod (.bin .Add (.var 3) (.var 5)) (.con (.int 8)))))
  .nil)))
 (.cons (.exp (.mth .append (.var 4) (.cons (.mth .join (.con (.str "")) (.cons (.comp "_law_place" [("_law_letters",2)] (.ex (.slc (.var 6) .nil (.cons (.var 7) .nil))) (.idx (.var 1) (.var 0)) .nil) .nil)) .nil)))
 .nil))))))
 (.cons (.ret (.var 4))
 .nil)))))
noncomputable def II:V->V
 | .int i=>.str ⟨#[lc i]⟩
 | v=>v
theorem Ce (L:List Int):(L.map V.int).map II=((L.map lc).map fun c=>(⟨#[c]⟩:Str)).map V.str:=by
 rw[JT,JT,JT];rfl
theorem yk (ns:NW):allM o5 (ns.map V.str)=some ns:=by
 have:=allM_map (f:=o5) (g:=V.str) (k:=id) (l:=ns) fun _ _=>rfl;rw[List.map_id]at this;exact this
theorem Cm {M:Mo} {H:Hp} {p:Addr} {cs:List Nat} {Q:VK} (h:H p=some (.lst ((cs.map fun c=>(⟨#[c]⟩:Str)).map V.str))) (hl:cs.length<=8) (q:∀x:Str,x.cps.toList=cs->Q (.str x) H):fq M .join (.str (Str.ofString "")) [.ref p] H Q:=by
 rw[Sw.Eg,ao h ai];dsimp only;rw[yk];obtain⟨a,b⟩:=join_one cs hl;exact⟨a,q _ b⟩
theorem zv {Γ:b0} {Ξ:XS} {D':Ends} {H Hk:Hp} {q d:Addr} {L0:List Int} {ns:NW} {c n at_ sz:Int} {k:Nat} (gc:Γ.cm=true) (x:Ext Γ.mod H Hk) (q0:H q=none) (mq:Γ.mod q=none) (hq:Hk q=some (.lst (ns.map V.str))) (nl:ns.length<=20) (hd:Hk d=some (.lst (L0.map V.int))) (r:∀i ∈ L0,0<=i/\i < 26) (l8:L0.length<=8) (s0:0<=sz)
  (h:∀H' y,Ext Γ.mod H H'->H' q=some (.lst ((ns++[y]).map V.str))->y.cps.toList=(L0.take sz.toNat).map lc->D'.nx [some (.int c),some (.int n),some (.str (Str.ofString "abcdefghijklmnopqrstuvwxyz")),some (.int at_),some (.ref q),some (.int k),some (.ref d),some (.int sz)] H'):
  wSs (.cons (.exp (.mth .append (.var 4) (.cons (.mth .join (.con (.str "")) (.cons (.comp "_law_place" [("_law_letters",2)] (.ex (.slc (.var 6) .nil (.cons (.var 7) .nil))) (.idx (.var 1) (.var 0)) .nil) .nil)) .nil))) .nil) Γ Ξ D' [some (.int c),some (.int n),some (.str (Str.ofString "abcdefghijklmnopqrstuvwxyz")),some (.int at_),some (.ref q),some (.int k),some (.ref d),some (.int sz)] Hk:=by
 refine seq ?_;walk_at "s1";refine⟨gE hq,rfl,gc,?_⟩;rw[Sw.uN,ao hd ai];dsimp only;intro l hl ml;rw[EF _ _ s0];have x1:Ext Γ.mod Hk (upd Hk l (.lst ((L0.take sz.toNat).map V.int))):=Ext.upd hl ml;have hl1:upd Hk l (.lst ((L0.take sz.toNat).map V.int)) l=some (.lst ((L0.take sz.toNat).map V.int)):=ae;generalize upd Hk l (.lst ((L0.take sz.toNat).map V.int))=H1 at x1 hl1;refine bJ (ao hl1 ai) fun e he me=>?_;have x2:∀o,Ext Γ.mod H1 (upd H1 e o):=fun o=>Ext.upd he me;have tl:(L0.take sz.toNat).length<=8:=by rw[J4];omega
 refine vJ II _ [] (fun v hv acc Q' q'=>?_) (fun o=>ao ((x2 _).same _ _ hl1) ai) (by rw[Jk,Jy];simp;omega) ?_
 ·obtain⟨i,hi,rfl⟩:=Jn.mp hv;obtain⟨i0,i1⟩:=r i (KZ hi);walk_at "s1";exact CD i0 i1 q'
 ·rw[Kk,Ce];refine Cm ae (by rw[Jk];exact tl) fun y hy=>?_;have hq2:=(x1.trans (x2 (.lst (((List.map lc (L0.take sz.toNat)).map fun c=>(⟨#[c]⟩:Str)).map V.str)))).same _ _ hq;refine EO (x:=y) (ws:=ns) hq2 (by rw[Jy];omega) ?_;exact ck (h _ y (((x.trans x1).trans (x2 _)).cn q0 mq) ae hy)
noncomputable def kJ (M:Mo):Sp:=fun vs H Q _=>∃c n,vs=[.int c,.int n]/\0<=n/\n<=20/\∀H' l (ns:NW),Ext M H H'->H l=none->M l=none->H' l=some (.lst (ns.map V.str))->ns.Nodup->(ns.length:Int)=n->Q (.ref l) H'
noncomputable def xN (c:Int):List Int:=(List.range 8).map (p0 c)
theorem yN {c:Int} {j:Nat} (h:j < 8):(xN c)[j]?=some (p0 c j):=by
 unfold xN;rw[JJ,M0 h];rfl
theorem HB (c:Int) (j:Nat):0<=p0 c j/\p0 c j < 26:=⟨Km _ (by decide),Ki _ (by decide)⟩
theorem C0 {c:Int}:∀i ∈ xN c,0<=i/\i < 26:=fun i hi=>by
 obtain⟨j,_,rfl⟩:=Jn.mp hi;exact HB c j
theorem CV {L:List Int} {n:Nat} {v:Int} (r:∀i ∈ L,0<=i/\i < 26) (hv:0<=v/\v < 26):∀i ∈ L.set n v,0<=i/\i < 26:=fun i hi=>by
 rcases List.mem_or_eq_of_mem_set hi with z | z
 ·exact r i z
 ·rw[z];exact hv
theorem zg {M:Mo} {Γ:b0} (gm:Γ.mod=M) (gc:Γ.cm=true) (g2:Γ.has "_law_mix" =true/\Γ.fn "_law_mix" =ja) (vs:List V) (H:Hp) (Q:VK) (E:XK) (h:kJ M vs H Q E):eJ Γ gi 2 gg vs H Q E:=by
 obtain⟨c,n,rfl,n0,n1,h⟩:=h;refine⟨rfl,?_⟩;obtain rfl:=gm;unfold gg;refine seq ?_;walk_at "s1";refine seq ?_;walk_at "s1";refine⟨⟨gc,g2.1⟩,?_⟩;rw[g2.2];refine⟨c,7,rfl,by omega,by omega,fun z ez z0 z1=>?_⟩;dsimp only;rw[Sw.v_mod];refine⟨by decide,?_⟩;have ea:z % 8=ud c:=by unfold ud;rw[ez]
 rw[ea];have a0:0<=ud c:=by rw[<-ea];exact Km _ (by decide)
 have a1:ud c < 8:=by rw[<-ea];exact Ki _ (by decide)
 refine seq ?_;walk_at "s1";refine⟨by rw[Jy];simp,fun q hq mq=>?_⟩;refine seq ?_;walk_at "s1";refine⟨gc,by omega,by omega,?_⟩
 refine cy (fun k σ H'=>∃ (v5 v6 v7:Option V) (ns:NW),σ=[some (.int c),some (.int n),some (.str (Str.ofString "abcdefghijklmnopqrstuvwxyz")),some (.int (ud c)),some (.ref q),v5,v6,v7]/\Ext Γ.mod H H'/\H' q=some (.lst (ns.map V.str))/\ns.length=k/\Fc c ns) (fun n σ H' z=>trivial) (fun k v σ Hn D' hv pv nx ct _ _=>?_) (fun σ Hn pv=>?_)
  ⟨none,none,none,[],rfl,Ext.upd hq mq,ae,rfl,fun i x e=>by simp at e⟩
 ·obtain⟨v5,v6,v7,ns,rfl,x,hqn,len,nm⟩:=pv;obtain⟨hk,rfl⟩:=cP hv;have k20:k < 20:=by omega
  refine seq ?_;walk_at "s1";refine⟨gc,by omega,by omega,fun d hd md=>?_⟩;have xd:∀o,Ext Γ.mod Hn (upd Hn d o):=fun o=>Ext.upd hd md;refine vJ (fun v=>match v with | .int i=>.int (wH c (10 + i) % 26) | v=>v) _ [] (fun v hv acc Q' q'=>?_) (fun _=>trivial) (by rw[Jy];simp) ?_
  ·obtain⟨i,hi,rfl⟩:=Jn.mp hv;have hi:=L_.mp hi;have hi:i < 8:=hi;walk_at "s1";refine⟨⟨gc,g2.1⟩,?_⟩;rw[Sw.v_add,g2.2];refine⟨c,_,rfl,by omega,by omega,fun z ez z0 z1=>?_⟩;dsimp only;rw[Sw.v_mod,ez];exact⟨by decide,q'⟩
  have ep:([]:List V)++((List.range (8:Int).toNat).map fun i:Nat=>V.int i).map (fun v=>match v with | .int i=>.int (wH c (10 + i) % 26) | v=>v)=(xN c).map V.int:=by
   rw[Kk,JT];unfold xN;rw[JT];rfl
  rw[ep];have x1:=x.trans (xd (.lst ((xN c).map V.int)));have hd1:upd Hn d (.lst ((xN c).map V.int)) d=some (.lst ((xN c).map V.int)):=ae;have hq1:=(xd (.lst ((xN c).map V.int))).same _ _ hqn;generalize upd Hn d (.lst ((xN c).map V.int))=H1 at x1 hd1 hq1;have qd:q ≠ d:=aj hqn hd;have d0:=x.aQ hd
  have tail:∀ (sz:Int) (L:List Int) (H2:Hp),Ext Γ.mod H H2->H2 q=some (.lst (ns.map V.str))->H2 d=some (.lst (L.map V.int))->(∀ i ∈ L,0<=i/\i < 26)->L.length=8->0<=sz->(∀ y:Str,y.cps.toList=(L.take sz.toNat).map lc->∃L',Nm c k y L')->
    wSs (.cons (.exp (.mth .append (.var 4) (.cons (.mth .join (.con (.str "")) (.cons (.comp "_law_place" [("_law_letters",2)] (.ex (.slc (.var 6) .nil (.cons (.var 7) .nil))) (.idx (.var 1) (.var 0)) .nil) .nil)) .nil))) .nil) Γ X0 D' [some (.int c),some (.int n),some (.str (Str.ofString "abcdefghijklmnopqrstuvwxyz")),some (.int (ud c)),some (.ref q),some (.int k),some (.ref d),some (.int sz)] H2:=by
   intro sz L H2 y1 y2 y3 y4 y5 y6 y7;refine zv gc y1 hq mq y2 (by omega) y3 y4 (by omega) y6 fun H' y z1 z2 z3=>?_;obtain⟨L',nm'⟩:=y7 y z3;exact nx _ _ ⟨_,_,_,ns++[y],rfl,z1,z2,by rw[Jw,len];rfl,nm.snoc (by rw[len];exact nm')⟩
  have l8:(xN c).length=8:=by unfold xN;simp
  -- the size
  have rest:∀sz:Int,ud c + 1<=sz->wSs (.cons (.iff (.cmp .Lt (.bin .Mod (.var 0) (.con (.int 3))) (.con (.int 2))) (.cons (.sto (.var 6) (.var 3) (.bin .Mod (.bin .Add (.idx (.var 6) (.var 3)) (.var 5)) (.con (.int 26))))
  .nil) (.cons (.sto (.var 6) (.con (.int 0)) (.bin .Mod (.bin .Add (.idx (.var 6) (.con (.int 0))) (.bin .FloorDiv (.var 5) (.con (.int 8)))) (.con (.int 26))))
  (.cons (.asg 7 (.bin .Add (.con (.int 1)) (.bin .Mod (.bin .Add (.var 3) (.var 5)) (.con (.int 8)))))
  .nil)))
 (.cons (.exp (.mth .append (.var 4) (.cons (.mth .join (.con (.str "")) (.cons (.comp "_law_place" [("_law_letters",2)] (.ex (.slc (.var 6) .nil (.cons (.var 7) .nil))) (.idx (.var 1) (.var 0)) .nil) .nil)) .nil)))
 .nil)) Γ X0 D' [some (.int c),some (.int n),some (.str (Str.ofString "abcdefghijklmnopqrstuvwxyz")),some (.int (ud c)),some (.ref q),some (.int k),some (.ref d),some (.int sz)] H1:=by
   intro sz hsz;refine seq ?_;walk_at "s1";rw[Sw.v_mod];refine⟨by decide,?_⟩;rw[Sw.v_lt];refine⟨_,rfl,?_⟩
   by_cases q3:c % 3 < 2
   ·rw[Jj (JV q3)];refine seq ?_;walk_at "s1";refine zT (ao hd1 ai) a0 (yN (by omega)) ?_;rw[Sw.v_add,Sw.v_mod];refine⟨by decide,CT hd1 a0 (by rw[l8];omega) ?_⟩;refine ck ?_;refine tail sz _ _ (x1.cn d0 md) (by rw[af qd];exact hq1) ae (CV C0 ⟨Km _ (by decide),Ki _ (by decide)⟩) (by rw[Mr];exact l8) (by omega) fun y hy=>⟨_,hy,fun _=>?_,fun z=>absurd q3 z⟩;rw[Nh,Jj (by omega),K7 (by rw[l8];omega)]
   ·rw[Ji (by rw[Ky];exact q3)];refine seq ?_;walk_at "s1";refine zT (ao hd1 ai) (by decide) (yN (c:=c) (j:=0) (by decide)) ?_;rw[Sw.v_div];refine⟨by decide,by decide,?_⟩;rw[Sw.v_add,Sw.v_mod];refine⟨by decide,CT hd1 (by decide) (by rw[l8];decide) ?_⟩;refine seq ?_;walk_at "s1";rw[Sw.v_add,Sw.v_mod];refine⟨by decide,?_⟩;rw[Sw.v_add];refine ck ?_;have m0:=Km (ud c + (k:Int)) (show(8:Int) ≠ 0 by decide);have m1:=Ki (ud c + (k:Int)) (show(0:Int) < 8 by decide);refine tail _ _ _ (x1.cn d0 md) (by rw[af qd];exact hq1) ae (CV C0 ⟨Km _ (by decide),Ki _ (by decide)⟩) (by rw[Mr];exact l8) (by omega) fun y hy=>⟨_,hy,fun z=>absurd z q3,fun _=>⟨?_,?_⟩⟩
    ·rw[J4,Mr,l8];omega
    ·rw[Nh,Jj (by omega),show((0:Int).toNat)=0 from rfl,K7 (by rw[l8];decide)]
  refine seq ?_;walk_at "s1";rw[Sw.v_add,Sw.v_div];refine⟨by decide,by decide,?_⟩;rw[Sw.v_sub,Sw.v_mod];refine⟨by omega,?_⟩;rw[Sw.v_add];have e0:=Km (c / 3) (show 8 - ud c ≠ 0 by omega);refine seq ?_;walk_at "s1";rw[Sw.v_mod];refine⟨by decide,?_⟩;rw[Sw.j8];refine⟨_,rfl,?_⟩
  by_cases q1:c % 3=1
  ·rw[Jj (JV q1)];refine seq ?_;walk_at "s1";rw[Sw.v_add];refine⟨⟨gc,g2.1⟩,?_⟩;rw[Sw.v_add,g2.2];refine⟨c,_,rfl,by omega,by omega,fun z ez z0 z1=>?_⟩;dsimp only;rw[Sw.v_sub,Sw.v_mod];refine⟨by omega,?_⟩;rw[Sw.v_add];have e1:=Km z (show 8 - ud c ≠ 0 by omega);exact ck (rest _ (by omega))
  ·rw[Ji (by rw[Ky];exact q1)];exact ck (rest _ (by omega))
 ·obtain⟨v5,v6,v7,ns,rfl,x,hqn,len,nm⟩:=pv;rw[Jk,J8]at len;walk_at "sw";exact h Hn q ns x hq mq hqn (nm.nodup (by omega)) (by omega)
abbrev iW:NW:=["_law_script","_law_names_here","_law_start","_law_web_here","_law_name","_law_cell_here","_law_number","_law_digits","_law_k","_law_j","_law_draw","_law_one","_law_other"]
noncomputable def sW:fh:=(.cons (.fr 5 (.ex (.slc (.var 0) (.cons (.var 2) .nil) (.cons (.con (.int 64)) .nil))) (.cons (.asg 11 (.idx (.var 1) (.bin .Mod (.var 5) (.blt .len (.cons (.var 1) .nil))))) (.cons (.asg 12 (.idx (.var 1) (.bin .Mod (.bin .FloorDiv (.var 5) (.con (.int 20))) (.blt .len (.cons (.var 1) .nil))))) (.cons (.iff (.cmpD .In (.var 12) (.idxD (.var 3) (.var 11))) (.cons (.exp (.mth .dpop (.idxD (.var 3) (.var 11)) (.cons (.var 12) .nil))) (.cons (.exp (.mth .dpop (.idxD (.var 3) (.var 12)) (.cons (.var 11) .nil))) .nil)) (.cons (.iff (.cmp .NotEq (.var 11) (.var 12)) (.cons (.exp (.call "_law_join" (.cons (.var 3) (.cons (.var 11) (.cons (.var 12) (.cons (.call "_law_mix" (.cons (.var 5) (.cons (.con (.int 3)) .nil))) .nil)))))) .nil) .nil) .nil)) .nil)))) (.cons (.ret (.var 3)) .nil))
noncomputable def iQ:fh:=(.cons (.asg 3 .dnew) (.cons (.fr 4 (.ex (.var 1)) (.cons (.sto (.var 3) (.var 4) .dnew) .nil)) (.cons (.asg 5 (.call "_law_cell" (.cons (.var 0) (.cons (.con (.int 1)) .nil)))) (.cons (.asg 6 (.var 5)) (.cons (.asg 7 (.cmp .Eq (.bin .Mod (.bin .FloorDiv (.call "_law_cell" (.cons (.var 0) (.cons (.con (.int 2)) .nil))) (.con (.int 1000))) (.con (.int 2))) (.con (.int 1)))) (.cons (.fr 8 (.rng1 (.blt .len (.cons (.var 1) .nil))) (.cons (.fr 9 (.rng1 (.var 8)) (.cons (.asg 10 (.call "_law_mix" (.cons (.var 5) (.cons (.bin .Add (.bin .Add (.con (.int 60)) (.bin .Mult (.con (.int 20)) (.var 8))) (.var 9)) .nil)))) (.cons (.iff (.or (.and (.var 7) (.cmp .Eq (.bin .Mod (.var 6) (.con (.int 2))) (.con (.int 1)))) (.and (.not (.var 7)) (.cmp .Lt (.bin .Mod (.var 10) (.con (.int 16))) (.bin .Sub (.bin .Mod (.bin .Add (.var 5) (.con (.int 5))) (.con (.int 12))) (.con (.int 2)))))) (.cons (.exp (.call "_law_join" (.cons (.var 3) (.cons (.idx (.var 1) (.var 8)) (.cons (.idx (.var 1) (.var 9)) (.cons (.bin .FloorDiv (.var 10) (.con (.int 16))) .nil)))))) .nil) .nil) (.cons (.asg 6 (.bin .FloorDiv (.var 6) (.con (.int 2)))) .nil)))) .nil)) sW))))))
theorem zS {M:Mo} {H:Hp} {p:Addr} {ns:NW} {i:Nat} {Q:VK} (h:rd M H p=some (.lst (ns.map V.str))) (hi:i < ns.length) (q:Q (.str ns[i]) H):c_ M (.ref p) (.int i) H Q:=by
 refine iA h ?_ q;unfold k_ oF;rw[Jj (by omega),Jj (by rw[Jk];omega),Mh];show(ns.map V.str)[i]?=_;rw[JJ,Jl hi];rfl
theorem Cy {xs:List V} {lo hi:Option Int} {v:V} (h:v ∈ iw xs lo hi):v ∈ xs:=by
 unfold iw at h
 first
 | exact MT (KZ h)
 | exact KZ (MT h)
theorem yM {H:Hp} {w pa pb:Addr} {E:List Ent} {a b:Str} {ra rb:Gw.Row} (W:bu H w E) (ok:qr (cont E)) (q:a ≠ b) (ma:(a,pa,ra) ∈ E) (mb:(b,pb,rb) ∈ E):
  ∃E1 E2,bu (upd H pa (.dK (fm (ra.filter fun y=>decide (y.1 ≠ b))))) w E1/\(b,pb,rb) ∈ E1/\bu (upd (upd H pa (.dK (fm (ra.filter fun y=>decide (y.1 ≠ b))))) pb (.dK (fm (rb.filter fun y=>decide (y.1 ≠ a))))) w E2/\qr (cont E2)/\E2.map (·.1)=E.map (·.1)/\E2.map (·.2.1)=E.map (·.2.1):=by
 have aa:=j3 W.keys ma;have ab:=j3 W.keys mb;have ha:a ∈ E.map (·.1):=Jn.mpr ⟨_,ma,rfl⟩;have hb:b ∈ E.map (·.1):=Jn.mpr ⟨_,mb,rfl⟩;have n1:((ra.filter fun y=>decide (y.1 ≠ b)).map (·.1)).Nodup:=(Lq.map _).nodup (W.rk _ ma);have W1:=W.set ma (row':=ra.filter fun y=>decide (y.1 ≠ b)) n1 (JS (Ks _ _) (W.lR _ ma));have mb1:=je (x:=a) (row':=ra.filter fun y=>decide (y.1 ≠ b)) mb (fun z=>q z.symm);have n2:((rb.filter fun y=>decide (y.1 ≠ a)).map (·.1)).Nodup:=(Lq.map _).nodup (W.rk _ mb);have W2:=W1.set mb1 (row':=rb.filter fun y=>decide (y.1 ≠ a)) n2 (JS (Ks _ _) (W.lR _ mb))
 have ad:∀x y,y ∈ jE (cont (b8 b (rb.filter fun y=>decide (y.1 ≠ a)) (b8 a (ra.filter fun y=>decide (y.1 ≠ b)) E))) x ↔ y ∈ jE (cont E) x/\¬ (x=a/\y=b)/\¬ (x=b/\y=a):=fun x y=>by
  rw[fR (by rw[aK];exact hb),fR ha]
  by_cases z:x=b
  ·subst z;rw[Jj rfl,oM,ab];have:¬x=a:=fun u=>q u.symm;simp[this]
  ·rw[Ji z]
   by_cases z2:x=a
   ·subst z2;rw[Jj rfl,oM,aa];simp[z]
   ·rw[Ji z2];simp[z,z2]
 refine⟨_,_,W1,mb1,W2,⟨⟨by rw[bP,aK,aK];exact W.keys,fun x y hy=>?_,fun x y hy=>?_⟩,fun x hx=>?_⟩,by rw[aK,aK],by rw[cY,cY]⟩
 ·rw[ad]at hy ⊢;exact⟨ok.ok.sy x y hy.1,fun z=>hy.2.2 ⟨z.2,z.1⟩,fun z=>hy.2.1 ⟨z.2,z.1⟩⟩
 ·rw[ad]at hy;rw[bP,aK,aK,<-bP];exact ok.ok.cl x y hy.1
 ·rw[ad]at hx;exact ok.no x hx.1
structure iI (H2:Hp) (w:Addr) (E0:List Ent) (H:Hp) (E:List Ent):Prop where
 nD:bu H w E
 ok:qr (cont E)
 keys:E.map (·.1)=E0.map (·.1)
 xH:E.map (·.2.1)=E0.map (·.2.1)
 rest:∀x,x ∉ E0.map (·.2.1)->H x=H2 x
theorem iI.yj {H2 H:Hp} {w:Addr} {E0 E:List Ent} (t:iI H2 w E0 H E):AK H2 w E0 H E:=⟨t.nD,t.ok.ok,t.keys,t.xH,t.rest⟩
theorem iI.step {H2 H H':Hp} {w:Addr} {E0 E E':List Ent} (T:iI H2 w E0 H E) (W':bu H' w E') (ok':qr (cont E')) (k':E'.map (·.1)=E.map (·.1)) (a':E'.map (·.2.1)=E.map (·.2.1)) (r':∀x,x ∉ E.map (·.2.1)->H' x=H x):iI H2 w E0 H' E':=
 ⟨W',ok',by rw[k',T.keys],by rw[a',T.xH],fun y hy=>by rw[r' y (by rw[T.xH];exact hy)];exact T.rest y hy⟩
theorem B_ {E:List Ent} {a b:Str} {pa pb x:Addr} {ra rb:Gw.Row} {H:Hp} {o o':HO} (ma:(a,pa,ra) ∈ E) (mb:(b,pb,rb) ∈ E) (hx:x ∉ E.map (·.2.1)):upd (upd H pa o) pb o' x=H x:=by
 rw[af (fun z=>hx (Jn.mpr ⟨_,mb,z.symm⟩)),af (fun z=>hx (Jn.mpr ⟨_,ma,z.symm⟩))]
noncomputable def uH (M:Mo):Sp:=fun vs H Q _=>∃ (s nm:Addr) (st:Int) (is:List Int) (ns:NW),vs=[.ref s,.ref nm,.int st]/\rd M H s=some (.lst (is.map V.int))/\rd M H nm=some (.lst (ns.map V.str))/\ns.Nodup/\0 < ns.length/\ns.length<=20/\
 ∀H' w E,Ext M H H'->H w=none->M w=none->(∀ e ∈ E,H e.2.1=none)->bu H' w E->qr (cont E)->(∀ x,x ∈ E.map (·.1) ↔ x ∈ ns)->Q (.ref w) H'
theorem xV {Γ:b0} {Ξ:XS} {D:Ends} {H Hn:Hp} {s nm w:Addr} {st:Int} {is:List Int} {ns:NW} {E:List Ent} {v4 v5 v6 v7 v8 v9 v10:Option V} (gc:Γ.cm=true) (g2:Γ.has "_law_mix" =true/\Γ.fn "_law_mix" =ja) (g3:Γ.has "_law_join" =true/\Γ.fn "_law_join" =lK)
  (x:Ext Γ.mod H Hn) (hs:rd Γ.mod H s=some (.lst (is.map V.int))) (hn:rd Γ.mod H nm=some (.lst (ns.map V.str))) (n0:0 < ns.length) (n1:ns.length<=20) (fr:∀e ∈ E,H e.2.1=none) (W:bu Hn w E) (ok:qr (cont E)) (ks:∀x,x ∈ E.map (·.1) ↔ x ∈ ns)
  (h:∀H' E',Ext Γ.mod H H'->(∀ e ∈ E',H e.2.1=none)->bu H' w E'->qr (cont E')->(∀ x,x ∈ E'.map (·.1) ↔ x ∈ ns)->D.rt (.ref w) H'):
  wSs sW Γ Ξ D [some (.ref s),some (.ref nm),some (.int st),some (.ref w),v4,v5,v6,v7,v8,v9,v10,none,none] Hn:=by
 unfold sW;refine seq ?_;walk_at "s1";refine⟨gc,?_⟩;rw[Sw.uN,x.rd hs];dsimp only;intro l hl ml;have x1:Ext Γ.mod Hn (upd Hn l (.lst (iw (is.map V.int) (some st) (some 64)))):=Ext.upd hl ml;have x2:=x.trans x1;have hl2:upd Hn l (.lst (iw (is.map V.int) (some st) (some 64))) l=some (.lst (iw (is.map V.int) (some st) (some 64))):=ae;have W2:=Ext.nD x1 W;generalize upd Hn l (.lst (iw (is.map V.int) (some st) (some 64)))=H2 at x1 x2 hl2 W2;have hn2:=x2.rd hn;refine bJ (ao hl2 ai) ?_
 refine cy (fun n σ Hk=>∃v5 v11 v12 E',σ=[some (.ref s),some (.ref nm),some (.int st),some (.ref w),v4,v5,v6,v7,v8,v9,v10,v11,v12]/\iI H2 w E Hk E') (fun n σ Hk z=>?_) (fun n v σ Hk D' hv pv nx ct _ _=>?_) (fun σ Hk pv=>?_)
  ⟨_,_,_,E,rfl,W2,ok,rfl,rfl,fun _ _=>rfl⟩
 ·obtain⟨_,_,_,E',_,T⟩:=z;exact T.yj.rd W2 (ao hl2 ai)
 ·obtain⟨v5,v11,v12,E',rfl,T⟩:=pv;obtain⟨i,_,rfl⟩:=Jn.mp (Cy (Jp hv));have hnk:=T.yj.rd W2 hn2;have key:∀y ∈ ns,y ∈ E'.map (·.1):=fun y hy=>by rw[T.keys];exact(ks y).mpr hy
  refine seq ?_;walk_at "s1";refine⟨gc,gI hnk ?_⟩;rw[Sw.v_mod,Jk];refine⟨by omega,pZ hnk (Km _ (by omega)) (Ki _ (by omega)) fun a ha=>?_⟩;refine seq ?_;walk_at "s1";rw[Sw.v_div];refine⟨by decide,by decide,gc,gI hnk ?_⟩;rw[Sw.v_mod,Jk];refine⟨by omega,pZ hnk (Km _ (by omega)) (Ki _ (by omega)) fun b hb=>?_⟩;obtain⟨⟨pa,ra⟩,_,ma⟩:=hJ (key a ha);obtain⟨⟨pb,rb⟩,_,mb⟩:=hJ (key b hb);have aa:=j3 T.nD.keys ma;have ab:=j3 T.nD.keys mb;refine seq ?_;walk_at "s1";refine fZ T.nD ma ?_;refine vo (x:=b) (kvs:=fm ra) (ao (T.nD.row _ ma) fW) ⟨_,rfl,?_⟩;rw[iM]
  by_cases mQ:b ∈ ra.map (·.1)
  ·rw[Jj (JV mQ)];have q:a ≠ b:=fun z=>T.ok.no a (by rw[aa];rw[<-z]at mQ;exact mQ);have hba:a ∈ rb.map (·.1):=by rw[<-ab];exact T.ok.ok.sy a b (by rw[aa];exact mQ)
   obtain⟨E1,E2,W1,mb1,W3,ok3,k3,a3⟩:=yM T.nD T.ok q ma mb;refine seq ?_;walk_at "s1";refine fZ T.nD ma (vB (x:=b) (T.nD.row _ ma) mQ fun _=>?_);refine seq ?_;walk_at "s1";refine fZ W1 mb1 (vB (x:=a) (W1.row _ mb1) hba fun _=>?_);exact oi (nx _ _ ⟨_,_,_,E2,rfl,T.step W3 ok3 k3 a3 fun y hy=>B_ ma mb hy⟩)
  ·rw[Ji (by simpa using mQ)];refine seq ?_;walk_at "s1";rw[Sw.xZ];refine⟨_,rfl,?_⟩
   by_cases q:a=b
   ·rw[Ji (by simp[q])];exact ck (ck (Γ:=Γ) (Ξ:=X0) (ck (Γ:=Γ) (Ξ:=X0) (nx _ _ ⟨_,_,_,E',rfl,T⟩)))
   ·rw[Jj (by simp[q])];refine seq ?_;walk_at "s1";refine⟨⟨gc,g3.1⟩,⟨gc,g2.1⟩,?_⟩;rw[g2.2];refine⟨i,3,rfl,by omega,by omega,fun z _ z0 z1=>?_⟩;rw[g3.2];refine⟨w,E',a,b,z,rfl,T.nD,T.ok,q,key a ha,key b hb,fun H' E2 W' ok' k' a' r'=>?_⟩;exact ck (ck (Γ:=Γ) (Ξ:=X0) (ck (Γ:=Γ) (Ξ:=X0) (nx _ _ ⟨_,_,_,E2,rfl,T.step W' ok' k' a' r'⟩)))
 ·obtain⟨v5,v11,v12,E',rfl,T⟩:=pv;walk_at "sw";refine h Hk E' (T.yj.ext W2 x2 fr) (fun e he=>?_) T.nD T.ok fun y=>by rw[T.keys];exact ks y
  have z:e.2.1 ∈ E.map (·.2.1):=by rw[<-T.xH];exact Jn.mpr ⟨e,he,rfl⟩
  obtain⟨e0,he0,q⟩:=Jn.mp z;rw[<-q];exact fr e0 he0
theorem DY {M:Mo} {Γ:b0} (gm:Γ.mod=M) (gc:Γ.cm=true) (g1:Γ.has "_law_cell" =true/\Γ.fn "_law_cell" =lL M) (g2:Γ.has "_law_mix" =true/\Γ.fn "_law_mix" =ja) (g3:Γ.has "_law_join" =true/\Γ.fn "_law_join" =lK)
  (vs:List V) (H:Hp) (Q:VK) (X:XK) (h:uH M vs H Q X):eJ Γ iW 3 iQ vs H Q X:=by
 obtain⟨s,nm,st,is,ns,rfl,hs,hn,nd,n0,bK,h⟩:=h;refine⟨rfl,?_⟩;obtain rfl:=gm;unfold iQ;refine seq ?_;walk_at "s1";intro w hw mw;have nw:nm ≠ w:=D9 hn hw mw;refine seq ?_;walk_at "s1";refine⟨gc,?_⟩;have hn1:rd Γ.mod (upd H w (.dK [])) nm=some (.lst (ns.map V.str)):=by rw[uT (af nw)];exact hn
 refine bJ hn1 ?_
 refine cy (fun n σ Hn=>∃v4 E,σ=[some (.ref s),some (.ref nm),some (.int st),some (.ref w),v4,none,none,none,none,none,none,none,none]/\bu Hn w E/\(∀ e ∈ E,e.2.2=[])/\(∀ e ∈ E,H e.2.1=none)/\Ext Γ.mod H Hn/\∀x,x ∈ E.map (·.1) ↔ x ∈ ns.take n) (fun n σ Hn z=>?_) ?_ ?_
  ⟨none,[],rfl,⟨ae,fun e he=>by (cases he),by simp,by simp,fun e he=>by (cases he),by simp,fun e he=>by (cases he)⟩,fun e he=>by (cases he),fun e he=>by (cases he),Ext.upd hw mw,fun x=>by simp⟩
 ·obtain⟨_,_,_,_,_,_,x,_⟩:=z;exact x.rd hn
 ·intro n v σ Hn D' hv pv nx ct _ _;obtain⟨v4,E,rfl,W,em,fr,x,ks⟩:=pv;rw[JJ]at hv;obtain⟨c,hc,rfl⟩:=JW.mp hv;have tk:=take_snoc hc;refine seq ?_;walk_at "s1";intro l hl ml;have wl:w ≠ l:=aj W.top hl;obtain⟨E',e1,W',em',ad',ks'⟩:=A6 W hl em (fun y hy=>KZ ((ks y).mp hy)) (Jp hc) bK;refine jN (x:=c) (kvs:=iJ E) (by rw[af wl];exact W.top) (by rw[yf,Jy];have:=W.bK;omega) ?_;rw[e1];refine ck (nx _ _ ⟨_,E',rfl,W',em',fun e he=>?_,(x.cn (x.aQ hl) ml).cn hw mw,fun y=>?_⟩)
  ·rcases ad' e he with z | ⟨e0,he0,z⟩
   ·rw[z];exact x.aQ hl
   ·rw[<-z];exact fr e0 he0
  ·rw[ks',ks,tk,JB];simp
 ·intro σ H2 pv;obtain⟨v4,E0,rfl,W0,em,fr,x2,ks⟩:=pv;have tl:ns.take (ns.map V.str).length=ns:=by rw[Jk];exact KC
  rw[tl]at ks;have hn2:=x2.rd hn;have hs2:=x2.rd hs;refine seq ?_;walk_at "s1";refine⟨⟨gc,g1.1⟩,?_⟩;rw[g1.2];refine⟨s,1,is,rfl,by decide,hs2,fun ch=>?_⟩;refine seq ?_;walk_at "s1";refine seq ?_;walk_at "s1";refine⟨⟨gc,g1.1⟩,?_⟩;rw[g1.2];refine⟨s,2,is,rfl,by decide,hs2,fun c2=>?_⟩;dsimp only;rw[Sw.v_div];refine⟨by decide,by decide,?_⟩;rw[Sw.v_mod];refine⟨by decide,?_⟩;rw[Sw.j8];generalize decide (c2 / 1000 % 2=1)=dg;refine seq ?_;walk_at "s1";refine⟨gc,gc,gI hn2 ?_⟩;rw[Jk];refine⟨by omega,by omega,?_⟩
  have adj0:∀a,jE (cont E0) a=[]:=fun a=>by
   rw[<-df];unfold nE;cases q:E0.lookup a with
   | none=>rfl
   | some b=>
    dsimp only;rw[show b.2=[]from em _ (lookup_some q)];rfl
  have T0:iI H2 w E0 H2 E0:=⟨W0,⟨⟨by rw[bP];exact W0.keys,fun a b z=>by (rw[adj0]at z;cases z),fun a b z=>by (rw[adj0]at z;cases z)⟩,fun a z=>by (rw[adj0]at z;cases z)⟩,rfl,rfl,fun _ _=>rfl⟩;refine cy (fun n σ Hn=>∃ (nu:Int) (v8 v9 v10:Option V) (E:List Ent),σ=[some (.ref s),some (.ref nm),some (.int st),some (.ref w),v4,some (.int ch),some (.int nu),some (.bl dg),v8,v9,v10,none,none]/\iI H2 w E0 Hn E) (fun n σ Hn z=>trivial) ?_ ?_ ⟨ch,_,_,_,E0,rfl,T0⟩
  ·intro i v σ Hn D' hv pv nx ct _ _;obtain⟨nu,v8,v9,v10,E,rfl,T⟩:=pv;obtain⟨i1,rfl⟩:=cP hv;have i1:i < ns.length:=i1;refine seq ?_;walk_at "s1";refine⟨gc,by omega,by omega,?_⟩;refine cy (fun n σ Hn=>∃ (nu:Int) (v9 v10:Option V) (E:List Ent),σ=[some (.ref s),some (.ref nm),some (.int st),some (.ref w),v4,some (.int ch),some (.int nu),some (.bl dg),some (.int i),v9,v10,none,none]/\iI H2 w E0 Hn E) (fun n σ Hn z=>trivial) ?_ ?_ ⟨nu,_,_,E,rfl,T⟩
   ·intro j v σ Hn D2 hv2 pv2 nx2 ct2 _ _;obtain⟨nu,v9,v10,E,rfl,T⟩:=pv2;obtain⟨j1,rfl⟩:=cP hv2;have j1:j < i:=by omega
    refine seq ?_;walk_at "s1";refine⟨⟨gc,g2.1⟩,?_⟩;rw[Sw.v_mul];refine⟨GA (by decide) (by decide),?_⟩;rw[Sw.v_add,Sw.v_add,g2.2];refine⟨ch,_,rfl,by omega,by omega,fun dr _ dr0 dr1=>?_⟩;have hnk:=T.yj.rd W0 hn2
    have last:∀H' E',iI H2 w E0 H' E'->wSs (.cons (.asg 6 (.bin .FloorDiv (.var 6) (.con (.int 2)))) .nil) Γ X0 D2 [some (.ref s),some (.ref nm),some (.int st),some (.ref w),v4,some (.int ch),some (.int nu),some (.bl dg),some (.int i),some (.int j),some (.int dr),none,none] H':=by
     intro H' E' T';refine seq ?_;walk_at "s1";rw[Sw.v_div];exact⟨by decide,by decide,ck (nx2 _ _ ⟨_,_,_,E',rfl,T'⟩)⟩
    refine seq ?_
    have go:∀k:Bool,if k=true then wSs (.cons (.exp (.call "_law_join" (.cons (.var 3) (.cons (.idx (.var 1) (.var 8)) (.cons (.idx (.var 1) (.var 9)) (.cons (.bin .FloorDiv (.var 10) (.con (.int 16))) .nil)))))) .nil) Γ X0 {D2 with nx:=wSs (.cons (.asg 6 (.bin .FloorDiv (.var 6) (.con (.int 2)))) .nil) Γ X0 D2} [some (.ref s),some (.ref nm),some (.int st),some (.ref w),v4,some (.int ch),some (.int nu),some (.bl dg),some (.int i),some (.int j),some (.int dr),none,none] Hn
      else wSs .nil Γ X0 {D2 with nx:=wSs (.cons (.asg 6 (.bin .FloorDiv (.var 6) (.con (.int 2)))) .nil) Γ X0 D2} [some (.ref s),some (.ref nm),some (.int st),some (.ref w),v4,some (.int ch),some (.int nu),some (.bl dg),some (.int i),some (.int j),some (.int dr),none,none] Hn:=by
     intro k;cases k with
     | false=>
      rw[Ji (by decide)];exact ck (last Hn E T)
     | true=>
      rw[Jj rfl];refine seq ?_;walk_at "s1";refine⟨⟨gc,g3.1⟩,zS hnk i1 (zS hnk (by omega) ?_)⟩;rw[Sw.v_div];refine⟨by decide,by decide,?_⟩;rw[g3.2];have key:∀y ∈ ns,y ∈ E.map (·.1):=fun y hy=>by rw[T.keys];exact(ks y).mpr hy
      refine⟨w,E,_,_,_,rfl,T.nD,T.ok,fun e=>?_,key _ (KJ _),key _ (KJ _),fun H' E2 W' ok' k' a' r'=>?_⟩
      ·exact Kp.mp nd j i (by omega) i1 j1 e.symm
      ·exact ck (last H' E2 (T.step W' ok' k' a' r'))
    walk_at "s1";rw[Sw.pC];cases dg with
    | true=>
     rw[Jj rfl,Sw.v_mod];refine⟨by decide,?_⟩;rw[Sw.j8];refine⟨_,rfl,?_⟩
     by_cases od:nu % 2=1
     ·rw[Jj (JV od)];exact go true
     ·rw[Ji (by rw[Ky];exact od),Sw.pC];rw[Ji (by decide)];exact go false
    | false=>
     rw[Ji (by decide),Ji (by decide),Sw.pC,Jj (by decide),Sw.v_mod];refine⟨by decide,?_⟩;rw[Sw.v_add,Sw.v_mod];refine⟨by decide,?_⟩;rw[Sw.v_sub,Sw.v_lt];exact⟨_,rfl,go _⟩
   ·intro σ Hn pv2;obtain⟨nu,v9,v10,E,rfl,T⟩:=pv2;exact ck (Γ:=Γ) (Ξ:=X0) (nx _ _ ⟨_,_,_,_,E,rfl,T⟩)
  ·intro σ Hn pv;obtain⟨nu,v8,v9,v10,E,rfl,T⟩:=pv;refine xV gc g2 g3 (T.yj.ext W0 x2 fr) hs hn n0 bK (fun e he=>?_) T.nD T.ok (fun x=>by rw[T.keys];exact ks x) fun H' E' x' fr' W' ok' ks'=>h H' w E' x' hw mw fr' W' ok' ks';have z:e.2.1 ∈ E0.map (·.2.1):=by rw[<-T.xH];exact Jn.mpr ⟨e,he,rfl⟩
   obtain⟨e0,he0,q⟩:=Jn.mp z;rw[<-q];exact fr e0 he0
end Gk
namespace Ik
open PySem PySem.Spec PyProof.Rows L2 Sw Gw Gk Wk
noncomputable abbrev Nu:=Addr × Int × Nat
noncomputable def gj (T:List Nu):List V:=T.map fun t=>.ref t.1
noncomputable def o_ (H:Hp) (T:List Nu):Prop:=∀t ∈ T,H t.1=some (.tup [.int t.2.1,.int (t.2.2:Int)])
noncomputable def sel (F:List Fp) (c:Int->Bool) (t:Nu):Option Fp:=if c t.2.1=true then F[t.2.2]? else none
theorem ig {M:Mo} {te:TE} {tt:TT} {fvs:L2.St} {D:Addr} {aq:Hp->Prop} {k:Hp->Prop} {H0:Hp} (hD:H0 D=none) (F:List Fp) (c:Int->Bool) (st:∀l,aq (upd H0 D (.lst l))):∀ (T:List Nu) (G:List Fp),o_ H0 T->(∀ t ∈ T,t.2.2 < F.length)->
  (∀ t ∈ T,∀acc R,R (c t.2.1) (upd H0 D (.lst acc))->tt (some (.int t.2.1)::some (.int (t.2.2:Int))::fvs) (upd H0 D (.lst acc)) R)->
  (∀ t ∈ T,∀x,F[t.2.2]?=some x->∀acc Q,Q (.ref x.1) (upd H0 D (.lst acc))->te (some (.int t.2.1)::some (.int (t.2.2:Int))::fvs) (upd H0 D (.lst acc)) Q)->G.length + T.length<=1000->
  k (upd H0 D (.lst (aB (G++T.filterMap (sel F c)))))->cK (vO M 2) te tt fvs D aq (gj T) (aB G) (upd H0 D (.lst (aB G))) k
 | [],G,_,_,_,_,_,q=>⟨st _,ae,by simpa using q⟩
 | t::T,G,na,lt,ht,he,hl,q=>by
  rw[J5]at hl;refine⟨st _,?_⟩;have hx:upd H0 D (.lst (aB G)) t.1=some (.tup [.int t.2.1,.int (t.2.2:Int)]):=by rw[af (aj (na t Js) hD)];exact na t Js
  have e:vO M 2 (.ref t.1) (upd H0 D (.lst (aB G)))=some [some (.int t.2.1),some (.int (t.2.2:Int))]:=by
   show(match rd M (upd H0 D (.lst (aB G))) t.1 with
    | some (.tup xs)=>if xs.length=2 then some (xs.map some)else none
    | _=>none)=_
   rw[ao hx bG];rfl
  show(match vO M 2 (.ref t.1) (upd H0 D (.lst (aB G)))with | some w=>_ | none=>False);rw[e];refine ht t Js _ _ ?_;have rest:∀ (G:List Fp),G.length + T.length<=1000->k (upd H0 D (.lst (aB (G++T.filterMap (sel F c)))))->cK (vO M 2) te tt fvs D aq (gj T) (aB G) (upd H0 D (.lst (aB G))) k:=fun G hl q=>ig hD F c st T G (fun y hy=>na y (Jo _ hy)) (fun y hy=>lt y (Jo _ hy)) (fun y hy=>ht y (Jo _ hy)) (fun y hy=>he y (Jo _ hy)) hl q;obtain⟨x,ex⟩:∃x,F[t.2.2]?=some x:=⟨_,Jl (lt t Js)⟩
  by_cases m:c t.2.1=true
  ·rw[Jj m];refine he t Js x ex _ _ ⟨ae,by unfold aB;rw[Jk,Jy];omega,?_⟩;have er:aB G++[V.ref x.1]=aB (G++[x]):=by unfold aB;rw[JA];rfl
   rw[dH,er];refine rest _ (by rw[Jw];simp;omega) ?_;have es:sel F c t=some x:=by unfold sel;rw[Jj m];exact ex
   rw[ND es]at q;rw[JM];exact q
  ·rw[Ji m];have es:sel F c t=none:=by unfold sel;rw[Ji m]
   rw[NF es]at q;exact rest G (by omega) q
theorem uM (F:List Fp) (c:Int->Bool):∀ (T:List Nu) (s:Nat),T.map (·.2.2)=List.range' s T.length->s + T.length=F.length->(T.filterMap (sel F c)).Sublist (F.drop s)/\((∀ z,c z=true)->T.filterMap (sel F c)=F.drop s)
 | [],s,_,h=>by
  have:F.drop s=[]:=List.drop_eq_nil_of_le (by simp at h;omega);rw[this];exact⟨.refl _,fun _=>rfl⟩
 | t::T,s,e,h=>by
  rw[J5]at e h;rw[JF,List.range'_succ]at e;injection e with e1 e2
  have e1:t.2.2=s:=e1;obtain⟨i1,i2⟩:=uM F c T (s + 1) e2 (by omega);obtain⟨x,ex⟩:∃x,F[s]?=some x:=⟨_,Jl (by omega)⟩
  have ed:F.drop s=x::F.drop (s + 1):=by
   obtain⟨h1,h2⟩:=Jv.mp ex;rw[Ko h1,h2]
  rw[ed]
  by_cases m:c t.2.1=true
  ·have es:sel F c t=some x:=by unfold sel;rw[Jj m,e1];exact ex
   rw[ND es];exact⟨i1.cons₂ x,fun z=>by rw[i2 z]⟩
  ·have es:sel F c t=none:=by unfold sel;rw[Ji m]
   rw[NF es];exact⟨i1.cons x,fun z=>absurd (z _) m⟩
theorem xh {P S:List (Bool × List Str)} (h:S.Sublist P):(flat S).Sublist (flat P):=by
 induction h with
 | slnil=>exact .refl _
 | cons a h ih=>exact ih.trans (Nx a.2 _)
 | cons_cons a h ih=>exact List.Sublist.append (.refl a.2) ih
theorem some_of {A B:NU} {F:List Fp} {T0 T:List Nu} (c:Int->Bool) (a:kj A) (b:kj B) (h:o9 A B (aE F)) (e:T0.map (·.2.2)=List.range' 0 T0.length) (l:T0.length=F.length) (pm:T.Perm T0):cW A B (aE F) (aE (T.filterMap (sel F c)))/\((∀ z,c z=true)->(aE (T.filterMap (sel F c))).Perm (aE F))/\(∀ x ∈ T.filterMap (sel F c),x ∈ F):=by
 obtain⟨s1,s2⟩:=uM F c T0 0 e (by omega);have pf:(T.filterMap (sel F c)).Perm (T0.filterMap (sel F c)):=pm.filterMap _;have mem:∀x ∈ T.filterMap (sel F c),x ∈ F:=fun x hx=>s1.subset (pf.mem_iff.mp hx);refine⟨⟨a,b,h,fun q hq=>?_,?_⟩,fun z=>?_,mem⟩
 ·obtain⟨x,hx,rfl⟩:=Jn.mp hq;exact Jn.mpr ⟨x,mem x hx,rfl⟩
 ·have:(flat (aE (T.filterMap (sel F c)))).Perm (flat (aE (T0.filterMap (sel F c)))):=((pf.map _).map _).flatten;exact this.nodup_iff.mpr (h.nd.sublist (xh (s1.map _)))
 ·have:=s2 z;rw[this]at pf;exact pf.map _
abbrev AO:NW:=["_law_script","_law_names_here","_law_web_here","_law_one","_law_common_here","_law_digits","_law_cell_here","_law_other","_law_found","_law_drawn","_law_order","_law_some","_law_back","_law_here","_law_there","_law_part"]
noncomputable def yh:fh:=(.cons (.asg 13 (.blt .list (.cons (.var 3) .nil))) (.cons (.asg 14 (.blt .list (.cons (.var 7) .nil))) (.cons (.fr 15 (.ex (.var 10)) (.cons (.asg 13 (.call "turned" (.cons (.var 13) (.cons (.var 15) .nil)))) (.cons (.asg 14 (.call "turned" (.cons (.var 14) (.cons (.var 15) .nil)))) .nil))) (.cons (.ret (.and (.cmp .Eq (.var 13) (.var 7)) (.cmp .Eq (.var 14) (.var 3)))) .nil))))
noncomputable def yi:fh:=(.cons (.asg 10 (.compU ["_law_draw","_law_k"] [("_law_found",8)] (.ex (.var 9)) (.idx (.var 2) (.var 1)) .nil)) (.cons (.asg 11 (.compU ["_law_draw","_law_k"] [("_law_found",8)] (.ex (.var 9)) (.idx (.var 2) (.var 1)) (.cons (.cmp .Eq (.bin .Mod (.var 0) (.con (.int 2))) (.con (.int 1))) .nil))) (.cons (.iff (.or (.not (.call "_law_turned" (.cons (.var 2) (.cons (.var 3) (.cons (.var 7) (.cons (.var 11) .nil)))))) (.not (.call "_law_turned" (.cons (.var 2) (.cons (.var 3) (.cons (.var 7) (.cons (.var 10) .nil))))))) (.cons (.ret (.con (.bl false))) .nil) .nil) (.cons (.asg 12 (.call "parts" (.cons (.var 7) (.cons (.var 3) .nil)))) (.cons (.iff (.not (.call "_law_turned" (.cons (.var 2) (.cons (.var 7) (.cons (.var 3) (.cons (.compU ["_law_draw","_law_k"] [("_law_back",12)] (.ex (.var 9)) (.idx (.var 2) (.var 1)) (.cons (.cmp .Eq (.bin .Mod (.var 0) (.con (.int 2))) (.con (.int 1))) .nil)) .nil)))))) (.cons (.ret (.con (.bl false))) .nil) .nil) yh)))))
noncomputable def A9:fh:=(.cons (.asg 8 (.call "parts" (.cons (.var 3) (.cons (.var 7) .nil)))) (.cons (.asg 9 (.blt2 .sortN (.comp "_law_k" [("_law_script",0)] (.rng1 (.blt .len (.cons (.var 8) .nil))) (.tup (.cons (.call "_law_mix" (.cons (.call "_law_cell" (.cons (.var 1) (.cons (.con (.int 1)) .nil))) (.cons (.bin .Add (.con (.int 950)) (.var 0)) .nil))) (.cons (.var 0) .nil))) .nil))) yi))
noncomputable def AG:fh:=(.cons (.asg 1 (.call "_law_names" (.cons (.call "_law_cell" (.cons (.var 0) (.cons (.con (.int 0)) .nil))) (.cons (.bin .Add (.con (.int 1)) (.bin .Mod (.call "_law_cell" (.cons (.var 0) (.cons (.con (.int 2)) .nil))) (.con (.int 20)))) .nil)))) (.cons (.asg 2 (.call "_law_web" (.cons (.var 0) (.cons (.var 1) (.cons (.con (.int 4)) .nil))))) (.cons (.asg 3 (.call "_law_plan" (.cons (.var 2) (.cons (.call "_law_cell" (.cons (.var 0) (.cons (.con (.int 3)) .nil))) (.cons (.lst .nil) (.cons (.bin .FloorDiv (.call "_law_cell" (.cons (.var 0) (.cons (.con (.int 2)) .nil))) (.con (.int 4000))) .nil)))))) (.cons (.asg 4 (.call "_law_common" (.cons (.var 3) (.cons (.call "_law_cell" (.cons (.var 0) (.cons (.con (.int 3)) .nil))) .nil)))) (.cons (.asg 5 (.bin .Mod (.bin .FloorDiv (.call "_law_cell" (.cons (.var 0) (.cons (.con (.int 2)) .nil))) (.con (.int 4000))) (.con (.int 2)))) (.cons (.asg 6 (.idx (.lst (.cons (.call "_law_cell" (.cons (.var 0) (.cons (.con (.int 2)) .nil))) (.cons (.bin .FloorDiv (.call "_law_cell" (.cons (.var 0) (.cons (.con (.int 2)) .nil))) (.con (.int 8000))) .nil))) (.var 5))) (.cons (.asg 7 (.call "_law_plan" (.cons (.var 2) (.cons (.var 6) (.cons (.var 4) (.cons (.var 5) .nil)))))) A9)))))))
structure CL (M:Mo) (Γ:b0) (Ts:List Tb):Prop where
 gm:Γ.mod=M
 gc:Γ.cm=true
 ce:Γ.has "_law_cell" =true/\Γ.fn "_law_cell" =lL M
 mi:Γ.has "_law_mix" =true/\Γ.fn "_law_mix" =Gk.ja
 na:Γ.has "_law_names" =true/\Γ.fn "_law_names" =Gk.kJ M
 we:Γ.has "_law_web" =true/\Γ.fn "_law_web" =Gk.uH M
 pl:Γ.has "_law_plan" =true/\Γ.fn "_law_plan" =pI M
 co:Γ.has "_law_common" =true/\Γ.fn "_law_common" =jb M
 pa:Γ.has "parts" =true/\Γ.fn "parts" =i_ M Ts
 tu:Γ.has "turned" =true/\Γ.fn "turned" =fk M
 lt:Γ.has "_law_turned" =true/\Γ.fn "_law_turned" =Bh M Ts
theorem D6 {M:Mo} {H H':Hp} {T:List Nu} (x:eK M H H') (h:o_ H T):o_ H' T:=fun t ht=>x.same _ _ (h t ht) (fun _ z=>nomatch z)
theorem Cg {Γ:b0} {D:Ends} {Ξ:XS} {Ts:List Tb} {H:Hp} {p1 p2 lo w:Addr} {E:List Ent} {A B:List Pr} {F:List Fp} {Pall:List (Bool × List Str)} {s0 s1 s2 s4 s5 s6 s8 s9 s11 s12:Option V} (K:CL Γ.mod Γ Ts) (W:bu H w E) (ok:gk (cont E)) (h1:ay H p1 A) (h2:ay H p2 B) (ia:aG E (au A)) (ib:aG E (au B)) (hl:H lo=some (.lst (aB F))) (fa:uq H F) (so:cW (au A) (au B) Pall (aE F)) (al:(aE F).Perm Pall) (fin:∀H',D.rt (.bl true) H'):
  wSs yh Γ Ξ D [s0,s1,s2,some (.ref p1),s4,s5,s6,some (.ref p2),s8,s9,some (.ref lo),s11,s12,none,none,none] H:=by
 obtain⟨_,gc,ce,mi,na,we,pl,co,pa,tu,lt⟩:=K;have sf:=so.bK ok W.bK ia ib;have okp:∀p ∈ aE F,cL (aC (mt (alone (au A) (au B)))) (aC (mt (alone (au B) (au A)))) p:=fun p hp=>so.p.ok p (so.sub p hp);have fA:=cq ok W.bK ia;have fB:=cq ok W.bK ib
 have qh:∀ (L:List Pr) (T:List Pr) (n:Nat),(∀ x ∈ au L,x ∈ au A++au B)->cx (au T)->(∀ x,x ∈ au T ↔ eZ (au L) (iZ ((aE F).take n)) x)->T.length<=20:=fun L T n hL r m=>by
  have:=(dN r).length_le_of_subset (l₂:=au A++au B) fun x hx=>by
   rcases(m x).mp hx with q | q
   ·exact hL x q.1
   ·exact JB.mpr (((so.take n).iZ.mp q.1).1.imp (fun z=>(az.mp z).1) (fun z=>(az.mp z).1))
  rw[Jw,cX,cX,cX]at this;omega
 unfold yh;refine seq ?_;walk_at "s1";refine⟨gc,pW h1.at_ fun q0 n0 m0=>?_⟩;have x0:=Ext.upd (M:=Γ.mod) (H:=H) (o:=.lst (refs A)) n0 m0;have a0:ay (upd H q0 (.lst (refs A))) q0 A:=⟨ae,aF.new h1.dI n0⟩;generalize upd H q0 (.lst (refs A))=H0 at x0 a0;refine seq ?_;walk_at "s1";refine⟨gc,pW (Ext.bL x0 h2).at_ fun q1 n1 m1=>?_⟩;have x1:=Ext.upd (M:=Γ.mod) (H:=H0) (o:=.lst (refs B)) n1 m1;have b1:ay (upd H0 q1 (.lst (refs B))) q1 B:=⟨ae,aF.new (Ext.bL x0 h2).dI n1⟩;generalize upd H0 q1 (.lst (refs B))=H1 at x1 b1;have x01:=x0.trans x1;refine seq ?_;walk_at "s1";refine⟨gc,bJ (ao (x01.same _ _ hl) ai) ?_⟩
 refine cy (fun n σ Hk=>∃ (v15:Option V) (q q':Addr) (T T':List Pr),σ=[s0,s1,s2,some (.ref p1),s4,s5,s6,some (.ref p2),s8,s9,some (.ref lo),s11,s12,some (.ref q),some (.ref q'),v15]/\Ext Γ.mod H Hk/\ay Hk q T/\ay Hk q' T'/\cx (au T)/\cx (au T')/\(∀ x,x ∈ au T ↔ eZ (au A) (iZ ((aE F).take n)) x)/\(∀ x,x ∈ au T' ↔ eZ (au B) (iZ ((aE F).take n)) x)) (fun n σ Hk z=>?_) (fun n v σ Hk D' hv pv nx ct _ _=>?_) (fun σ Hk pv=>?_)
  ⟨none,q0,q1,A,B,rfl,x01,Ext.bL x1 a0,b1,ia.sD,ib.sD,(fun x=>by unfold eZ iZ;simp),fun x=>by unfold eZ iZ;simp⟩
 ·obtain⟨_,_,_,_,_,_,z,_⟩:=z;exact ao (z.same _ _ hl) ai
 ·obtain⟨v15,q,q',T,T',rfl,y1,y2,y3,y4,y5,y6,y7⟩:=pv;unfold aB at hv;rw[JJ]at hv;obtain⟨x,hx,rfl⟩:=JW.mp hv;have hxp:(x.2.2.1,x.2.2.2) ∈ aE F:=Jp (lY hx);obtain⟨f1,f2⟩:=fa x (Jp hx);have few1:=(so.take (n + 1)).bK ok W.bK ia ib;have and1:=AH (so.take (n + 1));rw[dO hx]at few1 and1;have cf:x.2.2.2.length<=20:=by rw[fG,Jw]at few1;exact JS (Nat.le_add_left _ _) few1
  have an:((lk (x.2.2.1,x.2.2.2)).map sC).Nodup:=by have z:=and1;rw[qq]at z;exact(JI.mp z).2.1
  have lT:=qh A T n (fun x hx=>Ka _ hx) y4 y6;have lT':=qh B T' n (fun x hx=>JQ _ hx) y5 y7;refine seq ?_;walk_at "s1";refine⟨⟨gc,tu.1⟩,lG (Ts:=Ts) tu.2 y2 (dN y4) lT (y1.same _ _ f1) (y1.same _ _ f2) (okp _ hxp) cf an fun H3 q2 T2 x3 n3 p3 r3 m3=>?_⟩;have y13:=y1.trans x3;refine seq ?_;walk_at "s1";refine⟨⟨gc,tu.1⟩,lG (Ts:=Ts) tu.2 (Ext.bL x3 y3) (dN y5) lT' (y13.same _ _ f1) (y13.same _ _ f2) (okp _ hxp) cf an fun H4 q4 T4 x4 n4 p4 r4 m4=>?_⟩;refine ck (nx _ _ ⟨_,q2,q4,T2,T4,rfl,y13.trans x4,Ext.bL x4 p3,p4,r3,r4,fun z=>?_,fun z=>?_⟩)
  ·rw[dO hx];exact lr and1 y6 m3 z
  ·rw[dO hx];exact lr and1 y7 m4 z
 ·obtain⟨v15,q,q',T,T',rfl,y1,y2,y3,y4,y5,y6,y7⟩:=pv;have el:(aB F).length=(aE F).length:=by unfold aB aE;rw[Jk,Jk]
  rw[el,KC]at y6 y7;walk_at "sw";refine rX y2 (Ext.bL y1 h2) ?_;rw[JV (eN y4 ib.sD fun z=>(y6 z).trans (uw so.a so.b so.p al z).1)]
  try rw[Sw.pC]
  try refine⟨_,rfl,?_⟩
  rw[Jj rfl];refine rX y3 (Ext.bL y1 h1) ?_;rw[JV (eN y5 ia.sD fun z=>(y7 z).trans (uw so.a so.b so.p al z).2)];exact fin _
theorem ym {M:Mo} {H:Hp} {p:Addr} {T:List Nu} {Q:VK} (hp:H p=some (.lst (gj T))) (na:o_ H T) (h:∀T' q,T'.Perm T->H q=none->M q=none->Q (.ref q) (upd H q (.lst (gj T')))):Dg M .sortN (.ref p) H Q:=by
 show(match rd M H p with
  | some (.lst xs)=>xs.all (B9 M H)=true/\∀ws l,List.Perm ws xs->H l=none->M l=none->Q (.ref l) (upd H l (.lst ws))
  | _=>False)
 rw[ao hp ai];refine⟨?_,fun ws q pm hq mq=>?_⟩
 ·rw[KA];intro v hv;obtain⟨t,ht,rfl⟩:=Jn.mp hv
  show(match rd M H t.1 with
   | some (.tup [.int _,.int _])=>true
   | _=>false)=true
  rw[ao (na t ht) bG]
 ·obtain⟨T',p1,rfl⟩:=ji (φ:=fun t:Nu=>V.ref t.1) pm;exact h T' q p1 hq mq
theorem zU {M:Mo} {H:Hp} {p:Addr} {F:List Fp} {k:Nat} {x:Fp} {Q:VK} (h:rd M H p=some (.lst (aB F))) (e:F[k]?=some x) (q:Q (.ref x.1) H):c_ M (.ref p) (.int k) H Q:=by
 refine iA h ?_ q;have hk:=(Jv.mp e).1;unfold k_ oF;rw[Jj (by omega),Jj (by unfold aB;rw[Jk];omega)];show(aB F)[k]?=_;unfold aB;rw[JJ,e];rfl
structure ES (H:Hp) (Ts:List Tb) (w p1 p2 d:Addr) (E:List Ent) (A B:List Pr) (T:List Nu):Prop where
 W:bu H w E
 one:ay H p1 A
 two:ay H p2 B
 dr:H d=some (.lst (gj T))
 nu:o_ H T
 tb:∀t ∈ Ts,TabAt H t
theorem ES.Ak {M:Mo} {H H':Hp} {Ts:List Tb} {w p1 p2 d:Addr} {E:List Ent} {A B:List Pr} {T:List Nu} (s:ES H Ts w p1 p2 d E A B T) (x:eK M H H') (tb:∀t ∈ Ts,TabAt H' t):ES H' Ts w p1 p2 d E A B T:=
 ⟨x.Fd s.W,x.uX s.one,x.uX s.two,x.same _ _ s.dr (fun _ z=>nomatch z),D6 x s.nu,tb⟩
theorem ES.ext {M:Mo} {H H':Hp} {Ts:List Tb} {w p1 p2 d:Addr} {E:List Ent} {A B:List Pr} {T:List Nu} (s:ES H Ts w p1 p2 d E A B T) (x:Ext M H H'):ES H' Ts w p1 p2 d E A B T:=s.Ak (hX x) fun t ht=>fQ x (s.tb t ht)
theorem GG {Γ:b0} {D:Ends} {Ξ:XS} {Ts:List Tb} {H:Hp} {w p1 p2 f d:Addr} {E:List Ent} {A B:List Pr} {F:List Fp} {T0 T:List Nu} {s0 s1 s4 s5 s6:Option V} (K:CL Γ.mod Γ Ts) (s:ES H Ts w p1 p2 d E A B T) (ok:gk (cont E)) (ia:aG E (au A)) (ib:aG E (au B)) (hf:H f=some (.lst (aB F))) (fa:uq H F) (pt:o9 (au A) (au B) (aE F)) (e0:T0.map (·.2.2)=List.range' 0 T0.length) (l0:T0.length=F.length) (pm:T.Perm T0) (fin:∀H',D.rt (.bl true) H'):
  wSs yi Γ Ξ D [s0,s1,some (.ref w),some (.ref p1),s4,s5,s6,some (.ref p2),some (.ref f),some (.ref d),none,none,none,none,none,none] H:=by
 have K':=K;obtain⟨_,gc,ce,mi,na,we,pl,co,pa,tu,lt⟩:=K;have pA:=fU ia;have pB:=fU ib;have fl:=pt.len;rw[dZ]at fl;have tl:T.length<=40:=by rw[pm.length_eq,l0];exact fl
 have tk:∀t ∈ T,t.2.2 < F.length:=fun t ht=>by
  have:t.2.2 ∈ T0.map (·.2.2):=Jn.mpr ⟨t,pm.mem_iff.mp ht,rfl⟩;rw[e0,List.mem_range'_1]at this;omega
 unfold yi;refine seq ?_;walk_at "s1";refine⟨gc,bJ (ao s.dr ai) fun D1 h1 m1=>?_⟩;have xd:∀o,Ext Γ.mod H (upd H D1 (.lst o)):=fun o=>Ext.upd h1 m1;refine ig (G:=[]) h1 F (fun _=>true) (fun o=>ao ((xd o).same _ _ s.dr) ai) T s.nu tk (fun t ht acc R q=>q) (fun t ht x ex acc Q q=>zU (ao ((xd acc).same _ _ hf) ai) ex q) (by simp;omega) ?_;rw[Kk];obtain⟨so1,al1,mem1⟩:=some_of (fun _=>true) pA pB pt e0 l0 pm;have al1:=al1 fun _=>rfl;have x1:=xd (aB (T.filterMap (sel F fun _=>true)));have hG:upd H D1 (.lst (aB (T.filterMap (sel F fun _=>true)))) D1=some (.lst (aB (T.filterMap (sel F fun _=>true)))):=ae;generalize T.filterMap (sel F fun _=>true)=G at so1 al1 mem1 x1 hG;generalize upd H D1 (.lst (aB G))=H1 at x1 hG;have s1':=s.ext x1;have fa1:=fa.ext x1;have hf1:=x1.same _ _ hf;refine seq ?_;walk_at "s1";refine⟨gc,bJ (ao s1'.dr ai) fun D2 h2 m2=>?_⟩;have xe:∀o,Ext Γ.mod H1 (upd H1 D2 (.lst o)):=fun o=>Ext.upd h2 m2;refine ig (G:=[]) h2 F (fun z=>decide (z % 2=1)) (fun o=>ao ((xe o).same _ _ s1'.dr) ai) T s1'.nu tk (fun t ht acc R q=>?_) (fun t ht x ex acc Q q=>zU (ao ((xe acc).same _ _ hf1) ai) ex q) (by simp;omega) ?_
 ·walk_at "s1";rw[Sw.v_mod];refine⟨by decide,?_⟩;rw[Sw.j8];exact⟨_,rfl,q⟩
 rw[Kk];obtain⟨so2,_,mem2⟩:=some_of (fun z=>decide (z % 2=1)) pA pB pt e0 l0 pm;have x2:=xe (aB (T.filterMap (sel F fun z=>decide (z % 2=1))));have hS:upd H1 D2 (.lst (aB (T.filterMap (sel F fun z=>decide (z % 2=1))))) D2=some (.lst (aB (T.filterMap (sel F fun z=>decide (z % 2=1))))):=ae;generalize T.filterMap (sel F fun z=>decide (z % 2=1))=S at so2 mem2 x2 hS;generalize upd H1 D2 (.lst (aB S))=H2 at x2 hS;have s2':=s1'.ext x2;have fa2:=fa1.ext x2;refine seq ?_;walk_at "s1";refine⟨⟨gc,lt.1⟩,?_⟩;rw[lt.2];refine⟨w,p1,p2,D2,E,A,B,S,_,rfl,s2'.W,ok,s2'.one,s2'.two,ia,ib,hS,fun z hz=>fa2 z (mem2 z hz),so2,s2'.tb,fun H3 x3 t3=>?_⟩;have s3':=s2'.Ak x3 t3;have fa3:=x3.xi fa2;have hG3:=x3.same _ _ (x2.same _ _ hG) (fun _ z=>nomatch z)
 try dsimp only
 rw[Sw.pC,Ji (by decide)];refine⟨⟨gc,lt.1⟩,?_⟩
 try rw[lt.2]
 refine⟨w,p1,p2,D1,E,A,B,G,_,rfl,s3'.W,ok,s3'.one,s3'.two,ia,ib,hG3,fun z hz=>fa3 z (mem1 z hz),so1,s3'.tb,fun H4 x4 t4=>?_⟩;have s4':=s3'.Ak x4 t4;have fa4:=x4.xi fa3;have hG4:=x4.same _ _ hG3 (fun _ z=>nomatch z)
 try dsimp only
 rw[Sw.pC,Ji (by decide)];refine ck ?_;have fA:=cq ok s.W.bK ia;have fB:=cq ok s.W.bK ib;refine seq ?_;walk_at "s1";refine⟨⟨gc,pa.1⟩,?_⟩;rw[pa.2];refine⟨p2,p1,B,A,rfl,s4'.two,s4'.one,pB,pA,fB,fA,s4'.tb,fun H5 g2 F2 x5 t5 n5 m5 hF2 fb5 po=>?_⟩;have s5':=s4'.Ak x5 t5;have fa5:=x5.xi fa4;have hG5:=x5.same _ _ hG4 (fun _ z=>nomatch z);have pt2:=yF pB pA (by rw[cX];exact fB) (by rw[cX];exact fA) po
 have l2:T0.length=F2.length:=by
  rw[l0,<-dZ F,<-dZ F2];exact Nat.le_antisymm (rh pA pB pt pt2) (rh pB pA pt2 pt)
 have tk2:∀t ∈ T,t.2.2 < F2.length:=fun t ht=>by rw[<-l2,l0];exact tk t ht
 refine seq ?_;walk_at "s1";refine⟨⟨gc,lt.1⟩,gc,bJ (ao s5'.dr ai) fun D3 h3 m3=>?_⟩;have xg:∀o,Ext Γ.mod H5 (upd H5 D3 (.lst o)):=fun o=>Ext.upd h3 m3;refine ig (G:=[]) h3 F2 (fun z=>decide (z % 2=1)) (fun o=>ao ((xg o).same _ _ s5'.dr) ai) T s5'.nu tk2 (fun t ht acc R q=>?_) (fun t ht x ex acc Q q=>zU (ao ((xg acc).same _ _ hF2) ai) ex q) (by simp;omega) ?_
 ·walk_at "s1";rw[Sw.v_mod];refine⟨by decide,?_⟩;rw[Sw.j8];exact⟨_,rfl,q⟩
 rw[Kk];obtain⟨so3,_,mem3⟩:=some_of (fun z=>decide (z % 2=1)) pB pA pt2 e0 l2 pm;have x6:=xg (aB (T.filterMap (sel F2 fun z=>decide (z % 2=1))));have hR:upd H5 D3 (.lst (aB (T.filterMap (sel F2 fun z=>decide (z % 2=1))))) D3=some (.lst (aB (T.filterMap (sel F2 fun z=>decide (z % 2=1))))):=ae;generalize T.filterMap (sel F2 fun z=>decide (z % 2=1))=R at so3 mem3 x6 hR;generalize upd H5 D3 (.lst (aB R))=H6 at x6 hR;have s6':=s5'.ext x6
 try dsimp only
 rw[lt.2];refine⟨w,p2,p1,D3,E,B,A,R,_,rfl,s6'.W,ok,s6'.two,s6'.one,ib,ia,hR,fun z hz=>(fb5.ext x6) z (mem3 z hz),so3,s6'.tb,fun H7 x7 t7=>?_⟩;have s7':=s6'.Ak x7 t7
 try dsimp only
 rw[Sw.pC,Ji (by decide)];refine ck ?_;exact Cg K' s7'.W ok s7'.one s7'.two ia ib (x7.same _ _ (x6.same _ _ hG5) (fun _ z=>nomatch z)) (fun z hz=>(x7.xi (fa5.ext x6)) z (mem1 z hz)) so1 al1 fin
theorem C5 {M:Mo} {H:Hp} {p:Addr} {a b:V} (h:H p=some (.lst [a,b])):(∀ {Q:VK},Q a H->c_ M (.ref p) (.int 0) H Q)/\∀ {Q:VK},Q b H->c_ M (.ref p) (.int 1) H Q:=by
 constructor
 ·intro Q q;rw[iC,ao h ai];exact q
 ·intro Q q;rw[iC,ao h ai];exact q
theorem ED {Γ:b0} {D:Ends} {Ξ:XS} {Ts:List Tb} {H:Hp} {s w p1 p2:Addr} {is:List Int} {E:List Ent} {A B:List Pr} {s1 s4 s5 s6:Option V} (K:CL Γ.mod Γ Ts) (hs:rd Γ.mod H s=some (.lst (is.map V.int))) (W:bu H w E) (ok:gk (cont E)) (h1:ay H p1 A) (h2:ay H p2 B) (ia:aG E (au A)) (ib:aG E (au B)) (tb:∀t ∈ Ts,TabAt H t) (fin:∀H',D.rt (.bl true) H'):
  wSs A9 Γ Ξ D [some (.ref s),s1,some (.ref w),some (.ref p1),s4,s5,s6,some (.ref p2),none,none,none,none,none,none,none,none] H:=by
 have K':=K;obtain⟨_,gc,ce,mi,na,we,pl,co,pa,tu,lt⟩:=K;have fA:=cq ok W.bK ia;have fB:=cq ok W.bK ib;unfold A9;refine seq ?_;walk_at "s1";refine⟨⟨gc,pa.1⟩,?_⟩;rw[pa.2];refine⟨p1,p2,A,B,rfl,h1,h2,fU ia,fU ib,fA,fB,tb,fun H1 f F x1 t1 n1 m1 hf fa po=>?_⟩;have pt:=yF (fU ia) (fU ib) (by rw[cX];exact fA) (by rw[cX];exact fB) po;have fl:=pt.len;rw[dZ]at fl
 have hs1:rd Γ.mod H1 s=some (.lst (is.map V.int)):=by
  unfold rd at hs ⊢;cases q:H s with
  | some o=>
   rw[q]at hs;have nt:∀ps,o ≠ .tbl ps:=fun ps z=>by rw[z]at hs;cases hs
   rw[x1.same _ _ q nt];exact hs
  | none=>
   rw[q]at hs;have hs:Γ.mod s=some (.lst (is.map V.int)):=hs;rw[x1.off s (by rw[hs];exact fun z=>nomatch z) q];exact hs
 refine seq ?_;dsimp only[Sw.wS,Sw.wE,Sw.wEs,Sw.wTs,Sw.wI,Sw.vars,Sw.dz,Sw.dw,Sw.cR,Sw.cQ,Sw.dq,Sw.dm,Sw.dC,Sw.dB,Sw.dt,L2.start,Sw.dY,Sw.dX,Sw.dW,Sw.dU,Nat.reduceAdd,Nat.reduceSub];refine⟨gc,gc,gc,gI (ao hf ai) ?_⟩;dsimp only;have lf:(aB F).length=F.length:=by unfold aB;rw[Jk]
 rw[lf];refine⟨by omega,by omega,fun d hd md=>?_⟩;rw[show((F.length:Int)).toNat=F.length from rfl];have xd:Ext Γ.mod H1 (upd H1 d (.lst [])):=Ext.upd hd md
 refine jy (fun m acc Hm=>∃T:List Nu,acc=gj T/\Hm d=some (.lst (gj T))/\o_ Hm T/\Ext Γ.mod H1 Hm/\T.map (·.2.2)=List.range' 0 m/\T.length=m) (fun m acc Hm z=>?_) (fun m v acc Hm K2 hv pv nx2=>?_) (fun acc Hm pv=>?_)
  ⟨[],rfl,ae,(fun x hx=>by (cases hx)),xd,rfl,rfl⟩
 ·obtain⟨T,rfl,z1,_⟩:=z;exact⟨trivial,z1⟩
 ·obtain⟨T,rfl,z1,z2,z3,z4,z5⟩:=pv;obtain⟨k1,rfl⟩:=cP hv;walk_at "s1";rw[Jj rfl];refine⟨⟨gc,mi.1⟩,⟨gc,ce.1⟩,?_⟩;rw[ce.2];refine⟨s,1,is,rfl,by decide,z3.rd hs1,fun c=>?_⟩
  try dsimp only
  rw[Sw.v_add,mi.2];refine⟨c,_,rfl,by omega,by omega,fun z _ _ _=>?_⟩
  try dsimp only
  refine⟨by rw[Jy];simp,fun t ht mt=>?_⟩;have nd:=aj z1 ht;have er:gj T++[V.ref t]=gj (T++[(t,z,m)]):=by unfold gj;rw[JA];rfl
  refine⟨by rw[af nd];exact z1,by unfold gj;rw[Jk,Jy];omega,nx2 _ _ ⟨T++[(t,z,m)],er,by rw[ae,er],fun y hy=>?_,(z3.cn (z3.aQ ht) mt).cn hd md,?_,by rw[Jw,z5];rfl⟩⟩
  ·rcases JB.mp hy with hy | hy
   ·have:=z2 y hy;rw[af (fun q=>by rw[q,z1]at this;cases this),af (aj this ht)];exact this
   ·rw[Jz.mp hy,af (Kv nd),ae]
  ·rw[JA,z4,List.range'_concat];simp
 ·obtain⟨T0,rfl,z1,z2,z3,z4,z5⟩:=pv;rw[Jk,J8]at z4 z5;refine ym z1 z2 fun T g pm hg mg=>?_;have x4:=Ext.upd (M:=Γ.mod) (H:=Hm) (o:=.lst (gj T)) hg mg;have x34:=z3.trans x4;have xx:=x1.lI (hX x34);refine GG (T0:=T0) (T:=T) K' ⟨xx.Fd W,xx.uX h1,xx.uX h2,ae,fun t ht=>x4.same _ _ (z2 t (pm.mem_iff.mp ht)),fun t ht=>fQ x34 (t1 t ht)⟩ ok ia ib (x34.same _ _ hf) (fa.ext x34) pt (by rw[z4,z5]) z5 pm fin
noncomputable def uJ (M:Mo) (Ts:List Tb):Sp:=fun vs H Q _=>∃ (a:Addr) (ns:List Int),vs=[.ref a]/\ns.length<=63/\rd M H a=some (.lst (ns.map V.int))/\iU M H/\(∀ t ∈ Ts,TabAt H t)/\∀H',Q (.bl true) H'
theorem zi {M:Mo} {Γ:b0} {Ts:List Tb} (K:CL M Γ Ts) (vs:List V) (H:Hp) (Q:VK) (X:XK) (h:uJ M Ts vs H Q X):eJ Γ AO 1 AG vs H Q X:=by
 obtain⟨s,is,rfl,hl,hs,off,tb,h⟩:=h;refine⟨rfl,?_⟩;have K':=K;obtain⟨rfl,gc,ce,mi,na,we,pl,co,pa,tu,lt⟩:=K
 have cell:∀ {H':Hp} (i:Int) (Q:VK) (X:XK),rd Γ.mod H' s=some (.lst (is.map V.int))->0<=i->(∀ c,Q (.int c) H')->Γ.fn "_law_cell" [.ref s,.int i] H' Q X:=fun{H'} i Q X hs h0 q=>by
  rw[ce.2];exact⟨s,i,is,rfl,h0,hs,q⟩
 unfold AG;refine seq ?_;walk_at "s1";refine⟨⟨gc,na.1⟩,⟨gc,ce.1⟩,cell _ _ _ hs (by decide) fun c0=>?_⟩
 try dsimp only
 refine⟨⟨gc,ce.1⟩,cell _ _ _ hs (by decide) fun c2=>?_⟩
 try dsimp only
 rw[Sw.v_mod];refine⟨by decide,?_⟩;rw[Sw.v_add,na.2];have m0:=Km c2 (show(20:Int) ≠ 0 by decide);have m1:=Ki c2 (show(0:Int) < 20 by decide);refine⟨c0,_,rfl,by omega,by omega,fun H1 nm ns x1 nm0 mnm hn nd ln=>?_⟩;refine seq ?_;walk_at "s1";refine⟨⟨gc,we.1⟩,?_⟩;rw[we.2];refine⟨s,nm,4,is,ns,rfl,x1.rd hs,ao hn ai,nd,by omega,by omega,fun H2 w E x2 w0 mw fr W ok ks=>?_⟩;have x02:=x1.trans x2;refine seq ?_;walk_at "s1";refine⟨⟨gc,pl.1⟩,⟨gc,ce.1⟩,cell _ _ _ (x02.rd hs) (by decide) fun c3=>?_⟩
 try dsimp only
 refine⟨by rw[Jy];simp,fun ah ah0 mah=>⟨⟨gc,ce.1⟩,?_⟩⟩;have xa:Ext Γ.mod H2 (upd H2 ah (.lst [])):=Ext.upd ah0 mah;have hah:ay (upd H2 ah (.lst [])) ah []:=⟨ae,fun y hy=>(nomatch hy)⟩;generalize upd H2 ah (.lst [])=Ha at xa hah;refine cell _ _ _ ((x02.trans xa).rd hs) (by decide) fun c2b=>?_
 try dsimp only
 rw[Sw.v_div];refine⟨by decide,by decide,?_⟩;rw[pl.2];refine⟨w,c3,ah,_,E,[],rfl,Ext.nD xa W,ok.ok,mw,hah,(fun y hy=>(nomatch hy)),.nil,fun H3 p1 P x3 p10 mp1 a1 r1 d1 f1 g1=>?_⟩;have x23:=xa.trans x3;have x03:=x02.trans x23;refine seq ?_;walk_at "s1";refine⟨⟨gc,co.1⟩,⟨gc,ce.1⟩,cell _ _ _ (x03.rd hs) (by decide) fun c3b=>?_⟩
 try dsimp only
 rw[co.2];refine⟨p1,c3b,P,rfl,a1,by omega,fun H4 cm C x4 c0' mc hc sub=>?_⟩;have x04:=x03.trans x4;refine seq ?_;walk_at "s1";refine⟨⟨gc,ce.1⟩,cell _ _ _ (x04.rd hs) (by decide) fun c2c=>?_⟩
 try dsimp only
 rw[Sw.v_div];refine⟨by decide,by decide,?_⟩;rw[Sw.v_mod];refine⟨by decide,?_⟩;have q0:=Km (c2c / 4000) (show(2:Int) ≠ 0 by decide);have q1:=Ki (c2c / 4000) (show(0:Int) < 2 by decide);generalize c2c / 4000 % 2=dg at q0 q1;refine seq ?_;walk_at "s1";refine⟨⟨gc,ce.1⟩,cell _ _ _ (x04.rd hs) (by decide) fun c2d=>?_⟩
 try dsimp only
 refine⟨⟨gc,ce.1⟩,cell _ _ _ (x04.rd hs) (by decide) fun c2e=>?_⟩
 try dsimp only
 rw[Sw.v_div];refine⟨by decide,by decide,by rw[Jy];simp,fun l hll ml=>?_⟩;have x5:=Ext.upd (M:=Γ.mod) (H:=H4) (o:=.lst [.int c2d,.int (c2e / 8000)]) hll ml
 have go:∀c6:Int,wSs (.cons (.asg 7 (.call "_law_plan" (.cons (.var 2) (.cons (.var 6) (.cons (.var 4) (.cons (.var 5) .nil)))))) A9) Γ (fun C d _ H'=>X C d H') {nx:=fun _ H'=>Q .aQ H',rt:=Q} [some (.ref s),some (.ref nm),some (.ref w),some (.ref p1),some (.ref cm),some (.int dg),some (.int c6),none,none,none,none,none,none,none,none,none] (upd H4 l (.lst [.int c2d,.int (c2e / 8000)])):=fun c6=>by
  generalize upd H4 l (.lst [.int c2d,.int (c2e / 8000)])=H5 at x5;have x45:=x4.trans x5;refine seq ?_;walk_at "s1";refine⟨⟨gc,pl.1⟩,?_⟩;rw[pl.2];refine⟨w,c6,cm,dg,E,C,rfl,Ext.nD (x23.trans x45) W,ok.ok,mw,Ext.bL x5 hc,fun y hy=>g1 y (sub.subset hy),d1.sublist (gM (sub.map _)),fun H6 p2 R x6 p20 mp2 a2 r2 d2 f2 g2=>?_⟩;have x36:=x45.trans x6
  exact ED K' ((x03.trans x36).rd hs) (Ext.nD (x23.trans x36) W) ok.ok (Ext.bL x36 a1) a2 ⟨fun x hx=>by
   obtain⟨y,hy,rfl⟩:=Jn.mp hx;exact g1 y hy,d1,r1⟩ ⟨fun x hx=>by
   obtain⟨y,hy,rfl⟩:=Jn.mp hx;exact g2 y hy,d2,r2⟩ (fun t ht=>fQ (x03.trans x36) (tb t ht)) h
 rcases(show dg=0\/dg=1 by omega)with e | e
 ·subst e;exact(C5 ae).1 (go _)
 ·subst e;exact(C5 ae).2 (go _)
end Ik
namespace Sw
open PySem PySem.Spec PyProof.Rows L2
open PySem.W (Frag tabObj CodeHd codeHdIn codeHd_of_K noTabs mem_of_lookupK)
theorem wR {P:Program} {w:World} {K:Frag} {mg mb:NY} {CX:xM} {k:Nat} {fa a:Addr} {fd:FuncData} {x:Str} {sp:Sp} {s₁:Shared} {vs:NX} {ns:List Int} (ts:List Addr)
  (KX:K.In s₁.heap) (hT:∀T ∈ ts,s₁.heap.get? T=some (tabObj #[])) (hcd:∀T ∈ ts,isCodeTable s₁.heap T) (hno:noTabs K=true)
  (hns:s₁.heap.Ns mainGlobals mg) (hb:s₁.heap.Ns builtinsNs mb) (hbb:∀x:Str,x ≠ "__name__" ->mb x=bootBuiltins x) (hlim:s₁.heap.NoLimit) (hg:s₁.gens=#[])
  (hbm:∃bm ob,mg "__builtins__" =some (.ref bm)/\bm ≠ builtinsNs/\s₁.heap.get? bm=some ob/\ob.cls=.type "module" /\ob.dict=some builtinsNs/\ob.data=.plain)
  (ha:s₁.heap.get? a=some {cls:=.type "list",data:=.seq vs.toArray}) (hi:IntsAre vs ns) (hl:ns.length<=sizeLine) (hr:dM k callerA)
  (F:∀base:Heap,K.In base->base.Ns mainGlobals mg->(∀ T ∈ ts,base.BuiltinsAt mg T)->eG P w K mg base CX k fa fd [x] sp) (hbind:∀ (s:Shared) (u:Value),BindsTo s fd ⟨[u],[]⟩ [(x,u)])
  (hsp:∀H:Hp,(∀ T ∈ ts,H T=some (.tbl #[]))->j5 K H a (ns.map V.int)->sp [.ref a] H (fun v _=>v=.bl true) fun _ _ _=>False)
  (hCX:∀H e s',CX [] H s₁ (fun _ _ _=>False) e s'->False):
  codeAny (model P w) callerA (.call (.ref fa) ⟨[.ref a],[]⟩) (fun r s'=>r=.ok (.ret (.bool true))/\OldK s₁.heap s'.heap/\s'.os=s₁.os/\AllBare s'.gens) s₁:=by
 have rv:=n9 hi;have lenV:=hi.length
 have haT:a ∉ ts:=fun z=>by
  have:=hT a z;rw[ha]at this;cases this
 have hKT:∀T ∈ ts,K.lookup T=none:=fun T hm=>by
  cases q:K.lookup T with
  | none=>rfl
  | some o=>
   have e:=KX _ _ q;rw[hT T hm]at e;cases e
   have h2:=KA.mp hno (T,tabObj #[]) (mem_of_lookupK q);exact absurd (show false=true from h2) JO
 have core:∀H:Hp,(∀ T ∈ ts,H T=some (.tbl #[]))->j5 K H a (ns.map V.int)->i4 P w H s₁.heap->(∀ b,H b ≠ none->b ∉ ts->b=a/\∃o xs,H b=some (.frz o (.lst xs)))->(H a ≠ none->K.lookup a=none)->
   codeAny (model P w) callerA (.call (.ref fa) ⟨[.ref a],[]⟩) (fun r s'=>r=.ok (.ret (.bool true))/\OldK s₁.heap s'.heap/\s'.os=s₁.os/\AllBare s'.gens) s₁:=by
  intro H hTs hS bB hA hK;have ij:∀ {b:Addr} {o:Obj},s₁.heap.get? b=some o->H b=none->(nU s₁.heap H).get? b=some o:=fun e n=>z_ e n
  have noB:∀ {b:Addr} {o:Obj},s₁.heap.get? b=some o->(∀ v n,o.data ≠ .seq v n)->(∀ v,o.data ≠ .fields v)->H b=none:=fun{b o} e d1 d2=>by
   cases q:H b with
   | none=>rfl
   | some u=>
    by_cases hb:b ∈ ts
    ·have:=hT b hb;rw[e]at this;cases this;exact absurd rfl (d2 _)
    ·obtain⟨e',_⟩:=hA b (by rw[q];exact fun z=>nomatch z) hb;subst e';rw[ha]at e;cases e;exact absurd rfl (d1 _ _)
  have nsK:∀ {b:Addr} {m:NY},s₁.heap.Ns b m->(nU s₁.heap H).Ns b m:=fun{b m} ⟨o,es,ep,e,d,r⟩=>⟨o,es,ep,ij e (noB e (fun v n z=>by rw[d]at z;cases z) fun v z=>by rw[d]at z;cases z),d,r⟩
  have hKb:K.In (nU s₁.heap H):=fun b o e=>ij (KX b o e) (by
   cases q:H b with
   | none=>rfl
   | some u=>
    by_cases hb:b ∈ ts
    ·rw[hKT b hb]at e;cases e
    ·obtain⟨e',_⟩:=hA b (by rw[q];exact fun z=>nomatch z) hb;subst e';rw[hK (by rw[q];exact fun z=>nomatch z)]at e;cases e)
  have hM:Mod K mg (nU s₁.heap H):=⟨hKb,nsK hns,⟨mb,nsK hb,hbb⟩,let ⟨mc,h1,h2⟩:=hlim;⟨mc,nsK h1,h2⟩⟩
  have hBu:∀T ∈ ts,(nU s₁.heap H).BuiltinsAt mg T:=fun T hm=>by
   obtain⟨bm,ob,b1,b2,b3,b4,b5,b6⟩:=hbm;have n0:H bm=none:=noB b3 (fun v n z=>by rw[b6]at z;cases z) fun v z=>by rw[b6]at z;cases z
   refine⟨bm,ob,b1,b2,fun z=>?_,fun z=>?_,ij b3 n0,b4,b5,b6⟩
   ·obtain⟨o,es,ep,e,d,_⟩:=hns;rw[z,e]at b3;cases b3;rw[d]at b6;cases b6
   ·rw[z,hTs T hm]at n0;cases n0
  have e0:xK P w K mg (nU s₁.heap H) callerA [] s₁ H:=⟨rfl,hM,fun b o e=>B8 e,My (w6 _ _),trivial,fun b hb=>absurd (show b ∈ ([]:List Addr)from hb) (by simp),bB,.of_eq hg⟩;refine Mw ((F _ hKb (nsK hns) hBu).run callerA [] s₁ H ⟨[.ref a],[]⟩ [.ref a] [.ref a] _ _ hr e0 (hbind s₁ (.ref a)) (.cons rfl .nil) (hsp H hTs hS)) fun r s' h=>?_;cases r with
  | error e=>exact(hCX H e s' h).elim
  | ok fl=>
   cases fl with
   | next=>exact False.elim h
   | brk=>exact False.elim h
   | cont=>exact False.elim h
   | ret u=>
    obtain⟨v,H',os,bare,un,hok',r',q⟩:=h;have q':v=.bl true:=q;subst q';obtain rfl:u=Value.bool true:=r'
    have same:∀b o,b ∉ ts->s₁.heap.get? b=some o->s'.heap.get? b=some o:=fun b o hb e=>by
     cases q:H b with
     | none=>exact un.keep b o e q (by intro z;exact absurd (show b ∈ ([]:List Addr)from z) (by simp)) (by simp)
     | some u=>
      obtain⟨_,ob,xs,z⟩:=hA b (by rw[q];exact fun z=>nomatch z) hb;have z2:=un.kz b ob _ z;obtain⟨e1,_⟩:=bB b _ z;obtain⟨e2,_⟩:=hok' b _ z2;rw[e]at e1;cases e1;exact e2
    have grew:∀T ∈ ts,∃ps,s'.heap.get? T=some (tabObj ps):=fun T hm=>by
     obtain⟨more,z⟩:=un.kq T _ (hTs T hm);exact⟨_,hok' T _ z⟩
    refine⟨rfl,⟨fun b o e=>?_,fun b o e=>?_⟩,os,bare⟩
    ·by_cases hb:b ∈ ts
     ·obtain⟨ps,z⟩:=grew b hb;have:=hT b hb;rw[e]at this;cases this;exact .inr (.inl ⟨hcd b hb,rfl,#[],ps,rfl,by rw[Array.empty_append];exact z⟩)
     ·exact .inl (same b o hb e)
    ·by_cases hb:b ∈ ts
     ·obtain⟨ps,z⟩:=grew b hb;exact⟨_,z⟩
     ·exact⟨o,same b o hb e⟩
 cases hk:K.lookup a with
 | some o=>
  have e:=KX a o hk;rw[ha]at e;cases e
  refine core (fun b=>if b ∈ ts then some (.tbl #[])else none) (fun T hm=>Jj hm) (.inr ⟨_,vs.toArray,_,hk,rfl,rfl,rfl,by rw[JH,lenV];exact hl,by simpa using rv⟩) (fun b u z=>?_) (fun b z hb=>absurd (Ji hb) z) fun z=>absurd (Ji haT) z
  by_cases hb:b ∈ ts
  ·have z':=(Jj hb).symm.trans z;cases z'
   exact hT b hb
  ·have z':=(Ji hb).symm.trans z;cases z'
 | none=>
  refine core (fun b=>if b ∈ ts then some (.tbl #[])else if b=a then some (.frz {cls:=.type "list",data:=.seq vs.toArray} (.lst (ns.map V.int)))else none) (fun T hm=>Jj hm) (.inl (.inr ⟨{cls:=.type "list",data:=.seq vs.toArray},(Ji haT).trans (Jj rfl)⟩)) (fun b u z=>?_) (fun b z hb=>?_) fun _=>hk
  ·by_cases hb:b ∈ ts
   ·have z':=(Jj hb).symm.trans z;cases z'
    exact hT b hb
   ·by_cases hb2:b=a
    ·have z':=((Ji hb).trans (Jj hb2)).symm.trans z;cases z'
     subst hb2;exact⟨ha,by rw[Jk];exact hl,vs,_,rv,ha⟩
    ·have z':=((Ji hb).trans (Ji hb2)).symm.trans z;cases z'
  ·by_cases hb2:b=a
   ·exact⟨hb2,_,_,(Ji hb).trans (Jj hb2)⟩
   ·exact absurd ((Ji hb).trans (Ji hb2)) z
theorem xW {l:PySem.W.OpenLaw} {n k:Nat} {q:Program} {loose:NW} {XP:(NY)->Heap->Prop} {YP:World->Heap->Prop} {d:DefRec} {K:Params->Frag} {CX:World->xM} {sp:World->Sp} {x:Str} (ts:List Addr)
  (hn:l.most=some n) (hn2:n<=sizeLine) (hdf:d.params.defaults=[]) (hr:dM k callerA)
  (hY:∀ (w:World) (h:Heap),YP w h->(K w.params).In h/\∀T ∈ ts,h.get? T=some (tabObj #[]))
  (hno:∀w:World,noTabs (K w.params)=true) (hcd:∀w:World,∀T ∈ ts,∃c,codeHdIn (K w.params) c T=true)
  (F:∀ (w:World) (mg:NY) (fa:Addr) (h:Heap),(K w.params).In h->h.Ns mainGlobals mg->mg d.name=some (.ref fa)->
   ∃fd:FuncData,(∀ (s:Shared) (u:Value),BindsTo s fd ⟨[u],[]⟩ [(x,u)])/\
    ∀base:Heap,(K w.params).In base->base.Ns mainGlobals mg->(∀ T ∈ ts,base.BuiltinsAt mg T)->eG l.prog w (K w.params) mg base (CX w) k fa fd [x] (sp w))
  (hsp:∀ (w:World) (H:Hp) (a:Addr) (ns:List Int),ns.length<=n->(∀ T ∈ ts,H T=some (.tbl #[]))->j5 (K w.params) H a (ns.map V.int)->sp w [.ref a] H (fun v _=>v=.bl true) fun _ _ _=>False)
  (hCX:∀ (w:World) (H:Hp) (s:Shared) (e:Value) (s':Shared),CX w [] H s (fun _ _ _=>False) e s'->False):
  PySem.W.WalkO q loose XP YP l.row.toRowW d [] (fun f vs=>PySem.call f vs):=by
 refine Att.sr hn hdf fun w s₀ s₁ mg mb fa o pm cd doc a vs ns G Y ho hd hcd' hmg hobj hints hlen hg=>?_;obtain⟨KX,hT⟩:=hY w _ Y;obtain⟨fd,hb,hF⟩:=F w mg fa _ KX G.T.g hmg;refine wR ts KX hT (fun T hm=>?_) (hno w) G.T.g G.T.b G.T.builtins G.T.nolimit hg G.T.bmain hobj hints (JS hlen hn2) hr hF hb (fun H hO hS=>hsp w H a ns hlen hO hS) fun H e s'=>hCX w H s₁ e s';obtain⟨c,hc⟩:=hcd w T hm;exact((codeHd_of_K KX hc).tab (hT T hm)).isCodeTable
end Sw
namespace K15
open PySem PySem.Spec PyProof.Rows L2 Sw
open PySem.W (Frag keepIn ktsIn mroIn kitOne nsIn findIn typeIn takerIn hasDictIn codeIn codeHdIn fnOf mg_of mg_none_of)
noncomputable def top (i:Nat):Stmt:=PySem.Challenge.pw_swapward_k15_whole_parts_turned.main.body.getD i (.Pass ⟨0,0,0,0⟩)
noncomputable abbrev bR:Stmt:=top 1
abbrev ui:NW:=["plan"]
theorem tI:mI (ag bR) Gk.iV Gk.iP (ax bR):=⟨by kernel_rfl,by kernel_rfl⟩
theorem qO:aN Gk.iV ui (ag bR):=⟨rfl,rfl,rfl,by decide +kernel,rfl,by decide +kernel,by decide +kernel⟩
noncomputable abbrev bb:Stmt:=top 5
abbrev nY:NW:=["plan","against"]
theorem nQ:mI (ag bb) Ik.e8 Ik.eW (ax bb):=⟨by kernel_rfl,by kernel_rfl⟩
theorem lO:aN Ik.e8 nY (ag bb):=⟨rfl,rfl,rfl,by decide +kernel,rfl,by decide +kernel,by decide +kernel⟩
noncomputable abbrev eM:Stmt:=top 6
abbrev ET:NW:=["start","first","then"]
theorem Ef:mI (ag eM) Ik.uo Ik.ua (ax eM):=⟨by kernel_rfl,by kernel_rfl⟩
theorem Bo:aN Ik.uo ET (ag eM):=⟨rfl,rfl,rfl,by decide +kernel,rfl,by decide +kernel,by decide +kernel⟩
noncomputable abbrev bY:Stmt:=top 7
abbrev CI:NW:=["one","other"]
noncomputable def HI:Stmt->Expr
 | .Return (some (.Call _ _ [⟨_,le,_⟩] _)) _=>le
 | _=>default
noncomputable def wU:Expr:=HI ((ax bY).getD 6 (.Pass ⟨0,0,0,0⟩))
noncomputable def lA:Expr->Arguments
 | .Lambda a _ _ _=>a
 | _=>aL bY
noncomputable def lB:Expr->Expr
 | .Lambda _ b _ _=>b
 | e=>e
noncomputable def lS:Expr->Scope
 | .Lambda _ _ s _=>s
 | _=>ag bY
noncomputable def D0:jH:=⟨35,wU.pos,"parts.<locals>.<lambda>","part",lA wU,lB wU,lS wU⟩
noncomputable def AW:List Tb:=[(35,D0.pos,D0.iq)]
theorem Cb:mI (ag bY) Ik.lj (Ik.ql D0.le) (ax bY):=⟨by kernel_rfl,by kernel_rfl⟩
theorem yu:aN Ik.lj CI (ag bY):=⟨rfl,rfl,rfl,by decide +kernel,rfl,by decide +kernel,by decide +kernel⟩
noncomputable abbrev cp:Stmt:=top 8
abbrev xI:NW:=["one","other"]
theorem wL:mI (ag cp) Gk.j6 Gk.jZ (ax cp):=⟨by kernel_rfl,by kernel_rfl⟩
theorem tq:aN Gk.j6 xI (ag cp):=⟨rfl,rfl,rfl,by decide +kernel,rfl,by decide +kernel,by decide +kernel⟩
noncomputable abbrev ba:Stmt:=top 9
abbrev nX:NW:=["part"]
theorem nP:mI (ag ba) Gk.e7 Gk.eV (ax ba):=⟨by kernel_rfl,by kernel_rfl⟩
theorem lN:aN Gk.e7 nX (ag ba):=⟨rfl,rfl,rfl,by decide +kernel,rfl,by decide +kernel,by decide +kernel⟩
noncomputable abbrev cG:Stmt:=top 10
abbrev AM:NW:=["plan","part"]
theorem zC:mI (ag cG) Gk.nC Gk.ni (ax cG):=⟨by kernel_rfl,by kernel_rfl⟩
theorem v_:aN Gk.nC AM (ag cG):=⟨rfl,rfl,rfl,by decide +kernel,rfl,by decide +kernel,by decide +kernel⟩
noncomputable abbrev bF:Stmt:=top 12
abbrev sA:NW:=["_law_script","_law_k"]
theorem rJ:mI (ag bF) Gk.gW Gk.gR (ax bF):=⟨by kernel_rfl,by kernel_rfl⟩
theorem pM:aN Gk.gW sA (ag bF):=⟨rfl,rfl,rfl,by decide +kernel,rfl,by decide +kernel,by decide +kernel⟩
noncomputable abbrev bU:Stmt:=top 13
abbrev uk:NW:=["_law_cell_here","_law_k"]
theorem tK:mI (ag bU) Gk.iX Gk.iR (ax bU):=⟨by kernel_rfl,by kernel_rfl⟩
theorem qQ:aN Gk.iX uk (ag bU):=⟨rfl,rfl,rfl,by decide +kernel,rfl,by decide +kernel,by decide +kernel⟩
noncomputable abbrev bp:Stmt:=top 14
abbrev qw:NW:=["_law_cell_here","_law_many"]
theorem pU:mI (ag bp) Gk.gi Gk.gg (ax bp):=⟨by kernel_rfl,by kernel_rfl⟩
theorem nN:aN Gk.gi qw (ag bp):=⟨rfl,rfl,rfl,by decide +kernel,rfl,by decide +kernel,by decide +kernel⟩
noncomputable abbrev bD:Stmt:=top 15
abbrev sx:NW:=["_law_web_here","_law_one","_law_other","_law_draw"]
theorem rH:mI (ag bD) Gk.gU Gk.gQ (ax bD):=⟨by kernel_rfl,by kernel_rfl⟩
theorem pL:aN Gk.gU sx (ag bD):=⟨rfl,rfl,rfl,by decide +kernel,rfl,by decide +kernel,by decide +kernel⟩
noncomputable abbrev bT:Stmt:=top 16
abbrev uj:NW:=["_law_script","_law_names_here","_law_start"]
theorem tJ:mI (ag bT) Gk.iW Gk.iQ (ax bT):=⟨by kernel_rfl,by kernel_rfl⟩
theorem qP:aN Gk.iW uj (ag bT):=⟨rfl,rfl,rfl,by decide +kernel,rfl,by decide +kernel,by decide +kernel⟩
noncomputable abbrev bo:Stmt:=top 17
abbrev qv:NW:=["_law_web_here"]
theorem pS:mI (ag bo) Gk.gh Gk.gf (ax bo):=⟨by kernel_rfl,by kernel_rfl⟩
theorem nM:aN Gk.gh qv (ag bo):=⟨rfl,rfl,rfl,by decide +kernel,rfl,by decide +kernel,by decide +kernel⟩
noncomputable abbrev bC:Stmt:=top 18
abbrev sv:NW:=["_law_web_here","_law_cell_here","_law_ahead","_law_digits"]
theorem rG:mI (ag bC) Gk.gT Gk.gP (ax bC):=⟨by kernel_rfl,by kernel_rfl⟩
theorem pK:aN Gk.gT sv (ag bC):=⟨rfl,rfl,rfl,by decide +kernel,rfl,by decide +kernel,by decide +kernel⟩
noncomputable abbrev aZ:Stmt:=top 19
abbrev nB:NW:=["_law_web_here","_law_plan_here"]
theorem mH:mI (ag aZ) Gk.eE Gk.eC (ax aZ):=⟨by kernel_rfl,by kernel_rfl⟩
theorem kr:aN Gk.eE nB (ag aZ):=⟨rfl,rfl,rfl,by decide +kernel,rfl,by decide +kernel,by decide +kernel⟩
noncomputable abbrev bf:Stmt:=top 20
abbrev n6:NW:=["_law_plan_here","_law_cell_here"]
theorem nS:mI (ag bf) Ik.fc Ik.eY (ax bf):=⟨by kernel_rfl,by kernel_rfl⟩
theorem lQ:aN Ik.fc n6 (ag bf):=⟨rfl,rfl,rfl,by decide +kernel,rfl,by decide +kernel,by decide +kernel⟩
noncomputable abbrev bV:Stmt:=top 21
abbrev um:NW:=["_law_one","_law_other","_law_couples"]
theorem tL:mI (ag bV) Ik.iY Ik.iS (ax bV):=⟨by kernel_rfl,by kernel_rfl⟩
theorem qR:aN Ik.iY um (ag bV):=⟨rfl,rfl,rfl,by decide +kernel,rfl,by decide +kernel,by decide +kernel⟩
noncomputable abbrev bc:Stmt:=top 22
abbrev nZ:NW:=["_law_web_here","_law_one","_law_other","_law_some"]
theorem nR:mI (ag bc) Ik.e_ Ik.eX (ax bc):=⟨by kernel_rfl,by kernel_rfl⟩
theorem lP:aN Ik.e_ nZ (ag bc):=⟨rfl,rfl,rfl,by decide +kernel,rfl,by decide +kernel,by decide +kernel⟩
noncomputable abbrev di:Stmt:=top 23
abbrev GK:NW:=["_law_script"]
theorem FW:mI (ag di) Ik.AO Ik.AG (ax di):=⟨by kernel_rfl,by kernel_rfl⟩
theorem Dx:aN Ik.AO GK (ag di):=⟨rfl,rfl,rfl,by decide +kernel,rfl,by decide +kernel,by decide +kernel⟩
theorem Dy:aN [D0.x] [D0.x] D0.scope:=⟨rfl,rfl,rfl,by decide +kernel,rfl,by decide +kernel,by decide +kernel⟩
theorem FX:bE [D0.x] rO D0.body=D0.body/\oE D0.scope [D0.x] rO D0.body=true:=⟨by kernel_rfl,by kernel_rfl⟩
theorem EM (pm ctv cd:Value) (us:NX) (h:us.length=1):bindArgs (PySem.W.kla_fn "<lambda>" D0.iq D0.args D0.body D0.scope [] pm cd ctv) ⟨us,[]⟩=pure ([D0.x].zip us):=by
 obtain⟨a,rfl⟩:=len_one h;rfl
theorem FY {P:Program} {w:World} {K:Frag} {mg:NY} {base:Heap} {f cc:Addr} {cd:Value} {k:Nat} (hcd:cd=.ref cc) (hd:codeHdIn K cc 35=true) (B:base.BuiltinsAt mg 35) (hk:5<=k)
  (A:Around) (outer:List Env) (s:Shared) (H:Hp) (E:XK):CK (kB (qy P w) P w K mg base Ik.lj "parts" (ag bY) f cd A outer s H E) D0 AW k where
 cc:=⟨cc,hcd,hd⟩
 B:=B
 iq:=by kernel_rfl
 cl:=rfl
 d0:=rfl
 t0:=Js
 t1:=fun t ht _=>Jz.mp ht
 k4:=hk
 S:=Dy
 hm:=FX
 hb:=EM
structure b_ (K:Frag) (x:Str) (st:Stmt) (f:Addr):Prop where
 at_:nsIn K mainGlobals x=some (some (.ref f))
 fn:∃fd,vQ K x x st f fd
theorem gw {K:Frag} {x:Str} {st:Stmt} {f:Addr} {oc:Value} {od an:Option Addr} {osl:Array (Option Value)} {kV doc pm cdv ct:Value} (a:nsIn K mainGlobals x=some (some (.ref f)))
  (l:K.lookup f=some ⟨oc,od,.func (fnOf x x (aL st) (ax st) (ag st) .none kV doc pm an cdv ct),osl⟩) (c:codeIn K cdv x=true) (k:keepIn K (.ref f)=true):b_ K x st f:=⟨a,_,tX l c k⟩
noncomputable def Gx:List (Str × V):=[("ROW",.str "row"),("RING",.str "ring")]
theorem rL {α:Type}:∀ {l:List (Str × α)} {x:Str} {a:α},l.lookup x=some a->(x,a) ∈ l
 | y::r,x,a,h=>by
  obtain⟨n,b⟩:=y;rw[JU]at h;cases e:(x == n)with
  | true=>rw[e]at h;cases h;rw[eq_of_beq e];exact Js
  | false=>rw[e]at h;exact Jo _ (rL h)
noncomputable def G0 (K:Frag):b0 where
 con:=fun x=>Gx.lookup x
 mod:=bX K
 has:=fun _=>false
 fn:=fun _ _ _ _ _=>False
structure Txt (K:Frag):Prop where
 Hz:∃t,nsIn K mainGlobals "ROW" =some (some (.str "row" t))
 FE:∃t,nsIn K mainGlobals "RING" =some (some (.str "ring" t))
 no:∀x ∈ eB,nsIn K mainGlobals x=some none
section
variable {P:Program} {w:World} {K:Frag} {mg:NY} {base:Heap}
theorem Gg (X:K.In base) (G:base.Ns mainGlobals mg) (T:Txt K):b9 P w K mg base (G0 K) 1:=by
 refine⟨u6 K,fun x v h=>?_,fun _ h=>absurd (show false=true from h) JO,fun x hx=>mg_none_of X G (T.no x hx),kC.none,fun _ _ h=>(nomatch h)⟩;dsimp only[G0]at h;have hm:=rL h;unfold Gx at hm;simp only[Jx,Kz,L4,NR]at hm;rcases hm with ⟨rfl,rfl⟩ | ⟨rfl,rfl⟩
 ·obtain⟨t,e⟩:=T.Hz;exact⟨_,mg_of X G e,t,rfl⟩
 ·obtain⟨t,e⟩:=T.FE;exact⟨_,mg_of X G e,t,rfl⟩
theorem _root_.Sw.b9.Jb {Γ:b0} {k:Nat} (g:b9 P w K mg base Γ k) (D:jH) (Ts:List Tb):b9 P w K mg base {Γ with lm:=some (D,Ts)} k:=⟨g.mod,g.con,g.fn,g.no,g.vc,g.gd⟩
theorem step {Γ:b0} {k:Nat} {x:Str} {st:Stmt} {f:Addr} {N ps:NW} {body:fh} {sp:Sp} (D:b_ K x st f) (S:aN N ps (ag st)) (g:b9 P w K mg base Γ k) (hm:mI (ag st) N body (ax st))
  (h:∀vs H Q E,sp vs H Q E->eJ Γ N ps.length body vs H Q E) (hlm:Γ.lm=none:=by rfl):∃fd,vQ K x x st f fd/\eG P w K mg base (qy P w) (k + 2) f fd ps sp:=by
 obtain⟨fd,F⟩:=D.fn;exact⟨fd,F,(Cv F S g hm hlm).imp h⟩
local macro_rules | `(tactic| walk_at "look")=>`(tactic| exact⟨by kernel_rfl,by kernel_rfl⟩)
noncomputable def uK (K:Frag):Sp:=fun vs H Q _=>∃ (a:Addr) (ns:List Int),vs=[.ref a]/\ns.length<=63/\j5 K H a (ns.map V.int)/\(∀ t ∈ AW,TabAt H t)/\∀H',Q (.bl true) H'
noncomputable def IP (K:Frag):List (Str × Sp):=[]
noncomputable def Iy (K:Frag):List (Str × Sp):=("mates_of",Gk.kK (bX K))::IP K
noncomputable def Iw (K:Frag):List (Str × Sp):=("mates_alone",Ik.kO (bX K))::Iy K
noncomputable def Iv (K:Frag):List (Str × Sp):=("walk",Ik.pH (bX K))::Iw K
noncomputable def Iu (K:Frag):List (Str × Sp):=("parts",Ik.i_ (bX K) AW)::Iv K
noncomputable def Ir (K:Frag):List (Str × Sp):=("swap_of",Gk.i9 (bX K))::Iu K
noncomputable def Iq (K:Frag):List (Str × Sp):=("swaps_along",Gk.kN (bX K))::Ir K
noncomputable def Ip (K:Frag):List (Str × Sp):=("turned",Gk.fk (bX K))::Iq K
noncomputable def Io (K:Frag):List (Str × Sp):=("_law_cell",Gw.lL (bX K))::Ip K
noncomputable def Im (K:Frag):List (Str × Sp):=("_law_mix",Gk.ja)::Io K
noncomputable def E5 (K:Frag):List (Str × Sp):=("_law_names",Gk.kJ (bX K))::Im K
noncomputable def E4 (K:Frag):List (Str × Sp):=("_law_join",Gk.lK)::E5 K
noncomputable def E3 (K:Frag):List (Str × Sp):=("_law_web",Gk.uH (bX K))::E4 K
noncomputable def EZ (K:Frag):List (Str × Sp):=("_law_pairs",Gk.kI (bX K))::E3 K
noncomputable def EY (K:Frag):List (Str × Sp):=("_law_plan",Gk.pI (bX K))::EZ K
noncomputable def EX (K:Frag):List (Str × Sp):=("_law_is_plan",Gk.uI (bX K))::EY K
noncomputable def EW (K:Frag):List (Str × Sp):=("_law_common",Ik.jb (bX K))::EX K
noncomputable def EV (K:Frag):List (Str × Sp):=("_law_due",Ik.kL (bX K))::EW K
noncomputable def GP (K:Frag):List (Str × Sp):=("_law_turned",Ik.Bh (bX K) AW)::EV K
theorem HW {f:Addr} (X:K.In base) (G:base.Ns mainGlobals mg) (d:b_ K "mates_of" bR f) (g:b9 P w K mg base ((G0 K).wit (IP K)) 1):b9 P w K mg base ((G0 K).wit (Iy K)) 3:=by
 obtain⟨e,F,o⟩:=step (sp:=Gk.kK (bX K)) d qO g tI (Gk.zh rfl rfl);exact b9.gr (g.mono (k:=3) (by decide)) (mg_of X G d.at_) F.kp o (qk F fun _=>fun _ _ _ _ _ _=>rfl) (by decide)
theorem HV {f:Addr} (X:K.In base) (G:base.Ns mainGlobals mg) (d:b_ K "mates_alone" bb f) (g:b9 P w K mg base ((G0 K).wit (Iy K)) 3):b9 P w K mg base ((G0 K).wit (Iw K)) 5:=by
 obtain⟨e,F,o⟩:=step (sp:=Ik.kO (bX K)) d lO g nQ (Ik.zm rfl rfl (by walk_at "look"));exact b9.gr (g.mono (k:=5) (by decide)) (mg_of X G d.at_) F.kp o (dJ F fun _ _=>fun _ _ _ _ _ _=>rfl) (by decide)
theorem HU {f:Addr} (X:K.In base) (G:base.Ns mainGlobals mg) (d:b_ K "walk" eM f) (g:b9 P w K mg base ((G0 K).wit (Iw K)) 5):b9 P w K mg base ((G0 K).wit (Iv K)) 7:=by
 obtain⟨e,F,o⟩:=step (sp:=Ik.pH (bX K)) d Bo g Ef (Ik.B4 rfl rfl);exact b9.gr (g.mono (k:=7) (by decide)) (mg_of X G d.at_) F.kp o (qj F fun _ _ _=>fun _ _ _ _ _ _=>rfl) (by decide)
theorem HS {f cc:Addr} {e:FuncData} (X:K.In base) (G:base.Ns mainGlobals mg) (a:nsIn K mainGlobals "parts" =some (some (.ref f))) (F:vQ K "parts" "parts" bY f e) (hcl:e.code=.ref cc) (hdl:codeHdIn K cc 35=true) (B:base.BuiltinsAt mg 35) (g:b9 P w K mg base ((G0 K).wit (Iv K)) 7):b9 P w K mg base ((G0 K).wit (Iu K)) 9:=
 b9.gr (g.mono (k:=9) (by decide)) (mg_of X G a) F.kp ((Ag (D:=D0) (Ts:=AW) F yu (b9.Jb g D0 AW) Cb rfl (FY hcl hdl B (by decide))).imp (sp':=Ik.i_ (bX K) AW) (Ik.ze ⟨rfl,rfl,by walk_at "look",by walk_at "look",by kernel_rfl,by kernel_rfl,rfl⟩)) (dJ F fun _ _=>fun _ _ _ _ _ _=>rfl) (by decide)
theorem HR {f:Addr} (X:K.In base) (G:base.Ns mainGlobals mg) (d:b_ K "swap_of" cp f) (g:b9 P w K mg base ((G0 K).wit (Iu K)) 9):b9 P w K mg base ((G0 K).wit (Ir K)) 11:=by
 obtain⟨e,F,o⟩:=step (sp:=Gk.i9 (bX K)) d tq g wL (Gk.wB rfl rfl);exact b9.gr (g.mono (k:=11) (by decide)) (mg_of X G d.at_) F.kp o (dJ F fun _ _=>fun _ _ _ _ _ _=>rfl) (by decide)
theorem HQ {f:Addr} (X:K.In base) (G:base.Ns mainGlobals mg) (d:b_ K "swaps_along" ba f) (g:b9 P w K mg base ((G0 K).wit (Ir K)) 11):b9 P w K mg base ((G0 K).wit (Iq K)) 13:=by
 obtain⟨e,F,o⟩:=step (sp:=Gk.kN (bX K)) d lN g nP (Gk.zk rfl rfl (by kernel_rfl) (by walk_at "look"));exact b9.gr (g.mono (k:=13) (by decide)) (mg_of X G d.at_) F.kp o (qk F fun _=>fun _ _ _ _ _ _=>rfl) (by decide)
theorem HP {f:Addr} (X:K.In base) (G:base.Ns mainGlobals mg) (d:b_ K "turned" cG f) (g:b9 P w K mg base ((G0 K).wit (Iq K)) 13):b9 P w K mg base ((G0 K).wit (Ip K)) 15:=by
 obtain⟨e,F,o⟩:=step (sp:=Gk.fk (bX K)) d v_ g zC (Gk.wA rfl rfl (by walk_at "look"));exact b9.gr (g.mono (k:=15) (by decide)) (mg_of X G d.at_) F.kp o (dJ F fun _ _=>fun _ _ _ _ _ _=>rfl) (by decide)
theorem HN {f:Addr} (X:K.In base) (G:base.Ns mainGlobals mg) (d:b_ K "_law_cell" bF f) (g:b9 P w K mg base ((G0 K).wit (Ip K)) 15):b9 P w K mg base ((G0 K).wit (Io K)) 17:=by
 obtain⟨e,F,o⟩:=step (sp:=Gw.lL (bX K)) d pM g rJ (Gk.B7 rfl rfl);exact b9.gr (g.mono (k:=17) (by decide)) (mg_of X G d.at_) F.kp o (dJ F fun _ _=>fun _ _ _ _ _ _=>rfl) (by decide)
theorem HM {f:Addr} (X:K.In base) (G:base.Ns mainGlobals mg) (d:b_ K "_law_mix" bU f) (g:b9 P w K mg base ((G0 K).wit (Io K)) 17):b9 P w K mg base ((G0 K).wit (Im K)) 19:=by
 obtain⟨e,F,o⟩:=step (sp:=Gk.ja) d qQ g tK (Gk.DZ);exact b9.gr (g.mono (k:=19) (by decide)) (mg_of X G d.at_) F.kp o (dJ F fun _ _=>fun _ _ _ _ _ _=>rfl) (by decide)
theorem Ge {f:Addr} (X:K.In base) (G:base.Ns mainGlobals mg) (d:b_ K "_law_names" bp f) (g:b9 P w K mg base ((G0 K).wit (Im K)) 19):b9 P w K mg base ((G0 K).wit (E5 K)) 21:=by
 obtain⟨e,F,o⟩:=step (sp:=Gk.kJ (bX K)) d nN g pU (Gk.zg rfl rfl (by walk_at "look"));exact b9.gr (g.mono (k:=21) (by decide)) (mg_of X G d.at_) F.kp o (dJ F fun _ _=>fun _ _ _ _ _ _=>rfl) (by decide)
theorem Gd {f:Addr} (X:K.In base) (G:base.Ns mainGlobals mg) (d:b_ K "_law_join" bD f) (g:b9 P w K mg base ((G0 K).wit (E5 K)) 21):b9 P w K mg base ((G0 K).wit (E4 K)) 23:=by
 obtain⟨e,F,o⟩:=step (sp:=Gk.lK) d pL g rH (Gk.B6 rfl);exact b9.gr (g.mono (k:=23) (by decide)) (mg_of X G d.at_) F.kp o (qi F fun _ _ _ _=>fun _ _ _ _ _ _=>rfl) (by decide)
theorem Gb {f:Addr} (X:K.In base) (G:base.Ns mainGlobals mg) (d:b_ K "_law_web" bT f) (g:b9 P w K mg base ((G0 K).wit (E4 K)) 23):b9 P w K mg base ((G0 K).wit (E3 K)) 25:=by
 obtain⟨e,F,o⟩:=step (sp:=Gk.uH (bX K)) d qP g tJ (Gk.DY rfl rfl (by walk_at "look") (by walk_at "look") (by walk_at "look"));exact b9.gr (g.mono (k:=25) (by decide)) (mg_of X G d.at_) F.kp o (qj F fun _ _ _=>fun _ _ _ _ _ _=>rfl) (by decide)
theorem Ga {f:Addr} (X:K.In base) (G:base.Ns mainGlobals mg) (d:b_ K "_law_pairs" bo f) (g:b9 P w K mg base ((G0 K).wit (E3 K)) 25):b9 P w K mg base ((G0 K).wit (EZ K)) 27:=by
 obtain⟨e,F,o⟩:=step (sp:=Gk.kI (bX K)) d nM g pS (Gk.zf rfl rfl);exact b9.gr (g.mono (k:=27) (by decide)) (mg_of X G d.at_) F.kp o (qk F fun _=>fun _ _ _ _ _ _=>rfl) (by decide)
theorem F_ {f:Addr} (X:K.In base) (G:base.Ns mainGlobals mg) (d:b_ K "_law_plan" bC f) (g:b9 P w K mg base ((G0 K).wit (EZ K)) 27):b9 P w K mg base ((G0 K).wit (EY K)) 29:=by
 obtain⟨e,F,o⟩:=step (sp:=Gk.pI (bX K)) d pK g rG (Gk.B5 rfl rfl (by walk_at "look") (by walk_at "look"));exact b9.gr (g.mono (k:=29) (by decide)) (mg_of X G d.at_) F.kp o (qi F fun _ _ _ _=>fun _ _ _ _ _ _=>rfl) (by decide)
theorem F9 {f:Addr} (X:K.In base) (G:base.Ns mainGlobals mg) (d:b_ K "_law_is_plan" aZ f) (g:b9 P w K mg base ((G0 K).wit (EY K)) 29):b9 P w K mg base ((G0 K).wit (EX K)) 31:=by
 obtain⟨e,F,o⟩:=step (sp:=Gk.uI (bX K)) d kr g mH (Gk.D4 rfl rfl);exact b9.gr (g.mono (k:=31) (by decide)) (mg_of X G d.at_) F.kp o (dJ F fun _ _=>fun _ _ _ _ _ _=>rfl) (by decide)
theorem F8 {f:Addr} (X:K.In base) (G:base.Ns mainGlobals mg) (d:b_ K "_law_common" bf f) (g:b9 P w K mg base ((G0 K).wit (EX K)) 31):b9 P w K mg base ((G0 K).wit (EW K)) 33:=by
 obtain⟨e,F,o⟩:=step (sp:=Ik.jb (bX K)) d lQ g nS (Ik.wC rfl rfl (by walk_at "look"));exact b9.gr (g.mono (k:=33) (by decide)) (mg_of X G d.at_) F.kp o (dJ F fun _ _=>fun _ _ _ _ _ _=>rfl) (by decide)
theorem F7 {f:Addr} (X:K.In base) (G:base.Ns mainGlobals mg) (d:b_ K "_law_due" bV f) (g:b9 P w K mg base ((G0 K).wit (EW K)) 33):b9 P w K mg base ((G0 K).wit (EV K)) 35:=by
 obtain⟨e,F,o⟩:=step (sp:=Ik.kL (bX K)) d qR g tL (Ik.zj rfl rfl);exact b9.gr (g.mono (k:=35) (by decide)) (mg_of X G d.at_) F.kp o (qj F fun _ _ _=>fun _ _ _ _ _ _=>rfl) (by decide)
theorem F6 {f:Addr} (X:K.In base) (G:base.Ns mainGlobals mg) (d:b_ K "_law_turned" bc f) (g:b9 P w K mg base ((G0 K).wit (EV K)) 35):b9 P w K mg base ((G0 K).wit (GP K)) 37:=by
 obtain⟨e,F,o⟩:=step (sp:=Ik.Bh (bX K) AW) d lP g nR (Ik.tD ⟨rfl,rfl,by walk_at "look",by walk_at "look",by walk_at "look",by walk_at "look"⟩);exact b9.gr (g.mono (k:=37) (by decide)) (mg_of X G d.at_) F.kp o (qi F fun _ _ _ _=>fun _ _ _ _ _ _=>rfl) (by decide)
theorem Ek {f1 f2 f3 f4 f5 f6 f7 f8 f9 f10 f11 f12 f13 f14 f15 f16 f17 f18 f19 cc:Addr} {eL:FuncData} (X:K.In base) (G:base.Ns mainGlobals mg) (B:base.BuiltinsAt mg 35) (T:Txt K) (d1:b_ K "mates_of" bR f1) (d2:b_ K "mates_alone" bb f2) (d3:b_ K "walk" eM f3) (dA:nsIn K mainGlobals "parts" =some (some (.ref f4))) (dF:vQ K "parts" "parts" bY f4 eL) (dc:eL.code=.ref cc) (dh:codeHdIn K cc 35=true) (d5:b_ K "swap_of" cp f5) (d6:b_ K "swaps_along" ba f6) (d7:b_ K "turned" cG f7) (d8:b_ K "_law_cell" bF f8) (d9:b_ K "_law_mix" bU f9) (d10:b_ K "_law_names" bp f10) (d11:b_ K "_law_join" bD f11) (d12:b_ K "_law_web" bT f12) (d13:b_ K "_law_pairs" bo f13) (d14:b_ K "_law_plan" bC f14) (d15:b_ K "_law_is_plan" aZ f15) (d16:b_ K "_law_common" bf f16) (d17:b_ K "_law_due" bV f17) (d18:b_ K "_law_turned" bc f18) (d19:b_ K "law" di f19):
  ∃fd,vQ K "law" "law" di f19 fd/\eG P w K mg base (qy P w) 39 f19 fd ["_law_script"] (uK K):=by
 have gz:b9 P w K mg base ((G0 K).wit (GP K)) 37:=F6 X G d18 (F7 X G d17 (F8 X G d16 (F9 X G d15 (F_ X G d14 (Ga X G d13 (Gb X G d12 (Gd X G d11 (Ge X G d10 (HM X G d9 (HN X G d8 (HP X G d7 (HQ X G d6 (HR X G d5 (HS X G dA dF dc dh B (HU X G d3 (HV X G d2 (HW X G d1 ((Gg X G T).Hi))))))))))))))))));obtain⟨e,F,o⟩:=step (sp:=Ik.uJ (bX K) AW) d19 Dx gz FW (Ik.zi ⟨rfl,rfl,by walk_at "look",by walk_at "look",by walk_at "look",by walk_at "look",by walk_at "look",by walk_at "look",by walk_at "look",by walk_at "look",by walk_at "look"⟩);refine⟨e,F,eG.off o (fun vs H Q E h=>?_) fun vs H Q E off h=>?_⟩
 ·obtain⟨a,ns,rfl,_⟩:=h;rfl
 ·obtain⟨a,ns,rfl,hl,hs,ht,q⟩:=h;exact⟨a,ns,rfl,hl,vY off hs,fun a ha=>(let ⟨o,e⟩:=(u6 K).look ha;off a o e),ht,q⟩
end
open PySem.W (Frag keepIn ktsIn mroIn kitOne nsIn findIn typeIn takerIn hasDictIn codeIn codeHdIn fnOf mg_of mg_none_of noTabs tabObj)
set_option maxHeartbeats 4000000 in
theorem all_mk {l:PySem.W.OpenLaw} {w:World} {K:Frag} {h:Heap} {mg:NY} {fa:Addr} (X:K.In h) (G:h.Ns mainGlobals mg) (hfa:mg "law" =some (.ref fa))
  {cc f1 f2 f3 f4 f5 f6 f7 f8 f9 f10 f11 f12 f13 f14 f15 f16 f17 f18 f19:Addr}
  {od1 an1 od2 an2 od3 an3 od4 an4 od5 an5 od6 an6 od7 an7 od8 an8 od9 an9 od10 an10 od11 an11 od12 an12 od13 an13 od14 an14 od15 an15 od16 an16 od17 an17 od18 an18 od19 an19:Option Addr}
  {sl1 sl2 sl3 sl4 sl5 sl6 sl7 sl8 sl9 sl10 sl11 sl12 sl13 sl14 sl15 sl16 sl17 sl18 sl19:Array (Option Value)}
  {oc1 kV1 dc1 pm1 ct1 cd1 oc2 kV2 dc2 pm2 ct2 cd2 oc3 kV3 dc3 pm3 ct3 cd3 oc4 kV4 dc4 pm4 ct4 oc5 kV5 dc5 pm5 ct5 cd5 oc6 kV6 dc6 pm6 ct6 cd6 oc7 kV7 dc7 pm7 ct7 cd7 oc8 kV8 dc8 pm8 ct8 cd8 oc9 kV9 dc9 pm9 ct9 cd9 oc10 kV10 dc10 pm10 ct10 cd10 oc11 kV11 dc11 pm11 ct11 cd11 oc12 kV12 dc12 pm12 ct12 cd12 oc13 kV13 dc13 pm13 ct13 cd13 oc14 kV14 dc14 pm14 ct14 cd14 oc15 kV15 dc15 pm15 ct15 cd15 oc16 kV16 dc16 pm16 ct16 cd16 oc17 kV17 dc17 pm17 ct17 cd17 oc18 kV18 dc18 pm18 ct18 cd18 oc19 kV19 dc19 pm19 ct19 cd19:Value}
  {t0 t1:Tok}
  (a1:nsIn K mainGlobals "mates_of" =some (some (.ref f1)))
  (l1:K.lookup f1=some ⟨oc1,od1,.func (fnOf "mates_of" "mates_of" (aL bR) (ax bR) (ag bR) .none kV1 dc1 pm1 an1 cd1 ct1),sl1⟩)
  (c1:codeIn K cd1 "mates_of" =true)
  (k1:keepIn K (.ref f1)=true)
  (a2:nsIn K mainGlobals "mates_alone" =some (some (.ref f2)))
  (l2:K.lookup f2=some ⟨oc2,od2,.func (fnOf "mates_alone" "mates_alone" (aL bb) (ax bb) (ag bb) .none kV2 dc2 pm2 an2 cd2 ct2),sl2⟩)
  (c2:codeIn K cd2 "mates_alone" =true)
  (k2:keepIn K (.ref f2)=true)
  (a3:nsIn K mainGlobals "walk" =some (some (.ref f3)))
  (l3:K.lookup f3=some ⟨oc3,od3,.func (fnOf "walk" "walk" (aL eM) (ax eM) (ag eM) .none kV3 dc3 pm3 an3 cd3 ct3),sl3⟩)
  (c3:codeIn K cd3 "walk" =true)
  (k3:keepIn K (.ref f3)=true)
  (a4:nsIn K mainGlobals "parts" =some (some (.ref f4)))
  (l4:K.lookup f4=some ⟨oc4,od4,.func (fnOf "parts" "parts" (aL bY) (ax bY) (ag bY) .none kV4 dc4 pm4 an4 (.ref cc) ct4),sl4⟩)
  (c4:codeIn K (.ref cc) "parts" =true)
  (k4:keepIn K (.ref f4)=true)
  (hd:codeHdIn K cc 35=true)
  (a5:nsIn K mainGlobals "swap_of" =some (some (.ref f5)))
  (l5:K.lookup f5=some ⟨oc5,od5,.func (fnOf "swap_of" "swap_of" (aL cp) (ax cp) (ag cp) .none kV5 dc5 pm5 an5 cd5 ct5),sl5⟩)
  (c5:codeIn K cd5 "swap_of" =true)
  (k5:keepIn K (.ref f5)=true)
  (a6:nsIn K mainGlobals "swaps_along" =some (some (.ref f6)))
  (l6:K.lookup f6=some ⟨oc6,od6,.func (fnOf "swaps_along" "swaps_along" (aL ba) (ax ba) (ag ba) .none kV6 dc6 pm6 an6 cd6 ct6),sl6⟩)
  (c6:codeIn K cd6 "swaps_along" =true)
  (k6:keepIn K (.ref f6)=true)
  (a7:nsIn K mainGlobals "turned" =some (some (.ref f7)))
  (l7:K.lookup f7=some ⟨oc7,od7,.func (fnOf "turned" "turned" (aL cG) (ax cG) (ag cG) .none kV7 dc7 pm7 an7 cd7 ct7),sl7⟩)
  (c7:codeIn K cd7 "turned" =true)
  (k7:keepIn K (.ref f7)=true)
  (a8:nsIn K mainGlobals "_law_cell" =some (some (.ref f8)))
  (l8:K.lookup f8=some ⟨oc8,od8,.func (fnOf "_law_cell" "_law_cell" (aL bF) (ax bF) (ag bF) .none kV8 dc8 pm8 an8 cd8 ct8),sl8⟩)
  (c8:codeIn K cd8 "_law_cell" =true)
  (k8:keepIn K (.ref f8)=true)
  (a9:nsIn K mainGlobals "_law_mix" =some (some (.ref f9)))
  (l9:K.lookup f9=some ⟨oc9,od9,.func (fnOf "_law_mix" "_law_mix" (aL bU) (ax bU) (ag bU) .none kV9 dc9 pm9 an9 cd9 ct9),sl9⟩)
  (c9:codeIn K cd9 "_law_mix" =true)
  (k9:keepIn K (.ref f9)=true)
  (a10:nsIn K mainGlobals "_law_names" =some (some (.ref f10)))
  (l10:K.lookup f10=some ⟨oc10,od10,.func (fnOf "_law_names" "_law_names" (aL bp) (ax bp) (ag bp) .none kV10 dc10 pm10 an10 cd10 ct10),sl10⟩)
  (c10:codeIn K cd10 "_law_names" =true)
  (k10:keepIn K (.ref f10)=true)
  (a11:nsIn K mainGlobals "_law_join" =some (some (.ref f11)))
  (l11:K.lookup f11=some ⟨oc11,od11,.func (fnOf "_law_join" "_law_join" (aL bD) (ax bD) (ag bD) .none kV11 dc11 pm11 an11 cd11 ct11),sl11⟩)
  (c11:codeIn K cd11 "_law_join" =true)
  (k11:keepIn K (.ref f11)=true)
  (a12:nsIn K mainGlobals "_law_web" =some (some (.ref f12)))
  (l12:K.lookup f12=some ⟨oc12,od12,.func (fnOf "_law_web" "_law_web" (aL bT) (ax bT) (ag bT) .none kV12 dc12 pm12 an12 cd12 ct12),sl12⟩)
  (c12:codeIn K cd12 "_law_web" =true)
  (k12:keepIn K (.ref f12)=true)
  (a13:nsIn K mainGlobals "_law_pairs" =some (some (.ref f13)))
  (l13:K.lookup f13=some ⟨oc13,od13,.func (fnOf "_law_pairs" "_law_pairs" (aL bo) (ax bo) (ag bo) .none kV13 dc13 pm13 an13 cd13 ct13),sl13⟩)
  (c13:codeIn K cd13 "_law_pairs" =true)
  (k13:keepIn K (.ref f13)=true)
  (a14:nsIn K mainGlobals "_law_plan" =some (some (.ref f14)))
  (l14:K.lookup f14=some ⟨oc14,od14,.func (fnOf "_law_plan" "_law_plan" (aL bC) (ax bC) (ag bC) .none kV14 dc14 pm14 an14 cd14 ct14),sl14⟩)
  (c14:codeIn K cd14 "_law_plan" =true)
  (k14:keepIn K (.ref f14)=true)
  (a15:nsIn K mainGlobals "_law_is_plan" =some (some (.ref f15)))
  (l15:K.lookup f15=some ⟨oc15,od15,.func (fnOf "_law_is_plan" "_law_is_plan" (aL aZ) (ax aZ) (ag aZ) .none kV15 dc15 pm15 an15 cd15 ct15),sl15⟩)
  (c15:codeIn K cd15 "_law_is_plan" =true)
  (k15:keepIn K (.ref f15)=true)
  (a16:nsIn K mainGlobals "_law_common" =some (some (.ref f16)))
  (l16:K.lookup f16=some ⟨oc16,od16,.func (fnOf "_law_common" "_law_common" (aL bf) (ax bf) (ag bf) .none kV16 dc16 pm16 an16 cd16 ct16),sl16⟩)
  (c16:codeIn K cd16 "_law_common" =true)
  (k16:keepIn K (.ref f16)=true)
  (a17:nsIn K mainGlobals "_law_due" =some (some (.ref f17)))
  (l17:K.lookup f17=some ⟨oc17,od17,.func (fnOf "_law_due" "_law_due" (aL bV) (ax bV) (ag bV) .none kV17 dc17 pm17 an17 cd17 ct17),sl17⟩)
  (c17:codeIn K cd17 "_law_due" =true)
  (k17:keepIn K (.ref f17)=true)
  (a18:nsIn K mainGlobals "_law_turned" =some (some (.ref f18)))
  (l18:K.lookup f18=some ⟨oc18,od18,.func (fnOf "_law_turned" "_law_turned" (aL bc) (ax bc) (ag bc) .none kV18 dc18 pm18 an18 cd18 ct18),sl18⟩)
  (c18:codeIn K cd18 "_law_turned" =true)
  (k18:keepIn K (.ref f18)=true)
  (a19:nsIn K mainGlobals "law" =some (some (.ref f19)))
  (l19:K.lookup f19=some ⟨oc19,od19,.func (fnOf "law" "law" (aL di) (ax di) (ag di) .none kV19 dc19 pm19 an19 cd19 ct19),sl19⟩)
  (c19:codeIn K cd19 "law" =true)
  (k19:keepIn K (.ref f19)=true)
  (q0:nsIn K mainGlobals "ROW" =some (some (.str "row" t0)))
  (q1:nsIn K mainGlobals "RING" =some (some (.str "ring" t1)))
  (z0:nsIn K mainGlobals "len" =some none)
  (z1:nsIn K mainGlobals "all" =some none)
  (z2:nsIn K mainGlobals "any" =some none)
  (z3:nsIn K mainGlobals "str" =some none)
  (z4:nsIn K mainGlobals "int" =some none)
  (z5:nsIn K mainGlobals "abs" =some none)
  (z6:nsIn K mainGlobals "sorted" =some none)
  (z7:nsIn K mainGlobals "list" =some none)
  (z8:nsIn K mainGlobals "tuple" =some none)
  (z9:nsIn K mainGlobals "max" =some none)
  (z10:nsIn K mainGlobals "min" =some none)
  (z11:nsIn K mainGlobals "sum" =some none)
  (z12:nsIn K mainGlobals "isinstance" =some none)
  (z13:nsIn K mainGlobals "range" =some none)
  (z14:nsIn K mainGlobals "bool" =some none)
  (z15:nsIn K mainGlobals "dict" =some none)
  (z16:nsIn K mainGlobals "set" =some none)
  (z17:nsIn K mainGlobals "ValueError" =some none)
  (z18:nsIn K mainGlobals "reversed" =some none)
  (z19:nsIn K mainGlobals "zip" =some none):
  ∃fd:FuncData,(∀ (s:Shared) (v:Value),BindsTo s fd ⟨[v],[]⟩ [("_law_script",v)])/\∀base:Heap,K.In base->base.Ns mainGlobals mg->(∀ T ∈ [35],base.BuiltinsAt mg T)->eG l.prog w K mg base (qy l.prog w) 39 fa fd ["_law_script"] (uK K):=by
 have e:=hfa.symm.trans (mg_of X G a19);cases e
 have T:Txt K:=⟨⟨_,q0⟩,⟨_,q1⟩,fun x hx=>by
  unfold eB at hx;simp only[Jx,Kz,L4]at hx;rcases hx with rfl | rfl | rfl | rfl | rfl | rfl | rfl | rfl | rfl | rfl | rfl | rfl | rfl | rfl | rfl | rfl | rfl | rfl | rfl | rfl
  ·exact z0
  ·exact z1
  ·exact z2
  ·exact z3
  ·exact z4
  ·exact z5
  ·exact z6
  ·exact z7
  ·exact z8
  ·exact z9
  ·exact z10
  ·exact z11
  ·exact z12
  ·exact z13
  ·exact z14
  ·exact z15
  ·exact z16
  ·exact z17
  ·exact z18
  ·exact z19⟩
 have F19:=tX (st:=di) l19 c19 k19;refine⟨fnOf "law" "law" (aL di) (ax di) (ag di) .none kV19 dc19 pm19 an19 cd19 ct19,fun s v=>.of_eq rfl,fun base kb nb B=>?_⟩;obtain⟨fd,F,o⟩:=Ek (P:=l.prog) (w:=w) (base:=base) kb nb (B 35 (Js)) T (gw a1 l1 c1 k1) (gw a2 l2 c2 k2) (gw a3 l3 c3 k3) a4 (tX l4 c4 k4) rfl hd (gw a5 l5 c5 k5) (gw a6 l6 c6 k6) (gw a7 l7 c7 k7) (gw a8 l8 c8 k8) (gw a9 l9 c9 k9) (gw a10 l10 c10 k10) (gw a11 l11 c11 k11) (gw a12 l12 c12 k12) (gw a13 l13 c13 k13) (gw a14 l14 c14 k14) (gw a15 l15 c15 k15) (gw a16 l16 c16 k16) (gw a17 l17 c17 k17) (gw a18 l18 c18 k18) (gw a19 l19 c19 k19);obtain⟨_,_,_,_,_,_,_,_,_,e1,e2,_⟩:=F.ex;obtain⟨_,_,_,_,_,_,_,_,_,e3,e4,_⟩:=F19.ex;rw[e2]at e4;injection e4 with e4
 injection e4 with _ _ e4 _
 injection e4 with e4
 rw[<-e4];exact o
theorem walk {l:PySem.W.OpenLaw} {q:Program} {loose:NW} {XP:(NY)->Heap->Prop} {YP:World->Heap->Prop} {d:DefRec} {K:Params->PySem.W.Frag} {ts:List Addr} (hn:l.most=some 63) (hdf:d.params.defaults=[])
  (hY:∀ (w:World) (h:Heap),YP w h->(K w.params).In h/\∀T ∈ ts,h.get? T=some (tabObj #[])) (hts:∀T ∈ [35],T ∈ ts) (hno:∀w:World,noTabs (K w.params)=true) (hcd:∀w:World,∀T ∈ ts,∃c,codeHdIn (K w.params) c T=true)
  (F:∀ (w:World) (mg:NY) (fa:Addr) (h:Heap),(K w.params).In h->h.Ns mainGlobals mg->mg d.name=some (.ref fa)->
   ∃fd:FuncData,(∀ (s:Shared) (u:Value),BindsTo s fd ⟨[u],[]⟩ [("_law_script",u)])/\∀base:Heap,(K w.params).In base->base.Ns mainGlobals mg->(∀ T ∈ [35],base.BuiltinsAt mg T)->eG l.prog w (K w.params) mg base (qy l.prog w) 39 fa fd ["_law_script"] (uK (K w.params))):
  PySem.W.WalkO q loose XP YP l.row.toRowW d [] (fun f vs=>PySem.call f vs):=
 xW (n:=63) (k:=39) (x:= "_law_script") (CX:=fun w=>qy l.prog w) (sp:=fun w=>uK (K w.params)) ts hn (by decide) hdf ⟨rfl,by decide,by decide⟩ hY hno hcd (fun w mg fa h KX G hm=>let ⟨fd,b,f⟩:=F w mg fa h KX G hm;⟨fd,b,fun base kb nb B=>f base kb nb fun T hT=>B T (hts T hT)⟩)
  (fun _ H a ns hl hT hS=>⟨a,ns,rfl,hl,hS,fun t ht=>.inl (by
   unfold AW at ht;rw[Jz.mp ht];exact hT _ (hts _ (Js))),fun _=>rfl⟩)
  fun w H s e s' z=>z
end K15
open PySem PySem.W PyProof.Rows
set_option maxRecDepth 100000 in
set_option maxHeartbeats 0 in
theorem PySem.Challenge.cw_swapward_k15_whole_parts_turned_holds : PySem.Challenge.rw_swapward_k15_whole_parts_turned.Holds := by
 w_on;o_law;k_head;(case hw=>w_witness2)
 k_fill
 refine K15.walk (l:=PySem.Challenge.rw_swapward_k15_whole_parts_turned) rfl rfl (fun w h Y=>⟨PySem.W.km_in_of Y,PySem.W.km_tabs_of Y⟩) ?hts ?hno ?hcd ?F
 case hts=>decide
 case hno=>intro w;kernel_rfl
 case hcd=>
  intro w T hT
  rw[List.mem_singleton.mp hT]
  exact⟨39,by kernel_rfl⟩
 case F=>
  intro w mg fa h KX G hmg
  refine' K15.all_mk KX G hmg ?a1 ?l1 ?c1 ?k1 ?a2 ?l2 ?c2 ?k2 ?a3 ?l3 ?c3 ?k3 ?a4 ?l4 ?c4 ?k4 ?hd ?a5 ?l5 ?c5 ?k5 ?a6 ?l6 ?c6 ?k6 ?a7 ?l7 ?c7 ?k7 ?a8 ?l8 ?c8 ?k8 ?a9 ?l9 ?c9 ?k9 ?a10 ?l10 ?c10 ?k10 ?a11 ?l11 ?c11 ?k11 ?a12 ?l12 ?c12 ?k12 ?a13 ?l13 ?c13 ?k13 ?a14 ?l14 ?c14 ?k14 ?a15 ?l15 ?c15 ?k15 ?a16 ?l16 ?c16 ?k16 ?a17 ?l17 ?c17 ?k17 ?a18 ?l18 ?c18 ?k18 ?a19 ?l19 ?c19 ?k19 ?q0 ?q1 ?z0 ?z1 ?z2 ?z3 ?z4 ?z5 ?z6 ?z7 ?z8 ?z9 ?z10 ?z11 ?z12 ?z13 ?z14 ?z15 ?z16 ?z17 ?z18 ?z19
  (case a1=>k_is)
  (case l1=>k_is)
  (case c1=>k_is)
  (case k1=>k_is)
  (case a2=>k_is)
  (case l2=>k_is)
  (case c2=>k_is)
  (case k2=>k_is)
  (case a3=>k_is)
  (case l3=>k_is)
  (case c3=>k_is)
  (case k3=>k_is)
  (case a4=>k_is)
  (case l4=>k_is)
  (case c4=>k_is)
  (case k4=>k_is)
  (case hd=>kernel_rfl)
  (case a5=>k_is)
  (case l5=>k_is)
  (case c5=>k_is)
  (case k5=>k_is)
  (case a6=>k_is)
  (case l6=>k_is)
  (case c6=>k_is)
  (case k6=>k_is)
  (case a7=>k_is)
  (case l7=>k_is)
  (case c7=>k_is)
  (case k7=>k_is)
  (case a8=>k_is)
  (case l8=>k_is)
  (case c8=>k_is)
  (case k8=>k_is)
  (case a9=>k_is)
  (case l9=>k_is)
  (case c9=>k_is)
  (case k9=>k_is)
  (case a10=>k_is)
  (case l10=>k_is)
  (case c10=>k_is)
  (case k10=>k_is)
  (case a11=>k_is)
  (case l11=>k_is)
  (case c11=>k_is)
  (case k11=>k_is)
  (case a12=>k_is)
  (case l12=>k_is)
  (case c12=>k_is)
  (case k12=>k_is)
  (case a13=>k_is)
  (case l13=>k_is)
  (case c13=>k_is)
  (case k13=>k_is)
  (case a14=>k_is)
  (case l14=>k_is)
  (case c14=>k_is)
  (case k14=>k_is)
  (case a15=>k_is)
  (case l15=>k_is)
  (case c15=>k_is)
  (case k15=>k_is)
  (case a16=>k_is)
  (case l16=>k_is)
  (case c16=>k_is)
  (case k16=>k_is)
  (case a17=>k_is)
  (case l17=>k_is)
  (case c17=>k_is)
  (case k17=>k_is)
  (case a18=>k_is)
  (case l18=>k_is)
  (case c18=>k_is)
  (case k18=>k_is)
  (case a19=>k_is)
  (case l19=>k_is)
  (case c19=>k_is)
  (case k19=>k_is)
  (case q0=>k_is)
  (case q1=>k_is)
  (case z0=>k_is)
  (case z1=>k_is)
  (case z2=>k_is)
  (case z3=>k_is)
  (case z4=>k_is)
  (case z5=>k_is)
  (case z6=>k_is)
  (case z7=>k_is)
  (case z8=>k_is)
  (case z9=>k_is)
  (case z10=>k_is)
  (case z11=>k_is)
  (case z12=>k_is)
  (case z13=>k_is)
  (case z14=>k_is)
  (case z15=>k_is)
  (case z16=>k_is)
  (case z17=>k_is)
  (case z18=>k_is)
  (case z19=>k_is)
