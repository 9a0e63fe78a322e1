import PyProof.Rows.All
import Wide.All
import OpenK.AllK
import Wide.FinOn
import Lean
import PySem.Challenge.RW_swapward_k13_parts_walked
set_option Elab.async false
set_option genInjectivity false
set_option linter.all false
set_option maxRecDepth 100000
set_option linter.defProp false
abbrev NT:=PySem.Value->PySem.Shared->Prop
abbrev NU:=List (PySem.Addr × PySem.Obj)
abbrev NV:=List (PySem.Str × PySem.Str)
abbrev NW:=Array PySem.Value
abbrev IZ:=@PySem.wpAny_bind
abbrev I_:=@if_neg
abbrev Ja:=@PySem.wpAny_pure
abbrev Jb:=@List.length_map
abbrev Jc:=@if_pos
abbrev Jd:=@PySem.Heap.get?_push_of_some
abbrev Je:=@List.getElem?_eq_getElem
abbrev Jf:=@List.mem_map
abbrev Jg:=@List.mem_of_getElem?
abbrev Jh:=@PyProof.Rows.wpS_bind
abbrev Ji:=@List.mem_cons_of_mem
abbrev Jj:=@List.mem_cons_self
abbrev Jk:=@PySem.Heap.lt_size
abbrev Jl:=@List.length_append
abbrev Jm:=@PySem.sizeLine_eq
abbrev Jn:=@PyProof.Rows.wpS_pure
abbrev Jo:=@List.mem_singleton
abbrev Jp:=@List.size_toArray
abbrev Jq:=@List.mem_cons
abbrev Jr:=@PySem.Heap.get?_push_size
abbrev Js:=@Nat.ne_of_lt
abbrev Jt:=@List.map_append
abbrev Ju:=@List.getElem?_eq_some_iff
abbrev Jv:=@Nat.le_refl
abbrev Jw:=@Nat.lt_of_lt_of_le
abbrev Jx:=@List.mem_append
abbrev Jy:=@List.getElem?_map
abbrev Jz:=@Array.length_toList
abbrev JA:=@List.map_cons
abbrev JB:=@Nat.le_trans
abbrev JC:=@Bool.false_ne_true
abbrev JD:=@List.append_assoc
abbrev JE:=@Option.some.inj
abbrev JF:=@Option.map_eq_some_iff
abbrev JG:=@List.mem_append_right
abbrev JH:=@List.getElem?_append_left
abbrev JI:=@List.nodup_append
abbrev JJ:=@List.lookup_cons
abbrev JK:=@decide_eq_false
abbrev JL:=@List.map_map
abbrev JM:=@Nat.lt_succ_of_lt
abbrev JN:=@List.nodup_cons
abbrev JO:=@Array.toList_append
abbrev JP:=@decide_eq_true
abbrev JQ:=@PySem.wpAny_holding
abbrev JR:=@PySem.Heap.get?_update_other
abbrev JS:=@PySem.Calls.spliced_cons
abbrev JT:=@Bool.false_eq_true
abbrev JU:=@Bool.and_eq_true
abbrev JV:=@PySem.Heap.get?_update_self
abbrev JW:=@List.length_cons
abbrev JX:=@PySem.F.called_set
abbrev JY:=@List.getElem?_append_right
abbrev JZ:=@Nat.zero_le
abbrev J0:=@List.mem_iff_getElem
abbrev J1:=@Array.getElem?_eq_getElem
abbrev J2:=@PySem.wpAny_setState_of
abbrev J3:=@PyProof.Rows.wpS_mono
abbrev J4:=@PySem.wpAny_Call_Name_kw
abbrev J5:=@Ne.symm
abbrev J6:=@PyProof.Rows.wpS_forRange
abbrev J7:=@List.length_take
abbrev J8:=@Nat.lt_succ_self
abbrev J9:=@PySem.Heap.SameBut.update
abbrev J_:=@List.mem_append_left
abbrev Ka:=@PySem.Calls.spliced_nil
abbrev Kb:=@PySem.wpAny_newObj_type
abbrev Kc:=@PySem.wpAny_call_entry
abbrev Kd:=@Nat.zero_add
abbrev Ke:=@Int.emod_lt_of_pos
abbrev Kf:=@PyProof.Rows.callWith_builtin1
abbrev Kg:=@PySem.Heap.size_push
abbrev Kh:=@List.take_append_drop
abbrev Ki:=@Int.emod_nonneg
abbrev Kj:=@of_decide_eq_true
abbrev Kk:=@List.pairwise_cons
abbrev Kl:=@decide_eq_true_iff
abbrev Km:=@List.mem_flatten
abbrev Kn:=@PySem.wpAny_rule
abbrev Ko:=@PyProof.Rows.callWith_type1
abbrev Kp:=@List.perm_append_comm
abbrev Kq:=@Nat.le_succ
abbrev Kr:=@PySem.Around.under_plainId
abbrev Ks:=@PySem.Obj.data_mapFields
abbrev Kt:=@PySem.F.plain_extend_loop
abbrev Ku:=@List.pairwise_iff_getElem
abbrev Kv:=@List.map_congr_left
abbrev Kw:=@Array.toList_push
abbrev Kx:=@PySem.W.kia_one
abbrev Ky:=@PySem.codeAny_builtin
abbrev Kz:=@PySem.wpAny_callSpecial?_slot
abbrev KA:=@if_false
abbrev KC:=@PySem.wpAny_askSetting
abbrev KD:=@List.take_length
abbrev KG:=@Nat.ne_of_gt
abbrev KH:=@List.getD_eq_getElem?_getD
abbrev KI:=@PySem.Heap.SameBut.refl
abbrev KJ:=@List.length_range
abbrev KL:=@decide_eq_true_eq
abbrev KN:=@List.length_filter_le
abbrev KO:=@Array.getElem?_toList
abbrev KP:=@PySem.wpAny_isInstance
abbrev KQ:=@PySem.wpAny_mono
abbrev KR:=@Array.toList_extract
abbrev KS:=@List.lt_irrefl
abbrev KU:=@PySem.fits_of_scanBound
abbrev KW:=@List.pairwise_map
abbrev KY:=@List.mem_filter
abbrev KZ:=@List.forIn_cons
abbrev K0:=@Option.map_some
abbrev K1:=@PySem.wpAny_setEntries_of
abbrev K3:=@List.getElem?_set_self
abbrev K4:=@List.take_of_length_le
abbrev K5:=@Array.perm_iff_toList_perm
abbrev K6:=@List.getElem_mem
abbrev K7:=@List.not_mem_nil
abbrev K8:=@PySem.builtinLookup_eq_fast
abbrev K9:=@Array.forIn_toList
abbrev K_:=@List.extract_eq_take_drop
abbrev La:=@List.drop_eq_getElem_cons
abbrev Lb:=@List.eraseIdx_eq_take_drop_succ
abbrev Lc:=@PySem.wpAny_of_eq
abbrev Ld:=@List.append_nil
abbrev Le:=@List.nil_append
abbrev Lf:=@PySem.wpAny_updateSeq
abbrev Lg:=@List.flatten_cons
abbrev Lh:=@PySem.wpAny_storeSet_of
abbrev Li:=@PySem.plainId_quiet
abbrev Lj:=@PySem.wpAny_attempt
abbrev Lk:=@PySem.mem_of_lookup
abbrev Ll:=@List.flatten_append
abbrev Lm:=@List.all_eq_true
abbrev Ln:=@PyProof.Rows.slot_tuple_getitem
abbrev Lo:=@Nat.le_of_lt
abbrev Lp:=@PyProof.Rows.F.plain_set_update_loop
abbrev Lq:=@Array.size_extract
abbrev Lr:=@PySem.wpAny_passesOwn
abbrev Ls:=@List.of_mem_zip
abbrev Lu:=@List.length_replicate
abbrev Lv:=@List.find?_cons
abbrev Lw:=@PyProof.Rows.wpS_get
abbrev Lx:=@PySem.F.slot_zip_next
abbrev Ly:=@Nat.lt_irrefl
abbrev Lz:=@List.any_cons
abbrev LA:=@List.length_eraseIdx_of_lt
abbrev LB:=@List.findIdx?_eq_none_iff
abbrev LC:=@beq_iff_eq
abbrev LD:=@List.mem_of_mem_take
abbrev LF:=@PySem.wpAny_field
abbrev LG:=@List.findIdx?_eq_some_iff_getElem
abbrev LH:=@List.not_lt
abbrev LJ:=@List.tail_drop
abbrev LK:=@Option.isSome_iff_exists
abbrev LL:=@PySem.wpAny_typeOf
abbrev LM:=@PySem.codeAny_mono
abbrev LN:=@List.perm_middle
abbrev LO:=@List.replicate_succ
abbrev LP:=@PySem.F.plain_list_iadd
abbrev LQ:=@decide_eq_false_iff_not
abbrev LR:=@PySem.wpAny_getItem_str_slice
abbrev LS:=@List.foldl_cons
abbrev LU:=@PySem.typeLookup_type
abbrev LV:=@PyProof.Rows.wpS_modify
abbrev LW:=@of_decide_eq_false
abbrev LX:=@Option.isSome_map
abbrev LY:=@PySem.wpAny_setEpoch_of
abbrev LZ:=@PySem.F.plainAttrs_dict
abbrev L1:=@List.take_add_one
abbrev L3:=@PySem.Obj.isFreed_of_fields
abbrev L4:=@PySem.wpAny_setField
abbrev L5:=@Array.size_eq_one_iff
abbrev L6:=@getElem?_pos
abbrev L7:=@List.mem_iff_getElem?
abbrev L8:=@PyProof.Rows.wpS_lift
abbrev L9:=@Array.toArray_toList
abbrev L_:=@PySem.wpAny_newList
abbrev Ma:=@PyProof.Rows.listUpdate_at
abbrev Mb:=@if_true
abbrev Mc:=@PySem.Value.isStrOf_shape
abbrev Md:=@beq_eq_false_iff_ne
abbrev Me:=@List.filter_sublist
abbrev Mg:=@List.getElem?_eq_none_iff
abbrev Mh:=@List.length_set
abbrev Mi:=@PySem.Calls.call_function_entry
abbrev Mj:=@List.getElem?_zip_eq_some
abbrev Mk:=@List.getLast?_eq_getElem?
abbrev Ml:=@PySem.SeqAt.EqAt.str_str
abbrev Mm:=@PyProof.Rows.F.entry_set_update_loop
abbrev Mn:=@Nat.le_of_eq
abbrev Mp:=@Nat.lt_of_le_of_lt
abbrev Mq:=@List.append_of_mem
abbrev Mr:=@Nat.not_lt
abbrev Ms:=@PySem.wpAny_seqItems
abbrev Mt:=@Nat.add_sub_cancel_left
abbrev Mu:=@bne_self_eq_false
abbrev Mv:=@Int.toNat_natCast
abbrev Mw:=@Bool.not_eq_true'
abbrev Mx:=@PySem.F.plainAttrs_list
abbrev My:=@PySem.W.cellsFrom_some
abbrev Mz:=@Array.getElem?_eq_none
abbrev MA:=@List.drop_of_length_le
abbrev MB:=@PySem.wpAny_nextOf_list_item
abbrev MC:=@List.lt_trans
abbrev MD:=@or_false
abbrev ME:=@PySem.W.kat_cons
abbrev MF:=@PySem.F.plainAttrs_str
abbrev MG:=@Option.bind_some
abbrev MH:=@List.getElem?_eq_none
abbrev MI:=@PySem.wpAny_Name
abbrev MJ:=@Bool.eq_iff_iff
abbrev MK:=@Nat.lt_trans
abbrev ML:=@PySem.wpAny_specialOf
abbrev MM:=@PyProof.Rows.entry_list_sort
abbrev MN:=@PySem.post_val_or_str
abbrev MO:=@Array.toList_reverse
abbrev MP:=@List.mem_of_mem_drop
abbrev MQ:=@Array.Perm.refl
abbrev MR:=@PySem.W.kat_yes
abbrev MS:=@List.pairwise_append
abbrev MT:=@List.length_zip
abbrev MU:=@List.Nodup.length_le_of_subset
abbrev MV:=@List.eq_nil_of_length_eq_zero
abbrev MW:=@List.filterMap_cons
abbrev MX:=@List.getElem?_range
abbrev MY:=@List.mem_range
abbrev MZ:=@Bool.and_false
abbrev M0:=@PySem.isSubtype_type
abbrev M1:=@PySem.wpAny_fieldsOf
abbrev M3:=@PyProof.Rows.slot_list_sort
abbrev M4:=@PySem.P.lt_str
abbrev M5:=@List.take_succ
abbrev M6:=@PySem.W.kat_go
abbrev M7:=@PySem.W.kat_no
abbrev M8:=@List.forIn_nil
abbrev M9:=@Sum.inr.inj
abbrev M_:=@PySem.tupleKind_room_in1
abbrev Na:=@PySem.F.entry_proto_collect
abbrev Nb:=@PySem.F.plain_proto_collect
abbrev Nc:=@PySem.wpAny_pyIter_tuple
abbrev Nd:=@Nat.add_right_comm
abbrev Nf:=@PySem.Paired.length
abbrev Ng:=@Bool.or_false
abbrev Nh:=@Array.toList_setIfInBounds
abbrev Ni:=@PySem.wpAny_pyIter_list
abbrev Nj:=@PySem.wpAny_pyIter_slot
abbrev Nk:=@PySem.Obj.cls_mapFields
abbrev Nl:=@List.reverse_perm
abbrev Nn:=@Nat.le_succ_of_le
abbrev Np:=@PySem.wpAny_dictEntries
abbrev Nq:=@PySem.call_meets
abbrev Nr:=@PySem.F.entry_extend_loop
abbrev Nt:=@List.getLastD_eq_getLast?
abbrev Nu:=@PySem.F.args_tuple_add_2
abbrev Nv:=@List.length_drop
abbrev Nw:=@Nat.le_of_not_lt
abbrev Nx:=@PySem.wpAny_setScan_of
abbrev Ny:=@Nat.succ_le_succ
abbrev Nz:=@Array.size_setIfInBounds
abbrev NA:=@Nat.sub_zero
abbrev NB:=@PySem.Heap.size_update
abbrev NC:=@List.le_antisymm
abbrev ND:=@Array.toList_inj
abbrev NF:=@List.getElem?_replicate
abbrev NG:=@PySem.F.entry_tuple_add
abbrev NH:=@Option.bind_eq_some_iff
abbrev NI:=@PySem.F.entry_type_call
abbrev NJ:=@PySem.F.entry_list_iadd
abbrev NK:=@PySem.F.args_zip_next_1
abbrev NL:=@List.length_eq_zero_iff
abbrev NM:=@Array.size_push
abbrev NN:=@Nat.min_le_left
abbrev NO:=@List.map_id
abbrev NP:=@List.take_zero
abbrev NQ:=@Nat.mod_lt
abbrev NR:=@Prod.mk.injEq
abbrev NS:=@List.map_take
namespace L2
open PySem PySem.Spec PyProof.Rows
noncomputable abbrev Key:=Sum Int Str
noncomputable def k_:Key->Value->Bool
 | .inl k,v=>Value.isInt k v
 | .inr x,v=>Value.isStrOf x v
noncomputable def Hy (w:World):Key->Int
 | .inl k=>hashInt k
 | .inr x=>hashStr w x
theorem bo:∀ {k:Key} {v:Value},k_ k v=true->(∃ i t,k=Sum.inl i/\v=Value.int i t)\/(∃ x t,k=Sum.inr x/\v=Value.str x t)
 | .inl i,v,h=>by
  obtain⟨t,e⟩:=Value.isInt_shape (k:=i) (v:=v) h;exact .inl ⟨i,t,rfl,e⟩
 | .inr x,v,h=>by
  obtain⟨t,e⟩:=Mc (x:=x) (v:=v) h;exact .inr ⟨x,t,rfl,e⟩
theorem wb (i:Int) (t:Tok):k_ (.inl i) (.int i t)=true:=by simp[k_,Value.isInt]
theorem v_ (x:Str) (t:Tok):k_ (.inr x) (.str x t)=true:=by simp[k_,Value.isStrOf]
theorem D6 (a b:Int):decide ((Sum.inl a:Key)=Sum.inl b)=(a == b):=by
 by_cases e:a=b
 ·subst e;simp
 ·have h:¬ (Sum.inl a:Key)=Sum.inl b:=fun q=>e (Sum.inl.inj q);rw[JK h];exact(Md.mpr e).symm
theorem D3 (a b:Str):decide ((Sum.inr a:Key)=Sum.inr b)=decide (a=b):=by
 by_cases e:a=b
 ·subst e;simp
 ·have h:¬ (Sum.inr a:Key)=Sum.inr b:=fun q=>e (M9 q);rw[JK h,JK e]
theorem D5 (a:Int) (b:Str):decide ((Sum.inl a:Key)=Sum.inr b)=false:=JK (fun q=>nomatch q)
theorem D4 (a:Str) (b:Int):decide ((Sum.inr a:Key)=Sum.inl b)=false:=JK (fun q=>nomatch q)
noncomputable def aL (prog:Program) (w:World):PySem.KeyKind prog w Key where
 is:=k_
 hash:=Hy w
 inj:=fun v a b ha hb=>by
  rcases bo ha with ⟨i,t,rfl,rfl⟩ | ⟨x,t,rfl,rfl⟩
  ·rcases bo hb with ⟨j,u,rfl,e⟩ | ⟨y,u,rfl,e⟩
   ·injection e with e1 _;rw[e1]
   ·exact nomatch e
  ·rcases bo hb with ⟨j,u,rfl,e⟩ | ⟨y,u,rfl,e⟩
   ·exact nomatch e
   ·injection e with e1 _;rw[e1]
 byValue:=fun k v h=>by
  rcases bo h with ⟨i,t,rfl,rfl⟩ | ⟨x,t,rfl,rfl⟩<;>rfl
 pyHash:=fun hv h=>by
  rcases bo hv with ⟨i,t,rfl,rfl⟩ | ⟨x,t,rfl,rfl⟩
  ·exact wpAny_pyHash_int h
  ·exact wpAny_pyHash_str h
 eqBool:=fun hu hv h=>by
  rcases bo hu with ⟨i,t,rfl,rfl⟩ | ⟨x,t,rfl,rfl⟩
  ·rcases bo hv with ⟨j,u,rfl,rfl⟩ | ⟨y,u,rfl,rfl⟩
   ·rw[D6]at h;exact wpAny_eqBool_int h
   ·rw[D5]at h;exact SeqAt.EqAt.int_str i t y u _ _ _ _ h
  ·rcases bo hv with ⟨j,u,rfl,rfl⟩ | ⟨y,u,rfl,rfl⟩
   ·rw[D4]at h;exact SeqAt.EqAt.str_int x t j u _ _ _ _ h
   ·rw[D3]at h;exact wpAny_eqBool_str h
 «strs»:=fun k x t v h=>by
  rcases bo h with ⟨i,u,rfl,e⟩ | ⟨y,u,rfl,e⟩
  ·exact nomatch e
  ·injection e with e1 _
   subst e1;cases v<;>rfl
theorem qx (prog:Program) (w:World) (i:Int) (t:Tok):(aL prog w).is (.inl i) (.int i t)=true:=wb i t
theorem qw (prog:Program) (w:World) (x:Str) (t:Tok):(aL prog w).is (.inr x) (.str x t)=true:=v_ x t
set_option genInjectivity true in
inductive V where
 | aD | bl (b:Bool) | int (i:Int) | str (x:Str) | byt (b:Array UInt8) | flt (b:UInt64) | ref (a:Addr) | ty (n:String)
 deriving DecidableEq
noncomputable def RelV:V->Value->Prop
 | .aD,u=>u=Value.none
 | .bl b,u=>u=Value.bool b
 | .int i,u=>∃t,u=Value.int i t
 | .str x,u=>∃t,u=Value.str x t
 | .byt b,u=>∃t,u=Value.bytes b t
 | .flt b,u=>∃t,u=Value.float b t
 | .ref a,u=>u=Value.ref a
 | .ty n,u=>u=Value.type n
noncomputable abbrev Vals:List V->List Value->Prop:=Paired RelV
theorem Vals.length {xs:List V} {us:List Value} (r:Vals xs us):xs.length=us.length:=Nf r
theorem Vals.get:∀ {xs:List V} {us:List Value} {i:Nat} {x:V},Vals xs us->xs[i]?=some x->∃u,us[i]?=some u/\RelV x u
 | _,_,_,_,.nil,e=>by simp at e
 | _,_,0,_,.cons r _,e=>by simp at e;subst e;exact⟨_,rfl,r⟩
 | _,_,i + 1,x,.cons _ t,e=>by
  obtain⟨u,h1,h2⟩:=Vals.get (i:=i) (x:=x) t (by simpa using e);exact⟨u,by simpa using h1,h2⟩
theorem Vals.set {x:V} {u:Value} (r:RelV x u):∀ {xs:List V} {us:List Value} (i:Nat),Vals xs us->Vals (xs.set i x) (us.set i u)
 | _,_,_,.nil=>.nil
 | _,_,0,.cons _ t=>.cons r t
 | _,_,i + 1,.cons q t=>.cons q (Vals.set r i t)
theorem Vals.append:∀ {xs ys:List V} {us ws:List Value},Vals xs us->Vals ys ws->Vals (xs++ys) (us++ws)
 | _,_,_,_,.nil,s=>s
 | _,_,_,_,.cons r t,s=>.cons r (Vals.append t s)
theorem Vals.take:∀ {xs:List V} {us:List Value} (n:Nat),Vals xs us->Vals (xs.take n) (us.take n)
 | _,_,0,_=>.nil
 | _,_,_ + 1,.nil=>.nil
 | _,_,n + 1,.cons r t=>.cons r (Vals.take n t)
theorem Vals.drop:∀ {xs:List V} {us:List Value} (n:Nat),Vals xs us->Vals (xs.drop n) (us.drop n)
 | _,_,0,r=>r
 | _,_,_ + 1,.nil=>.nil
 | _,_,n + 1,.cons _ t=>Vals.drop n t
theorem Vals.none_of:∀ {xs:List V} {us:List Value} {i:Nat},Vals xs us->xs[i]?=none->us[i]?=none:=fun{xs us i} r e=>by
 have h1:=r.length;have h2:xs.length<=i:=Mg.mp e;exact Mg.mpr (by omega)
noncomputable def gZ:Option V->Option Value->Prop
 | some v,some u=>RelV v u
 | none,none=>True
 | _,_=>False
noncomputable def KV {κ:Type}:List (κ × V)->List (κ × Value)->Prop:=Paired fun(p:κ × V) (q:κ × Value)=>p.1=q.1/\RelV p.2 q.2
noncomputable def kV:Key->V
 | .inl i=>.int i
 | .inr x=>.str x
set_option genInjectivity true in
inductive HO where
 /-- a list -/
 | lst (xs:List V)
 /-- a tuple (never changes) -/
 | tup (xs:List V)
 /-- a dict whose keys are ints and texts; one whose keys are tuples of ints and texts (the empty one is both) -/
 | dK (kvs:List (Key × V)) | dT (kvs:List (List Key × V))
 /-- a set of ints: au members, au size -/
 | set (S:Int->Bool) (n:Nat)
 /-- an instance of the class at C, au dict at dx, au attributes -/
 | ins (C dx:Addr) (fs:List (Str × V))
 /-- the dict of the instance at x -/
 | own (x:Addr)
 /-- the dict of an exception -/
 | xd (fs:List (Str × V))
 /-- a bound method, f of x -/
 | met (f x:Addr)
 /-- a range object lo, lo + 1, .. below hi -/
 | Ai (lo hi:Int)
 /-- a thing that is known to the object (the script; a dict while a loop walks it): read, never written while it is so -/
 | frz (o:Obj) (u:HO)
 /-- a code object's table -/
 | tbl (ps:NW)
 /-- any other thing, by what is true of au one object (a def of one's own: SetO a S n := HO.ext fun h => ..) -/
 | ext (φ:Heap->Prop)
 | exo (C:Addr) (d:Option Addr)
 | clo (fd:FuncData)
 | cel (v:V)
 | cod (q:Str)
noncomputable abbrev Hp:=Addr->Option HO
noncomputable def upd (H:Hp) (a:Addr) (o:HO):Hp:=fun b=>if b=a then some o else H b
theorem ae {H:Hp} {a:Addr} {o:HO}:upd H a o a=some o:=by unfold upd;rw[Jc rfl]
theorem af {H:Hp} {a b:Addr} {o:HO} (h:b ≠ a):upd H a o b=H b:=by unfold upd;rw[I_ h]
theorem dq {H:Hp} {a:Addr} {o u:HO}:upd (upd H a o) a u=upd H a u:=by
 funext b;unfold upd;split<;>rfl
theorem FG {H:Hp} {a b:Addr} {o u:HO} (h:H a=some o) (h':H b=some u) (d:o ≠ u):a ≠ b:=by
 intro e;subst e;rw[h]at h';exact d (JE h')
theorem ag {H:Hp} {a b:Addr} {o:HO} (h:H a=some o) (h':H b=none):a ≠ b:=by
 intro e;subst e;rw[h]at h';cases h'
section
variable (P:Program) (w:World)
noncomputable def bA (H:Hp) (h:Heap) (a:Addr):HO->Prop
 | .lst xs=>xs.length<=sizeLine/\∃ (au:List Value) (n:Nat),Vals xs au/\h.get? a=some {cls:=.type "list",data:=.seq au.toArray n}
 | .tup xs=>xs.length<=sizeLine/\∃au:List Value,Vals xs au/\IsTup h a au.toArray
 | .dK kvs=>kvs.length<=sizeLine/\(a == sysModules)=false/\∃vs,KV kvs vs/\h.DictOf (aL P w) a vs
 | .dT kvs=>kvs.length<=sizeLine/\(a == sysModules)=false/\∃xs:List (List Key × Addr × Value),
   Paired (fun(p:List Key × V) (q:List Key × Addr × Value)=>p.1=q.1/\H q.2.1=some (.tup (p.1.map kV))/\RelV p.2 q.2.2) kvs xs/\
   ∃o es ep,h.get? a=some o/\o.ExactDict/\o.data=.dict es ep/\es.toList=xs.map (entryOfKey (tupleKind (aL P w)))/\(xs.map (·.1)).Nodup
 | .set S n=>h.SetOf (intKind P w) a S n
 | .ins C dx fs=>H dx=some (.own a)/\fs.length<=1000/\dx ≠ a/\h.get? a=some (PySem.W.instObj C dx)/\
   ∃mA,h.Ns1 dx mA/\(∀ f,gZ (fs.lookup f) (mA f))/\PySem.Within mA (fs.map (·.1))
 | .own _=>∃o,h.get? a=some o
 | .xd fs=>∃mA,h.Ns1 a mA/\∀f,gZ (fs.lookup f) (mA f)
 | .Ai lo hi=>∃t u v,h.get? a=some {cls:=.type "range",data:=.fields #[.int lo t,.int hi u,.int 1 v]}
 | .frz o u=>h.get? a=some o/\bA H h a u
 | .tbl ps=>h.get? a=some {cls:=.none,data:=.fields ps}
 | .met f x=>h.get? a=some (PySem.W.methodObj (.ref f) (.ref x))
 | .ext φ=>φ h/\(∃ o,h.get? a=some o)/\∀h1 h2:Heap,φ h1->(∀ o,h1.get? a=some o->h2.get? a=some o)->φ h2
 | .exo C d=>∃oe vs,h.get? a=some oe/\oe.cls=.ref C/\oe.dict=d/\oe.data=.fields vs
 | .clo fd=>h.get? a=some {cls:=.type "function",data:=.func fd}
 | .cel v=>∃u,RelV v u/\h.IsCell a (some u)
 | .cod q=>h.CodeRec (.ref a) q
noncomputable def hE (H:Hp) (h:Heap):Prop:=∀a o,H a=some o->bA P w H h a o
end
section
variable {P:Program} {w:World} {H H':Hp} {h h':Heap} {a:Addr} {o:HO}
theorem bA.lt (x:bA P w H h a o):a < h.objs.size:=by
 cases o with
 | lst xs=>obtain⟨_,_,_,_,e⟩:=x;exact Jk e
 | tup xs=>obtain⟨_,_,_,p⟩:=x;exact p.lt
 | dK kvs=>obtain⟨_,_,_,_,o,_,_,e,_⟩:=x;exact Jk e
 | dT kvs=>obtain⟨_,_,_,_,o,_,_,e,_⟩:=x;exact Jk e
 | set S n=>obtain⟨o,_,_,_,e,_⟩:=x;exact Jk e
 | ins C dx fs=>obtain⟨_,_,_,e,_⟩:=x;exact Jk e
 | own y=>obtain⟨_,e⟩:=x;exact Jk e
 | xd fs=>obtain⟨_,⟨_,_,_,e,_⟩,_⟩:=x;exact Jk e
 | Ai lo hi=>obtain⟨_,_,_,e⟩:=x;exact Jk e
 | frz ob u=>obtain⟨e,_⟩:=x;exact Jk e
 | tbl ps=>exact Jk (show h.get? a=some _ from x)
 | met f y=>exact Jk (show h.get? a=some _ from x)
 | ext φ=>obtain⟨_,⟨_,e⟩,_⟩:=x;exact Jk e
 | exo C d=>obtain⟨oe,vs,e,_⟩:=x;exact Jk e
 | clo fd=>exact Jk (show h.get? a=some _ from x)
 | cel v=>obtain⟨u,_,e⟩:=x;exact e.lt
 | cod q=>obtain⟨c,oc,vs,t,hc,e,_⟩:=x;cases hc;exact Jk e
theorem Paired.DS {α β:Type} {F G:α->β->Prop}:∀ {l₁:List α} {l₂:List β},Paired F l₁ l₂->(∀ a b,F a b->G a b)->Paired G l₁ l₂
 | _,_,.nil,_=>.nil
 | _,_,.cons r t,f=>.cons (f _ _ r) (Paired.DS t f)
theorem bA.aq (x:bA P w H h a o) (k:∀b u,(b=a\/H b=some (.own a))->h.get? b=some u->h'.get? b=some u)
  (ho:∀b,H b=some (.own a)->H' b=some (.own a)) (ht:∀b xs,H b=some (.tup xs)->H' b=some (.tup xs)):bA P w H' h' a o:=by
 induction o with
 | lst xs=>obtain⟨z,au,n,r,e⟩:=x;exact⟨z,au,n,r,k _ _ (.inl rfl) e⟩
 | tup xs=>obtain⟨z,au,r,ob,e,c⟩:=x;exact⟨z,au,r,ob,k _ _ (.inl rfl) e,c⟩
 | dK kvs=>obtain⟨z,y,vs,r,ob,es,ep,e,c⟩:=x;exact⟨z,y,vs,r,ob,es,ep,k _ _ (.inl rfl) e,c⟩
 | dT kvs=>
  obtain⟨z,y,xs,r,ob,es,ep,e,c⟩:=x;exact⟨z,y,xs,Paired.DS r fun p q z=>⟨z.1,ht _ _ z.2.1,z.2.2⟩,ob,es,ep,k _ _ (.inl rfl) e,c⟩
 | set S n=>obtain⟨ob,es,ep,t,e,c⟩:=x;exact⟨ob,es,ep,t,k _ _ (.inl rfl) e,c⟩
 | ins C dx fs=>
  obtain⟨d,z,ne,e,mA,⟨od,es,ep,e2,c⟩,r⟩:=x;exact⟨ho _ d,z,ne,k _ _ (.inl rfl) e,mA,⟨od,es,ep,k _ _ (.inr d) e2,c⟩,r⟩
 | own y=>obtain⟨ob,e⟩:=x;exact⟨ob,k _ _ (.inl rfl) e⟩
 | xd fs=>obtain⟨mA,⟨od,es,ep,e,c⟩,r⟩:=x;exact⟨mA,⟨od,es,ep,k _ _ (.inl rfl) e,c⟩,r⟩
 | Ai lo hi=>obtain⟨t,u,v,e⟩:=x;exact⟨t,u,v,k _ _ (.inl rfl) e⟩
 | frz ob u ih=>obtain⟨e,q⟩:=x;exact⟨k _ _ (.inl rfl) e,ih q⟩
 | tbl ps=>
  have e:h.get? a=some {cls:=.none,data:=.fields ps}:=x;show h'.get? a=some {cls:=.none,data:=.fields ps};exact k a _ (.inl rfl) e
 | met f y=>
  have e:h.get? a=some (PySem.W.methodObj (.ref f) (.ref y)):=x;show h'.get? a=some (PySem.W.methodObj (.ref f) (.ref y));exact k a _ (.inl rfl) e
 | ext φ=>obtain⟨p,⟨o,e⟩,st⟩:=x;exact⟨st _ _ p fun o q=>k _ _ (.inl rfl) q,⟨o,k _ _ (.inl rfl) e⟩,st⟩
 | exo C d=>obtain⟨oe,vs,e,r⟩:=x;exact⟨oe,vs,k _ _ (.inl rfl) e,r⟩
 | clo fd=>
  have e:h.get? a=some {cls:=.type "function",data:=.func fd}:=x;show h'.get? a=some {cls:=.type "function",data:=.func fd};exact k a _ (.inl rfl) e
 | cel v=>obtain⟨u,r,ob,e,d⟩:=x;exact⟨u,r,ob,k _ _ (.inl rfl) e,d⟩
 | cod q=>obtain⟨c,oc,vs,t,hc,e,r⟩:=x;cases hc;exact⟨a,oc,vs,t,rfl,k _ _ (.inl rfl) e,r⟩
theorem hE.lt (x:hE P w H h) (e:H a=some o):a < h.objs.size:=(x a o e).lt
theorem hE.fresh (x:hE P w H h) (e:h.objs.size<=a):H a=none:=by
 cases q:H a with
 | none=>rfl
 | some u=>exact absurd (Jw (x.lt q) e) (Ly _)
theorem hE.kept (x:hE P w H h) (k:∀b u,h.get? b=some u->h'.get? b=some u):hE P w H h':=fun a o e=>
 (x a o e).aq (fun b u _ q=>k b u q) (fun _ q=>q) fun _ _ q=>q
theorem hE.laid (x:hE P w H h) (k:∀b u,h.get? b=some u->h'.get? b=some u) (hp:h.objs.size<=a) (new:bA P w (upd H a o) h' a o):hE P w (upd H a o) h':=fun b u e=>by
 have hn:=x.fresh hp
 by_cases hb:b=a
 ·subst hb;rw[ae]at e;cases e;exact new
 ·rw[af hb]at e;exact(x b u e).aq (fun c v _ q=>k c v q) (fun c q=>by rw[af (ag q hn)];exact q) fun c xs q=>by rw[af (ag q hn)];exact q
end
noncomputable def Rd (H:Hp) (a:Addr) (u:HO):Prop:=H a=some u\/∃o,H a=some (.frz o u)
theorem Rd.ok {P:Program} {w:World} {H:Hp} {h:Heap} {a:Addr} {u:HO} (r:Rd H a u) (x:hE P w H h):bA P w H h a u:=by
 rcases r with r | ⟨o,r⟩
 ·exact x a u r
 ·obtain⟨_,q⟩:=x a _ r;exact q
noncomputable def Gv:Option HO->Prop
 | some (.lst _)=>True
 | some (.dK _)=>True
 | some (.dT _)=>True
 | some (.set _ _)=>True
 | some (.ins _ _ _)=>True
 | some (.ext _)=>True
 | _=>False
section
variable {P:Program} {w:World} {H:Hp} {h h':Heap} {x e:Addr} {o':HO}
theorem hE.write (ok:hE P w H h) (mu:Gv (H x)) (he:e=x\/H e=some (.own x)) (k:∀b u,b ≠ e->h.get? b=some u->h'.get? b=some u) (heo:∃u,h'.get? e=some u)
  (new:bA P w (upd H x o') h' x o'):hE P w (upd H x o') h':=fun b u q=>by
 have nown:∀c y,H c=some (.own y)->c ≠ x:=fun c y r z=>by subst z;rw[r]at mu;exact mu
 have ntup:∀c xs,H c=some (.tup xs)->c ≠ x:=fun c xs r z=>by subst z;rw[r]at mu;exact mu
 by_cases hb:b=x
 ·subst hb;rw[ae]at q;cases q;exact new
 ·rw[af hb]at q
  by_cases hbe:b=e
  ·have q':H b=some (.own x):=by
    rcases he with z | z
    ·exact absurd (hbe.trans z) hb
    ·rw[hbe];exact z
   rw[q]at q';cases q';obtain⟨v,hv⟩:=heo;exact⟨v,by rw[hbe];exact hv⟩
  ·refine(ok b u q).aq (fun c v hc r=>k c v ?_ r) (fun c r=>by rw[af (nown c b r)];exact r) fun c xs r=>by rw[af (ntup c xs r)];exact r
   rcases hc with rfl | hc
   ·exact hbe
   ·rintro rfl
    rcases he with z | z
    ·exact nown c b hc z
    ·rw[hc]at z;cases z;exact hb rfl
end
structure Un (fs ex:List Addr) (H H':Hp) (h h':Heap):Prop where
 keep:∀b o,h.get? b=some o->H b=none->b ∉ fs->b ∉ ex->h'.get? b=some o
 slot:∀b o,h.get? b=some o->H b=none->b ∈ fs->b ∉ ex->∃sl,h'.get? b=some {o with slots:=sl}
 free:∀b o,h.get? b=some o->H b=none->b ∉ ex->H' b=none
 there:∀b o,h.get? b=some o->b ∉ ex->∃o',h'.get? b=some o'
 kz:∀b xs,H b=some (.tup xs)->H' b=some (.tup xs)
 jQ:∀b o u,H b=some (.frz o u)->H' b=some (.frz o u)
 jN:∀b ps,H b=some (.tbl ps)->∃more,H' b=some (.tbl (ps++more))
section
variable {fs fs' ex ex':List Addr} {H H1 H2:Hp} {h h1 h2 h':Heap} {a x e:Addr} {o:HO}
theorem Un.any (u:Un fs ex H H1 h h1) {b:Addr} {ob:Obj} (q:h.get? b=some ob) (n:H b=none) (hx:b ∉ ex):∃sl,h1.get? b=some {ob with slots:=sl}:=by
 by_cases hb:b ∈ fs
 ·exact u.slot b ob q n hb hx
 ·exact⟨ob.slots,u.keep b ob q n hb hx⟩
theorem Un.kept (k:∀b u,h.get? b=some u->h'.get? b=some u):Un fs ex H H h h':=
 ⟨fun b ob q _ _ _=>k b ob q,fun b ob q _ _ _=>⟨ob.slots,k b ob q⟩,fun _ _ _ n _=>n,fun b ob q _=>⟨ob,k b ob q⟩,fun _ _ q=>q,fun _ _ _ q=>q,fun _ ps q=>⟨#[],by rw[q];simp⟩⟩
theorem Un.refl:Un fs ex H H h h:=Un.kept fun _ _ q=>q
theorem Un.laid (k:∀b u,h.get? b=some u->h'.get? b=some u) (hp:h.objs.size<=a) (hn:H a=none):Un fs ex H (upd H a o) h h' where
 keep:=fun b u q _ _ _=>k b u q
 slot:=fun b u q _ _ _=>⟨u.slots,k b u q⟩
 free:=fun b u q n _=>by rw[af (Js (Jw (Jk q) hp))];exact n
 there:=fun b u q _=>⟨u,k b u q⟩
 kz:=fun b xs q=>by rw[af (ag q hn)];exact q
 jQ:=fun b u xs q=>by rw[af (ag q hn)];exact q
 jN:=fun b ps q=>⟨#[],by rw[af (ag q hn),q];simp⟩
theorem Un.write (mu:Gv (H x)) (he:e=x\/H e=some (.own x)) (k:∀b u,b ≠ e->h.get? b=some u->h'.get? b=some u) (heo:∃u,h'.get? e=some u):Un fs ex H (upd H x o) h h':=by
 have hx:∀b,H b=none->b ≠ x:=fun b n z=>by subst z;rw[n]at mu;exact mu
 have hb:∀b,H b=none->b ≠ e:=fun b n z=>by
  subst z;rcases he with r | r
  ·exact hx b n r
  ·rw[n]at r;cases r
 have hm:∀b u,H b=some u->¬Gv (some u)->b ≠ x:=fun b u q nm z=>by subst z;rw[q]at mu;exact nm mu
 refine⟨fun b u q n _ _=>k b u (hb b n) q,fun b u q n _ _=>⟨u.slots,k b u (hb b n) q⟩,fun b u q n _=>by rw[af (hx b n)];exact n,fun b u q _=>?_,
  fun b xs q=>by rw[af (hm b _ q fun z=>z)];exact q,fun b u xs q=>by rw[af (hm b _ q fun z=>z)];exact q,fun b ps q=>⟨#[],by rw[af (hm b _ q fun z=>z),q];simp⟩⟩
 by_cases hbe:b=e
 ·subst hbe;exact heo
 ·exact⟨u,k b u hbe q⟩
end
noncomputable def GF (h:Heap) (H:Hp):List Addr:=(List.range h.objs.size).filter fun a=>(H a).isSome
noncomputable def mL (h:Heap) (H:Hp):Heap:=PySem.W.hideAll h (GF h H)
theorem wq (h:Heap) (H:Hp):(mL h H).objs.size=h.objs.size:=PySem.W.hideAll_size _ _
theorem zx {h:Heap} {H:Hp} {b:Addr} {o:Obj} (e:h.get? b=some o) (n:H b=none):(mL h H).get? b=some o:=
 PySem.W.hideAll_get _ e fun hm=>by
  have q:(H b).isSome=true:=(KY.mp hm).2;rw[n]at q;simp at q
theorem BB {h:Heap} {H:Hp} {b:Addr} {o:Obj} (e:(mL h H).get? b=some o):h.get? b=some o/\H b=none:=by
 have e':h.get? b=some o:=PySem.W.of_hideAll (GF h H) e;refine⟨e',?_⟩;cases q:H b with
 | none=>rfl
 | some x=>
  have hm:b ∈ GF h H:=KY.mpr ⟨MY.mpr (Jk e'),by simp[q]⟩;have z:(mL h H).get? b=none:=PySem.W.hideAll_none (GF h H) hm;rw[z]at e;cases e
structure Mod (K:PySem.W.Frag) (mg:Str->Option Value) (base:Heap):Prop where
 FL:K.In base
 glob:base.Ns mainGlobals mg
 blt:∃mb,base.Ns builtinsNs mb/\∀x:Str,x ≠ "__name__" ->mb x=bootBuiltins x
 nolimit:base.NoLimit
structure Cx where
 prog:Program
 w:World
 K:PySem.W.Frag
 mg:Str->Option Value
 base:Heap
 A:Around
 N:List Str
 s₀:Shared
 H₀:Hp
 env:Env
 outer:List Env
 stack:List Env
 ex:List Addr
 fn:Str->Bool
 calm:Bool
 pn:NU
 xe:NT
noncomputable def w4 (l:List Env):List Addr:=l.filterMap (·.frame)
noncomputable abbrev Cx.fs (X:Cx):List Addr:=w4 X.outer
noncomputable def Cf (sc:Scope) (x:Str):Prop:=sc.names.lookup x=some .local\/sc.names.lookup x=some .cell\/sc.names.lookup x=some .free
noncomputable def Loc (sc:Scope) (x:Str):Prop:=sc.names.lookup x=some .local\/sc.names.lookup x=some .cell
noncomputable def Look (env:Env) (h:Heap) (m:Str->Option Value) (x:Str) (u:Value):Prop:=
 (env.kindOf x=some .local/\m x=some u)\/((env.kindOf x=some .cell\/env.kindOf x=some .free)/\∃c,env.cells.lookup x=some c/\h.IsCell c (some u))
structure Cx.Ok (X:Cx):Prop where
 mod:Mod X.K X.mg X.base
 kind:X.env.scope.kind=.function
 glob:X.env.globals=mainGlobals
 blt:X.env.builtins=builtinsNs
 above:X.s₀.heap.objs.size<=X.env.locals
 inj:∀x y c,X.env.cells.lookup x=some c->X.env.cells.lookup y=some c->x=y
 has:∀x,(X.env.kindOf x=some .cell\/X.env.kindOf x=some .free)->∃c,X.env.cells.lookup x=some c
 Gd:∀x c,X.fn x=true->X.env.cells.lookup x=some c->X.s₀.heap.objs.size<=c
 hd:X.calm=true->X.A.handled=none
 frames:X.A.frames=some X.stack
 EM:X.stack=X.outer\/(X.stack=X.env::X.outer/\X.env.frame=some X.env.locals)
 GO:∀b ∈ X.ex,b ≠ X.env.locals/\∀x c,X.env.cells.lookup x=some c->c ≠ b
 bs:∀b o,X.base.get? b=some o->X.s₀.heap.get? b=some o/\X.H₀ b=none
 B8:X.base.objs.size<=X.s₀.heap.objs.size
 yG:∀b o,X.base.get? b=some o->b ∉ X.ex
 zH:∀b ∈ X.ex,b ∉ X.fs
 jj:X.s₀.heap.FunFrames X.base X.outer
 Eh:∀b ∈ X.fs,X.H₀ b=none
structure Inv (X:Cx) (pins:NU) (σ:List (Option V)) (H:Hp) (s:Shared):Prop where
 ok:X.Ok
 os:s.os=X.s₀.os
 bare:AllBare s.gens
 base:Un X.fs X.ex X.H₀ H X.s₀.heap s.heap
 loc:∃m,s.heap.Ns X.env.locals m/\∀ (i:Nat) (x:Str) (v:V),X.N[i]?=some x->σ[i]?=some (some v)->Cf X.env.scope x->∃u,RelV v u/\Look X.env s.heap m x u
 cell:∀x c,X.env.cells.lookup x=some c->∃v,s.heap.IsCell c v
 free:H X.env.locals=none
 d4:∀x c,X.env.cells.lookup x=some c->H c=none
 pin:∀p ∈ X.pn++pins,s.heap.get? p.1=some p.2/\H p.1=none/\p.1 ≠ X.env.locals/\p.1 ∉ X.fs/\∀v,p.2.data ≠ .cell v
 aZ:hE X.prog X.w H s.heap
 len:σ.length=X.N.length
section
variable {X:Cx} {pins:NU} {σ:List (Option V)} {H H':Hp} {s:Shared} {h':Heap}
theorem Cx.Ok.DK (ok:X.Ok) {b:Addr} {o:Obj} (e:X.base.get? b=some o):b ∉ X.fs:=fun hb=>by
 have:=(ok.jj.mem hb).1;rw[e]at this;cases this
theorem Inv.bs (I:Inv X pins σ H s):∀b o,X.base.get? b=some o->s.heap.get? b=some o/\H b=none:=fun b o e=>
 ⟨I.base.keep b o (I.ok.bs b o e).1 (I.ok.bs b o e).2 (I.ok.DK e) (I.ok.yG b o e),I.base.free b o (I.ok.bs b o e).1 (I.ok.bs b o e).2 (I.ok.yG b o e)⟩
theorem Inv.bk (I:Inv X pins σ H s):∀b o,X.base.get? b=some o->s.heap.get? b=some o:=fun b o e=>(I.bs b o e).1
theorem Inv.mod (I:Inv X pins σ H s):Mod X.K X.mg X.base:=I.ok.mod
theorem Inv.lU (I:Inv X pins σ H s):X.K.In s.heap:=I.ok.mod.FL.keeps I.bk
theorem Inv.lt (I:Inv X pins σ H s):X.env.locals < s.heap.objs.size:=let ⟨_,hn,_⟩:=I.loc;hn.lt
theorem Inv.sz (I:Inv X pins σ H s):X.s₀.heap.objs.size<=s.heap.objs.size:=JB I.ok.above (Lo I.lt)
theorem Inv.Hq (I:Inv X pins σ H s) {a:Addr} (h:s.heap.objs.size<=a):a ∉ X.fs:=fun hb=>by
 obtain⟨_,o,ho,_⟩:=I.ok.jj.mem hb;exact absurd (Jw (Jk ho) (JB I.sz h)) (Ly _)
theorem Inv.zW (I:Inv X pins σ H s):∀x c,X.env.cells.lookup x=some c->c ≠ X.env.locals:=fun x c e z=>by
 obtain⟨v,o,ho,hd⟩:=I.cell x c e;obtain⟨m,⟨o',es,ep,ho',hd',_⟩,_⟩:=I.loc;rw[z,ho']at ho;cases ho;rw[hd']at hd;cases hd
theorem Inv.jj (I:Inv X pins σ H s):s.heap.FunFrames X.base X.outer:=by
 have all:∀ (l:List Env),(∀ b ∈ w4 l,b ∈ X.fs)->X.s₀.heap.FunFrames X.base l->s.heap.FunFrames X.base l:=by
  intro l
  induction l with
  | nil=>intro _ _;trivial
  | cons env r ih=>
   intro hs hl;obtain⟨hk,⟨L,o,hf,hn,ho,hd⟩,hr⟩:=hl;have hL:L ∈ X.fs:=hs L (by unfold w4;rw[MW,hf];exact Jj);obtain⟨sl,e⟩:=I.base.slot L o ho (I.ok.Eh L hL) hL fun z=>I.ok.zH L z hL;exact⟨hk,⟨L,_,hf,hn,e,hd⟩,ih (fun b hb=>hs b (by unfold w4;rw[MW,hf];exact Ji _ hb)) hr⟩
 exact all X.outer (fun _ hb=>hb) I.ok.jj
theorem Inv.stack (I:Inv X pins σ H s):s.heap.FunFrames X.base X.stack:=by
 rcases I.ok.EM with e | ⟨e,hf⟩
 ·rw[e];exact I.jj
 ·rw[e];obtain⟨m,hn,_⟩:=I.loc;refine .cons (by rw[I.ok.kind];decide) hf hn ?_ I.jj;exact Heap.get?_none_of_le (JB I.ok.B8 I.ok.above)
theorem Inv.oi (I:Inv X pins σ H s):∀b ∈ w4 X.stack,b ∈ X.env.locals::X.fs:=fun b hb=>by
 rcases I.ok.EM with e | ⟨e,hf⟩
 ·rw[e]at hb;exact Ji _ hb
 ·rw[e]at hb;unfold w4 at hb;rw[MW,hf]at hb;exact hb
theorem Inv.tW (I:Inv X pins σ H s):∀b ∈ w4 X.stack,H b=none:=fun b hb=>by
 rcases Jq.mp (I.oi b hb)with e | hb
 ·rw[e];exact I.free
 ·obtain⟨_,o,ho,_⟩:=I.ok.jj.mem hb;exact I.base.free b o ho (I.ok.Eh b hb) fun z=>I.ok.zH b z hb
theorem Inv.step {g':Array GenState} {t':Nat} {d':Drawn} {ch:List Addr} (I:Inv X pins σ H s)
  (hch:∀b ∈ ch,(b ∈ X.ex\/X.s₀.heap.objs.size<=b)/\b ≠ X.env.locals/\(∀ x c,X.env.cells.lookup x=some c->c ≠ b)/\∀p ∈ X.pn++pins,p.1 ≠ b)
  (keep:∀b o,b ≠ X.env.locals->b ∉ X.fs->b ∉ ch->s.heap.get? b=some o->H b=none->h'.get? b=some o)
  (slot:∀b o,b ≠ X.env.locals->b ∈ X.fs->b ∉ ch->s.heap.get? b=some o->H b=none->∃sl,h'.get? b=some {o with slots:=sl}) (free:∀b o,b ∉ ch->s.heap.get? b=some o->H b=none->H' b=none)
  (there:∀b o,b ∉ ch->s.heap.get? b=some o->∃o',h'.get? b=some o')
  (kz:∀b xs,H b=some (.tup xs)->H' b=some (.tup xs)) (jQ:∀b o u,H b=some (.frz o u)->H' b=some (.frz o u)) (jN:∀b ps,H b=some (.tbl ps)->∃more,H' b=some (.tbl (ps++more)))
  (ns:∀m,s.heap.Ns X.env.locals m->h'.Ns X.env.locals m) (aZ:hE X.prog X.w H' h') (hg:AllBare g'):
  Inv X pins σ H' {s with heap:=h',gens:=g',drawn:=d',toks:=t'}:=by
 have neL:∀b o,X.s₀.heap.get? b=some o->b ≠ X.env.locals:=fun b o e=>Js (Jw (Jk e) I.ok.above)
 have neC:∀b o,X.s₀.heap.get? b=some o->b ∉ X.ex->b ∉ ch:=fun b o e hx hb=>by
  rcases(hch b hb).1 with z | z
  ·exact hx z
  ·exact absurd (Jw (Jk e) z) (Ly _)
 have cellK:∀x c,X.env.cells.lookup x=some c->∀v,s.heap.IsCell c v->h'.IsCell c v:=fun x c e v ⟨o,ho,hd⟩=>by
  have nch:c ∉ ch:=fun z=>(hch c z).2.2.1 x c e rfl
  by_cases hc:c ∈ X.fs
  ·obtain⟨sl,q⟩:=slot c o (I.zW x c e) hc nch ho (I.d4 x c e);exact⟨_,q,hd⟩
  ·exact⟨o,keep c o (I.zW x c e) hc nch ho (I.d4 x c e),hd⟩
 refine⟨I.ok,I.os,hg,⟨fun b o e n hb hx=>?_,fun b o e n hb hx=>?_,fun b o e n hx=>?_,fun b o e hx=>?_,fun b xs e=>kz b xs (I.base.kz b xs e),fun b o xs e=>jQ b o xs (I.base.jQ b o xs e),fun b ps e=>?_⟩,?_,fun x c e=>?_,?_,fun x c e=>?_,fun p hp=>?_,aZ,I.len⟩
 ·exact keep b o (neL b o e) hb (neC b o e hx) (I.base.keep b o e n hb hx) (I.base.free b o e n hx)
 ·obtain⟨sl,e1⟩:=I.base.slot b o e n hb hx;obtain⟨sl',e2⟩:=slot b _ (neL b o e) hb (neC b o e hx) e1 (I.base.free b o e n hx);exact⟨sl',e2⟩
 ·obtain⟨o',e1⟩:=I.base.there b o e hx;exact free b o' (neC b o e hx) e1 (I.base.free b o e n hx)
 ·obtain⟨o',e1⟩:=I.base.there b o e hx;exact there b o' (neC b o e hx) e1
 ·obtain⟨m1,e1⟩:=I.base.jN b ps e;obtain⟨m2,e2⟩:=jN b _ e1;exact⟨m1++m2,by rw[e2,Array.append_assoc]⟩
 ·obtain⟨m,hn,hl⟩:=I.loc;refine⟨m,ns m hn,fun i x v e1 e2 e3=>?_⟩;obtain⟨u,r,l⟩:=hl i x v e1 e2 e3;refine⟨u,r,?_⟩;rcases l with l | ⟨k,c,e,z⟩
  ·exact .inl l
  ·exact .inr ⟨k,c,e,cellK x c e _ z⟩
 ·obtain⟨v,z⟩:=I.cell x c e;exact⟨v,cellK x c e v z⟩
 ·obtain⟨m,⟨o,_,_,ho,_⟩,_⟩:=I.loc;exact free _ o (fun z=>(hch _ z).2.1 rfl) ho I.free
 ·obtain⟨v,o,ho,hd⟩:=I.cell x c e;exact free c o (fun z=>(hch c z).2.2.1 x c e rfl) ho (I.d4 x c e)
 ·obtain⟨e,n,ne,nf,d⟩:=I.pin p hp;have nch:p.1 ∉ ch:=fun z=>(hch p.1 z).2.2.2 p hp rfl;exact⟨keep p.1 p.2 ne nf nch e n,free p.1 p.2 nch e n,ne,nf,d⟩
theorem Inv.un {t':Nat} (I:Inv X pins σ H s) (u:Un X.fs [] H H' s.heap h') (aZ:hE X.prog X.w H' h'):Inv X pins σ H' {s with heap:=h',toks:=t'}:=by
 obtain⟨m,⟨o,es,ep,ho,r⟩,_⟩:=id I.loc;obtain⟨sl,hL⟩:=u.any ho I.free (by simp)
 exact I.step (g':=s.gens) (d':=s.drawn) (ch:=[]) (fun _ z=>nomatch z) (fun b o _ hb _ e n=>u.keep b o e n hb (by simp)) (fun b o _ hb _ e n=>u.slot b o e n hb (by simp)) (fun b o _ e n=>u.free b o e n (by simp)) (fun b o _ e=>u.there b o e (by simp)) u.kz u.jQ u.jN (fun m' hm=>by
  obtain⟨o',es',ep',ho',r'⟩:=hm;rw[ho]at ho';cases ho';exact⟨_,es',ep',hL,r'⟩) aZ I.bare
theorem Inv.call {g':Array GenState} {t':Nat} {d':Drawn} {ch:List Addr} (I:Inv X pins σ H s) (u:Un (w4 X.stack) ch H H' s.heap h') (aZ:hE X.prog X.w H' h') (hg:AllBare g')
  (hch:∀b ∈ ch,(b ∈ X.ex\/X.s₀.heap.objs.size<=b)/\b ≠ X.env.locals/\(∀ x c,X.env.cells.lookup x=some c->c ≠ b)/\∀p ∈ X.pn++pins,p.1 ≠ b):
  Inv X pins σ H' {s with heap:=h',gens:=g',drawn:=d',toks:=t'}:=by
 obtain⟨m,⟨o,es,ep,ho,r⟩,_⟩:=id I.loc;obtain⟨sl,hL⟩:=u.any ho I.free fun z=>(hch _ z).2.1 rfl
 exact I.step (ch:=ch) hch (fun b o hL hb hc e n=>u.keep b o e n (fun z=>(Jq.mp (I.oi b z)).elim hL hb) hc) (fun b o _ _ hc e n=>u.any e n hc) (fun b o hc e n=>u.free b o e n hc) (fun b o hc e=>u.there b o e hc) u.kz u.jQ u.jN (fun m' hm=>by
  obtain⟨o',es',ep',ho',r'⟩:=hm;rw[ho]at ho';cases ho';exact⟨_,es',ep',hL,r'⟩) aZ hg
theorem Inv.turned {t':Nat} {it:Addr} (I:Inv X pins σ H s) (k:∀b o,b ≠ it->s.heap.get? b=some o->h'.get? b=some o) (hn:H it=none) (hL:it ≠ X.env.locals)
  (h1:it ∈ X.ex\/X.s₀.heap.objs.size<=it) (h2:∀x c,X.env.cells.lookup x=some c->c ≠ it) (h3:∀p ∈ X.pn++pins,p.1 ≠ it):Inv X pins σ H {s with heap:=h',toks:=t'}:=by
 have nit:∀b u,H b=some u->b ≠ it:=fun b u e z=>by rw[z,hn]at e;cases e
 refine I.step (g':=s.gens) (d':=s.drawn) (ch:=[it]) (fun b hb=>?_) (fun b o _ _ hc e _=>k b o (fun z=>hc (by simp[z])) e) (fun b o _ _ hc e _=>⟨o.slots,k b o (fun z=>hc (by simp[z])) e⟩) (fun _ _ _ _ n=>n)
  (fun b o hc e=>⟨o,k b o (fun z=>hc (by simp[z])) e⟩) (fun _ _ e=>e) (fun _ _ _ e=>e) (fun b ps e=>⟨#[],by rw[e];simp⟩) (fun m hm=>?_) (fun b u e=>?_) I.bare
 ·have e:b=it:=by simpa using hb
  subst e;exact⟨h1,hL,h2,h3⟩
 ·obtain⟨o,es,ep,ho,r⟩:=hm;exact⟨o,es,ep,k _ o (J5 hL) ho,r⟩
 ·refine(I.aZ b u e).aq (fun c v hc q=>k c v ?_ q) (fun _ q=>q) fun _ _ q=>q;rcases hc with z | z
  ·rw[z];exact nit b u e
  ·exact nit c _ z
theorem Inv.tok (I:Inv X pins σ H s) (t:Nat):Inv X pins σ H {s with toks:=t}:=I.un (h':=s.heap) (t':=t) Un.refl I.aZ
theorem Inv.kept {t':Nat} (I:Inv X pins σ H s) (k:∀b u,s.heap.get? b=some u->h'.get? b=some u):Inv X pins σ H {s with heap:=h',toks:=t'}:=I.un (Un.kept k) (I.aZ.kept k)
theorem Inv.laid {a:Addr} {o:HO} {t':Nat} (I:Inv X pins σ H s) (k:∀b u,s.heap.get? b=some u->h'.get? b=some u) (hp:s.heap.objs.size<=a) (new:bA X.prog X.w (upd H a o) h' a o):
  Inv X pins σ (upd H a o) {s with heap:=h',toks:=t'}:=I.un (Un.laid k hp (I.aZ.fresh hp)) (I.aZ.laid k hp new)
theorem Inv.write {x e:Addr} {o:HO} {t':Nat} (I:Inv X pins σ H s) (mu:Gv (H x)) (he:e=x\/H e=some (.own x)) (k:∀b u,b ≠ e->s.heap.get? b=some u->h'.get? b=some u) (heo:∃u,h'.get? e=some u)
  (new:bA X.prog X.w (upd H x o) h' x o):Inv X pins σ (upd H x o) {s with heap:=h',toks:=t'}:=I.un (Un.write mu he k heo) (I.aZ.write mu he k heo new)
theorem Inv.uo {pins':NU} (I:Inv X pins σ H s) (h:∀p ∈ pins',s.heap.get? p.1=some p.2/\H p.1=none/\p.1 ≠ X.env.locals/\p.1 ∉ X.fs/\∀v,p.2.data ≠ .cell v):Inv X pins' σ H s:=
 ⟨I.ok,I.os,I.bare,I.base,I.loc,I.cell,I.free,I.d4,fun p hp=>(Jx.mp hp).elim (fun z=>I.pin p (J_ _ z)) (h p),I.aZ,I.len⟩
theorem qu {N:List Str} (hN:N.Nodup) {i j:Nat} {x:Str} (a:N[i]?=some x) (b:N[j]?=some x):i=j:=by
 obtain⟨h1,e1⟩:=Ju.mp a;obtain⟨h2,e2⟩:=Ju.mp b;exact(List.getElem_inj hN).mp (e1.trans e2.symm)
theorem mY {M:Model} {A:Around} {E:NT} {i:Nat} {x:Str} {v:V} {u:Value} {Q:Unit->Shared->Prop} (I:Inv X pins σ H s) (hN:X.N.Nodup) (hi:X.N[i]?=some x) (hx:Loc X.env.scope x) (r:RelV v u)
  (h:∀s',Inv X pins (σ.set i (some v)) H s'->(∃ a,Heap.SameBut a s.heap s'.heap/\(a=X.env.locals\/X.env.cells.lookup x=some a))->Q () s') (hf:X.fn x=true\/X.env.scope.names.lookup x=some .local:=by first | exact .inl rfl | exact .inr rfl | assumption):wpAny M A (storeName X.env x u) Q E s:=by
 obtain⟨m,hn,hl⟩:=id I.loc;have hcls:(X.env.scope.kind == .class || (X.env.scope.kind == .module && X.env.locals != X.env.globals))=false:=by rw[I.ok.kind];rfl
 have hiσ:i < σ.length:=by rw[I.len];exact(Ju.mp hi).1
 have zW:=I.zW
 have tracked:∀ {a:Addr} {h':Heap},(∃ o,s.heap.get? a=some o/\H a=none)->Heap.SameBut a s.heap h'->hE X.prog X.w H h':=fun{a h'} ha hs b ob e=>by
  obtain⟨_,_,hfree⟩:=ha;refine(I.aZ b ob e).aq (fun c w' hc q=>(hs.2 c ?_).trans q) (fun _ q=>q) fun _ _ q=>q
  rintro rfl
  rcases hc with rfl | hc
  ·rw[hfree]at e;cases e
  ·rw[hfree]at hc;cases hc
 rcases hx with hk | hk
 ·refine wpAny_storeName_local hk hn (fun h' hn' hs=>?_) hcls;obtain⟨oL,_,_,hoL,_⟩:=id hn;refine h _ ⟨I.ok,I.os,I.bare,⟨fun b o e n hb hx=>?_,fun b o e n hb hx=>?_,I.base.free,fun b o e hx=>?_,I.base.kz,I.base.jQ,I.base.jN⟩,⟨_,hn',fun j y v' e1 e2 e3=>?_⟩,fun y c e=>?_,I.free,I.d4,fun p hp=>?_,tracked ⟨oL,hoL,I.free⟩ hs,by simpa using I.len⟩ ⟨_,hs,.inl rfl⟩
  ·exact(hs.2 b (Js (Jw (Jk e) I.ok.above))).trans (I.base.keep b o e n hb hx)
  ·obtain⟨sl,e1⟩:=I.base.slot b o e n hb hx;exact⟨sl,(hs.2 b (Js (Jw (Jk e) I.ok.above))).trans e1⟩
  ·obtain⟨o',e1⟩:=I.base.there b o e hx;exact⟨o',(hs.2 b (Js (Jw (Jk e) I.ok.above))).trans e1⟩
  ·by_cases hj:j=i
   ·subst hj;rw[hi]at e1;cases e1;rw[K3 hiσ]at e2;cases e2
    exact⟨u,r,.inl ⟨hk,by simp⟩⟩
   ·rw[List.getElem?_set_ne (J5 hj)]at e2;obtain⟨u',r',q⟩:=hl j y v' e1 e2 e3;refine⟨u',r',?_⟩;rcases q with ⟨k,e⟩ | ⟨k,c,e,z⟩
    ·refine .inl ⟨k,?_⟩;have:y ≠ x:=fun e=>hj (qu hN e1 (e ▸ hi));simp[this,e]
    ·exact .inr ⟨k,c,e,z.sameBut hs (zW y c e)⟩
  ·obtain⟨w',z⟩:=I.cell y c e;exact⟨w',z.sameBut hs (zW y c e)⟩
  ·obtain⟨e,n,ne,nf,d⟩:=I.pin p hp;exact⟨(hs.2 p.1 ne).trans e,n,ne,nf,d⟩
 ·have hfn:X.fn x=true:=by
   rcases hf with z | z
   ·exact z
   ·rw[z]at hk;cases hk
  obtain⟨c,hc⟩:=I.ok.has x (.inl hk);obtain⟨w',z⟩:=I.cell x c hc;refine wpAny_storeName_cell I.ok.kind hk hc z (fun h' hc' hs=>?_);obtain⟨oc,hoc,hocd⟩:=id z;refine h {s with heap:=h'} ⟨I.ok,I.os,I.bare,⟨fun b o e n hb hx=>?_,fun b o e n hb hx=>?_,I.base.free,fun b o e hx=>?_,I.base.kz,I.base.jQ,I.base.jN⟩,⟨m,hn.sameBut hs (J5 (zW x c hc)),fun j y v' e1 e2 e3=>?_⟩,fun y c' e=>?_,I.free,I.d4,fun p hp=>?_,tracked ⟨oc,hoc,I.d4 x c hc⟩ hs,by simpa using I.len⟩ ⟨c,hs,.inr hc⟩
  ·exact(hs.2 b (Js (Jw (Jk e) (I.ok.Gd x c hfn hc)))).trans (I.base.keep b o e n hb hx)
  ·obtain⟨sl,e1⟩:=I.base.slot b o e n hb hx;exact⟨sl,(hs.2 b (Js (Jw (Jk e) (I.ok.Gd x c hfn hc)))).trans e1⟩
  ·obtain⟨o',e1⟩:=I.base.there b o e hx;exact⟨o',(hs.2 b (Js (Jw (Jk e) (I.ok.Gd x c hfn hc)))).trans e1⟩
  ·by_cases hj:j=i
   ·subst hj;rw[hi]at e1;cases e1;rw[K3 hiσ]at e2;cases e2
    exact⟨u,r,.inr ⟨.inl hk,c,hc,hc'⟩⟩
   ·rw[List.getElem?_set_ne (J5 hj)]at e2;obtain⟨u',r',q⟩:=hl j y v' e1 e2 e3;refine⟨u',r',?_⟩;rcases q with q | ⟨k,c',e,z'⟩
    ·exact .inl q
    ·refine .inr ⟨k,c',e,z'.sameBut hs ?_⟩
     rintro rfl
     exact hj (qu hN e1 (I.ok.inj _ _ _ e hc ▸ hi))
  ·by_cases hcc:c'=c
   ·subst hcc;exact⟨_,hc'⟩
   ·obtain⟨w2,z2⟩:=I.cell y c' e;exact⟨w2,z2.sameBut hs hcc⟩
  ·obtain⟨e,n,ne,nf,d⟩:=I.pin p hp;refine⟨(hs.2 p.1 ?_).trans e,n,ne,nf,d⟩;intro q;rw[q,hoc]at e;have q':oc=p.2:=JE e;exact d w' (by rw[<-q'];exact hocd)
theorem p4 {M:Model} {A:Around} {E:NT} {i:Nat} {x:Str} {v:V} {u:Value} {Q:Unit->Shared->Prop} (I:Inv X pins σ H s) (hN:X.N.Nodup) (hi:X.N[i]?=some x) (hx:Loc X.env.scope x) (r:RelV v u)
  (h:∀s',Inv X pins (σ.set i (some v)) H s'->Q () s') (hf:X.fn x=true\/X.env.scope.names.lookup x=some .local:=by first | exact .inl rfl | exact .inr rfl | assumption):wpAny M A (storeName X.env x u) Q E s:=
 mY I hN hi hx r (fun s' I' _=>h s' I') hf
theorem Inv.CN {s':Shared} {ch:List Addr} (I:Inv X pins σ H s) (ho:s'.os=s.os) (u:Un (w4 X.stack) ch H H' s.heap s'.heap) (aZ:hE X.prog X.w H' s'.heap) (hg:AllBare s'.gens)
  (hch:∀b ∈ ch,(b ∈ X.ex\/X.s₀.heap.objs.size<=b)/\b ≠ X.env.locals/\(∀ x c,X.env.cells.lookup x=some c->c ≠ b)/\∀p ∈ X.pn++pins,p.1 ≠ b):Inv X pins σ H' s':=by
 obtain⟨h',g',d',t',o'⟩:=s';have e:o'=s.os:=ho;subst e;exact I.call (g':=g') (t':=t') (d':=d') u aZ hg hch
end
noncomputable abbrev XK:=Value->Option Addr->Hp->Prop
noncomputable abbrev St:=List (Option V)
noncomputable abbrev VK:=V->Hp->Prop
noncomputable abbrev TE:=St->Hp->VK->Prop
noncomputable abbrev TT:=St->Hp->(Bool->Hp->Prop)->Prop
noncomputable abbrev TA:=St->Hp->(List V->Hp->Prop)->Prop
structure Ends where
 nx:St->Hp->Prop
 rt:VK
 bk:St->Hp->Prop:=fun _ _=>False
 ct:St->Hp->Prop:=fun _ _=>False
noncomputable abbrev TS:=Ends->St->Hp->Prop
noncomputable def EP (X:Cx) (pins:NU) (σ:St) (Q:VK) (u:Value) (s':Shared):Prop:=∃v H',Inv X pins σ H' s'/\RelV v u/\Q v H'
noncomputable def TP (X:Cx) (pins:NU) (σ:St) (Q:Bool->Hp->Prop) (b:Bool) (s':Shared):Prop:=∃H',Inv X pins σ H' s'/\Q b H'
noncomputable def AP (X:Cx) (pins:NU) (σ:St) (Q:List V->Hp->Prop) (us:List Value) (s':Shared):Prop:=∃vs H',Inv X pins σ H' s'/\Vals vs us/\Q vs H'
noncomputable def SP (X:Cx) (pins:NU) (D:Ends) (f:Flow) (s':Shared):Prop:=
 match f with
 | .next=>∃σ' H',Inv X pins σ' H' s'/\D.nx σ' H'
 | .brk=>∃σ' H',Inv X pins σ' H' s'/\D.bk σ' H'
 | .cont=>∃σ' H',Inv X pins σ' H' s'/\D.ct σ' H'
 | .ret u=>∃v σ' H',Inv X pins σ' H' s'/\RelV v u/\D.rt v H'
noncomputable def PE (X:Cx) (e:Expr) (t:TE):Prop:=
 ∀ (pins:NU) (s:Shared) (σ:St) (H:Hp) (Q:VK),Inv X pins σ H s->t σ H Q->wpAny (model X.prog X.w) X.A (eval e X.env) (EP X pins σ Q) X.xe s
noncomputable def PT (X:Cx) (e:Expr) (t:TT):Prop:=
 ∀ (pins:NU) (s:Shared) (σ:St) (H:Hp) (Q:Bool->Hp->Prop),Inv X pins σ H s->t σ H Q->wpAny (model X.prog X.w) X.A (isTrue e X.env (eval e X.env)) (TP X pins σ Q) X.xe s
noncomputable def PW (X:Cx) (e:Expr) (t:TT):Prop:=
 ∀ (whole:Sem Value) (pins:NU) (s:Shared) (σ:St) (H:Hp) (Q:Bool->Hp->Prop),Inv X pins σ H s->t σ H Q->wpAny (model X.prog X.w) X.A (isTrue e X.env whole) (TP X pins σ Q) X.xe s
theorem PW.pt {X:Cx} {e:Expr} {t:TT} (h:PW X e t):PT X e t:=h _
noncomputable def PA (X:Cx) (es:List Expr) (t:TA):Prop:=
 ∀ (pos:Pos) (pins:NU) (s:Shared) (σ:St) (H:Hp) (Q:List V->Hp->Prop),Inv X pins σ H s->t σ H Q->wpAny (model X.prog X.w) X.A (spliced (backTo pos (starEach es X.env))) (AP X pins σ Q) X.xe s
noncomputable def PS (X:Cx) (st:Stmt) (t:TS):Prop:=
 ∀ (pins:NU) (s:Shared) (σ:St) (H:Hp) (D:Ends),Inv X pins σ H s->t D σ H->wpAny (model X.prog X.w) X.A (exec st X.env) (SP X pins D) X.xe s
noncomputable def An (X:Cx) (st:List Stmt) (t:TS):Prop:=
 ∀ (pins:NU) (s:Shared) (σ:St) (H:Hp) (D:Ends),Inv X pins σ H s->t D σ H->wpAny (model X.prog X.w) X.A (execs st X.env) (SP X pins D) X.xe s
theorem bW {α:Type} {t:Sem α} {Q Q':α->Shared->Prop} {M:Model} {A:Around} {E:NT} {s:Shared} (h:wpAny M A t Q E s) (hQ:∀a s,Q a s->Q' a s):wpAny M A t Q' E s:=KQ h hQ fun _ _ x=>x
section
variable {X:Cx}
noncomputable def GZ (i:Nat):TE:=fun σ H Q=>∃v,σ[i]?=some (some v)/\Q v H
noncomputable def tC (v:V):TE:=fun _ H Q=>Q v H
theorem Du {i:Nat} {x:Str} {pos:Pos} (hN:X.N[i]?=some x) (hv:Cf X.env.scope x) (hd:(x == ("__debug__" :Str))=false:=by decide) (hcd:(x == ("__classdict__" :Str))=false:=by decide):PE X (.Name x pos) (GZ i):=by
 intro pins s σ H Q I h;obtain⟨v,e,h⟩:=h;obtain⟨m,hn,hl⟩:=I.loc;obtain⟨u,r,l⟩:=hl i x v hN e hv;have fin:EP X pins σ Q u s:=⟨v,H,I,r,h⟩;rcases l with ⟨hk,hm⟩ | ⟨hk,c,hc,hcell⟩
 ·exact MI (wpAny_loadName_local I.ok.kind hk hn hm fin) hd
 ·rcases hk with hk | hk
  ·exact MI (wpAny_loadName_cell I.ok.kind hk hc hcell fin) hd
  ·exact MI (wpAny_loadName_free I.ok.kind hk hc hcell fin hcd) hd
theorem Dy {i j pos}:PE X (.Constant (.int i) j pos) (tC (.int i)):=fun _ _ _ H _ I h=>wpAny_Constant_int ⟨.int i,H,I.tok _,⟨_,rfl⟩,h⟩
theorem Fv {b j pos}:PE X (.Constant (.bool b) j pos) (tC (.bl b)):=fun _ _ _ H _ I h=>Constant_bool ⟨.bl b,H,I,rfl,h⟩
theorem Dw {j pos}:PE X (.Constant .none j pos) (tC .aD):=fun _ _ _ H _ I h=>Constant_none ⟨.aD,H,I,rfl,h⟩
theorem Dv {x j pos}:PE X (.Constant (.str x) j pos) (tC (.str x)):=fun _ _ _ H _ I h=>Calls.Constant_str ⟨.str x,H,I.tok _,⟨_,rfl⟩,h⟩
noncomputable def Gl (X:Cx) (x:Str):Prop:=X.env.kindOf x=some .globalImplicit
theorem oT {E:NT} {pins:NU} {s:Shared} {σ:St} {H:Hp} {x:Str} {u:Value} {pos:Pos} {Q:NT} (I:Inv X pins σ H s) (hg:Gl X x) (hm:X.mg x=some u) (h:Q u s)
  (hd:(x == ("__debug__" :Str))=false:=by decide):wpAny (model X.prog X.w) X.A (eval (.Name x pos) X.env) Q E s:=
 Calls.Name_function_global I.ok.kind hg (Calls.loadGlobal_global (by rw[I.ok.glob];exact I.mod.glob.keeps I.bk) hm h) hd
theorem cj {E:NT} {pins:NU} {s:Shared} {σ:St} {H:Hp} {x:Str} {u:Value} {pos:Pos} {Q:NT} (I:Inv X pins σ H s) (hg:Gl X x) (hm:X.mg x=none) (hv:bootBuiltins x=some u) (h:Q u s)
  (hn:x ≠ "__name__" :=by decide) (hd:(x == ("__debug__" :Str))=false:=by decide):wpAny (model X.prog X.w) X.A (eval (.Name x pos) X.env) Q E s:=by
 obtain⟨mb,h1,h2⟩:=I.mod.blt;exact Calls.Name_function_global I.ok.kind hg (Calls.loadGlobal_builtin (by rw[I.ok.glob];exact I.mod.glob.keeps I.bk) hm (by rw[I.ok.blt];exact h1.keeps I.bk) ((h2 x hn).trans hv) h) hd
variable {a b:Expr} {ta tb:TE} {pos:Pos}
variable {tA tB':TT} {rest:List Expr}
noncomputable def Hd (t u:TT):TT:=fun σ H Q=>t σ H fun c H1=>if c=true then u σ H1 Q else Q false H1
noncomputable def IJ (t u:TT):TT:=fun σ H Q=>t σ H fun c H1=>if c=true then Q true H1 else u σ H1 Q
noncomputable def G6 (t:TT):TT:=fun σ H Q=>t σ H fun c H1=>Q (!c) H1
theorem AW (ha:PT X a tA):PW X (.BoolOp .And [a] pos) tA:=by
 intro wh pins s σ H Q I h;refine isTrue_and (bW (ha pins s σ H Q I h) fun c s1 e=>?_);cases c with
 | true=>exact isTrue_and_nil e
 | false=>exact e
theorem Di (ha:PT X a tA):PW X (.BoolOp .Or [a] pos) tA:=by
 intro wh pins s σ H Q I h;refine isTrue_or (bW (ha pins s σ H Q I h) fun c s1 e=>?_);cases c with
 | false=>exact isTrue_or_nil e
 | true=>exact e
theorem xW (ha:PT X a tA) (hb:PW X (.BoolOp .And (b::rest) pos) tB'):PW X (.BoolOp .And (a::b::rest) pos) (Hd tA tB'):=by
 intro wh pins s σ H Q I h;refine isTrue_and (bW (ha pins s σ H _ I h) fun c s1 ⟨H1,I1,q1⟩=>?_);cases c with
 | true=>exact hb wh pins s1 σ H1 Q I1 q1
 | false=>exact⟨H1,I1,q1⟩
theorem Cy (ha:PT X a tA) (hb:PW X (.BoolOp .Or (b::rest) pos) tB'):PW X (.BoolOp .Or (a::b::rest) pos) (IJ tA tB'):=by
 intro wh pins s σ H Q I h;refine isTrue_or (bW (ha pins s σ H _ I h) fun c s1 ⟨H1,I1,q1⟩=>?_);cases c with
 | true=>exact⟨H1,I1,q1⟩
 | false=>exact hb wh pins s1 σ H1 Q I1 q1
theorem Dk (ha:PT X a tA):PT X (.UnaryOp .Not a pos) (G6 tA):=by
 intro pins s σ H Q I h;exact isTrue_not (ha pins s σ H (fun c H1=>Q (!c) H1) I h)
theorem yj {op} {t:TE} (h:PE X a t):PE X (.BoolOp op [a] pos) t:=fun pins s σ H Q I hw=>BoolOp_one (h pins s σ H Q I hw)
noncomputable def IK (t:TT) (ta tb:TE):TE:=fun σ H Q=>t σ H fun c H1=>if c=true then ta σ H1 Q else tb σ H1 Q
theorem yl {c:Expr} (hc:PT X c tA) (ha:PE X a ta) (hb:PE X b tb):PE X (.IfExp c a b pos) (IK tA ta tb):=by
 intro pins s σ H Q I h;refine wpAny_IfExp (bW (hc pins s σ H _ I h) fun d s1 ⟨H1,I1,q1⟩=>?_);cases d with
 | true=>exact ha pins s1 σ H1 Q I1 q1
 | false=>exact hb pins s1 σ H1 Q I1 q1
end
noncomputable def jv (K:PySem.W.Frag) (H:Hp) (a:Addr) (xs:List V):Prop:=
 Rd H a (.lst xs)\/
  ∃ (o:Obj) (au:NW) (n:Nat),K.lookup a=some o/\o.cls=.type "list" /\o.dict=none/\o.data=.seq au n/\au.size<=sizeLine/\Vals xs au.toList
noncomputable def rD (K:PySem.W.Frag) (H:Hp) (a:Addr) (xs:List V):Prop:=
 Rd H a (.tup xs)\/
  ∃ (o:Obj) (au:NW) (n:Nat),K.lookup a=some o/\o.cls=.type "tuple" /\o.data=.seq au n/\au.size<=sizeLine/\Vals xs au.toList
noncomputable def HU:Value->Option V
 | .none=>some .aD
 | .bool b=>some (.bl b)
 | .int i _=>some (.int i)
 | .str x _=>some (.str x)
 | .bytes b _=>some (.byt b)
 | .float b _=>some (.flt b)
 | .ref a=>some (.ref a)
 | .type n=>some (.ty n)
 | _=>none
theorem RelV.abs {x:V} {u:Value} (r:RelV x u):HU u=some x:=by
 cases x with
 | aD=>cases r;rfl
 | bl _=>cases r;rfl
 | int _=>obtain⟨t,rfl⟩:=r;rfl
 | str _=>obtain⟨t,rfl⟩:=r;rfl
 | byt _=>obtain⟨t,rfl⟩:=r;rfl
 | flt _=>obtain⟨t,rfl⟩:=r;rfl
 | ref _=>cases r;rfl
 | ty _=>cases r;rfl
theorem RelV.inj {x y:V} {u:Value} (r:RelV x u) (q:RelV y u):x=y:=JE (r.abs.symm.trans q.abs)
theorem Vals.inj:∀ {xs ys:List V} {us:List Value},Vals xs us->Vals ys us->xs=ys
 | _,_,_,.nil,.nil=>rfl
 | _,_,_,.cons r t,.cons r' t'=>by rw[r.inj r',Vals.inj t t']
section
variable {X:Cx} {pins:NU} {σ:St} {H:Hp} {s:Shared} {a:Addr} {xs ys:List V}
theorem Inv.list (I:Inv X pins σ H s) (h:jv X.K H a xs):∃au:List Value,Vals xs au/\PlainL s.heap a au.toArray/\xs.length<=sizeLine:=by
 rcases h with h | ⟨o,au,n,hk,hc,hd,hs,hz,r⟩
 ·obtain⟨z,au,n,r,e⟩:=h.ok I.aZ;exact⟨au,r,⟨_,n,e,rfl,rfl,rfl⟩,z⟩
 ·refine⟨au.toList,r,⟨o,n,I.lU a o hk,hc,hd,by simpa using hs⟩,?_⟩;have e:=r.length;simp only[Jz]at e;omega
theorem Inv.tuple (I:Inv X pins σ H s) (h:rD X.K H a xs):∃au:List Value,Vals xs au/\IsTup s.heap a au.toArray/\xs.length<=sizeLine:=by
 rcases h with h | ⟨o,au,n,hk,hc,hs,hz,r⟩
 ·obtain⟨z,au,r,p⟩:=h.ok I.aZ;exact⟨au,r,p,z⟩
 ·refine⟨au.toList,r,⟨o,I.lU a o hk,hc,n,by simpa using hs⟩,?_⟩;have e:=r.length;simp only[Jz]at e;omega
theorem Inv.za (I:Inv X pins σ H s) (h:jv X.K H a xs) (h':jv X.K H a ys):xs=ys:=by
 obtain⟨au,r,⟨o,n,e,_,_,d⟩,_⟩:=I.list h;obtain⟨its',r',⟨o',n',e',_,_,d'⟩,_⟩:=I.list h';rw[e]at e';cases e';rw[d]at d';injection d' with d1 _
 have:au=its':=by simpa using congrArg Array.toList d1
 subst this;exact r.inj r'
theorem Inv.vk (I:Inv X pins σ H s) (h:rD X.K H a xs) (h':rD X.K H a ys):xs=ys:=by
 obtain⟨au,r,⟨o,e,_,n,d⟩,_⟩:=I.tuple h;obtain⟨its',r',⟨o',e',_,n',d'⟩,_⟩:=I.tuple h';rw[e]at e';cases e';rw[d]at d';injection d' with d1 _
 have:au=its':=by simpa using congrArg Array.toList d1
 subst this;exact r.inj r'
end
noncomputable abbrev Cx.mi (X:Cx) (E:NT):Cx:={X with xe:=E}
noncomputable abbrev Cx.sF (X:Cx):Cx:=X.mi fun _ _=>False
theorem Cx.Ok.mi {X:Cx} (ok:X.Ok) (E:NT):(X.mi E).Ok:=
 ⟨ok.mod,ok.kind,ok.glob,ok.blt,ok.above,ok.inj,ok.has,ok.Gd,ok.hd,ok.frames,ok.EM,ok.GO,ok.bs,ok.B8,ok.yG,ok.zH,ok.jj,ok.Eh⟩
theorem Cx.Ok.fh {X:Cx} {E:NT} (ok:(X.mi E).Ok):X.Ok:=
 ⟨ok.mod,ok.kind,ok.glob,ok.blt,ok.above,ok.inj,ok.has,ok.Gd,ok.hd,ok.frames,ok.EM,ok.GO,ok.bs,ok.B8,ok.yG,ok.zH,ok.jj,ok.Eh⟩
section
variable {X:Cx} {pins:NU} {σ:St} {H:Hp} {s:Shared} {E:NT}
theorem Inv.mi (I:Inv X pins σ H s) (E:NT):Inv (X.mi E) pins σ H s:=⟨I.ok.mi E,I.os,I.bare,I.base,I.loc,I.cell,I.free,I.d4,I.pin,I.aZ,I.len⟩
theorem Inv.fh (I:Inv (X.mi E) pins σ H s):Inv X pins σ H s:=⟨I.ok.fh,I.os,I.bare,I.base,I.loc,I.cell,I.free,I.d4,I.pin,I.aZ,I.len⟩
theorem SP.fh {D:Ends} {f:Flow} {s':Shared} (h:SP (X.mi E) pins D f s'):SP X pins D f s':=by
 cases f with
 | next=>obtain⟨σ',H',I,q⟩:=h;exact⟨σ',H',I.fh,q⟩
 | brk=>obtain⟨σ',H',I,q⟩:=h;exact⟨σ',H',I.fh,q⟩
 | cont=>obtain⟨σ',H',I,q⟩:=h;exact⟨σ',H',I.fh,q⟩
 | ret u=>obtain⟨v,σ',H',I,r,q⟩:=h;exact⟨v,σ',H',I.fh,r,q⟩
end
section
variable {X:Cx} {st:Stmt} {rest:List Stmt} {t u:TS} {e:Expr} {te:TE} {pos:Pos}
noncomputable def Fc:TS:=fun D σ H=>D.nx σ H
noncomputable def G4 (t u:TS):TS:=fun D σ H=>t {D with nx:=u D} σ H
theorem AZ:An X [] Fc:=fun _ _ σ H _ I h=>wpAny_execs_nil ⟨σ,H,I,h⟩
theorem xZ (h1:PS X st t) (h2:An X rest u):An X (st::rest) (G4 t u):=by
 intro pins s σ H D I h;refine wpAny_execs_cons (bW (h1 pins s σ H {D with nx:=u D} I h) fun f s1 q=>?_);cases f with
 | next=>
  obtain⟨σ',H',I',q⟩:=q;exact h2 pins s1 σ' H' D I' q
 | ret v=>exact q
 | brk=>exact q
 | cont=>exact q
theorem Inv.quiet {pins:NU} {σ:St} {H:Hp} {s:Shared} (I:Inv X pins σ H s):interactive X.env=false:=by simp[interactive,I.ok.kind]
noncomputable def Fd (te:TE):TS:=fun D σ H=>te σ H fun _ H1=>D.nx σ H1
theorem A1 (he:PE X e te) (hs:swapsWith e none pos.line X.env=pure false:=by rfl):PS X (.Expr e pos) (Fd te):=by
 intro pins s σ H D I h;exact wpAny_Expr_any (bW (he pins s σ H _ I h) fun v s1 ⟨x,H1,I1,r1,q1⟩=>⟨σ,H1,I1,q1⟩) I.quiet hs
noncomputable def G5 (te:TE):TS:=fun D σ H=>te σ H D.rt
theorem Dp (he:PE X e te):PS X (.Return (some e) pos) (G5 te):=by
 intro pins s σ H D I h;exact wpAny_Return_some (bW (he pins s σ H _ I h) fun v s1 ⟨x,H1,I1,r1,q1⟩=>⟨x,σ,H1,I1,r1,q1⟩)
noncomputable def G8 (c:TT) (t u:TS):TS:=fun D σ H=>c σ H fun b H1=>if b=true then t D σ H1 else u D σ H1
theorem Fs {c:Expr} {a b:List Stmt} {tc:TT} (hc:PT X c tc) (ha:An X a t) (hb:An X b u):PS X (.If c a b pos) (G8 tc t u):=by
 intro pins s σ H D I h;refine wpAny_If (bW (hc pins s σ H _ I h) fun d s1 ⟨H1,I1,q1⟩=>?_);cases d with
 | true=>exact ha pins s1 σ H1 D I1 q1
 | false=>exact hb pins s1 σ H1 D I1 q1
end
noncomputable abbrev TG:=V->St->Hp->(St->Hp->Prop)->Prop
noncomputable abbrev CT:=List V->St->Hp->(St->Hp->Prop)->Prop
noncomputable def PG (X:Cx) (target:Expr) (t:TG):Prop:=
 ∀ (pins:NU) (s:Shared) (σ:St) (H:Hp) (v:V) (u:Value) (Q:St->Hp->Prop),Inv X pins σ H s->RelV v u->t v σ H Q->
  wpAny (model X.prog X.w) X.A (assign target X.env u) (fun _ s'=>∃σ' H',Inv X pins σ' H' s'/\Q σ' H') X.xe s
noncomputable def ED (X:Cx) (ts:List Expr) (t:CT):Prop:=
 ∀ (pins:NU) (s:Shared) (σ:St) (H:Hp) (vs:List V) (us:List Value) (Q:St->Hp->Prop),Inv X pins σ H s->Vals vs us->t vs σ H Q->
  wpAny (model X.prog X.w) X.A (assignInOrder ((assignEach ts X.env).map (·.2)) us) (fun _ s'=>∃σ' H',Inv X pins σ' H' s'/\Q σ' H') X.xe s
noncomputable abbrev HX:=V->V->V->Hp->(Hp->Prop)->Prop
noncomputable def Gu (X:Cx) (t:HX):Prop:=
 ∀ (pins:NU) (s:Shared) (σ:St) (H:Hp) (o i v:V) (ov iv u:Value) (Q:Hp->Prop),Inv X pins σ H s->RelV o ov->RelV i iv->RelV v u->t o i v H Q->
  wpAny (model X.prog X.w) X.A (setItem ov iv u) (fun _ s'=>∃H',Inv X pins σ H' s'/\Q H') X.xe s
section
variable {X:Cx} {pos:Pos}
noncomputable def lD (i:Nat):TG:=fun v σ H Q=>Q (σ.set i (some v)) H
theorem iw {i:Nat} {x:Str} (hN:X.N.Nodup) (hi:X.N[i]?=some x) (hx:Loc X.env.scope x) (hf:X.fn x=true\/X.env.scope.names.lookup x=some .local:=by first | exact .inl rfl | exact .inr rfl | assumption):PG X (.Name x pos) (lD i):=by
 intro pins s σ H v u Q I r h;exact wpAny_assign_Name (p4 I hN hi hx r (fun s' I'=>⟨_,H,I',h⟩) hf)
noncomputable def FX:CT:=fun vs σ H Q=>vs=[]/\Q σ H
noncomputable def CJ (t:TG) (u:CT):CT:=fun vs σ H Q=>∃v r,vs=v::r/\t v σ H fun σ' H'=>u r σ' H' Q
theorem ur:ED X [] FX:=by
 intro pins s σ H vs us Q I r h;obtain⟨e,h⟩:=h;subst e;cases r
 exact assignInOrder_nil ⟨σ,H,I,h⟩
theorem qo {e:Expr} {es:List Expr} {t:TG} {u:CT} (h1:PG X e t) (h2:ED X es u)
  (hs:(assignEach (e::es) X.env).map (·.2)=assign e X.env::(assignEach es X.env).map (·.2):=by rfl):ED X (e::es) (CJ t u):=by
 intro pins s σ H vs us Q I r h;obtain⟨v,vr,e1,h⟩:=h;subst e1;cases r with
 | cons r rr=>
  rw[hs];refine assignInOrder_cons (bW (h1 pins s σ H _ _ _ I r h) fun _ s1 ⟨σ1,H1,I1,q1⟩=>?_);exact h2 pins s1 σ1 H1 _ _ Q I1 rr q1
noncomputable def Eg (K:PySem.W.Frag) (n:Nat) (t:CT):TG:=fun v σ H Q=>∃a xs,v=.ref a/\rD K H a xs/\xs.length=n/\t xs σ H Q
theorem sA {es:List Expr} {k:Nat} {t:CT} {n:Nat} (hc:X.calm=true) (h:ED X es t)
  (hn:(assignEach es X.env).length=n:=by rfl) (hst:(assignEach es X.env).findIdx? (·.1)=none:=by rfl):PG X (.Tuple es k pos) (Eg X.K n t):=by
 intro pins s σ H v u Q I r hw;obtain⟨a,xs,e1,hq,hl,hw⟩:=hw;subst e1;cases r
 obtain⟨au,rv,ht,hz⟩:=I.tuple hq;refine assign_Tuple_tuple (I.ok.hd hc) ht (by simp[hn,<-hl,rv.length]) hst fun h' hx=>?_;have I1:Inv X pins σ H {s with heap:=h'}:=I.kept (t':=s.toks) fun b o e=>hx b o (Js (Jk e)) e;exact h pins _ σ H xs _ Q I1 (by simpa using rv) hw
noncomputable def Hb (te:TE) (g:TG):TS:=fun D σ H=>te σ H fun x H1=>g x σ H1 D.nx
theorem x_ {i:Nat} {x:Str} {e:Expr} {te:TE} {pos':Pos} (hN:X.N.Nodup) (hi:X.N[i]?=some x) (hx:Loc X.env.scope x) (he:PE X e te) (hs:swapsWith e (some (.Name x pos')) pos.line X.env=pure false:=by rfl) (hf:X.fn x=true\/X.env.scope.names.lookup x=some .local:=by first | exact .inl rfl | exact .inr rfl | assumption):
  PS X (.Assign [.Name x pos'] e pos) (Hb te (lD i)):=by
 intro pins s σ H D I h;refine wpAny_Assign_Name (bW (he pins s σ H _ I h) fun v s1 ⟨y,H1,I1,r1,q1⟩=>?_) hs;exact p4 I1 hN hi hx r1 (fun s2 I2=>⟨_,H1,I2,q1⟩) hf
end
section
variable {X:Cx} {pos:Pos}
noncomputable def C5 (c:TT) (tb:TS):TS:=fun D σ H=>∃W:Nat->St->Hp->Prop,(∃ m,W m σ H)/\∀m σ H,W m σ H->
 c σ H fun b H1=>if b=true then ∃N:St->Hp->Prop,(∀ σ' H',N σ' H'->∃m',m' < m/\W m' σ' H')/\tb {D with nx:=N,ct:=N,bk:=D.nx} σ H1 else D.nx σ H1
theorem x9 {c:Expr} {body:List Stmt} {tc:TT} {tb:TS} (hp:PassesOwn (model X.prog X.w) X.A X.env X.xe) (hc:PT X c tc) (hb:An X body tb):PS X (.While c body [] pos) (C5 tc tb):=by
 intro pins s σ H D I h;obtain⟨W,⟨m0,w0⟩,turn⟩:=h;refine wpAny_While (codeAny_whileLoop (fun n s'=>∃σ' H',Inv X pins σ' H' s'/\W n σ' H') ?_ m0 ⟨σ,H,I,w0⟩)
 rintro n s1 ⟨σ1,H1,I1,w1⟩
 refine Lr hp (bW (hc pins s1 σ1 H1 _ I1 (turn n σ1 H1 w1)) fun b s2 ⟨H2,I2,q2⟩=>?_);cases b with
 | true=>
  obtain⟨N,hN,q2⟩:=q2;rw[Jc rfl];refine Lr hp (bW (hb pins s2 σ1 H2 _ I2 q2) fun f s3 q3=>?_);cases f with
  | next=>
   obtain⟨σ3,H3,I3,n3⟩:=q3;obtain⟨m',hm,w3⟩:=hN σ3 H3 n3;exact⟨m',hm,σ3,H3,I3,w3⟩
  | cont=>
   obtain⟨σ3,H3,I3,n3⟩:=q3;obtain⟨m',hm,w3⟩:=hN σ3 H3 n3;exact⟨m',hm,σ3,H3,I3,w3⟩
  | brk=>exact q3
  | ret v=>exact q3
 | false=>
  rw[I_ JC];exact wpAny_execs_nil ⟨σ1,H2,I2,q2⟩
end
structure It where
 go:Nat->Hp->Prop
 pO:Nat->Hp->V->Hp->Prop
 stop:Nat->Hp->Prop
noncomputable def mU (X:Cx) (pins:NU) (H:Hp) (b:Addr):Prop:=
 H b=none/\b ≠ X.env.locals/\b ∉ X.fs/\(b ∈ X.ex\/X.s₀.heap.objs.size<=b)/\(∀ x c,X.env.cells.lookup x=some c->c ≠ b)/\∀p ∈ X.pn++pins,p.1 ≠ b
theorem Inv.zB {X:Cx} {pins:NU} {σ:St} {H H':Hp} {s:Shared} {b:Addr} (I:Inv X pins σ H s) (hb:s.heap.objs.size<=b) (hn:H' b=none):mU X pins H' b:=by
 refine⟨hn,KG (Jw I.lt hb),I.Hq hb,.inr (JB I.sz hb),fun x c e z=>?_,fun p hp z=>?_⟩
 ·obtain⟨v,q⟩:=I.cell x c e;exact absurd (Jw q.lt (by rw[z];exact hb)) (Ly _)
 ·exact absurd (Jw (Jk (I.pin p hp).1) (by rw[z];exact hb)) (Ly _)
structure Turn (P:Program) (w:World) (K:PySem.W.Frag) (tg:Expr) (J:It) (fp:List Addr) (it:Addr) (tn:Nat->Heap->Prop):Prop where
 mem:it ∈ fp
 obj:∀i h,tn i h->∀b ∈ fp,∃o,h.get? b=some o/\∀v,o.data ≠ .cell v
 keep:∀i h h',tn i h->(∀ b ∈ fp,∀o,h.get? b=some o->h'.get? b=some o)->tn i h'
 item:∀ (X:Cx),X.prog=P->X.w=w->X.K=K->X.calm=true->∀ (i:Nat) (pins:NU) (s:Shared) (σ:St) (H:Hp) (E:NT),Inv X pins σ H s->(∀ b ∈ fp,mU X pins H b)->tn i s.heap->J.go i H->
  wpAny (model P w) X.A (pyNext (.ref it)) (fun r s1=>∃u,r=some u/\
   wpAny (model P w) X.A (letOwnedTupleGo tg (.ref it) u) (fun _ s2=>∃x H',Inv X pins σ H' s2/\RelV x u/\J.pO i H x H'/\tn (i + 1) s2.heap/\∀b ∈ fp,H' b=none) E s1) E s
 done:∀ (X:Cx),X.prog=P->X.w=w->X.K=K->X.calm=true->∀ (i:Nat) (pins:NU) (s:Shared) (σ:St) (H:Hp) (E:NT),Inv X pins σ H s->(∀ b ∈ fp,mU X pins H b)->tn i s.heap->J.stop i H->
  wpAny (model P w) X.A (pyNext (.ref it)) (fun r s1=>r=none/\Inv X pins σ H s1) E s
 self:∀ (A:Around) (i:Nat) (s:Shared) (Q:NT) (E:NT),tn i s.heap->Q (.ref it) s->wpAny (model P w) A (pyIter (.ref it)) Q E s
noncomputable abbrev TI:=St->Hp->(It->Hp->Prop)->Prop
noncomputable def GS (X:Cx) (pins:NU) (σ:St) (tg:Expr) (R:It->Hp->Prop) (itv:Value) (s2:Shared):Prop:=
 ∃ (it:Addr) (fp:List Addr) (tn:Nat->Heap->Prop) (J:It) (H':Hp),itv=.ref it/\Inv X pins σ H' s2/\Turn X.prog X.w X.K tg J fp it tn/\tn 0 s2.heap/\(∀ b ∈ fp,mU X pins H' b)/\R J H'
noncomputable def PI (X:Cx) (tg iter:Expr) (wi:TI):Prop:=
 ∀ (pins:NU) (s:Shared) (σ:St) (H:Hp) (R:It->Hp->Prop),Inv X pins σ H s->wi σ H R->
  wpAny (model X.prog X.w) X.A (eval iter X.env) (fun v s1=>wpAny (model X.prog X.w) X.A (pyIter v) (GS X pins σ tg R) X.xe s1) X.xe s
theorem uK {M:Model} {A:Around} {E:NT} {s:Shared} {tg:Expr} {it:Addr} {u:Value} {o:Obj} {n:String} {vs:NW} {Q:Unit->Shared->Prop} (ho:s.heap.get? it=some o) (hc:o.cls=.type n) (hd:o.data=.fields vs)
  (hn:["enumerate","zip","dict_itemiterator","dict_reverseitemiterator","odict_iterator","itertools.zip_longest","itertools.pairwise"].contains n=false) (hQ:Q () s):wpAny M A (letOwnedTupleGo tg (.ref it) u) Q E s:=by
 unfold letOwnedTupleGo
 cases tg<;>first
  | exact Ja hQ
  | (cases u<;>first
    | exact Ja hQ
    | (refine IZ (wpAny_load ho ?_)
       rw[hc,hd];show wpAny M A (if(["enumerate","zip","dict_itemiterator","dict_reverseitemiterator","odict_iterator","itertools.zip_longest","itertools.pairwise"].contains n && vs[0]? == some (rawInt _))=true then _ else _) Q E s;rw[I_ (by intro h;rw[hn,Bool.false_and]at h;cases h)];exact Ja hQ))
noncomputable def IF (K:PySem.W.Frag) (a:Addr):It:=
 ⟨fun i H=>∃xs x,jv K H a xs/\xs[i]?=some x,fun i H x H'=>H'=H/\∀xs,jv K H a xs->xs[i]?=some x,fun i H=>∃xs,jv K H a xs/\xs.length<=i⟩
noncomputable def IE (K:PySem.W.Frag) (a:Addr):It:=
 ⟨fun i H=>∃xs x,rD K H a xs/\xs[i]?=some x,fun i H x H'=>H'=H/\∀xs,rD K H a xs->xs[i]?=some x,fun i H=>∃xs,rD K H a xs/\xs.length<=i⟩
noncomputable def Il (lo:Int) (n:Nat):It:=⟨fun i _=>i < n,fun i H x H'=>H'=H/\x=.int (lo + i),fun i _=>n<=i⟩
theorem vh {P:Program} {w:World} {K:PySem.W.Frag} {tg:Expr} (a it:Addr):Turn P w K tg (IF K a) [it] it (fun i h=>h.IsListIter it a i) where
 mem:=by simp
 obj:=fun i h st b hb=>by
  have e:b=it:=by simpa using hb
  subst e;obtain⟨o,e,c,d⟩:=st;exact⟨o,e,fun v z=>by rw[d]at z;cases z⟩
 keep:=fun i h h' st k=>st.at fun o e=>k it (by simp) o e
 item:=by
  intro X hP hw hK hc i pins s σ H E I hf st hg;subst hP hw hK;obtain⟨xs,x,hq,hx⟩:=hg;obtain⟨au,rv,p,hz⟩:=I.list hq;obtain⟨u,hu,ru⟩:=rv.get hx;obtain⟨f0,f1,f2,f3,f4,f5⟩:=hf it (by simp);refine wpAny_pyNext_list_item st p.isList (x:=u) (by simpa using hu) fun h' st' sb=>?_;have I1:Inv X pins σ H {s with heap:=h'}:=I.turned (t':=s.toks) (fun b o hb e=>(sb.2 b hb).trans e) f0 f1 f3 f4 f5;obtain⟨o,e,c,d⟩:=id st';exact⟨u,rfl,uK (s:={s with heap:=h'}) e c d (by decide) ⟨x,H,I1,ru,⟨rfl,fun ys hy=>by rw[I.za hy hq];exact hx⟩,st',fun b hb=>(hf b hb).1⟩⟩
 done:=by
  intro X hP hw hK hc i pins s σ H E I hf st hg;subst hP hw hK;obtain⟨xs,hq,hx⟩:=hg;obtain⟨au,rv,p,hz⟩:=I.list hq;obtain⟨f0,f1,f2,f3,f4,f5⟩:=hf it (by simp);have hl:=rv.length;exact wpAny_pyNext_list_end (I.ok.hd hc) st p.isList (by simp;omega) fun h' eb=>⟨rfl,I.turned (t':=s.toks) (fun b o hb e=>eb b o hb e) f0 f1 f3 f4 f5⟩
 self:=fun _ _ _ _ _ st h=>wpAny_pyIter_listiter st h
theorem rO {P:Program} {w:World} {K:PySem.W.Frag} {tg:Expr} (a it:Addr):Turn P w K tg (IE K a) [it] it (fun i h=>h.IsTupleIter it a i) where
 mem:=by simp
 obj:=fun i h st b hb=>by
  have e:b=it:=by simpa using hb
  subst e;obtain⟨o,e,c,d⟩:=st;exact⟨o,e,fun v z=>by rw[d]at z;cases z⟩
 keep:=fun i h h' st k=>st.at fun o e=>k it (by simp) o e
 item:=by
  intro X hP hw hK hc i pins s σ H E I hf st hg;subst hP hw hK;obtain⟨xs,x,hq,hx⟩:=hg;obtain⟨au,rv,p,hz⟩:=I.tuple hq;obtain⟨u,hu,ru⟩:=rv.get hx;obtain⟨f0,f1,f2,f3,f4,f5⟩:=hf it (by simp);refine wpAny_pyNext_tuple_item st (show s.heap.IsTuple a au.toArray from p) (x:=u) (by simpa using hu) fun h' st' sb=>?_;have I1:Inv X pins σ H {s with heap:=h'}:=I.turned (t':=s.toks) (fun b o hb e=>(sb.2 b hb).trans e) f0 f1 f3 f4 f5;obtain⟨o,e,c,d⟩:=id st';exact⟨u,rfl,uK (s:={s with heap:=h'}) e c d (by decide) ⟨x,H,I1,ru,⟨rfl,fun ys hy=>by rw[I.vk hy hq];exact hx⟩,st',fun b hb=>(hf b hb).1⟩⟩
 done:=by
  intro X hP hw hK hc i pins s σ H E I hf st hg;subst hP hw hK;obtain⟨xs,hq,hx⟩:=hg;obtain⟨au,rv,p,hz⟩:=I.tuple hq;obtain⟨f0,f1,f2,f3,f4,f5⟩:=hf it (by simp);have hl:=rv.length;exact wpAny_pyNext_tuple_end (I.ok.hd hc) st (show s.heap.IsTuple a au.toArray from p) (by simp;omega) fun h' eb=>⟨rfl,I.turned (t':=s.toks) (fun b o hb e=>eb b o hb e) f0 f1 f3 f4 f5⟩
 self:=fun _ _ _ _ _ st h=>wpAny_pyIter_tupleiter st h
theorem rP {P:Program} {w:World} {K:PySem.W.Frag} {tg:Expr} (it:Addr) (lo:Int) (n:Nat):Turn P w K tg (Il lo n) [it] it (fun i h=>IsRangeIter h it (lo + (i:Nat) * 1) ((n:Int) - (i:Nat)) 1) where
 mem:=by simp
 obj:=fun i h st b hb=>by
  have e:b=it:=by simpa using hb
  subst e
  exact⟨_,st,fun v z=>by
   have z':Data.fields _=Data.cell v:=z;cases z'⟩
 keep:=fun i h h' st k=>k it (by simp) _ st
 item:=by
  intro X hP hw hK hc i pins s σ H E I hf st hg;subst hP hw hK;obtain⟨f0,f1,f2,f3,f4,f5⟩:=hf it (by simp);have W:=Walks.range (prog:=X.prog) (w:=X.w) (I.ok.hd hc) it lo 1 n;refine W.item i s _ _ hg st fun v h' tk hv st' kk=>?_;obtain⟨t,rfl⟩:=hv;have I1:Inv X pins σ H {s with heap:=h',toks:=tk}:=I.turned (fun b o hb e=>kk b o (by simpa using hb) e) f0 f1 f3 f4 f5;refine⟨_,rfl,uK (s:={s with heap:=h',toks:=tk}) (n:= "range_iterator") st' rfl rfl (by decide) ⟨.int (lo + i),H,I1,⟨t,?_⟩,⟨rfl,rfl⟩,st',fun b hb=>(hf b hb).1⟩⟩;rw[Int.mul_one]
 done:=by
  intro X hP hw hK hc i pins s σ H E I hf st hg;subst hP hw hK;obtain⟨f0,f1,f2,f3,f4,f5⟩:=hf it (by simp);exact wpAny_pyNext_range_end (I.ok.hd hc) st (by have:n<=i:=hg;omega) fun h' eb=>⟨rfl,I.turned (t':=s.toks) (fun b o hb e=>eb b o hb e) f0 f1 f3 f4 f5⟩
 self:=fun _ _ _ _ _ st h=>wpAny_pyIter_rangeiter st h
section
variable {X:Cx} {tg:Expr}
theorem xV {pins:NU} {σ:St} {H:Hp} {s:Shared} {R:It->Hp->Prop} {E:NT} {lo hi:Int} {t u v:Tok} {tk:Nat} (I:Inv X pins σ H s) (h1: -(2 ^ 62)<=lo) (h2:lo < 2 ^ 62) (h3: -(2 ^ 62)<=hi) (h4:hi < 2 ^ 62)
  (q:R (Il lo (hi - lo).toNat) H):wpAny (model X.prog X.w) X.A (pyIter (.ref s.heap.objs.size)) (GS X pins σ tg R) E {s with heap:=s.heap.push {cls:=.type "range",data:=.fields #[.int lo t,.int hi u,.int 1 v]},toks:=tk}:=by
 refine wpAny_pyIter_range (IsRange.new ..) (small_one h1 h2 h3 h4) ?_;have I1:Inv X pins σ H {s with heap:=s.heap.push {cls:=.type "range",data:=.fields #[.int lo t,.int hi u,.int 1 v]},toks:=tk}:=I.kept fun b o e=>Jd _ e
 refine⟨(s.heap.push {cls:=.type "range",data:=.fields #[.int lo t,.int hi u,.int 1 v]}).objs.size,[(s.heap.push {cls:=.type "range",data:=.fields #[.int lo t,.int hi u,.int 1 v]}).objs.size],_,_,H,rfl,
  I1.kept (t':=tk) fun b o e=>Jd _ e,rP _ lo (hi - lo).toNat,?_,fun b hb=>?_,q⟩
 ·have e1:lo + ((0:Nat):Int) * 1=lo:=by simp
  have e2:(((hi - lo).toNat:Nat):Int) - ((0:Nat):Int)=Builtin.Range.rangeSize lo hi 1:=by rw[rangeSize_one];split<;>omega
  show IsRangeIter _ _ (lo + ((0:Nat):Int) * 1) ((((hi - lo).toNat:Nat):Int) - ((0:Nat):Int)) 1;rw[e1,e2];exact Jr _ rfl
 ·have e:b=(s.heap.push {cls:=.type "range",data:=.fields #[.int lo t,.int hi u,.int 1 v]}).objs.size:=by simpa using hb
  subst e;exact I1.zB (Jv _) (I1.aZ.fresh (Jv _))
noncomputable def G9 (wi:TI) (g:TG) (tb:TS):TS:=fun D σ H=>wi σ H fun J H1=>∃W:Nat->Nat->St->Hp->Prop,(∃ m,W 0 m σ H1)/\∀i m σ H,W i m σ H->
 (J.stop i H/\D.nx σ H)\/(J.go i H/\∃N:St->Hp->Prop,(∀ σ' H',N σ' H'->∃m',m' < m/\W (i + 1) m' σ' H')/\∀x H',J.pO i H x H'->g x σ H' fun σ2 H2=>tb {D with nx:=N,ct:=N,bk:=D.nx} σ2 H2)
noncomputable def kT (fp:List Addr) (h:Heap):NU:=fp.filterMap fun b=>(h.get? b).map fun o=>(b,o)
theorem eR {fp:List Addr} {h:Heap} {b:Addr} {o:Obj} (hb:b ∈ fp) (e:h.get? b=some o):(b,o) ∈ kT fp h:=List.mem_filterMap.mpr ⟨b,hb,by rw[e];rfl⟩
theorem vL {fp:List Addr} {h:Heap} {p:Addr × Obj} (hp:p ∈ kT fp h):p.1 ∈ fp/\h.get? p.1=some p.2:=by
 obtain⟨b,hb,e⟩:=List.mem_filterMap.mp hp;cases q:h.get? b with
 | none=>rw[q]at e;cases e
 | some o=>
  rw[q]at e;have e':(b,o)=p:=JE e;subst e';exact⟨hb,q⟩
theorem Inv.pinned {pins:NU} {σ:St} {H:Hp} {s:Shared} {fp:List Addr} (I:Inv X pins σ H s) (hf:∀b ∈ fp,mU X pins H b) (ho:∀b ∈ fp,∃o,s.heap.get? b=some o/\∀v,o.data ≠ .cell v):Inv X (pins++kT fp s.heap) σ H s:=
 I.uo fun p hp=>(Jx.mp hp).elim (fun z=>I.pin p (JG _ z)) fun z=>by
  obtain⟨hb,e⟩:=vL z;obtain⟨f0,f1,f2,_⟩:=hf p.1 hb;obtain⟨o,e',d⟩:=ho p.1 hb;rw[e]at e';cases e';exact⟨e,f0,f1,f2,d⟩
theorem Inv.ia {pins pl:NU} {σ:St} {H:Hp} {s:Shared} (I:Inv X (pins++pl) σ H s):Inv X pins σ H s:=I.uo fun p hp=>I.pin p (JG _ (J_ _ hp))
theorem yd {iter:Expr} {body:List Stmt} {wi:TI} {g:TG} {tb:TS} {pos:Pos} (hp:PassesOwn (model X.prog X.w) X.A X.env X.xe) (hc:X.calm=true) (hi:PI X tg iter wi) (hg:PG X tg g) (hb:An X body tb)
  (hs:∀x,foldedSetIterable iter X.env x=pure x:=by intro _;rfl):PS X (.For tg iter body [] pos) (G9 wi g tb):=by
 intro pins s σ H D I h;refine wpAny_For (bW (hi pins s σ H _ I h) fun v s1 h1=>bW h1 fun itv s2 h2=>?_) hs;obtain⟨it,fp,tn,J,H2,e,I2,T,st2,f2,W,⟨m0,w0⟩,turn⟩:=h2;subst e
 -- what stays true of the iterator's objects through the loop
 have stat:∀ {H':Hp},(∀ b ∈ fp,H' b=none)->∀b ∈ fp,mU X pins H' b:=fun hn b hb=>⟨hn b hb,(f2 b hb).2⟩;refine codeAny_forLoop_any (fun n s'=>∃i σ' H',Inv X pins σ' H' s'/\tn i s'.heap/\(∀ b ∈ fp,H' b=none)/\W i n σ' H') ?_ m0 ⟨0,σ,H2,I2,st2,fun b hb=>(f2 b hb).1,w0⟩
 rintro n s3 ⟨i,σ3,H3,I3,st3,fr3,w3⟩
 rcases turn i n σ3 H3 w3 with ⟨stop,qn⟩ | ⟨go,N,hN,step⟩
 ·refine Lr hp (bW (T.done X rfl rfl rfl hc i pins s3 σ3 H3 X.xe I3 (stat fr3) st3 stop) fun r s4 ⟨hr,I4⟩=>?_);subst hr;exact wpAny_execs_nil ⟨σ3,H3,I4,qn⟩
 ·refine Lr hp (bW (T.item X rfl rfl rfl hc i pins s3 σ3 H3 X.xe I3 (stat fr3) st3 go) fun r s4 ⟨u,hr,h4⟩=>?_);subst hr;refine Lr hp (bW h4 fun _ s5 ⟨x,H5,I5,r5,y5,st5,fr5⟩=>?_);have I5':=I5.pinned (stat fr5) (T.obj _ _ st5);refine Lr hp (bW (hg _ s5 σ3 H5 x u _ I5' r5 (step x H5 y5)) fun _ s6 ⟨σ6,H6,I6,q6⟩=>?_);refine Lr hp (bW (hb _ s6 σ6 H6 _ I6 q6) fun f s7 q7=>?_)
  have again:∀ {σ7:St} {H7:Hp},Inv X (pins++kT fp s5.heap) σ7 H7 s7->N σ7 H7->∃m,m < n/\∃i σ' H',Inv X pins σ' H' s7/\tn i s7.heap/\(∀ b ∈ fp,H' b=none)/\W i m σ' H':=fun{σ7 H7} I7 n7=>by
   obtain⟨m',hm,w7⟩:=hN σ7 H7 n7;refine⟨m',hm,i + 1,σ7,H7,I7.ia,T.keep _ _ _ st5 fun b hb o e=>(I7.pin (b,o) (JG _ (JG _ (eR hb e)))).1,fun b hb=>?_,w7⟩;obtain⟨o,e,d⟩:=T.obj _ _ st5 b hb;exact(I7.pin (b,o) (JG _ (JG _ (eR hb e)))).2.1
  cases f with
  | next=>obtain⟨σ7,H7,I7,n7⟩:=q7;exact again I7 n7
  | cont=>obtain⟨σ7,H7,I7,n7⟩:=q7;exact again I7 n7
  | brk=>obtain⟨σ7,H7,I7,q7⟩:=q7;exact⟨σ7,H7,I7.ia,q7⟩
  | ret v=>obtain⟨x7,σ7,H7,I7,r7,q7⟩:=q7;exact⟨x7,σ7,H7,I7.ia,r7,q7⟩
end
noncomputable abbrev R2:=V->V->Hp->VK->Prop
noncomputable def iZ (X:Cx) (f:Value->Value->Sem Value) (r:R2):Prop:=
 ∀ (pins:NU) (s:Shared) (σ:St) (H:Hp) (x y:V) (v u:Value) (Q:VK),Inv X pins σ H s->RelV x v->RelV y u->r x y H Q->
  wpAny (model X.prog X.w) X.A (f v u) (EP X pins σ Q) X.xe s
noncomputable def GR (X:Cx) (f:Value->Sem Value) (r:V->Hp->VK->Prop):Prop:=
 ∀ (pins:NU) (s:Shared) (σ:St) (H:Hp) (x:V) (v:Value) (Q:VK),Inv X pins σ H s->RelV x v->r x H Q->
  wpAny (model X.prog X.w) X.A (f v) (EP X pins σ Q) X.xe s
noncomputable def n9 (X:Cx) (f:Value) (r:List V->Hp->VK->Prop):Prop:=
 ∀ (pins:NU) (s:Shared) (σ:St) (H:Hp) (xs:List V) (us:List Value) (Q:VK),Inv X pins σ H s->Vals xs us->r xs H Q->
  wpAny (model X.prog X.w) X.A (call f us) (EP X pins σ Q) X.xe s
noncomputable def Gp (X:Cx) (r:V->Hp->(Bool->Hp->Prop)->Prop):Prop:=
 ∀ (pins:NU) (s:Shared) (σ:St) (H:Hp) (x:V) (v:Value) (Q:Bool->Hp->Prop),Inv X pins σ H s->RelV x v->r x H Q->
  wpAny (model X.prog X.w) X.A (truthy v) (TP X pins σ Q) X.xe s
noncomputable def GG (r:R2) (ta tb:TE):TE:=fun σ H Q=>ta σ H fun x H1=>tb σ H1 fun y H2=>r x y H2 Q
noncomputable def IH (r:V->Hp->VK->Prop) (ta:TE):TE:=fun σ H Q=>ta σ H fun x H1=>r x H1 Q
noncomputable def rI (C:Int->Int->Prop) (g:Int->Int->V):R2:=fun x y H Q=>∃i j,x=.int i/\y=.int j/\C i j/\Q (g i j) H
noncomputable def EO (g:Int->Int->V):R2:=fun x y H Q=>∃i j,x=.int i/\y=.int j/\Q (g i j) H
noncomputable def rU (g:Int->V):V->Hp->VK->Prop:=fun x H Q=>∃i,x=.int i/\Q (g i) H
section
variable {X:Cx} {a b c:Expr} {ta tb tc:TE} {pos:Pos}
theorem Ew (ha:PE X a ta) (hb:PE X b tb) {pins:NU} {s:Shared} {σ:St} {H:Hp} {R:V->V->Hp->Prop} (I:Inv X pins σ H s)
  (h:ta σ H fun x H1=>tb σ H1 fun y H2=>R x y H2) {Q:NT} {f:Value->Value->Sem Value}
  (hf:∀v u s2 x y H2,Inv X pins σ H2 s2->RelV x v->RelV y u->R x y H2->wpAny (model X.prog X.w) X.A (f v u) Q X.xe s2):
  wpAny (model X.prog X.w) X.A (eval a X.env) (fun v s₁=>wpAny (model X.prog X.w) X.A (eval b X.env) (fun u s₂=>wpAny (model X.prog X.w) X.A (f v u) Q X.xe s₂) X.xe s₁) X.xe s:=by
 refine bW (ha pins s σ H _ I h) fun v s1 ⟨x,H1,I1,r1,q1⟩=>?_;refine bW (hb pins s1 σ H1 _ I1 q1) fun u s2 ⟨y,H2,I2,r2,q2⟩=>?_;exact hf v u s2 x y H2 I2 r1 r2 q2
theorem Fu {op:Operator} {r:R2} (ho:iZ X (binaryOp op) r) (ha:PE X a ta) (hb:PE X b tb):PE X (.BinOp a op b pos) (GG r ta tb):=by
 intro pins s σ H Q I h;exact wpAny_BinOp (Ew ha hb I h fun v u s2 x y H2 I2 rx ry q=>ho pins s2 σ H2 x y v u Q I2 rx ry q)
theorem Ft {op:UnaryOp} {r:V->Hp->VK->Prop} (ho:GR X (unaryOp op) r) (ha:PE X a ta):PE X (.UnaryOp op a pos) (IH r ta):=by
 intro pins s σ H Q I h;exact UnaryOp_ (bW (ha pins s σ H _ I h) fun v s1 ⟨x,H1,I1,r1,q1⟩=>ho pins s1 σ H1 x v Q I1 r1 q1)
theorem GI {f:Value->Value->Sem Value} {C:Int->Int->Prop} {g:Int->Int->Int}
  (rule:∀ (i j:Int) (t u:Tok) (s:Shared) (Q:NT) (E:NT),C i j->Q (.int (g i j) s.toks) {s with toks:=s.toks + 1}->wpAny (model X.prog X.w) X.A (f (.int i t) (.int j u)) Q E s):
  iZ X f (rI C fun i j=>.int (g i j)):=by
 intro pins s σ H x y v u Q I rx ry h;obtain⟨i,j,rfl,rfl,hc,q⟩:=h;obtain⟨t,rfl⟩:=rx;obtain⟨t',rfl⟩:=ry;exact rule i j t t' s _ _ hc ⟨.int (g i j),H,I.tok _,⟨_,rfl⟩,q⟩
theorem FC {f:Value->Value->Sem Value} {g:Int->Int->Int}
  (rule:∀ (i j:Int) (t u:Tok) (s:Shared) (Q:NT) (E:NT),Q (.int (g i j) s.toks) {s with toks:=s.toks + 1}->wpAny (model X.prog X.w) X.A (f (.int i t) (.int j u)) Q E s):
  iZ X f (EO fun i j=>.int (g i j)):=by
 intro pins s σ H x y v u Q I rx ry h;obtain⟨i,j,rfl,rfl,q⟩:=h;obtain⟨t,rfl⟩:=rx;obtain⟨t',rfl⟩:=ry;exact rule i j t t' s _ _ ⟨.int (g i j),H,I.tok _,⟨_,rfl⟩,q⟩
theorem FD {f:Value->Value->Sem Value} {g:Int->Int->Bool}
  (rule:∀ (i j:Int) (t u:Tok) (s:Shared) (Q:NT) (E:NT),Q (.bool (g i j)) s->wpAny (model X.prog X.w) X.A (f (.int i t) (.int j u)) Q E s):
  iZ X f (EO fun i j=>.bl (g i j)):=by
 intro pins s σ H x y v u Q I rx ry h;obtain⟨i,j,rfl,rfl,q⟩:=h;obtain⟨t,rfl⟩:=rx;obtain⟨t',rfl⟩:=ry;exact rule i j t t' s _ _ ⟨.bl (g i j),H,I,rfl,q⟩
noncomputable def Io (i j:Int):Prop:=0 < j/\j < 1073741824
noncomputable def EL (i j:Int):Prop:=0<=j/\j<=1000000/\i.natAbs < 2 ^ 64
noncomputable def Cn (i j:Int):Prop:=(-(2 ^ 64) < i/\i < 2 ^ 64)\/(-(2 ^ 64) < j/\j < 2 ^ 64)
theorem Cn.ok {i j:Int} (h:Cn i j):IntMulOk i j:=by
 rcases h with ⟨h1,h2⟩ | ⟨h1,h2⟩
 ·exact .of_left (intBits_le_64 h1 h2)
 ·exact .of_right (intBits_le_64 h1 h2)
theorem DF:iZ X (binaryOp .Add) (EO fun i j=>.int (i + j)):=FC fun _ _ _ _ _ _ _ q=>add_int q
theorem DA:iZ X (binaryOp .Sub) (EO fun i j=>.int (i - j)):=FC fun _ _ _ _ _ _ _ q=>sub_int q
theorem DD:iZ X (binaryOp .Mult) (rI Cn fun i j=>.int (i * j)):=GI fun _ _ _ _ _ _ _ hc q=>mul_int q hc.ok
theorem Bu:iZ X (binaryOp .FloorDiv) (rI Io fun i j=>.int (i / j)):=GI fun i j _ _ _ _ _ hc q=>by
 have h1:(0:Int) < j:=hc.1;have h2:j < 1073741824:=hc.2;exact floordiv_int (by omega) (by rw[Int.fdiv_eq_ediv_of_nonneg i (by omega)];exact q) (.inl (PyProof.noPylong_small (by omega)))
theorem DE:iZ X (binaryOp .Mod) (rI (fun _ j=>0 < j) fun i j=>.int (i % j)):=GI fun i j _ _ _ _ _ hc q=>by
 have h1:(0:Int) < j:=hc;exact mod_int' (by omega) (by rw[Int.fmod_eq_emod_of_nonneg i (by omega)];exact q)
theorem DC:iZ X (binaryOp .Pow) (rI EL fun i j=>.int (i ^ j.toNat)):=GI fun _ _ _ _ _ _ _ hc q=>pow_int_small hc.1 hc.2.1 hc.2.2 q
theorem IG {f:Value->Sem Value} {g:Int->Int}
  (rule:∀ (i:Int) (t:Tok) (s:Shared) (Q:NT) (E:NT),Q (.int (g i) s.toks) {s with toks:=s.toks + 1}->wpAny (model X.prog X.w) X.A (f (.int i t)) Q E s):
  GR X f (rU fun i=>.int (g i)):=by
 intro pins s σ H x v Q I rx h;obtain⟨i,rfl,q⟩:=h;obtain⟨t,rfl⟩:=rx;exact rule i t s _ _ ⟨.int (g i),H,I.tok _,⟨_,rfl⟩,q⟩
theorem C0:GR X (unaryOp .USub) (rU fun i=>.int (-i)):=IG fun _ _ _ _ _ q=>neg_int q
end
noncomputable def gE:V->V->Bool
 | .aD,.aD=>true | .aD,.int _=>true | .int _,.aD=>true | .aD,.bl _=>true | .bl _,.aD=>true | .aD,.str _=>true | .str _,.aD=>true
 | .int _,.int _=>true | .bl _,.bl _=>true | .str _,.str _=>true | .byt _,.byt _=>true
 | .int _,.str _=>true | .str _,.int _=>true | .bl _,.str _=>true | .str _,.bl _=>true
 | _,_=>false
noncomputable def IP:R2:=fun x y H Q=>gE x y=true/\Q (.bl (decide (x=y))) H
noncomputable def IL:R2:=fun x y H Q=>gE x y=true/\Q (.bl (!decide (x=y))) H
theorem uV {i j:Int}:decide (V.int i=V.int j)=(i == j):=by
 rw[MJ];simp
theorem zU {i j:Bool}:decide (V.bl i=V.bl j)=(i == j):=by
 rw[MJ];simp
theorem uU {i j:Str}:decide (V.str i=V.str j)=(i == j):=by
 rw[MJ];simp
theorem uW {i j:Array UInt8}:decide (V.byt i=V.byt j)=(i.toList == j.toList):=by
 rw[MJ];cases i
 cases j
 simp
section
variable {X:Cx} {a b c:Expr} {ta tb tc:TE} {pos:Pos}
theorem aF {pins:NU} {σ:St} {H:Hp} {s:Shared} {Q:VK} {k k':Bool} (I:Inv X pins σ H s) (q:Q (.bl k) H) (e:k=k'):EP X pins σ Q (.bool k') s:=by
 subst e;exact⟨.bl k,H,I,rfl,q⟩
theorem FA:iZ X (compareOp .Eq) IP:=by
 intro pins s σ H x y v u Q I rx ry h;obtain⟨hs,q⟩:=h;cases x with
 | aD=>
  cases rx
  cases y with
  | aD=>cases ry;exact PySem.EqNone.eq_none_none (aF I q (by simp))
  | bl j=>cases ry;exact PySem.EqNone.eq_none_bool (aF I q (by simp))
  | int j=>obtain⟨t',rfl⟩:=ry;exact PySem.EqNone.eq_none_int (aF I q (by simp))
  | str j=>obtain⟨t',rfl⟩:=ry;exact PySem.EqNone.eq_none_str (aF I q (by simp))
  | _=>exact absurd (show false=true from hs) JC
 | bl i=>
  cases rx
  cases y with
  | aD=>cases ry;exact PySem.EqNone.eq_bool_none (aF I q (by simp))
  | bl j=>cases ry;exact eq_bool (aF I q zU)
  | str j=>obtain⟨t',rfl⟩:=ry;exact PySem.EqMixed.eq_bool_str (aF I q (by simp))
  | _=>exact absurd (show false=true from hs) JC
 | int i=>
  obtain⟨t,rfl⟩:=rx;cases y with
  | aD=>cases ry;exact PySem.EqNone.eq_int_none (aF I q (by simp))
  | int j=>obtain⟨t',rfl⟩:=ry;exact eq_int (aF I q uV)
  | str j=>obtain⟨t',rfl⟩:=ry;exact PySem.EqMixed.eq_int_str (aF I q (by simp))
  | _=>exact absurd (show false=true from hs) JC
 | str i=>
  obtain⟨t,rfl⟩:=rx;cases y with
  | aD=>cases ry;exact PySem.EqNone.eq_str_none (aF I q (by simp))
  | bl j=>cases ry;exact PySem.EqMixed.eq_str_bool (aF I q (by simp))
  | int j=>obtain⟨t',rfl⟩:=ry;exact PySem.EqMixed.eq_str_int (aF I q (by simp))
  | str j=>obtain⟨t',rfl⟩:=ry;exact eq_str (aF I q uU)
  | _=>exact absurd (show false=true from hs) JC
 | byt i=>
  obtain⟨t,rfl⟩:=rx;cases y with
  | byt j=>obtain⟨t',rfl⟩:=ry;exact PySem.W.eq_bytes (aF I q uW)
  | _=>exact absurd (show false=true from hs) JC
 | _=>cases y<;>exact absurd (show false=true from hs) JC
theorem Fx:iZ X (compareOp .NotEq) IL:=by
 intro pins s σ H x y v u Q I rx ry h;obtain⟨hs,q⟩:=h;cases x with
 | aD=>
  cases rx
  cases y with
  | aD=>cases ry;exact PySem.EqNone.ne_none_none (aF I q (by simp))
  | bl j=>cases ry;exact PySem.EqNone.ne_none_bool (aF I q (by simp))
  | int j=>obtain⟨t',rfl⟩:=ry;exact PySem.EqNone.ne_none_int (aF I q (by simp))
  | str j=>obtain⟨t',rfl⟩:=ry;exact PySem.EqNone.ne_none_str (aF I q (by simp))
  | _=>exact absurd (show false=true from hs) JC
 | bl i=>
  cases rx
  cases y with
  | aD=>cases ry;exact PySem.EqNone.ne_bool_none (aF I q (by simp))
  | bl j=>cases ry;exact ne_bool (aF I q (congrArg not zU))
  | str j=>obtain⟨t',rfl⟩:=ry;exact PySem.EqMixed.ne_bool_str (aF I q (by simp))
  | _=>exact absurd (show false=true from hs) JC
 | int i=>
  obtain⟨t,rfl⟩:=rx;cases y with
  | aD=>cases ry;exact PySem.EqNone.ne_int_none (aF I q (by simp))
  | int j=>obtain⟨t',rfl⟩:=ry;exact ne_int (aF I q (congrArg not uV))
  | str j=>obtain⟨t',rfl⟩:=ry;exact PySem.EqMixed.ne_int_str (aF I q (by simp))
  | _=>exact absurd (show false=true from hs) JC
 | str i=>
  obtain⟨t,rfl⟩:=rx;cases y with
  | aD=>cases ry;exact PySem.EqNone.ne_str_none (aF I q (by simp))
  | bl j=>cases ry;exact PySem.EqMixed.ne_str_bool (aF I q (by simp))
  | int j=>obtain⟨t',rfl⟩:=ry;exact PySem.EqMixed.ne_str_int (aF I q (by simp))
  | str j=>obtain⟨t',rfl⟩:=ry;exact ne_str (aF I q (congrArg not uU))
  | _=>exact absurd (show false=true from hs) JC
 | byt i=>
  obtain⟨t,rfl⟩:=rx;cases y with
  | byt j=>obtain⟨t',rfl⟩:=ry;exact PySem.W.ne_bytes (aF I q (congrArg not uW))
  | _=>exact absurd (show false=true from hs) JC
 | _=>cases y<;>exact absurd (show false=true from hs) JC
theorem Fy:iZ X (compareOp .Lt) (EO fun i j=>.bl (decide (i < j))):=FD fun _ _ _ _ _ _ _ q=>lt_int q
theorem Fz:iZ X (compareOp .Gt) (EO fun i j=>.bl (decide (j < i))):=FD fun _ _ _ _ _ _ _ q=>gt_int q
theorem vG:iZ X (compareOp .Lt) (fun x y H Q=>∃i j,x=.str i/\y=.str j/\Q (.bl (decide (i.cps.toList < j.cps.toList))) H):=by
 intro pins s σ H x y v u Q I rx ry h;obtain⟨i,j,rfl,rfl,q⟩:=h;obtain⟨t,rfl⟩:=rx;obtain⟨t',rfl⟩:=ry;exact lt_str (aF I q rfl)
theorem vH:iZ X (compareOp .In) (fun x y H Q=>∃i j,x=.str i/\y=.str j/\Q (.bl (!(Builtin.Str.occurrences j i 0 j.length 1).isEmpty)) H):=by
 intro pins s σ H x y v u Q I rx ry h;obtain⟨i,j,rfl,rfl,q⟩:=h;obtain⟨t,rfl⟩:=rx;obtain⟨t',rfl⟩:=ry;exact in_str (aF I q rfl)
theorem Bt:iZ X (compareOp .IsNot) (fun x y H Q=>y=.aD/\Q (.bl (!decide (x=.aD))) H):=by
 intro pins s σ H x y v u Q I rx ry h;obtain⟨rfl,q⟩:=h;cases ry
 refine isnot_none_gen (aF I q ?_)
 cases x<;>first
  | (cases rx;rfl)
  | (obtain⟨t,rfl⟩:=rx;rfl)
theorem oD:iZ X (compareOp .NotIn) (fun x y H Q=>∃i j,x=.str i/\y=.str j/\Q (.bl (!(!(Builtin.Str.occurrences j i 0 j.length 1).isEmpty))) H):=by
 intro pins s σ H x y v u Q I rx ry h;obtain⟨i,j,rfl,rfl,q⟩:=h;obtain⟨t,rfl⟩:=rx;obtain⟨t',rfl⟩:=ry;exact notIn_str (aF I q rfl)
theorem oB {op:CmpOp} {r:R2} (ho:iZ X (compareOp op) r) (ha:PE X a ta) (hb:PE X b tb) (hm:behindInMarks op b=false):PE X (.Compare a [op] [b] pos) (GG r ta tb):=by
 intro pins s σ H Q I h;exact wpAny_Compare1 (Ew ha hb I h fun v u s2 x y H2 I2 rx ry q=>ho pins s2 σ H2 x y v u Q I2 rx ry q) hm
noncomputable def Fb (t:TE):TT:=fun σ H Q=>t σ H fun x H'=>∃k,x=.bl k/\Q k H'
theorem oA {op:CmpOp} {r:R2} (ho:iZ X (compareOp op) r) (ha:PE X a ta) (hb:PE X b tb) (hm:behindInMarks op b=false):PT X (.Compare a [op] [b] pos) (Fb (GG r ta tb)):=by
 intro pins s σ H Q I h
 refine wpAny_isTrue_Compare1 (bW (ha pins s σ H _ I h) fun v s1 ⟨x,H1,I1,r1,q1⟩=>bW (hb pins s1 σ H1 _ I1 q1) fun u s2 ⟨y,H2,I2,r2,q2⟩=>
  bW (ho pins s2 σ H2 x y v u _ I2 r1 r2 q2) fun c s3 ⟨z,H3,I3,r3,k,e,q3⟩=>?_) hm
 subst e;cases r3
 exact wpAny_truthy_bool ⟨H3,I3,q3⟩
noncomputable def HW (K:PySem.W.Frag) (x:V) (H:Hp) (k:Bool):Prop:=
 match x with
 | .aD=>k=false
 | .bl b=>k=b
 | .int i=>k=(i != 0)
 | .str y=>y.length<=sizeLine/\k=((y.length:Int) != 0)
 | .byt y=>y.size<=sizeLine/\k=((y.size:Int) != 0)
 | .ref p=>(∃ xs,jv K H p xs/\k=!xs.isEmpty)\/(∃ xs,rD K H p xs/\k=!xs.isEmpty)\/∃kvs,H p=some (.dK kvs)/\k=!kvs.isEmpty
 | _=>False
theorem sW {κ:Type} {kvs:List (κ × V)} {vs:List (κ × Value)} (r:KV kvs vs):(!vs.isEmpty)=!kvs.isEmpty:=by
 cases r<;>rfl
theorem lr {xs:List V} {au:List Value} (r:Vals xs au):(!au.toArray.isEmpty)=!xs.isEmpty:=by
 cases r<;>simp
theorem gQ:(sizeLine:Nat) < 2 ^ 63:=by rw[Jm];decide
theorem C1:Gp X (fun x H Q=>∃k,HW X.K x H k/\Q k H):=by
 intro pins s σ H x v Q I rx h;obtain⟨k,e,q⟩:=h;have hl:=gQ;have hs:sizeLine=16777216:=Jm;cases x with
 | aD=>
  cases rx
  have e':k=false:=e;subst e';exact truthy_none ⟨H,I,q⟩
 | bl b=>
  cases rx
  have e':k=b:=e;subst e';exact wpAny_truthy_bool ⟨H,I,q⟩
 | int i=>
  obtain⟨t,rfl⟩:=rx;have e':k=(i != 0):=e;subst e';exact PySem.P.truthy_int ⟨H,I,q⟩
 | str y=>
  obtain⟨t,rfl⟩:=rx;obtain⟨hy,e'⟩:y.length<=sizeLine/\k=((y.length:Int) != 0):=e;subst e';exact PySem.P.truthy_str (by omega) ⟨H,I.tok _,q⟩
 | byt y=>
  obtain⟨t,rfl⟩:=rx;obtain⟨hy,e'⟩:y.size<=sizeLine/\k=((y.size:Int) != 0):=e;subst e';exact PySem.W.truthy_bytes (by omega) ⟨H,I.tok _,q⟩
 | ref p=>
  cases rx
  have e':(∃ xs,jv X.K H p xs/\k=!xs.isEmpty)\/(∃ xs,rD X.K H p xs/\k=!xs.isEmpty)\/∃kvs,H p=some (.dK kvs)/\k=!kvs.isEmpty:=e;rcases e' with ⟨xs,hx,e'⟩ | ⟨xs,hx,e'⟩ | ⟨kvs,hx,e'⟩
  ·subst e';obtain⟨au,r,pl,hz⟩:=I.list hx;have hlen:=r.length;exact wpAny_truthy_list pl.isList (by simp only[Jp];omega) ⟨H,I.tok _,by rw[lr r];exact q⟩
  ·subst e';obtain⟨au,r,pl,hz⟩:=I.tuple hx;have hlen:=r.length;exact truthy_tuple pl (by simp only[Jp];omega) ⟨H,I.tok _,by rw[lr r];exact q⟩
  ·subst e';obtain⟨hz,hS,vs,r,m⟩:kvs.length<=sizeLine/\(p == sysModules)=false/\∃vs,KV kvs vs/\s.heap.DictOf (aL X.prog X.w) p vs:=I.aZ p _ hx;have hlen:kvs.length=vs.length:=Nf r;exact wpAny_truthy_dict hS m (by omega) ⟨H,I.tok _,by rw[sW r];exact q⟩
 | _=>exact(show False from e).elim
theorem sC:iZ X (binaryOp .Add) (fun x y H Q=>∃i j,x=.str i/\y=.str j/\i.length + j.length<=sizeLine/\Q (.str (i++j)) H):=by
 intro pins s σ H x y v u Q I rx ry h;obtain⟨i,j,rfl,rfl,hz,q⟩:=h;obtain⟨t,rfl⟩:=rx;obtain⟨t',rfl⟩:=ry;exact add_str (fun t' tk=>⟨.str (i++j),H,I.tok _,⟨_,rfl⟩,q⟩) hz
theorem vals1 {x:V} {us:List Value} (r:Vals [x] us):∃u,us=[u]/\RelV x u:=by
 cases r with
 | cons r1 r2=>cases r2;exact⟨_,rfl,r1⟩
theorem vals2 {x y:V} {us:List Value} (r:Vals [x,y] us):∃u w',us=[u,w']/\RelV x u/\RelV y w':=by
 cases r with
 | cons r1 r2=>
  cases r2 with
  | cons r3 r4=>cases r4;exact⟨_,_,rfl,r1,r3⟩
end
structure EF (h:Heap) (x dx C:Addr) (mA:Str->Option Value):Prop where
 obj:h.get? x=some (PySem.W.instObj C dx)
 ns:h.Ns1 dx mA
 ne:dx ≠ x
theorem vS {h:Heap} {dx:Addr} {mA:Str->Option Value} (n:h.Ns1 dx mA):∃od,h.get? dx=some od/\∀name,PySem.W.lookIn name od=some (mA name):=by
 obtain⟨o,es,ep,ho,hd,hk,_,hm⟩:=n;refine⟨o,ho,fun name=>?_⟩;have e:=hm name;unfold nsFind findBy at e;rw[<-Array.find?_toList]at e;unfold PySem.W.lookIn;rw[hd];dsimp only;split
 ·rename_i y q;rw[q]at e;exact congrArg some e
 ·rename_i q;rw[q]at e
  have a:es.toList.any (·.refKey)=false:=by
   rw[List.any_eq_false];intro y hy;obtain⟨z,t,hkey⟩:=hk y (Array.mem_toList_iff.mp hy);simp[DictEntry.refKey,hkey]
  have a':¬es.toList.any (·.refKey)=true:=by rw[a];exact JC
  rw[I_ a'];exact congrArg some e
theorem EF.look {h:Heap} {x dx C:Addr} {mA:Str->Option Value} (I:EF h x dx C mA):∃od,PySem.W.InstAt h x (PySem.W.instObj C dx) C (some od)/\∀name,PySem.W.lookIn name od=some (mA name):=
 let ⟨od,ho,hl⟩:=vS I.ns
 ⟨od,⟨I.obj,rfl,rfl,ho⟩,hl⟩
theorem gZ.some_of {v:V} {o:Option Value} (r:gZ (some v) o):∃u,o=some u/\RelV v u:=by
 cases o with
 | none=>exact(show False from r).elim
 | some u=>exact⟨u,rfl,r⟩
theorem gZ.none_of {o:Option Value} (r:gZ none o):o=none:=by
 cases o with
 | none=>rfl
 | some u=>exact(show False from r).elim
section
variable {P:Program} {w:World} {H H':Hp} {h h':Heap} {a C dx:Addr} {fs fs':List (Str × V)}
theorem BW (aZ:hE P w H h) (e:H a=some (.ins C dx fs)):∃mA,EF h a dx C mA/\(∀ f,gZ (fs.lookup f) (mA f))/\PySem.Within mA (fs.map (·.1))/\fs.length<=1000/\H dx=some (.own a):=by
 obtain⟨d,z,ne,ob,mA,n,r,q⟩:=(show bA P w H h a (.ins C dx fs)from aZ a _ e);exact⟨mA,⟨ob,n,ne⟩,r,q,z,d⟩
end
structure Im (K:PySem.W.Frag) (C:Addr):Prop where
 pg:PySem.W.plainGet K C Str.empty=true
 hd:PySem.W.hasDictIn K C=true
 po:PySem.W.plainOver K C=true
 sa:PySem.W.findIn K (.ref C) "__setattr__" =some (some (.builtin "object.__setattr__"))
theorem Im.get {K:PySem.W.Frag} {C:Addr} (c:Im K C) (f:Str):PySem.W.plainGet K C f=true:=c.pg
section
variable {X:Cx} {pins:NU} {σ:St} {H:Hp} {s:Shared} {A:Around} {E:NT} {Q:NT} {c:Value} {b:Bool}
inductive jt (K:PySem.W.Frag) (H:Hp):V->Value->Prop where
 | aD:jt K H .aD (.type "NoneType")
 | bl (x:Bool):jt K H (.bl x) (.type "bool")
 | int (i:Int):jt K H (.int i) (.type "int")
 | str (x:Str):jt K H (.str x) (.type "str")
 | flt (x:UInt64):jt K H (.flt x) (.type "float")
 | lst {a:Addr} {xs:List V} (e:H a=some (.lst xs)):jt K H (.ref a) (.type "list")
 | frz {a:Addr} {o:Obj} {xs:List V} (e:H a=some (.frz o (.lst xs))):jt K H (.ref a) (.type "list")
 | tup {a:Addr} {xs:List V} (e:H a=some (.tup xs)):jt K H (.ref a) (.type "tuple")
 | dK {a:Addr} {kvs:List (Key × V)} (e:H a=some (.dK kvs)):jt K H (.ref a) (.type "dict")
 | dT {a:Addr} {kvs:List (List Key × V)} (e:H a=some (.dT kvs)):jt K H (.ref a) (.type "dict")
 | ins {a C dx:Addr} {fs:List (Str × V)} (e:H a=some (.ins C dx fs)) (cl:Im K C) (ha:PySem.W.findIn K (.ref C) "__class__" =some (some (.builtin "object.__class__")))
   (hn:PySem.W.specialIn K (.builtin "object.__class__") "__get__" =some (some (.builtin "getset_descriptor.__get__"))) (htk:PySem.W.takesIn K (.builtin "object.__class__")=some true)
   (hm:PySem.W.mroIn K C (.type "object")=some true):jt K H (.ref a) (.ref C)
theorem wm {x:V} {u t:Value} (I:Inv X pins σ H s) (rx:RelV x u) (ty:jt X.K H x t) (e:PySem.W.kitOne X.K t c=some b) (h:∀tk,Q (.bool b) {s with toks:=tk}):
  wpAny (model X.prog X.w) A (call (.builtin "isinstance") [u,c]) Q E s:=by
 cases ty with
 | aD=>cases (show u=Value.none from rx);exact Kx PySem.W.kitx_none I.lU True.intro e (fun z=>nomatch z) h
 | bl y=>cases (show u=Value.bool y from rx);exact Kx PySem.W.kitx_bool I.lU True.intro e (fun z=>nomatch z) h
 | int i=>obtain⟨t,q⟩:=(show ∃t,u=Value.int i t from rx);cases q;exact Kx PySem.W.kitx_int I.lU True.intro e (fun z=>nomatch z) h
 | str y=>obtain⟨t,q⟩:=(show ∃t,u=Value.str y t from rx);cases q;exact Kx PySem.W.kitx_str I.lU True.intro e (fun z=>nomatch z) h
 | flt y=>obtain⟨t,q⟩:=(show ∃t,u=Value.float y t from rx);cases q;exact Kx PySem.W.kitx_float I.lU True.intro e (fun z=>nomatch z) h
 | @lst a xs ea=>
  cases (show u=Value.ref a from rx)
  obtain⟨_,_,n,_,h1⟩:=(show bA X.prog X.w H s.heap a (.lst xs)from I.aZ a _ ea);exact Kx PySem.W.kitx_list I.lU ⟨_,h1,rfl⟩ e (fun z=>nomatch z) h
 | @frz a ob xs ea=>
  cases (show u=Value.ref a from rx)
  obtain⟨_,_,_,n,_,h1⟩:=(show bA X.prog X.w H s.heap a (.frz ob (.lst xs))from I.aZ a _ ea);exact Kx PySem.W.kitx_list I.lU ⟨_,h1,rfl⟩ e (fun z=>nomatch z) h
 | @tup a xs ea=>
  cases (show u=Value.ref a from rx)
  obtain⟨_,_,_,p⟩:=(show bA X.prog X.w H s.heap a (.tup xs)from I.aZ a _ ea);obtain⟨o,h1,h2,_⟩:=p;exact Kx PySem.W.kitx_tuple I.lU ⟨o,h1,h2⟩ e (fun z=>nomatch z) h
 | @dK a kvs ea=>
  cases (show u=Value.ref a from rx)
  obtain⟨_,_,vs,_,p⟩:=(show bA X.prog X.w H s.heap a (.dK kvs)from I.aZ a _ ea);obtain⟨o,es,ep,h1,h2,_⟩:=p;exact Kx PySem.W.kitx_dict I.lU ⟨o,h1,h2.1⟩ e (fun z=>nomatch z) h
 | @dT a kvs ea=>
  cases (show u=Value.ref a from rx)
  obtain⟨_,_,xs,_,o,es,ep,h1,h2,_⟩:=(show bA X.prog X.w H s.heap a (.dT kvs)from I.aZ a _ ea);exact Kx PySem.W.kitx_dict I.lU ⟨o,h1,h2.1⟩ e (fun z=>nomatch z) h
 | @ins a C dx fs ea cl ha hn htk hm=>
  cases (show u=Value.ref a from rx)
  obtain⟨mA,O,_⟩:=BW I.aZ ea;obtain⟨od,J,_⟩:=O.look;exact Kx (PySem.W.kitx_own (cl.get _) cl.hd ha hn htk hm) I.lU J e (fun z=>nomatch z) h
end
structure cO (k:Nat) (A:Around):Prop where
 hd:A.handled=none
 dp:A.depth + 3 * k + 5 < recursionLimit
 un:A.units + 16 * k + 200 < cLine
theorem cO.mono {j k:Nat} {A:Around} (r:cO k A) (h:j<=k):cO j A:=⟨r.hd,by have:=r.dp;omega,by have:=r.un;omega⟩
theorem cO.deeper {k:Nat} {A:Around} (r:cO (k + 1) A) (env:Env):cO k (A.deeper env):=
 ⟨r.hd,by have:=r.dp;show A.depth + 1 + 3 * k + 5 < _;omega,by have:=r.un;show A.units + 3 + 16 * k + 200 < _;omega⟩
theorem cO.in1 {k:Nat} {A:Around} (r:cO (k + 1) A):cO k A.in1:=
 ⟨r.hd,by have:=r.dp;show A.depth + 3 * k + 5 < _;omega,by have:=r.un;show A.units + 1 + 16 * k + 200 < _;omega⟩
theorem cO.depth {k:Nat} {A:Around} (r:cO k A):A.depth < recursionLimit:=by have:=r.dp;omega
theorem cO.units {k:Nat} {A:Around} (r:cO k A):A.units + 64 < cLine:=by have:=r.un;omega
noncomputable def G7:TA:=fun _ H Q=>Q [] H
noncomputable def Fe (ta:TE) (tr:TA):TA:=fun σ H Q=>ta σ H fun x H1=>tr σ H1 fun xs H2=>Q (x::xs) H2
section
variable {X:Cx} {e:Expr} {es:List Expr} {te:TE} {t:TA} {pos:Pos}
theorem Dz:PA X [] G7:=fun _ _ _ _ H Q I h=>Ka ⟨[],H,I,.nil,h⟩
theorem Br (ha:PE X e te) (hr:PA X es t) (hs:starEach (e::es) X.env=(false,eval e X.env)::starEach es X.env:=by rfl):PA X (e::es) (Fe te t):=by
 intro pos pins s σ H Q I h;rw[hs];show wpAny _ _ (spliced ((false,eval e X.env)::backTo pos (starEach es X.env))) _ _ s;refine JS (bW (ha pins s σ H _ I h) fun u s1 ⟨x,H1,I1,r1,q1⟩=>?_);exact bW (hr pos pins s1 σ H1 _ I1 q1) fun us s2 ⟨xs,H2,I2,r2,q2⟩=>⟨x::xs,H2,I2,.cons r1 r2,q2⟩
end
noncomputable abbrev Sp:=List V->Hp->VK->XK->Prop
noncomputable abbrev wW:=List Env->Hp->Shared->XK->NT
structure wV (P:Program) (w:World) (K:PySem.W.Frag) (mg:Str->Option Value) (base:Heap) (A:Around) (outer:List Env) (s:Shared) (H:Hp):Prop where
 frames:A.frames=some outer
 mod:Mod K mg base
 bs:∀b o,base.get? b=some o->s.heap.get? b=some o/\H b=none
 B8:base.objs.size<=s.heap.objs.size
 jj:s.heap.FunFrames base outer
 Eh:∀b ∈ w4 outer,H b=none
 aZ:hE P w H s.heap
 bare:AllBare s.gens
noncomputable def CE (outer:List Env) (P:Program) (w:World) (H:Hp) (s:Shared) (Q:VK) (u:Value) (s':Shared):Prop:=
 ∃v H',s'.os=s.os/\AllBare s'.gens/\Un (w4 outer) [] H H' s.heap s'.heap/\hE P w H' s'.heap/\RelV v u/\Q v H'
noncomputable def CR (CX:wW) (outer:List Env) (P:Program) (w:World) (H:Hp) (s:Shared) (Q:VK) (E:XK) (r:Result) (s':Shared):Prop:=
 match r with
 | .ok (.ret u)=>CE outer P w H s Q u s'
 | .ok _=>False
 | .error e=>CX outer H s E e s'
structure di (P:Program) (w:World) (K:PySem.W.Frag) (mg:Str->Option Value) (base:Heap) (CX:wW) (k:Nat) (f:Addr) (fd:FuncData) (ps:List Str) (sp:Sp):Prop where
 len:∀vs H Q E,sp vs H Q E->vs.length=ps.length
 run:∀ (A:Around) (outer:List Env) (s:Shared) (H:Hp) (args:Args) (us:List Value) (vs:List V) (Q:VK) (E:XK),cO k A->wV P w K mg base A outer s H->BindsTo s fd args (ps.zip us)->Vals vs us->sp vs H Q E->
  codeAny (model P w) A (.call (.ref f) args) (CR CX outer P w H s Q E) s
theorem di.mono {P:Program} {w:World} {K:PySem.W.Frag} {mg:Str->Option Value} {base:Heap} {CX:wW} {j k:Nat} {f:Addr} {fd:FuncData} {ps:List Str} {sp:Sp} (F:di P w K mg base CX j f fd ps sp) (h:j<=k):
  di P w K mg base CX k f fd ps sp:=⟨F.len,fun A outer s H args us vs Q E hr=>F.run A outer s H args us vs Q E (hr.mono h)⟩
theorem di.imp {P:Program} {w:World} {K:PySem.W.Frag} {mg:Str->Option Value} {base:Heap} {CX:wW} {k:Nat} {f:Addr} {fd:FuncData} {ps:List Str} {sp sp':Sp} (F:di P w K mg base CX k f fd ps sp)
  (h:∀vs H Q E,sp' vs H Q E->sp vs H Q E):di P w K mg base CX k f fd ps sp':=
 ⟨fun vs H Q E q=>F.len vs H Q E (h _ _ _ _ q),fun A outer s H args us vs Q E hr he hb hv hs=>F.run A outer s H args us vs Q E hr he hb hv (h _ _ _ _ hs)⟩
section
variable {X:Cx} {pins:NU} {σ:St} {H:Hp} {s s':Shared}
theorem Inv.FZ (I:Inv X pins σ H s):wV X.prog X.w X.K X.mg X.base X.A X.stack s H:=
 ⟨I.ok.frames,I.ok.mod,I.bs,JB I.ok.B8 I.sz,I.stack,I.tW,I.aZ,I.bare⟩
theorem Inv.after {Q:VK} {u:Value} (I:Inv X pins σ H s) (h:CE X.stack X.prog X.w H s Q u s'):EP X pins σ Q u s':=by
 obtain⟨v,H',os,bare,un,aZ,r,q⟩:=h;obtain⟨hh,g,d,t,os'⟩:=s';obtain rfl:os'=s.os:=os;exact⟨v,H',I.call (h':=hh) (g':=g) (d':=d) (t':=t) (ch:=[]) un aZ bare (fun b z=>absurd z (by simp)),r,q⟩
end
noncomputable def Binds (K:PySem.W.Frag) (fd:FuncData) (ps:List Str) (ds:List Value):Prop:=
 ∀ (s:Shared) (us:List Value),K.In s.heap->(us++ds).length=ps.length->BindsTo s fd ⟨us,[]⟩ (ps.zip (us++ds))
theorem Binds.all {K:PySem.W.Frag} {fd:FuncData} {ps:List Str} (h:∀us:List Value,us.length=ps.length->bindArgs fd ⟨us,[]⟩=pure (ps.zip us)):Binds K fd ps []:=fun s us _ hl=>by
 rw[Ld]at hl ⊢;exact .of_eq (h us hl)
structure aT (N P:List Str) (sc:Scope):Prop where
 kind:sc.kind=.function
 co:sc.isCoroutine=false
 gen:sc.isGenerator=false
 nd:N.Nodup
 pre:N.take P.length=P
 par:∀x ∈ P,sc.names.lookup x=some .local\/sc.names.lookup x=some .cell
 DJ:∀y ∈ sc.names,y.2 ≠ .free
theorem nU {kindOf:Str->Option NameKind} {x:Str}:∀ {binds:List (Str × Value)} {m:Str->Option Value},(∀ v,(x,v) ∉ binds)->bindL kindOf binds m x=m x
 | [],_,_=>rfl
 | (n,v)::r,m,h=>by
  unfold bindL;rw[nU fun w hw=>h w (Ji _ hw)];split
  ·have:x ≠ n:=by rintro rfl;exact h v Jj
   simp[this]
  ·rfl
theorem nW {kindOf:Str->Option NameKind} {x:Str}:∀ {binds:List (Str × Value)} {m:Str->Option Value},(∀ v,(x,v) ∉ binds)->bindC kindOf binds m x=m x
 | [],_,_=>rfl
 | (n,v)::r,m,h=>by
  unfold bindC;rw[nW fun w hw=>h w (Ji _ hw)];split
  ·rfl
  ·have:x ≠ n:=by rintro rfl;exact h v Jj
   simp[this]
theorem nV {kindOf:Str->Option NameKind} {x:Str} {v:Value}:∀ {P:List Str} {vs:List Value} {i:Nat} {m:Str->Option Value},P.Nodup->P[i]?=some x->vs[i]?=some v->kindOf x=some .local->
  bindL kindOf (P.zip vs) m x=some v
 | [],_,_,_,_,h,_,_=>by simp at h
 | _::_,[],_,_,_,_,h,_=>by simp at h
 | p::P,w::vs,0,m,nd,h1,h2,hk=>by
  simp at h1 h2;subst h1;subst h2;show bindL kindOf ((p,w)::P.zip vs) m p=_;unfold bindL;rw[nU fun v hv=>(JN.mp nd).1 (Ls hv).1,Jc hk];simp
 | p::P,w::vs,i + 1,m,nd,h1,h2,hk=>by
  show bindL kindOf ((p,w)::P.zip vs) m x=_;unfold bindL;exact nV (i:=i) (JN.mp nd).2 (by simpa using h1) (by simpa using h2) hk
theorem nX {kindOf:Str->Option NameKind} {x:Str} {v:Value}:∀ {P:List Str} {vs:List Value} {i:Nat} {m:Str->Option Value},P.Nodup->P[i]?=some x->vs[i]?=some v->kindOf x ≠ some .local->
  bindC kindOf (P.zip vs) m x=some v
 | [],_,_,_,_,h,_,_=>by simp at h
 | _::_,[],_,_,_,_,h,_=>by simp at h
 | p::P,w::vs,0,m,nd,h1,h2,hk=>by
  simp at h1 h2;subst h1;subst h2;show bindC kindOf ((p,w)::P.zip vs) m p=_;unfold bindC;rw[nW fun v hv=>(JN.mp nd).1 (Ls hv).1,I_ hk];simp
 | p::P,w::vs,i + 1,m,nd,h1,h2,hk=>by
  show bindC kindOf ((p,w)::P.zip vs) m x=_;unfold bindC;exact nX (i:=i) (JN.mp nd).2 (by simpa using h1) (by simpa using h2) hk
noncomputable def start (N:List Str) (vs:List V):St:=vs.map some++List.replicate (N.length - vs.length) none
noncomputable def jR (CX:wW) (P:Program) (w:World) (K:PySem.W.Frag) (mg:Str->Option Value) (base:Heap) (N:List Str) (qual:Str) (scope:Scope) (f:Addr) (cd:Value) (A:Around) (outer:List Env) (s:Shared) (H:Hp) (E:XK):Cx where
 prog:=P
 w:=w
 K:=K
 mg:=mg
 base:=base
 A:=A.deeper (envOfC qual scope s.heap.objs.size f cd)
 N:=N
 s₀:=s
 H₀:=H
 env:=envOfC qual scope s.heap.objs.size f cd
 outer:=outer
 stack:=envOfC qual scope s.heap.objs.size f cd::outer
 ex:=[]
 calm:=true
 fn:=fun _=>true
 pn:=[]
 xe:=fun e s'=>wpAny (model P w) (A.deeper (envOfC qual scope s.heap.objs.size f cd)) (leaving (envOfC qual scope s.heap.objs.size f cd) e) (fun _ s''=>CX outer H s E e s'') (fun e' s''=>CX outer H s E e' s'') s'
theorem rz {sc:Scope} {n:Nat} {x:Str} (h:sc.names.lookup x=some .cell):∃c,(cellsFrom n sc.names []).lookup x=some c:=by
 have q:=My sc.names n [] (.inl h);exact LK.mp q
theorem nI {CX:wW} {P:Program} {w:World} {K:PySem.W.Frag} {mg:Str->Option Value} {base:Heap} {N ps:List Str} {qual:Str} {scope:Scope} {f:Addr} {cd:Value} {A:Around} {outer:List Env} {s s1:Shared} {H:Hp} {E:XK} {us:List Value} {vs:List V}
  (S:aT N ps scope) (hd:A.handled=none) (e0:wV P w K mg base A outer s H) (hl:vs.length=ps.length) (r:Vals vs us)
  (x:InCallC s s.heap.objs.size (bindL (envOfC qual scope s.heap.objs.size f cd).kindOf (ps.zip us) fun _=>none) (cellsFrom (s.heap.objs.size + 1) scope.names []) (bindC (envOfC qual scope s.heap.objs.size f cd).kindOf (ps.zip us) fun _=>none) s1):
  Inv (jR CX P w K mg base N qual scope f cd A outer s H E) [] (start N vs) H s1:=by
 have hpl:ps.length<=N.length:=by have:=congrArg List.length S.pre;rw[J7]at this;omega
 obtain⟨h1,tk,rfl,hk⟩:=x.done;have noA:∀b:Addr,b ∉ (jR CX P w K mg base N qual scope f cd A outer s H E).ex:=fun b z=>absurd (show b ∈ ([]:List Addr)from z) (by simp)
 refine⟨⟨e0.mod,S.kind,rfl,rfl,Jv _,fun y z c h1 h2=>?_,fun y hy=>?_,fun y c _ h=>?_,fun _=>hd,Around.frames_deeper e0.frames,.inr ⟨rfl,rfl⟩,fun b z=>absurd z (noA b),e0.bs,e0.B8,fun b _ _=>noA b,fun b z=>absurd z (noA b),e0.jj,e0.Eh⟩,
  rfl,e0.bare,Un.kept hk,⟨_,x.toInCall.ns,fun i y v h1 h2 h3=>?_⟩,fun y c h=>⟨_,x.cell y c h⟩,e0.aZ.fresh (Jv _),fun y c h=>?_,fun p hp=>absurd (show p ∈ ([]:NU)from hp) (by simp),e0.aZ.kept hk,?_⟩
 ·exact name_of_addr x.apart (Lk h1) (Lk h2)
 ·have hy:scope.names.lookup y=some .cell\/scope.names.lookup y=some .free:=hy;rcases hy with hy | hy
  ·exact rz hy
  ·exact absurd rfl (S.DJ _ (Lk hy))
 ·exact Lo (x.above y c (Lk h))
 ·have hi:i < vs.length:=by
   unfold start at h2
   by_cases hi:i < vs.length
   ·exact hi
   ·rw[JY (by simpa using hi)]at h2;rw[NF]at h2;split at h2<;>cases h2
  have ha:vs[i]?=some v:=by
   unfold start at h2;rw[JH (by simpa using hi),Jy]at h2;cases e:vs[i]? with
   | none=>rw[e]at h2;cases h2
   | some a=>rw[e]at h2;cases h2;rfl
  obtain⟨u,hu,rv⟩:=r.get ha
  have hp:ps[i]?=some y:=by
   rw[<-S.pre,List.getElem?_take_of_lt (by omega)];exact h1
  have ndP:ps.Nodup:=by rw[<-S.pre];exact S.nd.sublist (List.take_sublist _ _)
  refine⟨u,rv,?_⟩;rcases S.par y (Jg hp)with k | k
  ·exact .inl ⟨k,nV ndP hp hu k⟩
  ·obtain⟨c,e⟩:=rz (n:=s.heap.objs.size + 1) k;refine .inr ⟨.inl k,c,e,?_⟩;have q:=x.cell y c e;rw[nX ndP hp hu (by show scope.names.lookup y ≠ _;rw[k];decide)]at q;exact q
 ·exact e0.aZ.fresh (Lo (x.above y c (Lk h)))
 ·unfold start;show _=N.length;rw[Jl,Jb,Lu];omega
theorem CK {CX:wW} {P:Program} {w:World} {K:PySem.W.Frag} {mg:Str->Option Value} {base:Heap} {k:Nat} {f:Addr} {name qual:Str} {params:Arguments} {body:List Stmt} {scope:Scope} {dV kV doc pm cdv ct oc:Value} {an od:Option Addr}
  {osl:Array (Option Value)} {N ps:List Str} {sp:Sp} (lk:K.lookup f=some ⟨oc,od,.func (PySem.W.fnOf name qual params body scope dV kV doc pm an cdv ct),osl⟩) (hcd:PySem.W.codeIn K cdv qual=true) (S:aT N ps scope)
  (len:∀vs H Q E,sp vs H Q E->vs.length=ps.length)
  (hbody:∀ (A:Around) (outer:List Env) (s:Shared) (H:Hp) (vs:List V) (Q:VK) (E:XK),cO k (A.deeper (envOfC qual scope s.heap.objs.size f cdv))->sp vs H Q E->
   ∃t,An (jR CX P w K mg base N qual scope f cdv A outer s H E) body t/\t {nx:=fun _ H'=>Q .aD H',rt:=Q} (start N vs) H):
  di P w K mg base CX (k + 1) f (PySem.W.fnOf name qual params body scope dV kV doc pm an cdv ct) ps sp:=by
 refine⟨len,fun A outer s H args us vs Q E hr e0 hb r hsp=>?_⟩;have hl:=len _ _ _ _ hsp;have KX:K.In s.heap:=e0.mod.FL.keeps fun b o e=>(e0.bs b o e).1;have lim:s.heap.NoLimit:=e0.mod.nolimit.keeps fun b o e=>(e0.bs b o e).1
 have hkind:∀y ∈ ps.zip us,scope.names.lookup y.1=some .local\/(scope.names.lookup y.1=some .cell/\((cellsFrom (s.heap.objs.size + 1) scope.names []).lookup y.1).isSome=true):=fun⟨n,v⟩ hy=>by
  rcases S.par n (Ls hy).1 with q | q
  ·exact .inl q
  ·exact .inr ⟨q,My _ _ _ (.inl q)⟩
 refine codeAny_call_function hr.depth (KX _ _ lk) rfl S.co S.gen rfl (PySem.W.codeRec_of KX hcd) (hb _ _ _ _ ?_);refine wpAny_newFunctionEnv_cells S.kind hkind fun env he s1 x=>?_;subst he;refine⟨lim.keeps x.toInCall.keep,codeAny_func ?_⟩;obtain⟨t,ht,hq⟩:=hbody A outer s H vs Q E (hr.deeper _) hsp;have I:Inv (jR CX P w K mg base N qual scope f cdv A outer s H E) [] (start N vs) H s1:=nI S hr.hd e0 hl r x;refine KQ (ht [] s1 (start N vs) H _ I hq) (fun fl s' hs=>?_) fun e s' hs=>hs
 have fin:∀ {σ':St} {H':Hp} {v:V} {u:Value},Inv (jR CX P w K mg base N qual scope f cdv A outer s H E) [] σ' H' s'->RelV v u->Q v H'->CE outer P w H s Q u s':=
  fun{σ' H' v u} J rv q=>⟨v,H',J.os,J.bare,J.base,J.aZ,rv,q⟩
 cases fl with
 | ret u=>
  obtain⟨v,σ',H',J,rv,q⟩:=hs;exact fin J rv q
 | next=>
  obtain⟨σ',H',J,q⟩:=hs;exact fin (v:=V.aD) (u:=Value.none) J rfl q
 | brk=>
  obtain⟨_,_,_,q⟩:=hs;exact False.elim q
 | cont=>
  obtain⟨_,_,_,q⟩:=hs;exact False.elim q
section
variable {X:Cx} {x:Str} {p pos:Pos} {e:Expr} {es:List Expr} {t:TA} {id T:String} {r:List V->Hp->VK->Prop}
noncomputable def G_ (r:List V->Hp->VK->Prop) (t:TA):TE:=fun σ H Q=>t σ H fun vs H1=>r vs H1 Q
theorem yt (hc:n9 X (.builtin id) r) (hg:Gl X x) (hm:X.mg x=none) (hv:bootBuiltins x=some (.builtin id)) (ha:PA X (e::es) t) (hn:x ≠ "__name__" :=by decide) (hdb:(x == ("__debug__" :Str))=false:=by decide)
  (he:starEach (e::es) X.env=(false,eval e X.env)::starEach es X.env:=by rfl) (hpl:(backTo pos (starEach es X.env)).any (·.1)=false:=by rfl):PE X (.Call (.Name x p) (e::es) [] pos) (G_ r t):=by
 intro pins s σ H Q I h;refine J4 (cj I hg hm hv ?_ hn hdb);exact Kf (bW (ha pos pins s σ H _ I h) fun us s1 ⟨vs,H1,I1,r1,q1⟩=>hc pins s1 σ H1 vs us Q I1 r1 q1) he hpl
theorem fT (hc:n9 X (.type T) r) (hg:Gl X x) (hm:X.mg x=none) (hv:bootBuiltins x=some (.type T)) (ha:PA X (e::es) t) (hn:x ≠ "__name__" :=by decide) (hdb:(x == ("__debug__" :Str))=false:=by decide)
  (he:starEach (e::es) X.env=(false,eval e X.env)::starEach es X.env:=by rfl) (hpl:(backTo pos (starEach es X.env)).any (·.1)=false:=by rfl):PE X (.Call (.Name x p) (e::es) [] pos) (G_ r t):=by
 intro pins s σ H Q I h;refine J4 (cj I hg hm hv ?_ hn hdb);exact Ko (bW (ha pos pins s σ H _ I h) fun us s1 ⟨vs,H1,I1,r1,q1⟩=>hc pins s1 σ H1 vs us Q I1 r1 q1) he hpl
end
section
variable {κ:Type} [DecidableEq κ]
noncomputable def bR (kvs:List (κ × V)) (k:κ):Option V:=(kvs.find? fun kv=>decide (kv.1=k)).map (·.2)
noncomputable def putK (kvs:List (κ × V)) (k:κ) (v:V):List (κ × V):=
 if(kvs.any fun kv=>decide (kv.1=k))=true then kvs.map (fun kv=>if kv.1=k then(kv.1,v)else kv)else kvs++[(k,v)]
noncomputable def gq (kvs:List (κ × V)) (k:κ):List (κ × V):=kvs.filter fun kv=>decide (kv.1 ≠ k)
theorem h_ {p:κ × V} {r:List (κ × V)} {k:κ} (e:p.1=k):bR (p::r) k=some p.2:=by simp[bR,Lv,e]
theorem kx {p:κ × V} {r:List (κ × V)} {k:κ} (e:¬p.1=k):bR (p::r) k=bR r k:=by simp[bR,Lv,e]
theorem pV (k:κ):∀kvs:List (κ × V),(kvs.any fun kv=>decide (kv.1=k))=(bR kvs k).isSome
 | []=>rfl
 | p::r=>by
  rw[Lz]
  by_cases e:p.1=k
  ·simp only[h_ e,JP e,Bool.true_or,Option.isSome_some]
  ·rw[kx e,JK e,Bool.false_or];exact pV k r
theorem jD (kvs:List (κ × V)) (k:κ) (v:V):(putK kvs k v).length<=kvs.length + 1:=by
 unfold putK;split
 ·rw[Jb];omega
 ·rw[Jl,JW,List.length_nil];omega
theorem gZ.dZ {o:Option V} {u:Option Value} (r:gZ o u):o.isSome=u.isSome:=by
 cases o with
 | none=>cases u with
  | none=>rfl
  | some _=>exact(show False from r).elim
 | some _=>cases u with
  | none=>exact(show False from r).elim
  | some _=>rfl
theorem KV.val {kvs:List (κ × V)} {vs:List (κ × Value)} (r:KV kvs vs) (k:κ):gZ (bR kvs k) (valueAt vs k):=by
 unfold KV at r
 induction r with
 | nil=>exact True.intro
 | @cons p q ps qs h t ih=>
  obtain⟨h1,h2⟩:=h
  by_cases e:p.1=k
  ·have e':q.1=k:=h1.symm.trans e;have b:valueAt (q::qs) k=some q.2:=by simp[valueAt,Lv,e']
   rw[h_ e,b];exact h2
  ·have e':¬q.1=k:=fun z=>e (h1.trans z);have b:valueAt (q::qs) k=valueAt qs k:=by simp[valueAt,Lv,e']
   rw[kx e,b];exact ih
theorem KV.any {kvs:List (κ × V)} {vs:List (κ × Value)} (r:KV kvs vs) (k:κ):(kvs.any fun kv=>decide (kv.1=k))=vs.any fun kv=>decide (kv.1=k):=by
 unfold KV at r
 induction r with
 | nil=>rfl
 | cons h t ih=>rw[Lz,Lz,ih,h.1]
theorem KV.Dg {kvs:List (κ × V)} {vs:List (κ × Value)} (r:KV kvs vs) (k:κ) {y:V} {u:Value} (ry:RelV y u):
  KV (kvs.map fun kv=>if kv.1=k then(kv.1,y)else kv) (vs.map fun kv=>if kv.1=k then(kv.1,u)else kv):=by
 unfold KV at r ⊢
 induction r with
 | nil=>exact .nil
 | @cons p q ps qs h t ih=>
  rw[JA,JA];refine .cons ?_ ih;obtain⟨h1,h2⟩:=h
  by_cases e:p.1=k
  ·rw[Jc e,Jc (h1.symm.trans e)];exact⟨h1,ry⟩
  ·rw[I_ e,I_ (fun z=>e (h1.trans z))];exact⟨h1,h2⟩
theorem KV.put {kvs:List (κ × V)} {vs:List (κ × Value)} (r:KV kvs vs) (k:κ) {y:V} {u:Value} (ry:RelV y u):KV (putK kvs k y) (stored vs k u):=by
 unfold putK stored;rw[r.any k]
 by_cases e:(vs.any fun kv=>decide (kv.1=k))=true
 ·rw[Jc e,Jc e];exact r.Dg k ry
 ·rw[I_ e,I_ e];exact Paired.snoc r ⟨rfl,ry⟩
theorem KV.drop {kvs:List (κ × V)} {vs:List (κ × Value)} (r:KV kvs vs) (k:κ):KV (gq kvs k) (without vs k):=by
 unfold KV at r ⊢;unfold gq without
 induction r with
 | nil=>exact .nil
 | @cons p q ps qs h t ih=>
  obtain⟨h1,h2⟩:=h;rw[List.filter_cons,List.filter_cons]
  by_cases e:p.1=k
  ·have a:¬decide (p.1 ≠ k)=true:=by simp[e]
   have b:¬decide (q.1 ≠ k)=true:=by simp[h1.symm.trans e]
   rw[I_ a,I_ b];exact ih
  ·have e':¬q.1=k:=fun z=>e (h1.trans z);have a:decide (p.1 ≠ k)=true:=by simp[e]
   have b:decide (q.1 ≠ k)=true:=by simp[e']
   rw[Jc a,Jc b];exact .cons ⟨h1,h2⟩ ih
theorem KV.keys {kvs:List (κ × V)} {vs:List (κ × Value)} (r:KV kvs vs):kvs.map (·.1)=vs.map (·.1):=by
 unfold KV at r
 induction r with
 | nil=>rfl
 | cons h t ih=>rw[JA,JA,ih,h.1]
theorem KV.length {kvs:List (κ × V)} {vs:List (κ × Value)} (r:KV kvs vs):kvs.length=vs.length:=Nf r
theorem zQ (kvs:List (κ × V)) (k:κ):(gq kvs k).length<=kvs.length:=KN _ _
end
theorem lh {P:Program} {w:World} {k:Key} {u:Value} (r:RelV (kV k) u):(aL P w).is k u=true:=by
 cases k with
 | inl i=>obtain⟨t,e⟩:=(show ∃t,u=Value.int i t from r);subst e;exact qx P w i t
 | inr x=>obtain⟨t,e⟩:=(show ∃t,u=Value.str x t from r);subst e;exact qw P w x t
theorem nH {P:Program} {w:World}:∀ {ks:List Key} {us:List Value},Vals (ks.map kV) us->ItemsAre (aL P w) ks us
 | [],_,r=>by rw[List.map_nil]at r;cases r;exact .nil
 | k::ks,_,r=>by
  rw[JA]at r;cases r with
  | cons h t=>exact .cons (lh h) (nH t)
noncomputable abbrev KT (H:Hp):List (List Key × V)->List (List Key × Addr × Value)->Prop:=Paired fun p q=>p.1=q.1/\H q.2.1=some (.tup (p.1.map kV))/\RelV p.2 q.2.2
theorem KT.val {H:Hp} {kvs:List (List Key × V)} {xs:List (List Key × Addr × Value)} (r:KT H kvs xs) (k:List Key):gZ (bR kvs k) ((atKey xs k).map (·.2)):=by
 induction r with
 | nil=>exact True.intro
 | @cons p q ps qs h t ih=>
  obtain⟨h1,_,h2⟩:=h
  by_cases e:p.1=k
  ·have e':q.1=k:=h1.symm.trans e;have b:atKey (q::qs) k=some q.2:=by simp[atKey,Lv,e']
   rw[h_ e,b];exact h2
  ·have e':¬q.1=k:=fun z=>e (h1.trans z);have b:atKey (q::qs) k=atKey qs k:=by simp[atKey,Lv,e']
   rw[kx e,b];exact ih
theorem KT.Dg {H:Hp} {kvs:List (List Key × V)} {xs:List (List Key × Addr × Value)} (r:KT H kvs xs) (k:List Key) {y:V} {u:Value} (ry:RelV y u):
  KT H (kvs.map fun kv=>if kv.1=k then(kv.1,y)else kv) (xs.map (putAt k u)):=by
 induction r with
 | nil=>exact .nil
 | @cons p q ps qs h t ih=>
  rw[JA,JA];refine .cons ?_ ih;obtain⟨h1,h2,h3⟩:=h;unfold putAt
  by_cases e:p.1=k
  ·rw[Jc e,Jc (h1.symm.trans e)];exact⟨h1,h2,ry⟩
  ·rw[I_ e,I_ (fun z=>e (h1.trans z))];exact⟨h1,h2,h3⟩
theorem KT.put {H:Hp} {kvs:List (List Key × V)} {xs:List (List Key × Addr × Value)} (r:KT H kvs xs) (k:List Key) {b:Addr} {y:V} {u:Value} (hb:H b=some (.tup (k.map kV))) (ry:RelV y u):
  KT H (putK kvs k y) (storedH xs k b u):=by
 have e:(kvs.any fun kv=>decide (kv.1=k))=(atKey xs k).isSome:=by
  rw[pV,(r.val k).dZ,LX]
 unfold putK storedH;rw[e]
 by_cases q:(atKey xs k).isSome=true
 ·rw[Jc q,Jc q];exact r.Dg k ry
 ·rw[I_ q,I_ q];exact Paired.snoc r ⟨rfl,hb,ry⟩
theorem KT.keeps {H H':Hp} {kvs:List (List Key × V)} {xs:List (List Key × Addr × Value)} (r:KT H kvs xs) (ht:∀b ys,H b=some (.tup ys)->H' b=some (.tup ys)):KT H' kvs xs:=
 Paired.DS r fun _ _ z=>⟨z.1,ht _ _ z.2.1,z.2.2⟩
section
variable {P:Program} {w:World} {H:Hp} {h:Heap} {a:Addr}
theorem ao {u:HO} (ok:hE P w H h) (e:Rd H a u):bA P w H h a u:=e.ok ok
theorem uT {kvs:List (Key × V)} (ok:hE P w H h) (e:Rd H a (.dK kvs)):kvs.length<=sizeLine/\(a == sysModules)=false/\∃vs,KV kvs vs/\h.DictOf (aL P w) a vs:=
 show bA P w H h a (.dK kvs)from ao ok e
theorem nP {kvs:List (Key × V)} (ok:hE P w H h) (e:H a=some (.dK kvs)):kvs.length<=sizeLine/\(a == sysModules)=false/\∃vs,KV kvs vs/\h.DictOf (aL P w) a vs:=uT ok (.inl e)
theorem oU {ks:List Key} (ok:hE P w H h) (e:H a=some (.tup (ks.map kV))):(tupleKind (aL P w)).is h ks a:=by
 obtain⟨_,au,r,o,h1,h2,n,h3⟩:=(show bA P w H h a (.tup (ks.map kV))from ok a _ e);exact⟨o,au.toArray,n,h1,h2,h3,by simpa using nH r⟩
theorem zO {kvs:List (List Key × V)} (ok:hE P w H h) (e:Rd H a (.dT kvs)):kvs.length<=sizeLine/\(a == sysModules)=false/\
  ∃xs,KT H kvs xs/\h.DictOfH (tupleKind (aL P w)) a xs:=by
 obtain⟨z,y,xs,r,o,es,ep,h1,h2,h3,h4,h5⟩:=(show bA P w H h a (.dT kvs)from ao ok e);refine⟨z,y,xs,r,o,es,ep,h1,h2,h3,h4,fun x hx=>?_,h5⟩
 have all:∀ {l:List (List Key × V)} {m:List (List Key × Addr × Value)},KT H l m->∀x ∈ m,(tupleKind (aL P w)).is h x.1 x.2.1:=by
  intro l m q
  induction q with
  | nil=>intro x hx;exact nomatch hx
  | @cons p q ps qs hq t ih=>
   intro x hx;rcases Jq.mp hx with e | hx
   ·subst e;exact oU ok (by rw[<-hq.1];exact hq.2.1)
   ·exact ih x hx
 exact all r x hx
theorem F3 {kvs:List (List Key × V)} (ok:hE P w H h) (e:H a=some (.dT kvs)):kvs.length<=sizeLine/\(a == sysModules)=false/\
  ∃xs,KT H kvs xs/\h.DictOfH (tupleKind (aL P w)) a xs:=zO ok (.inl e)
end
noncomputable def GB (H:Hp) (a:Addr) (y:V) (r:Option V):Prop:=
 (∃ kvs k,Rd H a (.dK kvs)/\y=kV k/\r=bR kvs k)\/∃kvs k b,Rd H a (.dT kvs)/\y=.ref b/\H b=some (.tup (k.map kV))/\r=bR kvs k
noncomputable def Cm (H:Hp) (a:Addr) (y v:V) (H':Hp):Prop:=
 (∃ kvs k,H a=some (.dK kvs)/\y=kV k/\kvs.length < sizeLine/\H'=upd H a (.dK (putK kvs k v)))\/
 ∃kvs k b,H a=some (.dT kvs)/\y=.ref b/\H b=some (.tup (k.map kV))/\kvs.length < sizeLine/\H'=upd H a (.dT (putK kvs k v))
theorem Cm.k {H:Hp} {a:Addr} {kvs:List (Key × V)} {k:Key} {v:V} (e:H a=some (.dK kvs)) (hl:kvs.length < sizeLine):Cm H a (kV k) v (upd H a (.dK (putK kvs k v))):=.inl ⟨kvs,k,e,rfl,hl,rfl⟩
section
variable {X:Cx} {pins:NU} {σ:St} {H:Hp} {s:Shared} {a:Addr} {y v:V} {u r:Value} {o:Option V} {A:Around} {E:NT}
theorem Inv.big (I:Inv X pins σ H s):sysModules < s.heap.objs.size:=by
 have h:mainGlobals < s.heap.objs.size:=(I.mod.glob.keeps I.bk).lt;exact MK (by decide) h
theorem HP {Q:NT} (hu:A.units + 1 < cLine) (I:Inv X pins σ H s) (g:GB H a y o) (ry:RelV y u) (h:∀s',Inv X pins σ H s'->Q (.bool o.isSome) s'):
  wpAny (model X.prog X.w) A (compareOp .In u (.ref a)) Q E s:=by
 rcases g with ⟨kvs,k,e,ey,l⟩ | ⟨kvs,k,b,e,ey,eb,l⟩
 ·subst ey;obtain⟨z,hd,vs,rel,dd⟩:=uT I.aZ e;refine wpAny_in_of (lh ry) hd dd.mapOf ?_;rw[<-(rel.val k).dZ,<-l];exact h _ (I.tok _)
 ·subst ey;cases (show u=Value.ref b from ry)
  obtain⟨z,hd,xs,rel,dd⟩:=zO I.aZ e;refine wpAny_in_heap (M_ hu) (oU I.aZ eb) hd dd ?_;have q:=(rel.val k).dZ;rw[LX]at q;rw[<-q,<-l];exact h _ (I.tok _)
theorem B5 {Q:NT} (hu:A.units + 1 < cLine) (I:Inv X pins σ H s) (g:GB H a y o) (ry:RelV y u) (h:∀s',Inv X pins σ H s'->Q (.bool (!o.isSome)) s'):
  wpAny (model X.prog X.w) A (compareOp .NotIn u (.ref a)) Q E s:=by
 rcases g with ⟨kvs,k,e,ey,l⟩ | ⟨kvs,k,b,e,ey,eb,l⟩
 ·subst ey;obtain⟨z,hd,vs,rel,dd⟩:=uT I.aZ e;refine wpAny_notIn_of (lh ry) hd dd.mapOf ?_;rw[<-(rel.val k).dZ,<-l];exact h _ (I.tok _)
 ·subst ey;cases (show u=Value.ref b from ry)
  obtain⟨z,hd,xs,rel,dd⟩:=zO I.aZ e;refine wpAny_notIn_heap (M_ hu) (oU I.aZ eb) hd dd ?_;have q:=(rel.val k).dZ;rw[LX]at q;rw[<-q,<-l];exact h _ (I.tok _)
theorem o8 {h':Heap} {t':Nat} {ob:HO} (I:Inv X pins σ H s) (mu:Gv (H a)) (hs:Heap.SameBut a s.heap h') (he:∃q,h'.get? a=some q) (new:bA X.prog X.w (upd H a ob) h' a ob):
  Inv X pins σ (upd H a ob) {s with heap:=h',toks:=t'}:=
 I.write (x:=a) (e:=a) mu (.inl rfl) (fun b q hb z=>(hs.2 b hb).trans z) he new
theorem zR {P:Program} {w:World} {H':Hp} {h':Heap} {kvs:List (Key × V)} {vs:List (Key × Value)} (z:kvs.length<=sizeLine) (hd:(a == sysModules)=false) (rel:KV kvs vs) (dd:h'.DictOf (aL P w) a vs):
  bA P w H' h' a (.dK kvs):=⟨z,hd,vs,rel,dd⟩
theorem wH {H':Hp} {Q:Unit->Shared->Prop} (hu:A.units + 1 < cLine) (I:Inv X pins σ H s) (g:Cm H a y v H') (ry:RelV y u) (rv:RelV v r) (h:∀s',Inv X pins σ H' s'->Q () s'):
  wpAny (model X.prog X.w) A (setItem (.ref a) u r) Q E s:=by
 rcases g with ⟨kvs,k,e,ey,l,eH⟩ | ⟨kvs,k,b,e,ey,eb,l,eH⟩
 ·subst ey eH;obtain⟨z,hd,vs,rel,dd⟩:=nP I.aZ e;have hz:vs.length<=sizeLine:=by rw[<-rel.length];exact z
  have hl:(putK kvs k v).length<=sizeLine:=by have:=jD kvs k v;omega
  refine wpAny_setItem_pairs (hsz:=hz) (lh ry) dd fun h' dd' hs=>h _ ?_;have he:∃q,h'.get? a=some q:=let ⟨q,_,_,hq,_⟩:=dd';⟨q,hq⟩
  exact o8 I (by rw[e];exact True.intro) hs he (zR hl hd (rel.put k rv) dd')
 ·subst ey eH;cases (show u=Value.ref b from ry)
  obtain⟨z,hd,xs,rel,dd⟩:=F3 I.aZ e;have hz:xs.length<=sizeLine:=by rw[<-Nf rel];exact z
  have hl:(putK kvs k v).length<=sizeLine:=by have:=jD kvs k v;omega
  refine wpAny_setItem_heap (hsz:=hz) (M_ hu) (oU I.aZ eb) dd fun h' dd' hs=>h _ ?_;obtain⟨q,es,ep,hq,h2,h3,h4,_,h5⟩:=dd';refine o8 I (by rw[e];exact True.intro) hs ⟨q,hq⟩ ⟨hl,hd,_,(rel.put k eb rv).keeps fun c ys ec=>?_,q,es,ep,hq,h2,h3,h4,h5⟩;rw[af (FG ec e (fun z=>nomatch z))];exact ec
end
section
variable {X:Cx} {pins:NU} {σ:St} {H:Hp} {s:Shared} {a:Addr} {kvs:List (Key × V)} {k:Key} {u:Value} {A:Around} {E:NT}
theorem F5 {v:V} {more:List Value} {Q:NT} (I:Inv X pins σ H s) (e:H a=some (.dK kvs)) (ry:RelV (kV k) u) (l:bR kvs k=some v) (hm:more=[]\/∃x,more=[x])
  (h:∀w' s',Inv X pins σ (upd H a (.dK (gq kvs k))) s'->RelV v w'->Q w' s'):wpAny (model X.prog X.w) A (call (.builtin "dict.pop") (.ref a::u::more)) Q E s:=by
 obtain⟨z,hd,vs,rel,dd⟩:=nP I.aZ e;obtain⟨w',hw,rw'⟩:=gZ.some_of (v:=v) (o:=valueAt vs k) (by rw[<-l];exact rel.val k)
 have hp:(keyPart u).isSome=true:=by
  cases k with
  | inl i=>obtain⟨t,q⟩:=(show ∃t,u=Value.int i t from ry);subst q;rfl
  | inr x=>obtain⟨t,q⟩:=(show ∃t,u=Value.str x t from ry);subst q;rfl
 have ha:argsOk "dict.pop" ⟨.ref a::u::more,[]⟩:=by
  rcases hm with q | ⟨x,q⟩
  ·subst q;exact PySem.F.args_dict_pop_2 _ _
  ·subst q;exact PySem.F.args_dict_pop_3 _ _ _
 refine call_meetsIn PySem.F.slot_dict_pop dd.typeIs PySem.F.entry_dict_pop ha (meets_dict_pop_there (aL X.prog X.w) a (lh ry) more hm hp)
  ⟨vs,w',dd,by rw[<-rel.length];exact z,hw,fun h' dd' hs=>h w' _ ?_ rw'⟩
 have he:∃q,h'.get? a=some q:=let ⟨q,_,_,hq,_⟩:=dd';⟨q,hq⟩
 exact o8 I (by rw[e];exact True.intro) hs he (zR (JB (zQ kvs k) z) hd (rel.drop k) dd')
end
theorem zS {P:Program} {w:World} {H:Hp} (h:Heap) (hb:sysModules < h.objs.size):bA P w H (h.push {cls:=.type "dict",data:=.dict #[]}) h.objs.size (.dK []):=
 ⟨JZ _,Md.mpr (J5 (Js hb)),[],.nil,Heap.DictOf.new h⟩
noncomputable def C6:TE:=fun _ H Q=>∀p,H p=none->Q (.ref p) (upd H p (.dK []))
section
variable {X:Cx} {pos:Pos}
theorem yo:PE X (.Dict [] [] pos) C6:=fun pins s σ H Q I h=>
 wpAny_Dict_empty ⟨.ref s.heap.objs.size,_,I.laid (a:=s.heap.objs.size) (o:=.dK []) (t':=s.toks) (fun _ _ q=>Jd _ q) (Jv _) (zS s.heap I.big),rfl,h _ (I.aZ.fresh (Jv _))⟩
end
end L2
namespace HT
open PySem PyProof.Rows
section
variable {prog:Program} {w:World} {A:Around} {E:NT} {s:Shared}
theorem B7 {t b:Addr} {vs ws:List Value} {Q:NT} (ht:IsTup s.heap t vs.toArray) (hb:IsTup s.heap b ws.toArray) (hv:vs ≠ [])
  (h1:ws=[]->Q (.ref t) s) (h2:ws ≠ []->Q (.ref s.heap.objs.size) {s with heap:=s.heap.push {cls:=.type "tuple",data:=.seq (vs++ws).toArray}})
  (hsz:vs.length + ws.length<=sizeLine):wpAny (model prog w) A (binaryOp .Add (.ref t) (.ref b)) Q E s:=by
 obtain⟨⟨cls,dd,data,sl⟩,ho,hc,n,hd⟩:=id ht;obtain⟨⟨cls2,dd2,data2,sl2⟩,ho2,hc2,n2,hd2⟩:=id hb;simp only at hc hd hc2 hd2;subst hc hd hc2 hd2;have e:vs.toArray++ws.toArray=(vs++ws).toArray:=by simp
 by_cases hw:ws=[]
 ·exact concat_meets ⟨_,ho,rfl⟩ ⟨_,ho2,rfl⟩ noFill_tuple_add seq_tuple_add PySem.F.slot_tuple_add NG (Nu _ _)
   (tuple_addW1 t b vs.toArray ws.toArray n n2 dd dd2 sl sl2 (by simpa using hv) (by simp[hw])) ⟨ho,ho2,h1 hw⟩
 ·refine concat_meets ⟨_,ho,rfl⟩ ⟨_,ho2,rfl⟩ noFill_tuple_add seq_tuple_add PySem.F.slot_tuple_add NG (Nu _ _)
   (tuple_addW2 t b vs.toArray ws.toArray n n2 dd dd2 sl sl2 (by simpa using hv) (by simpa using hw) (by rw[Jp,Jp];exact hsz)) ⟨ho,ho2,?_⟩
  rw[e];exact h2 hw
noncomputable def cz (n d:Nat):Option Int->Nat
 | none=>d
 | some v=>if v < 0 then(v + (n:Int)).toNat else min v.toNat n
theorem Df (n d:Nat) (hd:d<=n) (o:Option Int):cz n d o<=n:=by
 cases o with
 | none=>exact hd
 | some v=>
  show(if v < 0 then(v + (n:Int)).toNat else min v.toNat n)<=n
  by_cases hv:v < 0
  ·rw[Jc hv];omega
  ·rw[I_ hv];exact Nat.min_le_right _ _
theorem u4 (v:Int) (n d:Nat):(if v < 0 then max (v + (n:Int)) 0 else min v (n:Int))=((cz n d (some v):Nat):Int):=by
 show(if v < 0 then max (v + (n:Int)) 0 else min v (n:Int))=(((if v < 0 then(v + (n:Int)).toNat else min v.toNat n):Nat):Int)
 by_cases hv:v < 0
 ·simp only[Jc hv];omega
 ·simp only[I_ hv];omega
theorem tG (lo hi:Option Int) (n:Nat):Builtin.Slice.sliceAdjust lo hi 1 (n:Int)=(((cz n 0 lo:Nat):Int),((cz n n hi:Nat):Int)):=by
 have h1:¬ ((1:Int) < 0):=by omega
 unfold Builtin.Slice.sliceAdjust;simp only[h1,KA];refine Prod.ext ?_ ?_
 ·cases lo with
  | none=>rfl
  | some v=>exact u4 v n 0
 ·cases hi with
  | none=>rfl
  | some v=>exact u4 v n n
theorem sv (i j:Nat):Builtin.Slice.slicePlaces (i:Int) (j:Int) 1=j - i:=by
 unfold Builtin.Slice.slicePlaces;have h1:(1:Int) > 0:=by omega
 simp only[h1,Mb,Int.ediv_one];split<;>omega
theorem kF {v:Value} {o:Option Int} {Q:Option Int->Shared->Prop} (p:IsPart v o) (h:Q o s):wpAny (model prog w) A (Builtin.Slice.slicePartIndex v) Q E s:=by
 cases p with
 | none=>exact slicePart_none h
 | int i t=>exact slicePart_int h
theorem jb {sl:Addr} {vl vu:Value} {lo hi:Option Int} {n:Nat} {Q:Int × Int × Nat->Shared->Prop} (hs:s.heap.IsSliceOf sl vl vu .none) (pl:IsPart vl lo) (pu:IsPart vu hi)
  (h:Q (((cz n 0 lo:Nat):Int),1,cz n n hi - cz n 0 lo) s):wpAny (model prog w) A (Builtin.Slice.sliceApplied (.ref sl) (pure (n:Int))) Q E s:=by
 obtain⟨os,hos,hcs,hds⟩:=id hs;unfold Builtin.Slice.sliceApplied Builtin.Slice.sliceFields;refine IZ (IZ (LF hos hds (x:=vl) rfl (IZ (LF hos hds (x:=vu) rfl (IZ (LF hos hds (x:=.none) rfl (Ja ?_)))))));refine IZ (slicePart_none ?_);show wpAny _ _ (if((1:Int) == 0)=true then _ else _) _ _ s;rw[I_ (by decide)];refine IZ (kF pl (IZ (kF pu (IZ (Ja ?_)))));show wpAny _ _ (match Builtin.Slice.sliceAdjust lo hi 1 (n:Int)with | (lo,hi)=>pure (lo,(1:Int),Builtin.Slice.slicePlaces lo hi 1)) _ _ s;rw[tG lo hi n];show wpAny _ _ (pure (((cz n 0 lo:Nat):Int),(1:Int),Builtin.Slice.slicePlaces ((cz n 0 lo:Nat):Int) ((cz n n hi:Nat):Int) 1)) _ _ s;rw[sv];exact Ja h
theorem yg (xs:NW) (i k:Nat):((List.range k).filterMap fun(m:Nat)=>xs[((i:Int) + (m:Int) * 1).toNat]?).toArray=((xs.toList.drop i).take k).toArray:=by
 have e:(fun(m:Nat)=>xs[((i:Int) + (m:Int) * 1).toNat]?)=fun m=>xs[i + m]?:=by
  funext m;have:((i:Int) + (m:Int) * 1).toNat=i + m:=by omega
  rw[this]
 rw[e];have:=pick_run xs i k;rw[List.filterMap_map]at this;have e2:((fun x=>xs[x]?) ∘ fun x=>i + x)=fun m=>xs[i + m]?:=rfl;rw[e2]at this;rw[this]
theorem iL {t sl:Addr} {items:NW} {vl vu:Value} {lo hi:Option Int} {Q:NT} (ht:IsTup s.heap t items) (hs:s.heap.IsSliceOf sl vl vu .none) (pl:IsPart vl lo) (pu:IsPart vu hi)
  (hw:¬ (cz items.size 0 lo=0/\cz items.size items.size hi=items.size))
  (h:Q (.ref s.heap.objs.size) {s with heap:=s.heap.push {cls:=.type "tuple",data:=.seq ((items.toList.drop (cz items.size 0 lo)).take (cz items.size items.size hi - cz items.size 0 lo)).toArray}})
  (hsz:items.size<=sizeLine):wpAny (model prog w) A (getItem (.ref t) (.ref sl)) Q E s:=by
 have htake:sizeOk (.seq ((items.toList.drop (cz items.size 0 lo)).take (cz items.size items.size hi - cz items.size 0 lo)).toArray):=by
  show((items.toList.drop (cz items.size 0 lo)).take (cz items.size items.size hi - cz items.size 0 lo)).toArray.size<=sizeLine;rw[Jp,J7,Nv,Jz];omega
 have hj:cz items.size items.size hi<=items.size:=Df _ _ (Jv _) hi;obtain⟨os,hos,hcs,hds⟩:=id hs;have hTs:s.TypeIs (.ref sl) "slice" :=⟨os,hos,hcs⟩;unfold getItem
 try with_reducible refine JQ ?_
 first | refine IZ (Ja ?_) | skip
 refine IZ (wpAny_sequenceKey ht.typeIs (by decide) ?_)
 refine IZ (Kz (name:=Str.ofString "__getitem__") ht.typeIs Ln
  (Kc Ln ht.typeIs entry_tuple_getitem ?_ (args_tuple_getitem _ _)))
 show wpAny _ _ (Builtin.Tuple.tupleItemsOf (.ref t) >>= _) _ _ s;refine IZ (tupleItemsOf_ ht ?_);refine IZ (LL hTs ?_);rw[Jc (by decide)];refine IZ (jb hs pl pu ?_)
 have hno:¬ ((((cz items.size 0 lo:Nat):Int) == 0 && (1:Int) == 1 && (cz items.size items.size hi - cz items.size 0 lo) == items.size)=true):=by
  intro q;rw[JU,JU]at q;have q1:((cz items.size 0 lo:Nat):Int)=0:=eq_of_beq q.1.1;have q2:cz items.size items.size hi - cz items.size 0 lo=items.size:=eq_of_beq q.2;exact hw ⟨by omega,by omega⟩
 show wpAny _ _ (if(((cz items.size 0 lo:Nat):Int) == 0 && (1:Int) == 1 && (cz items.size items.size hi - cz items.size 0 lo) == items.size)=true then _ else _) _ _ s;rw[I_ hno,yg]
 first
  | exact IZ (m:=Builtin.Tuple.tupleExact _) (Kb (Ja ⟨_,rfl,Ja h⟩) htake)
  | exact IZ (m:=Builtin.Tuple.tupleExact _) (Kb (IZ (Ja (Ja ⟨_,rfl,Ja h⟩))) htake)
  | exact IZ (IZ (m:=Builtin.Tuple.tupleExact _) (Kb (Ja (Ja ⟨_,rfl,Ja h⟩)) htake))
  | exact IZ (IZ (m:=Builtin.Tuple.tupleExact _) (Kb (Ja ⟨_,rfl,Ja h⟩) htake))
end
end HT
namespace L2
open PySem PySem.Spec PyProof.Rows
noncomputable abbrev TO:=St->Hp->(Option Int->Hp->Prop)->Prop
noncomputable def PO (X:Cx) (e:Option Expr) (t:TO):Prop:=
 ∀ (pins:NU) (s:Shared) (σ:St) (H:Hp) (Q:Option Int->Hp->Prop),Inv X pins σ H s->t σ H Q->
  wpAny (model X.prog X.w) X.A (evalPart e X.env) (fun u s'=>∃o H',Inv X pins σ H' s'/\IsPart u o/\Q o H') X.xe s
noncomputable def AB:TO:=fun _ H Q=>Q none H
section
variable {X:Cx} {e:Expr} {te:TE} {lo hi:Option Expr} {tl th:TO} {pos p2:Pos}
theorem A5:PO X none AB:=by
 intro pins s σ H Q I h;rw[evalPart_none];exact Ja ⟨none,H,I,.none,h⟩
noncomputable def Gq (X:Cx) (r:V->Option Int->Option Int->Hp->VK->Prop):Prop:=
 ∀ (pins:NU) (s:Shared) (σ:St) (H:Hp) (x:V) (v vl vu:Value) (lo hi:Option Int) (sl:Addr) (Q:VK),Inv X pins σ H s->RelV x v->s.heap.IsSliceOf sl vl vu .none->IsPart vl lo->IsPart vu hi->r x lo hi H Q->
  ∃T id,typeLookup (.type T) "__getitem__" =pure (some (.builtin id))/\s.TypeIs v T/\wpAny (model X.prog X.w) X.A (getItem v (.ref sl)) (EP X pins σ Q) X.xe s
noncomputable def II (r:V->Option Int->Option Int->Hp->VK->Prop) (te:TE) (tl th:TO):TE:=fun σ H Q=>te σ H fun x H1=>tl σ H1 fun l H2=>th σ H2 fun u H3=>r x l u H3 Q
theorem yh {r:V->Option Int->Option Int->Hp->VK->Prop} (hr:Gq X r) (he:PE X e te) (hl:PO X lo tl) (hu:PO X hi th):PE X (.Subscript e (.Slice lo hi none p2) pos) (II r te tl th):=by
 intro pins s σ H Q I h;refine Subscript_ (bW (he pins s σ H _ I h) fun v s1 ⟨x,H1,I1,r1,q1⟩=>?_);refine wpAny_Slice (bW (hl pins s1 σ H1 _ I1 q1) fun vl s2 ⟨l,H2,I2,pl,q2⟩=>bW (hu pins s2 σ H2 _ I2 q2) fun vu s3 ⟨u,H3,I3,pu,q3⟩=>?_);rw[evalPart_none];refine Ja ?_;have I4:Inv X pins σ H3 {s3 with heap:=s3.heap.push {cls:=.type "slice",data:=.fields #[vl,vu,.none]}}:=I3.kept (t':=s3.toks) fun b ob q=>Jd _ q;obtain⟨T,id,hT,ht,hg⟩:=hr pins {s3 with heap:=s3.heap.push {cls:=.type "slice",data:=.fields #[vl,vu,.none]}} σ H3 x v vl vu l u s3.heap.objs.size Q I4 r1 (Heap.IsSliceOf.new ..) pl pu q3;show wpAny (model X.prog X.w) X.A (subscriptTail e (.Slice lo hi none p2) v (.ref s3.heap.objs.size)) (EP X pins σ Q) X.xe {s3 with heap:=s3.heap.push {cls:=.type "slice",data:=.fields #[vl,vu,.none]}};exact tail_any (ops:=[.ref s3.heap.objs.size,v]) ht hT hg (by with_unfolding_all rfl)
noncomputable def eB (xs:List V) (lo hi:Option Int):List V:=(xs.drop (HT.cz xs.length 0 lo)).take (HT.cz xs.length xs.length hi - HT.cz xs.length 0 lo)
theorem jG (xs:List V) (lo hi:Option Int):(eB xs lo hi).length<=xs.length:=by
 unfold eB;rw[J7,Nv];omega
noncomputable def He (K:PySem.W.Frag):V->Option Int->Option Int->Hp->VK->Prop:=fun x lo hi H Q=>∃a xs,x=.ref a/\rD K H a xs/\
 ¬ (HT.cz xs.length 0 lo=0/\HT.cz xs.length xs.length hi=xs.length)/\∀p,H p=none->Q (.ref p) (upd H p (.tup (eB xs lo hi)))
theorem C9:Gq X (He X.K):=by
 intro pins s σ H x v vl vu lo hi sl Q I rx hs pl pu h;obtain⟨a,xs,rfl,hx,hw,q⟩:=h;cases rx
 obtain⟨au,r,ht,hz⟩:=I.tuple hx;have hlen:au.toArray.size=xs.length:=by rw[Jp];exact r.length.symm
 refine⟨"tuple",_,Ln.lookup,ht.typeIs,?_⟩;refine HT.iL ht hs pl pu (by rw[hlen];exact hw) ?_ (by rw[hlen];exact hz);rw[hlen];refine⟨.ref s.heap.objs.size,_,I.laid (t':=s.toks) (o:=.tup (eB xs lo hi)) (fun b ob q=>Jd _ q) (Jv _) ?_,rfl,q _ (I.aZ.fresh (Jv _))⟩;exact⟨JB (jG xs lo hi) hz,_,(r.drop (HT.cz xs.length 0 lo)).take (HT.cz xs.length xs.length hi - HT.cz xs.length 0 lo),IsTup.new _ _⟩
noncomputable def Fo (K:PySem.W.Frag):R2:=fun x y H Q=>∃a b xs ys,x=.ref a/\y=.ref b/\rD K H a xs/\rD K H b ys/\xs ≠ []/\xs.length + ys.length<=sizeLine/\
 (ys=[]->Q (.ref a) H)/\(ys ≠ []->∀p,H p=none->Q (.ref p) (upd H p (.tup (xs++ys))))
theorem Vals.oH {xs:List V} {us:List Value} (r:Vals xs us):us=[] ↔ xs=[]:=by
 cases r with
 | nil=>simp
 | cons _ _=>simp
theorem Bv:iZ X (binaryOp .Add) (Fo X.K):=by
 intro pins s σ H x y v u Q I rx ry h;obtain⟨a,b,xs,ys,rfl,rfl,ha,hb,hx,hz,q1,q2⟩:=h;cases rx
 cases ry
 obtain⟨au,r1,p1,_⟩:=I.tuple ha;obtain⟨its2,r2,p2,_⟩:=I.tuple hb;refine HT.B7 p1 p2 (fun z=>hx (r1.oH.mp z)) (fun z=>⟨.ref a,H,I,rfl,q1 (r2.oH.mp z)⟩) (fun z=>?_) (by rw[<-r1.length,<-r2.length];exact hz);refine⟨.ref s.heap.objs.size,_,I.laid (t':=s.toks) (o:=.tup (xs++ys)) (fun b ob q=>Jd _ q) (Jv _) ?_,rfl,q2 (fun w=>z (r2.oH.mpr w)) _ (I.aZ.fresh (Jv _))⟩;exact⟨by rw[Jl];exact hz,_,r1.append r2,IsTup.new _ _⟩
end
noncomputable def oX (n:Nat) (i:Int):Option Nat:=if 0<=i then(if i < n then some i.toNat else none)else if -(n:Int)<=i then some (i + n).toNat else none
noncomputable def lL {α:Type} (xs:List α) (i:Int):Option α:=(oX xs.length i).bind fun j=>xs[j]?
theorem uE {n:Nat} {i:Int} {j:Nat} (h:oX n i=some j):seqIndex? i n=some j/\j < n/\-(n:Int)<=i/\i < n:=by
 unfold oX at h
 by_cases h0:0<=i
 ·rw[Jc h0]at h
  by_cases h1:i < n
  ·rw[Jc h1]at h;have e:i.toNat=j:=JE h;exact⟨by rw[seqIndex_of h0 h1,e],by omega,by omega,h1⟩
  ·rw[I_ h1]at h;cases h
 ·rw[I_ h0]at h
  by_cases h1: -(n:Int)<=i
  ·rw[Jc h1]at h;have e:(i + n).toNat=j:=JE h;exact⟨by rw[seqIndex_neg (by omega) h1,e],by omega,h1,by omega⟩
  ·rw[I_ h1]at h;cases h
theorem pB {α:Type} {xs:List α} {i:Int} {v:α} (h:lL xs i=some v):∃j,seqIndex? i xs.length=some j/\xs[j]?=some v/\j < xs.length/\-(xs.length:Int)<=i/\i < xs.length:=by
 unfold lL at h;cases e:oX xs.length i with
 | none=>rw[e]at h;cases h
 | some j=>
  rw[e]at h;obtain⟨h1,h2,h3,h4⟩:=uE e;exact⟨j,h1,h,h2,h3,h4⟩
noncomputable def vd (b:Expr):Prop:=∀o i,subscripted b false o i=operate [o,i] (getItem o i)
noncomputable def Ah (X:Cx) (r:R2):Prop:=
 ∀ (value slice:Expr) (pins:NU) (s:Shared) (σ:St) (H:Hp) (x y:V) (v u:Value) (Q:VK),Inv X pins σ H s->RelV x v->RelV y u->r x y H Q->
  subscripted slice false v u=operate [v,u] (getItem v u)->wpAny (model X.prog X.w) X.A (subscriptTail value slice v u) (EP X pins σ Q) X.xe s
noncomputable def IU (X:Cx) (id:String) (r:V->List V->Hp->VK->Prop):Prop:=
 ∀ (pins:NU) (s:Shared) (σ:St) (H:Hp) (x:V) (xs:List V) (v:Value) (us:List Value) (Q:VK),Inv X pins σ H s->RelV x v->Vals xs us->r x xs H Q->
  wpAny (model X.prog X.w) X.A (call (.builtin id) (v::us)) (EP X pins σ Q) X.xe s
section
variable {X:Cx} {a b:Expr} {ta tb:TE} {pos:Pos}
theorem Ah.or {r r':R2} (h:Ah X r) (h':Ah X r'):Ah X (fun x y H Q=>r x y H Q\/r' x y H Q):=by
 intro value slice pins s σ H x y v u Q I rx ry q hs;rcases q with q | q
 ·exact h value slice pins s σ H x y v u Q I rx ry q hs
 ·exact h' value slice pins s σ H x y v u Q I rx ry q hs
theorem CB {r:R2} (hr:Ah X r) (ha:PE X a ta) (hb:PE X b tb) (hs:vd b):PE X (.Subscript a b pos) (GG r ta tb):=by
 intro pins s σ H Q I h;exact Subscript_ (Ew ha hb I h fun v u s2 x y H2 I2 rx ry q=>hr a b pins s2 σ H2 x y v u Q I2 rx ry q (hs _ _))
noncomputable def Fn (K:PySem.W.Frag):R2:=fun x y H Q=>∃p xs i v,x=.ref p/\y=.int i/\jv K H p xs/\lL xs i=some v/\Q v H
noncomputable def Fl (K:PySem.W.Frag):R2:=fun x y H Q=>∃p xs i v,x=.ref p/\y=.int i/\rD K H p xs/\lL xs i=some v/\Q v H
noncomputable def Fm:R2:=fun x y H Q=>∃z i c,x=.str z/\y=.int i/\z.length<=sizeLine/\lL z.cps.toList i=some c/\Q (.str ⟨#[c]⟩) H
theorem BV:Ah X (Fn X.K):=by
 intro value slice pins s σ H x y v u Q I rx ry h hs;obtain⟨p,xs,i,z,rfl,rfl,hq,he,q⟩:=h;cases rx
 obtain⟨t,rfl⟩:=ry;obtain⟨au,r,pl,hz⟩:=I.list hq;obtain⟨j,h1,h2,h3,h4,h5⟩:=pB he;obtain⟨w,ew,rw'⟩:=r.get h2;have hl:=r.length;have hn:=gQ;have fin:EP X pins σ Q w s:=⟨z,H,I,rw',q⟩
 by_cases h0:0<=i
 ·have hj:i.toNat=j:=by
   rw[seqIndex_of h0 h5]at h1;exact JE h1
  exact item_listR pl.isList h0 (by omega) (by rw[hj];simpa using ew) fin hs
 ·have hj:(i + (au.toArray.size:Int)).toNat=j:=by
   rw[seqIndex_neg (by omega) h4]at h1;rw[Jp,<-hl];exact JE h1
  exact subscriptTail_builtinR (x:=w) pl.isList.typeIs slot_list_getitem.lookup
   (wpAny_getItem_list_neg (Q:=fun r s'=>r=w/\EP X pins σ Q r s') pl.isList (by omega) (by rw[Jp]<;>omega) (by omega) (by rw[hj];simpa using ew) ⟨rfl,fin⟩) hs
theorem D8:Ah X (Fl X.K):=by
 intro value slice pins s σ H x y v u Q I rx ry h hs;obtain⟨p,xs,i,z,rfl,rfl,hq,he,q⟩:=h;cases rx
 obtain⟨t,rfl⟩:=ry;obtain⟨au,r,pl,hz⟩:=I.tuple hq;obtain⟨j,h1,h2,h3,h4,h5⟩:=pB he;obtain⟨w,ew,rw'⟩:=r.get h2;have hl:=r.length;have hn:=gQ;have fin:EP X pins σ Q w s:=⟨z,H,I,rw',q⟩
 exact subscriptTail_builtinR (x:=w) pl.typeIs Ln.lookup
  (getItem_tuple (j:=j) (Q:=fun r s'=>r=w/\EP X pins σ Q r s') pl (by omega) (by omega) (by rw[Jp,<-hl];exact h1) (by simpa using ew) ⟨rfl,fin⟩) hs
theorem oW:Ah X Fm:=by
 intro value slice pins s σ H x y v u Q I rx ry h hs;obtain⟨z,i,c,rfl,rfl,hz,he,q⟩:=h;obtain⟨t,rfl⟩:=rx;obtain⟨t',rfl⟩:=ry;obtain⟨j,h1,h2,h3,h4,h5⟩:=pB he;have hl:z.cps.toList.length=z.length:=by simp[Str.length]
 rw[hl]at h1 h4 h5;have hn:=gQ
 exact tail_any (typeIs_str s z t) slot_str_getitem.lookup (getItem_str (c:=c) (by
  have e1:decide (i < -(2 ^ 63:Int))=false:=JK (by omega);have e2:decide (i ≥ 2 ^ 63)=false:=JK (by omega);rw[e1,e2,Ng]) (by rw[h1];simpa using h2) ⟨.str ⟨#[c]⟩,H,I.tok _,⟨_,rfl⟩,q⟩) hs
noncomputable def IM (K:PySem.W.Frag):R2:=fun x y H Q=>Fn K x y H Q\/Fl K x y H Q\/Fm x y H Q
theorem D9:Ah X (IM X.K):=BV.or (D8.or oW)
theorem sH (au:List Value) (n j:Nat) (u:Value):Obj.mapSeq (·.setIfInBounds j u) {cls:=.type "list",data:=.seq au.toArray n}={cls:=.type "list",data:=.seq (au.set j u).toArray n}:=by
 simp[Obj.mapSeq]
theorem Inv.lst {pins:NU} {σ:St} {H:Hp} {s:Shared} {p:Addr} {xs:List V} (I:Inv X pins σ H s) (h:H p=some (.lst xs)):
  ∃ (au:List Value) (n:Nat),Vals xs au/\s.heap.get? p=some {cls:=.type "list",data:=.seq au.toArray n}/\xs.length<=sizeLine:=by
 obtain⟨z,au,n,r,e⟩:=I.aZ p _ h;exact⟨au,n,r,e,z⟩
theorem Inv.DW {pins:NU} {σ:St} {H:Hp} {s:Shared} {p:Addr} {xs ys:List V} {au its':List Value} {n n':Nat} {f:Obj->Obj} (I:Inv X pins σ H s) (h:H p=some (.lst xs))
  (ho:s.heap.get? p=some {cls:=.type "list",data:=.seq au.toArray n}) (hf:f {cls:=.type "list",data:=.seq au.toArray n}={cls:=.type "list",data:=.seq its'.toArray n'}) (r:Vals ys its') (hz:ys.length<=sizeLine) (t:Nat):
  Inv X pins σ (upd H p (.lst ys)) {s with heap:=s.heap.update p f,toks:=t}:=by
 have e:(s.heap.update p f).get? p=some {cls:=.type "list",data:=.seq its'.toArray n'}:=by
  rw[JV f ho (by rw[hf]<;>rfl),hf]
 refine I.write (x:=p) (e:=p) (by rw[h];trivial) (.inl rfl) (fun b u hb q=>(JR _ _ (J5 hb)).trans q) ⟨_,e⟩ ?_;exact⟨hz,its',n',r,e⟩
noncomputable def Fj:V->V->V->Hp->(Hp->Prop)->Prop:=fun o i v H Q=>∃p xs k j,o=.ref p/\i=.int k/\H p=some (.lst xs)/\oX xs.length k=some j/\Q (upd H p (.lst (xs.set j v)))
theorem set_list:Gu X Fj:=by
 intro pins s σ H o i v ov iv u Q I ro ri rv h;obtain⟨p,xs,k,j,rfl,rfl,hp,hj,q⟩:=h;cases ro
 obtain⟨t,rfl⟩:=ri;obtain⟨au,n,r,ho,hz⟩:=I.lst hp;obtain⟨h1,h2,h3,h4⟩:=uE hj;have hl:=r.length;have hn:=gQ
 have I':Inv X pins σ (upd H p (.lst (xs.set j v))) {s with heap:=s.heap.update p (Obj.mapSeq (·.setIfInBounds j u))}:=
  I.DW hp ho (sH au n j u) (r.set rv j) (by rw[Mh];exact hz) s.toks
 by_cases h0:0<=k
 ·have hk:k.toNat=j:=by
   rw[seqIndex_of h0 h4]at h1;exact JE h1
  exact PySem.W.ki_setAt ho h0 (by omega) (by rw[Jp,<-hl];exact h4) (by rw[hk];exact⟨_,I',q⟩)
 ·have hk:(k + (au.toArray.size:Int)).toNat=j:=by
   rw[seqIndex_neg (by omega) h3]at h1;rw[Jp,<-hl];exact JE h1
  exact PySem.W.ki_setBack ho (by omega) (by rw[Jp,<-hl];exact h3) (by omega) (by rw[hk];exact⟨_,I',q⟩)
theorem oq (lo hi:Option Int) (n:Nat):(sliceBounds lo hi none n).1=((HT.cz n 0 lo:Nat):Int)/\(sliceBounds lo hi none n).2.1=((HT.cz n n hi:Nat):Int)/\(sliceBounds lo hi none n).2.2=1:=by
 refine⟨?_,?_,rfl⟩
 ·cases lo with
  | none=>simp[sliceBounds,HT.cz]
  | some i=>
   simp only[sliceBounds,HT.cz,Option.getD_none,show(1:Int) > 0 by decide,Mb]
   by_cases h:i < 0
   ·simp only[h,Mb]<;>omega
   ·simp only[h,KA]<;>omega
 ·cases hi with
  | none=>simp[sliceBounds,HT.cz]
  | some i=>
   simp only[sliceBounds,HT.cz,Option.getD_none,show(1:Int) > 0 by decide,Mb]
   by_cases h:i < 0
   ·simp only[h,Mb]<;>omega
   ·simp only[h,KA]<;>omega
theorem mm (au:List Value) (lo hi:Option Int):slicePick au.toArray lo hi none=((au.drop (HT.cz au.length 0 lo)).take (HT.cz au.length au.length hi - HT.cz au.length 0 lo)).toArray:=by
 obtain⟨h1,h2,h3⟩:=oq lo hi au.toArray.size;unfold slicePick;rw[h1,h2,h3];simp only[sliceRange_one,pick_run,Jp]<;>rfl
noncomputable def Hg (K:PySem.W.Frag):V->Option Int->Option Int->Hp->VK->Prop:=fun x lo hi H Q=>∃a xs,x=.ref a/\jv K H a xs/\∀p,H p=none->Q (.ref p) (upd H p (.lst (eB xs lo hi)))
theorem AL:Gq X (Hg X.K):=by
 intro pins s σ H x v vl vu lo hi sl Q I rx hs pl pu h;obtain⟨a,xs,rfl,hx,q⟩:=h;cases rx
 obtain⟨au,r,ht,hz⟩:=I.list hx;have hlen:=r.length;refine⟨"list",_,slot_list_getitem.lookup,ht.isList.typeIs,?_⟩;refine wpAny_getItem_list_slice ht.isList hs pl pu .none (by simp) ?_ (by rw[Jp]<;>omega);rw[mm,<-hlen];refine⟨.ref s.heap.objs.size,_,I.laid (t':=s.toks) (o:=.lst (eB xs lo hi)) (fun b ob q=>Jd _ q) (Jv _) ?_,rfl,q _ (I.aZ.fresh (Jv _))⟩;exact⟨JB (jG xs lo hi) hz,_,0,(r.drop (HT.cz xs.length 0 lo)).take (HT.cz xs.length xs.length hi - HT.cz xs.length 0 lo),Jr _ rfl⟩
noncomputable def bb:V->Bool
 | .aD=>true
 | .bl _=>true
 | .int _=>true
 | .str _=>true
 | _=>false
noncomputable def Aj:V->V->Bool
 | .aD,.aD=>true
 | .bl a,.bl b=>a == b
 | .bl a,.int b=>(if a then 1 else 0) == b
 | .int a,.bl b=>a == (if b then 1 else 0)
 | .int a,.int b=>a == b
 | .str a,.str b=>a == b
 | _,_=>false
theorem El {A:Around} {s:Shared} {y x:V} {u v:Value} (ry:RelV y u) (rx:RelV x v) (fy:bb y=true) (fx:bb x=true):SeqAt.EqAt A s u v (Aj y x):=by
 cases y with
 | aD=>
  cases ry
  cases x with
  | aD=>cases rx;exact SeqAt.EqAt.same _
  | bl b=>cases rx;exact SeqAt.EqAt.none_bool b
  | int b=>obtain⟨t,rfl⟩:=rx;exact SeqAt.EqAt.none_int b t
  | str b=>obtain⟨t,rfl⟩:=rx;exact SeqAt.EqAt.none_str b t
  | _=>exact absurd (show false=true from fx) JC
 | bl a=>
  cases ry
  cases x with
  | aD=>cases rx;exact SeqAt.EqAt.bool_none a
  | bl b=>cases rx;exact SeqAt.EqAt.bool_bool a b
  | int b=>obtain⟨t,rfl⟩:=rx;exact SeqAt.EqAt.bool_int a b t
  | str b=>obtain⟨t,rfl⟩:=rx;exact SeqAt.EqAt.bool_str a b t
  | _=>exact absurd (show false=true from fx) JC
 | int a=>
  obtain⟨t',rfl⟩:=ry;cases x with
  | aD=>cases rx;exact SeqAt.EqAt.int_none a t'
  | bl b=>cases rx;exact SeqAt.EqAt.int_bool a t' b
  | int b=>obtain⟨t,rfl⟩:=rx;exact SeqAt.EqAt.int_int a t' b t
  | str b=>obtain⟨t,rfl⟩:=rx;exact SeqAt.EqAt.int_str a t' b t
  | _=>exact absurd (show false=true from fx) JC
 | str a=>
  obtain⟨t',rfl⟩:=ry;cases x with
  | aD=>cases rx;exact SeqAt.EqAt.str_none a t'
  | bl b=>cases rx;exact SeqAt.EqAt.str_bool a t' b
  | int b=>obtain⟨t,rfl⟩:=rx;exact SeqAt.EqAt.str_int a t' b t
  | str b=>obtain⟨t,rfl⟩:=rx;exact Ml a t' b t
  | _=>exact absurd (show false=true from fx) JC
 | _=>exact absurd (show false=true from fy) JC
noncomputable def tf (x:V) (u:Value):Bool:=match u with
 | .none=>Aj .aD x
 | .bool b=>Aj (.bl b) x
 | .int i _=>Aj (.int i) x
 | .str z _=>Aj (.str z) x
 | _=>false
theorem zL {x y:V} {u:Value} (r:RelV y u) (f:bb y=true):tf x u=Aj y x:=by
 cases y with
 | aD=>cases r;rfl
 | bl b=>cases r;rfl
 | int i=>obtain⟨t,rfl⟩:=r;rfl
 | str z=>obtain⟨t,rfl⟩:=r;rfl
 | _=>exact absurd (show false=true from f) JC
theorem iX {x:V}:∀ {xs:List V} {us:List Value},Vals xs us->xs.all bb=true->us.any (tf x)=xs.any fun y=>Aj y x
 | _,_,.nil,_=>rfl
 | y::xs,u::us,.cons r t,f=>by
  rw[List.all_cons,JU]at f;rw[Lz,Lz,zL r f.1,iX t f.2]
theorem fm {A:Around} {s:Shared} {x:V} {v:Value} (rx:RelV x v) (fx:bb x=true):∀ {xs:List V} {us:List Value},Vals xs us->xs.all bb=true->∀u ∈ us,SeqAt.EqAt A s u v (tf x u)
 | _,_,.nil,_=>fun u hu=>by cases hu
 | y::xs,u::us,.cons r t,f=>fun u' hu=>by
  rw[List.all_cons,JU]at f;rcases Jq.mp hu with rfl | hu
  ·rw[zL r f.1];exact El r rx f.1 fx
  ·exact fm rx fx t f.2 u' hu
noncomputable def qQ (x:V) (xs:List V):Bool:=xs.any fun y=>Aj y x
noncomputable def Iu (K:PySem.W.Frag) (neg:Bool):R2:=fun x y H Q=>∃p xs,y=.ref p/\(jv K H p xs\/rD K H p xs)/\bb x=true/\xs.all bb=true/\Q (.bl (if neg then !qQ x xs else qQ x xs)) H
theorem nC:iZ X (compareOp .In) (Iu X.K false):=by
 intro pins s σ H x y v u Q I rx ry h;obtain⟨p,xs,rfl,hq,fx,fs,q⟩:=h;cases ry
 rcases hq with hq | hq
 ·obtain⟨au,r,pl,hz⟩:=I.list hq;refine SeqAt.in_listAt (tf x) pl.isList (fun w hw=>fm rx fx r fs w (by simpa using hw)) ⟨.bl _,H,I,rfl,?_⟩;rw[show au.toArray.any (tf x)=au.any (tf x) by simp,iX r fs];exact q
 ·obtain⟨au,r,pl,hz⟩:=I.tuple hq;refine SeqAt.in_tupleAt (tf x) pl (fun w hw=>fm rx fx r fs w (by simpa using hw)) ⟨.bl _,H,I,rfl,?_⟩;rw[show au.toArray.any (tf x)=au.any (tf x) by simp,iX r fs];exact q
theorem iA:iZ X (compareOp .NotIn) (Iu X.K true):=by
 intro pins s σ H x y v u Q I rx ry h;obtain⟨p,xs,rfl,hq,fx,fs,q⟩:=h;cases ry
 rcases hq with hq | hq
 ·obtain⟨au,r,pl,hz⟩:=I.list hq;refine SeqAt.notIn_listAt (tf x) pl.isList (fun w hw=>fm rx fx r fs w (by simpa using hw)) ⟨.bl _,H,I,rfl,?_⟩;rw[show au.toArray.any (tf x)=au.any (tf x) by simp,iX r fs];exact q
 ·obtain⟨au,r,pl,hz⟩:=I.tuple hq;refine SeqAt.notIn_tupleAt (tf x) pl (fun w hw=>fm rx fx r fs w (by simpa using hw)) ⟨.bl _,H,I,rfl,?_⟩;rw[show au.toArray.any (tf x)=au.any (tf x) by simp,iX r fs];exact q
theorem iV:n9 X (.builtin "len") (fun xs H Q=>∃p ys,xs=[.ref p]/\(jv X.K H p ys\/rD X.K H p ys)/\Q (.int ys.length) H):=by
 intro pins s σ H xs us Q I r h;obtain⟨p,ys,rfl,hq,q⟩:=h;obtain⟨u,rfl,rx⟩:=vals1 r;cases rx
 have hn:=gQ;rcases hq with hq | hq
 ·obtain⟨au,r',pl,hz⟩:=I.list hq;have hlen:=r'.length;exact Calls.call_len_list pl.isList (by simp only[Jp]<;>omega) ⟨.int ys.length,H,I.tok _,⟨s.toks + 1,by rw[Jp,hlen]⟩,q⟩
 ·obtain⟨au,r',pl,hz⟩:=I.tuple hq;have hlen:=r'.length;exact len_tuple pl (by simp only[Jp]<;>omega) ⟨.int ys.length,H,I.tok _,⟨s.toks + 1,by rw[Jp,hlen]⟩,q⟩
theorem o_:n9 X (.builtin "len") (fun xs H Q=>∃z,xs=[.str z]/\z.length<=sizeLine/\Q (.int z.length) H):=by
 intro pins s σ H xs us Q I r h;obtain⟨z,rfl,hz,q⟩:=h;obtain⟨u,rfl,t,rfl⟩:=vals1 r;have hn:=gQ;exact len_str (by omega) ⟨.int z.length,H,I.tok _,⟨_,rfl⟩,q⟩
theorem iU:n9 X (.type "list") (fun xs H Q=>∃p ys,xs=[.ref p]/\(jv X.K H p ys\/rD X.K H p ys)/\∀l,H l=none->Q (.ref l) (upd H l (.lst ys))):=by
 intro pins s σ H xs us Q I r h;obtain⟨p,ys,rfl,hq,q⟩:=h;obtain⟨u,rfl,rx⟩:=vals1 r;cases rx
 have fin:∀ (au:List Value),Vals ys au->ys.length<=sizeLine->∀ (h':Heap) (c':Nat),(∀ b o',s.heap.get? b=some o'->h'.get? b=some o')->
   h'.get? s.heap.objs.size=some {cls:=.type "list",dict:=none,data:=.seq au.toArray c',slots:=#[]}->EP X pins σ Q (.ref s.heap.objs.size) {s with heap:=h'}:=fun au r' hz h' c' kp e=>
  ⟨.ref s.heap.objs.size,_,I.laid (t':=s.toks) kp (Jv _) (show bA X.prog X.w _ h' _ (.lst ys)from⟨hz,au,c',r',e⟩),rfl,q _ (I.aZ.fresh (Jv _))⟩
 rcases hq with hq | hq
 ·obtain⟨au,r',pl,hz⟩:=I.list hq;have hlen:=r'.length;obtain⟨o,ho,hc,n,hd⟩:=pl.isList;exact call_list_seq p (.inl rfl) ho hc hd (fun h' c' kp e=>fin au r' hz h' c' kp e) (by simp only[Jp]<;>omega)
 ·obtain⟨au,r',pl,hz⟩:=I.tuple hq;have hlen:=r'.length;obtain⟨o,ho,hc,n,hd⟩:=pl;exact call_list_seq p (.inr rfl) ho hc hd (fun h' c' kp e=>fin au r' hz h' c' kp e) (by simp only[Jp]<;>omega)
noncomputable def GD (K:PySem.W.Frag) (T:String) (x:V) (H:Hp):Prop:=match x with
 | .str _=>T= "str"
 | .int _=>T= "int"
 | .ref p=>(T= "list" /\∃xs,jv K H p xs)\/(T= "tuple" /\∃o,K.lookup p=some o/\o.cls=.type "tuple" /\o.dict=none)\/
   (T= "dict" /\((∃ kvs,H p=some (.dK kvs))\/∃kvs,H p=some (.dT kvs)))\/(T= "set" /\∃S n,H p=some (.set S n))
 | _=>False
theorem xp {pins:NU} {σ:St} {H:Hp} {s:Shared} {T:String} {x:V} {v:Value} (I:Inv X pins σ H s) (r:RelV x v) (ty:GD X.K T x H):
  s.TypeIs v T/\∀a,v=.ref a->∃ob,s.heap.get? a=some ob/\ob.dict=none:=by
 cases x with
 | str z=>
  obtain⟨t,rfl⟩:=r;cases (show T= "str" from ty)
  exact⟨typeIs_str s z t,fun _ e=>nomatch e⟩
 | int i=>
  obtain⟨t,rfl⟩:=r;cases (show T= "int" from ty)
  exact⟨typeIs_int s i t,fun _ e=>nomatch e⟩
 | ref p=>
  cases r
  rcases ty with ⟨rfl,xs,hq⟩ | ⟨rfl,o,hk,hc,hd⟩ | ⟨rfl,hk⟩ | ⟨rfl,S,n,hk⟩
  ·obtain⟨au,_,pl,_⟩:=I.list hq;refine⟨pl.isList.typeIs,fun a e=>?_⟩;cases e
   obtain⟨o,n,e,c,hd,_⟩:=pl;exact⟨o,e,hd⟩
  ·refine⟨⟨o,I.lU p o hk,hc⟩,fun a e=>?_⟩;cases e
   exact⟨o,I.lU _ o hk,hd⟩
  ·have z:∃o,s.heap.get? p=some o/\o.ExactDict:=by
    rcases hk with ⟨kvs,hk⟩ | ⟨kvs,hk⟩
    ·obtain⟨_,_,_,_,o,_,_,e,ex,_⟩:=I.aZ p _ hk;exact⟨o,e,ex⟩
    ·obtain⟨_,_,_,_,o,_,_,e,ex,_⟩:=I.aZ p _ hk;exact⟨o,e,ex⟩
   obtain⟨o,e,ex⟩:=z;refine⟨⟨o,e,ex.1⟩,fun a e2=>?_⟩;cases e2
   exact⟨o,e,ex.2.1⟩
  ·obtain⟨o,_,_,_,e,ex,_⟩:=I.aZ p _ hk;refine⟨⟨o,e,ex.1⟩,fun a e2=>?_⟩;cases e2
   exact⟨o,e,ex.2.1⟩
 | _=>exact False.elim ty
variable {o e:Expr} {es:List Expr} {to:TE} {t:TA} {name:Str} {apos cpos:Pos} {T id:String} {r:V->List V->Hp->VK->Prop}
end
noncomputable def HZ (X:Cx) (id:String) (r:V->List V->Hp->VK->Prop):Prop:=
 ∀ (pins:NU) (s:Shared) (σ:St) (H:Hp) (x:V) (xs:List V) (v:Value) (us:List Value) (Q:VK),Inv X pins σ H s->RelV x v->Vals xs us->r x xs H Q->
  wpAny (model X.prog X.w) X.A (call (.builtin id) (v::us)) (EP X pins σ Q) X.xe s
theorem Vals.one:∀ {x:V} {us:List Value},Vals [x] us->∃u,us=[u]/\RelV x u
 | _,_,.cons r .nil=>⟨_,rfl,r⟩
theorem Vals.zero:∀ {us:List Value},Vals [] us->us=[]
 | _,.nil=>rfl
theorem Vals.rep {xs:List V} {us:List Value} (h:Vals xs us):∀k:Nat,Vals (List.replicate k xs).flatten (List.replicate k us).flatten
 | 0=>.nil
 | k + 1=>by
  rw[LO,LO,Lg,Lg];exact Vals.append h (Vals.rep h k)
theorem foldl_rep (au:List Value):∀ (k:Nat) (acc:List Value),
  List.foldl (fun x1 x2=>x1++x2) acc.toArray (List.replicate k au.toArray)=(acc++(List.replicate k au).flatten).toArray
 | 0,acc=>by simp
 | k + 1,acc=>by
  have e:acc.toArray++au.toArray=(acc++au).toArray:=by simp
  have e2:(acc++au)++(List.replicate k au).flatten=acc++(List.replicate (k + 1) au).flatten:=by
   rw[LO,Lg,JD]
  rw[<-e2,<-foldl_rep au k (acc++au),<-e,LO,LS]
section
variable {X:Cx} {pins:NU} {σ:St} {H:Hp} {s:Shared} {l b:Addr} {xs ys zs:List V}
theorem Inv.iF {au its':List Value} {n:Nat} {f:Array Value->NW} {t':Nat} (I:Inv X pins σ H s) (hH:H l=some (.lst xs))
  (e:s.heap.get? l=some {cls:=.type "list",data:=.seq au.toArray n}) (hf:f au.toArray=its'.toArray) (hv:Vals ys its') (hz:ys.length<=sizeLine):
  Inv X pins σ (upd H l (.lst ys)) {s with heap:=s.heap.update l (Obj.mapSeq f),toks:=t'}:=by
 have q:=PySem.IsL.update e f;rw[hf]at q;refine I.write (x:=l) (e:=l) (by rw[hH];exact trivial) (.inl rfl) (fun b' u hb hu=>(JR s.heap (Obj.mapSeq f) (J5 hb)).trans hu) ⟨_,q⟩ ?_;exact⟨hz,its',_,hv,q⟩
theorem Inv.FJ {au:List Value} {t':Nat} (I:Inv X pins σ H s) (hv:Vals ys au) (hz:ys.length<=sizeLine):
  Inv X pins σ (upd H s.heap.objs.size (.lst ys)) {s with heap:=s.heap.push {cls:=.type "list",data:=.seq au.toArray},toks:=t'}:=
 I.laid (fun _ _ q=>Jd _ q) (Jv _) ⟨hz,au,0,hv,Jr _ rfl⟩
theorem Inv.fresh (I:Inv X pins σ H s):H s.heap.objs.size=none:=I.aZ.fresh (Jv _)
theorem Inv.yW (I:Inv X pins σ H s) (hH:H l=some (.lst xs)):xs.length<=sizeLine/\∃ (au:List Value) (n:Nat),Vals xs au/\xs.length=au.length/\s.heap.get? l=some {cls:=.type "list",data:=.seq au.toArray n}:=by
 obtain⟨z,au,n,r,e⟩:=I.aZ l _ hH;exact⟨z,au,n,r,r.length,e⟩
theorem qt {n:Nat} (h:n<=sizeLine):Builtin.List.listTooLong n=false:=by
 unfold Builtin.List.listTooLong;exact JK (by omega)
end
section
variable {X:Cx}
noncomputable def AV:V->List V->Hp->VK->Prop:=fun x vs H Q=>∃l xs y,x=.ref l/\vs=[y]/\H l=some (.lst xs)/\xs.length < sizeLine/\Q .aD (upd H l (.lst (xs++[y])))
theorem nD:HZ X "list.append" AV:=by
 intro pins s σ H x vs v us Q I rx rv h;obtain⟨l,xs,y,rfl,rfl,hH,hz,q⟩:=h;cases rx
 obtain⟨u,rfl,ru⟩:=rv.one;obtain⟨z,au,n,r,hl,e⟩:=I.yW hH;refine Nq F.slot_list_append ⟨_,e,rfl⟩ F.entry_list_append (F.args_list_append_2 _ _) (PySem.list_append l au.toArray n u (by rw[Jp];omega)) ⟨e,?_⟩;refine⟨.aD,_,I.iF (its':=au++[u]) hH e (by simp) (r.append (.cons ru .nil)) ?_,rfl,q⟩;rw[Jl,List.length_singleton];omega
noncomputable def AU:V->List V->Hp->VK->Prop:=fun x vs H Q=>∃l b xs zs,x=.ref l/\vs=[.ref b]/\H l=some (.lst xs)/\H b=some (.lst zs)/\xs.length + zs.length<=sizeLine/\Q .aD (upd H l (.lst (xs++zs)))
theorem vN:HZ X "list.extend" AU:=by
 intro pins s σ H x vs v us Q I rx rv h;obtain⟨l,b,xs,zs,rfl,rfl,hH,hB,hz,q⟩:=h;cases rx
 obtain⟨u,rfl,ru⟩:=rv.one;cases ru
 obtain⟨z,au,n,r,hl,e⟩:=I.yW hH;obtain⟨z2,its2,n2,r2,hl2,e2⟩:=I.yW hB;have hsz:au.toArray.size + its2.toArray.size<=sizeLine:=by rw[Jp,Jp];omega
 have hlong:¬ (!au.toArray.isEmpty && Builtin.List.listTooLong (au.toArray.size + its2.toArray.size))=true:=by
  rw[qt hsz,MZ];exact JC
 refine Nq F.slot_list_extend ⟨_,e,rfl⟩ F.entry_list_extend (F.args_list_extend_2 _ _)
  (AutoSeq1.list_extend_list_list_0 l au.toArray n b its2.toArray n2 hlong (by rw[Jp];omega) (by omega)) ⟨e,e2,?_⟩
 refine⟨.aD,_,I.iF (its':=au++its2) hH e (by simp) (r.append r2) ?_,rfl,q⟩;rw[Jl];omega
noncomputable def Dh:V->List V->Hp->VK->Prop:=fun x vs H Q=>∃l xs,x=.ref l/\vs=[]/\H l=some (.lst xs)/\Q .aD (upd H l (.lst []))
theorem yO:HZ X "list.clear" Dh:=by
 intro pins s σ H x vs v us Q I rx rv h;obtain⟨l,xs,rfl,rfl,hH,q⟩:=h;cases rx
 have hus:=rv.zero;subst hus;obtain⟨z,au,n,r,hl,e⟩:=I.yW hH;refine Nq F.slot_list_clear ⟨_,e,rfl⟩ F.entry_list_clear (F.args_list_clear_1 _) (AutoSeq1.list_clear_list_0 l au.toArray n (by rw[Jp];omega)) ⟨e,?_⟩;exact⟨.aD,_,I.iF (its':=[]) (ys:=[]) hH e rfl .nil (JZ _),rfl,q⟩
noncomputable def Hh:R2:=fun x y H Q=>∃l k xs,x=.ref l/\y=.int k/\H l=some (.lst xs)/\-(2 ^ 63)<=k/\k < 2 ^ 63/\xs.length * k.toNat<=sizeLine/\
 ∀p,H p=none->Q (.ref p) (upd H p (.lst (List.replicate k.toNat xs).flatten))
theorem len_rep {α:Type} (xs:List α) (k:Nat):(List.replicate k xs).flatten.length=k * xs.length:=by
 induction k with
 | zero=>simp
 | succ k ih=>rw[LO,Lg,Jl,ih,Nat.succ_mul,Nat.add_comm]
theorem DB:iZ X (binaryOp .Mult) Hh:=by
 intro pins s σ H x y v u Q I rx ry h;obtain⟨l,k,xs,rfl,rfl,hH,h1,h2,hz,q⟩:=h;cases rx
 obtain⟨t,rfl⟩:=ry;obtain⟨z,au,n,r,hl,e⟩:=I.yW hH;have hlen:au.toArray.size * k.toNat<=sizeLine:=by rw[Jp,<-hl];exact hz
 have hcap:¬au.toArray.size * k.toNat > (2 ^ 63 - 1) / 8:=by
  have:(sizeLine:Nat)<=(2 ^ 63 - 1) / 8:=by decide
  omega
 have hfit:¬ (!Builtin.List.listFitsIndex k)=true:=by
  rw[fitsIndex_both h1 h2];exact JC
 have hlong:¬Builtin.List.listTooLong (au.toArray.size * k.toNat)=true:=by
  rw[qt hlen];exact JC
 have hnew:List.foldl (fun x1 x2=>x1++x2) #[] (List.replicate (if au.toArray.isEmpty=true then 0 else k.toNat) au.toArray)=(List.replicate k.toNat au).flatten.toArray:=by
  have f0:∀m:Nat,List.foldl (fun x1 x2=>x1++x2) #[] (List.replicate m au.toArray)=(List.replicate m au).flatten.toArray:=fun m=>by
   have:=foldl_rep au m [];rw[Le]at this;exact this
  rw[f0];cases au with
  | nil=>simp
  | cons a r'=>rw[I_ (by simp)]
 refine wpAny_binaryOp_repeat_ref (T:= "list") (U:= "int") (by decide) ⟨_,e,rfl⟩ (fun s'=>typeIs_int s' k t) noFill_list_mul F.fills_int_mul F.slot_int_rmul repeat_list F.slot_int_index.lookup
  (Nq F.slot_int_rmul (typeIs_int s k t) F.entry_int_rmul (F.args_int_rmul_2 _ _) (int___rmul___int_list k t l au.toArray n)
   ⟨e,rfl,⟨_,e,rfl⟩,Nq F.slot_list_mul ⟨_,e,rfl⟩ F.entry_list_mul (F.args_list_mul_2 _ _) (AutoListH.list___mul___list_int_3 l au.toArray n k t hfit hcap hlong) ⟨e,?_⟩⟩)
 rw[hnew];exact⟨.ref _,_,I.FJ (t':=s.toks) (r.rep k.toNat) (by rw[len_rep,Nat.mul_comm];exact hz),rfl,q _ I.fresh⟩
end
section
variable {prog:Program} {w:World} {A:Around} {E:NT} {s:Shared}
set_option maxRecDepth 100000 in
end
end L2
namespace Att
open PySem PySem.W PySem.Calls PyProof.Rows
theorem jO {P:Params} {h:Heap}:∀ (ns:List Int) (vs:List Value),WellAll P h vs (ns.map WData.int)->IntsAre vs ns:=by
 intro ns
 induction ns with
 | nil=>
  intro vs w;rw[List.map_nil]at w;cases w
  exact .nil
 | cons n ns ih=>
  intro vs w;rw[JA]at w;cases w with
  | cons a b=>
   cases a
   exact .cons _ _ (ih _ b)
theorem vw {l:OpenLaw} {n:Nat} (hn:l.most=some n) {P:Params} {h:Heap} {args:List WData} {vals:List Value}
  (hpre:l.row.toRowW.claim.pre args=true) (hwl:WellAll P h vals args):
  ∃a vs ns,vals=[Value.ref a]/\args=[WData.list (ns.map WData.int)]/\h.get? a=some {cls:=.type "list",data:=.seq vs.toArray}/\IntsAre vs ns/\ns.length<=n:=by
 have hsh:WShape.hasAll [] args [.list .int]=true:=(pre_splitW hpre).1;have hc:l.pre.holds [] {args:=args}=true:=(pre_splitW hpre).2;obtain⟨d,r,rfl,h1,h2⟩:=hasAllW_cons hsh;obtain rfl:=hasAllW_nil h2;obtain⟨xs,rfl,h3⟩:=hasW_list h1;obtain⟨ns,rfl⟩:=items_int h3
 have hlen:ns.length<=n:=by
  unfold OpenLaw.pre at hc
  have h4:(WTm.not (.lt (.lit (.int (n:Int))) (.len (.arg 0)))).holds [] {args:=[.list (ns.map .int)]}=true:=by
   have h4:=(holds_andW hc).1;rw[hn]at h4;exact h4
  have h5:=condW_of h4 (w_not (w_lt w_lit (w_len_list (w_arg rfl))));rw[Jb]at h5;refine Nw fun q=>?_;have q':(n:Int) < ((ns.length:Nat):Int):=by omega
  first
   | (rw[JP q']at h5;exact absurd h5 (by decide))
   | (simp at h5;omega)
 cases hwl with
 | cons w1 w2=>
  cases w2
  cases w1 with
  | list ho hall=>exact⟨_,_,ns,rfl,rfl,ho,jO ns _ hall,hlen⟩
theorem vz (l:OpenLaw) (args:List WData):l.row.toRowW.claim.post args (.bool true) args=true:=
 postW_of (r:=l.row.toRowW) (X:=(true == true))
  (show WShape.has [] (.bool true) .bool=true by first | rfl | decide | simp[WShape.has,WShape.arms,WShape.armsAll])
  (show(WTm.eq .res (.lit (.bool true))).value [] {args:=args,res:=some (.bool true),after:=args}=some (.bool (true == true))from w_eq_bool (w_res rfl) w_lit) rfl
theorem rA {l:OpenLaw} {n:Nat} {q:Program} {loose:List Str} {XP:(Str->Option Value)->Heap->Prop} {YP:World->Heap->Prop} {d:DefRec}
  (hn:l.most=some n) (hdf:d.params.defaults=[])
  (call:∀ (w:World) (s₀ s₁:Shared) (mg mb:Str->Option Value) (fa:Addr) (o:Obj) (pm cd doc:Value) (a:Addr) (vs:List Value) (ns:List Int),
   Ground q loose [] XP w s₀ mg mb s₁.heap->YP w s₁.heap->
   s₁.heap.get? fa=some o->o.data=.func (docDef d.name d.params d.body d.scope pm cd doc)->s₁.heap.CodeRec cd d.name->mg d.name=some (.ref fa)->
   s₁.heap.get? a=some {cls:=.type "list",data:=.seq vs.toArray}->IntsAre vs ns->ns.length<=n->s₁.gens=#[]->
   codeAny (model l.prog w) callerA (.call (.ref fa) ⟨[.ref a],[]⟩) (fun r s'=>r=.ok (.ret (.bool true))/\OldK s₁.heap s'.heap/\s'.os=s₁.os/\AllBare s'.gens) s₁):
  WalkO q loose XP YP l.row.toRowW d [] (fun f vs=>PySem.call f vs):=by
 intro w s₀ s₁ mg mb G Y fa o pm cd doc dV kV ho hd hcd hD hmg hg args vals as hpre hlay hrd hwl hlo;obtain rfl:dV=.none:=Dflts.none hD hdf;obtain rfl:kV=.none:=Dflts.noKw hD;obtain⟨a,vs,ns,rfl,rfl,hobj,hints,hlen⟩:=vw hn hpre hwl;refine enter_call (LM (call w s₀ s₁ mg mb fa o pm cd doc a vs ns G Y ho (fd_plain hd) hcd hmg hobj hints hlen hg) fun r s' hq=>?_);obtain⟨rfl,h2,h3,h4⟩:=hq;exact⟨.inl ⟨.bool true,.bool true,[],rfl,fun _=>rfl,.bool true,vz l _,fun _=>⟨List.Pairwise.nil,fun _ hm=>(nomatch hm)⟩⟩,h2,h3,h4⟩
end Att
namespace L2
open PySem PySem.Spec PyProof.Rows
theorem mX:∀ {vs:List Value} {ns:List Int},IntsAre vs ns->Vals (ns.map V.int) vs
 | _,_,.nil=>.nil
 | _,_,.cons n t h=>.cons ⟨t,rfl⟩ (mX h)
noncomputable def aS (s:Stmt):Arguments:=match s with
 | .FunctionDef _ a _ _ _ _ _ _ _ _=>a
 | _=>{posonlyargs:=[],args:=[],vararg:=none,kwonlyargs:=[],kw_defaults:=[],kwarg:=none,defaults:=[]}
noncomputable def az (s:Stmt):List Stmt:=match s with
 | .FunctionDef _ _ b _ _ _ _ _ _ _=>b
 | _=>[]
noncomputable def aj (s:Stmt):Scope:=match s with
 | .FunctionDef _ _ _ _ _ _ sc _ _ _=>sc
 | _=>{kind:=.function,names:=[],isGenerator:=false,isCoroutine:=false}
structure ve (K:PySem.W.Frag) (x qual:Str) (st:Stmt) (f:Addr) (fd:FuncData):Prop where
 ex:∃ (oc:Value) (od:Option Addr) (kV doc pm:Value) (an:Option Addr) (cdv ct:Value) (osl:Array (Option Value)),
  fd=PySem.W.fnOf x qual (aS st) (az st) (aj st) .none kV doc pm an cdv ct/\K.lookup f=some ⟨oc,od,.func fd,osl⟩/\PySem.W.codeIn K cdv qual=true
 kp:PySem.W.keepIn K (.ref f)=true
section
variable {P:Program} {w:World} {K:PySem.W.Frag} {mg:Str->Option Value} {base:Heap}
theorem ve.binds {x qual:Str} {st:Stmt} {f:Addr} {fd:FuncData} {ps:List Str} (F:ve K x qual st f fd)
  (h:∀ (kV doc pm:Value) (an:Option Addr) (cdv ct:Value) (us:List Value),us.length=ps.length->bindArgs (PySem.W.fnOf x qual (aS st) (az st) (aj st) .none kV doc pm an cdv ct) ⟨us,[]⟩=pure (ps.zip us)):Binds K fd ps []:=by
 obtain⟨oc,od,kV,doc,pm,an,cdv,ct,osl,rfl,lk,hcd⟩:=F.ex;exact .all (h kV doc pm an cdv ct)
theorem sZ {x qual:Str} {st:Stmt} {f:Addr} {oc:Value} {od an:Option Addr} {osl:Array (Option Value)} {kV doc pm cdv ct:Value} (l:K.lookup f=some ⟨oc,od,.func (PySem.W.fnOf x qual (aS st) (az st) (aj st) .none kV doc pm an cdv ct),osl⟩)
  (c:PySem.W.codeIn K cdv qual=true) (k:PySem.W.keepIn K (.ref f)=true):ve K x qual st f (PySem.W.fnOf x qual (aS st) (az st) (aj st) .none kV doc pm an cdv ct):=⟨⟨oc,od,kV,doc,pm,an,cdv,ct,osl,rfl,l,c⟩,k⟩
end
end L2
set_option maxHeartbeats 4000000
namespace PySem.Sg
open PySem PySem.Spec PyProof.Rows
section tables
theorem mE (t:SetTable) (n:Nat):(t.orStandIn n).led=t.led:=by
 unfold SetTable.orStandIn;split<;>rfl
theorem sQ (t:SetTable) (es:Array (Int × Value)) (h:Int) (x:Value):(layNew t es h x).2.1.led=t.led:=by
 unfold layNew;cases t.freeSlot h with
 | none=>rfl
 | some p=>
  obtain⟨j,d⟩:=p;exact mE _ _
theorem oz (t:SetTable) (es:Array (Int × Value)) (n:Nat):(relayAll t es n).2.1.led=t.led:=by
 unfold relayAll;cases e:t.relaid (es.map (·.1)) n with
 | none=>rfl
 | some p=>
  obtain⟨t',o⟩:=p
  have z:t'.led=t.led:=by
   simp only[SetTable.relaid,SetTable.laid,Option.bind_eq_bind,NH,Option.pure_def,Option.some.injEq,NR]at e;obtain⟨_,_,e,_⟩:=e;rw[<-e]
  dsimp only;split<;>first | exact z | rfl
theorem kN (t:SetTable) (es:Array (Int × Value)) (n:Nat) (h:t.plain=false):(relayAll t es n).2.1.plain=false:=by
 unfold relayAll;cases e:t.relaid (es.map (·.1)) n with
 | none=>rfl
 | some p=>
  obtain⟨t',o⟩:=p
  have z:t'.plain=false:=by
   simp only[SetTable.relaid,SetTable.laid,Option.bind_eq_bind,NH,Option.pure_def,Option.some.injEq,NR]at e;obtain⟨_,_,e,_⟩:=e;rw[<-e];exact h
  dsimp only;split<;>first | exact z | rfl
end tables
noncomputable def aQ (prog:Program) (w:World) (h:Heap) (a:Addr) (τ:List Str):Prop:=
 ∃o es ep t,h.get? a=some o/\o.ExactSet/\o.data=.set es ep t/\ElemsOf (strKind prog w) es.toList/\List.Perm (es.toList.map fun e=>strOf e.2) τ
  /\es.size < scanBound/\t.fits es.size=true/\(w.params.followText "set-order" =true\/t.led=true)/\(es.size=0\/t.plain=false)
noncomputable def putIn (τ:List Str) (k:Str):List Str:=if k ∈ τ then τ else τ++[k]
section add
variable {prog:Program} {w:World} {A:Around} {E:NT} {s:Shared}
theorem isStr_of {k:Str} {v:Value} (h:(strKind prog w).is k v=true):strOf v=k/\∃t,v=.str k t:=by
 obtain⟨t,rfl⟩:=Mc h;exact⟨rfl,t,rfl⟩
theorem eT {h:Heap} {a:Addr} {o:Obj} {es es':Array (Int × Value)} {ep:Nat} {t t':SetTable} (ho:h.get? a=some o) (hd:o.data=.set es ep t):
  (h.update a (Obj.putSet es' t')).get? a=some {o with data:=.set es' (ep + 1) t'}:=by
 have z:=JV (Obj.putSet es' t') ho (by rw[putSet_of es' t' hd];rfl);rw[putSet_of es' t' hd]at z;exact z
theorem told {s₁:Shared} {Q':Unit->Shared->Prop} (b:Bool) (h:Q' () s₁):wpAny (model prog w) A (match b with | true=>rule "set.scan.the-table-gave-way" | false=>pure ()) Q' E s₁:=by
 cases b
 ·exact Ja h
 ·exact Kn h
theorem add_str {a:Addr} {τ:List Str} {k:Str} {u:Tok} {Q:Bool->Shared->Prop} (hS:aQ prog w s.heap a τ) (hroom:τ.length + 1 < scanBound)
  (h:∀b h',Heap.SameBut a s.heap h'->aQ prog w h' a (putIn τ k)->Q b {s with heap:=h'}):
  wpAny (model prog w) A (setAddHashed a (.str k u) ((strKind prog w).hash k)) Q E s:=by
 obtain⟨o,es,ep,t,ho,hex,hd,hel,hp,hb,hf,hled,hpl⟩:=hS;have hkey:(strKind prog w).is k (.str k u)=true:=strKind_is _ _ _ _;have hlen:es.size=τ.length:=by have z:=hp.length_eq;simpa using z
 unfold setAddHashed setAddHashedIn;refine JQ (IZ (J2 ho hd hf ?_));dsimp only;rw[byScan_of rfl hb hel,Jc rfl];unfold setAddByScan;refine IZ (IZ (Kn (IZ (Nx hkey ho hd hf hel ?_))))
 have memk:k ∈ τ ↔ ∃e ∈ es.toList,(strKind prog w).is k e.2=true:=by
  rw[<-hp.mem_iff,Jf];constructor
  ·rintro⟨e,he,q⟩
   obtain⟨⟨k',hk',_⟩,_⟩:=hel e he;obtain⟨z,_⟩:=isStr_of hk';exact⟨e,he,by rw[<-q,z];exact hk'⟩
  ·rintro⟨e,he,q⟩
   exact⟨e,he,(isStr_of q).1⟩
 cases hr:List.findIdx? (fun e=>(strKind prog w).is k e.2) es.toList with
 | some j=>
  dsimp only;obtain⟨hj,hpj,_⟩:=LG.mp hr;have hk:k ∈ τ:=memk.mpr ⟨_,K6 hj,hpj⟩;have z:=h false s.heap (KI a s.heap) (by unfold putIn;rw[Jc hk];exact⟨o,es,ep,t,ho,hex,hd,hel,hp,hb,hf,hled,hpl⟩);exact Ja (Ja z)
 | none=>
  dsimp only
  have hk:k ∉ τ:=fun c=>by
   obtain⟨e,he,q⟩:=memk.mp c;have z:=LB.mp hr e he;rw[q]at z;exact Bool.noConfusion z
  have h':∀h',Heap.SameBut a s.heap h'->aQ prog w h' a (τ++[k])->Q true {s with heap:=h'}:=fun h' a1 a2=>h true h' a1 (by unfold putIn;rw[I_ hk];exact a2);have p1:=layNew_perm t es ((strKind prog w).hash k) (.str k u);have f1:=layNew_fits t es ((strKind prog w).hash k) (.str k u);have l1:=sQ t es ((strKind prog w).hash k) (.str k u);generalize layNew t es ((strKind prog w).hash k) (.str k u)=L at p1 f1 l1 ⊢;obtain⟨es1,t1,wd,gv⟩:=L;dsimp only at p1 f1 l1 ⊢;rw[Kw]at p1;have hel1:ElemsOf (strKind prog w) es1.toList:=(hel.push hkey rfl).perm p1;have hp1:List.Perm (es1.toList.map fun e=>strOf e.2) (τ++[k]):=(p1.map _).trans (by rw[Jt];exact hp.append_right _);have hs1:es1.size=τ.length + 1:=by have z:=hp1.length_eq;simpa using z
  have hb1:es1.size < scanBound:=by omega
  refine IZ (told gv ?_)
  have last:∀t2:SetTable,t2.fits es1.size=true->t2.led=t.led->t2.plain=false->wpAny (model prog w) A (do
    storeSet a es1 t2
    if(!wd && t2.tooFull)=true then do
      (match(relayAll t2 es1 (SetTable.grown es1.size)).2.2 with | true=>rule "set.scan.the-table-gave-way" | false=>pure ())
      storeSet a (relayAll t2 es1 (SetTable.grown es1.size)).1 (relayAll t2 es1 (SetTable.grown es1.size)).2.1
      pure (some true)
     else pure (some true))
    (fun r s'=>wpAny (model prog w) A (match r with | some added=>pure added | none=>setAddHashedIn a (Value.str k u) ((strKind prog w).hash k) 99999) Q E s') E s:=by
   intro t2 f2 l2 n2;have g1:=eT (es':=es1) (t':=t2) ho hd;have k1:=J9 s.heap a (Obj.putSet es1 t2);refine IZ (Lh ho hd ?_ (KU hb1));split
   ·have p2:=relayAll_perm t2 es1 (SetTable.grown es1.size);have f3:=relayAll_fits t2 es1 (SetTable.grown es1.size);have l3:=oz t2 es1 (SetTable.grown es1.size);have n3:=kN t2 es1 (SetTable.grown es1.size) n2;generalize relayAll t2 es1 (SetTable.grown es1.size)=L at p2 f3 l3 n3 ⊢;obtain⟨es2,t3,gv2⟩:=L;dsimp only at p2 f3 l3 n3 ⊢;have hp2:List.Perm (es2.toList.map fun e=>strOf e.2) (τ++[k]):=(p2.map _).trans hp1;have hs2:es2.size=τ.length + 1:=by have z:=hp2.length_eq;simpa using z
    have hb2:es2.size < scanBound:=by omega
    refine IZ (told gv2 (IZ (Lh g1 rfl ?_ (KU hb2))));exact Ja (Ja (h' _ (k1.trans (J9 _ a _)) ⟨_,es2,_,t3,eT g1 rfl,hex,rfl,hel1.perm p2,hp2,hb2,f3,by rw[l3,l2];exact hled,.inr n3⟩))
   ·exact Ja (Ja (h' _ k1 ⟨_,es1,_,t2,g1,hex,rfl,hel1,hp1,hb1,f2,by rw[l2];exact hled,.inr n2⟩))
  cases q:t1.plain with
  | true=>
   rw[Jc rfl,hashByValue_scannable 8 rfl];refine IZ (Ja ?_);exact last {t1 with plain:=false} (SetTable.fits_plain_off f1) l1 rfl
  | false=>
   rw[I_ (by decide)];refine IZ (Ja ?_);exact last t1 f1 l1 q
end add
noncomputable def iE (val:Nat->Str) (i:Nat):List Str:=((List.range i).map val).foldl putIn []
theorem nE (val:Nat->Str) (i:Nat):iE val (i + 1)=putIn (iE val i) (val i):=by
 unfold iE;rw[List.range_succ,Jt,List.foldl_append];rfl
theorem nq (τ:List Str) (k:Str):(putIn τ k).length<=τ.length + 1:=by
 unfold putIn;split<;>simp
theorem qy (val:Nat->Str):∀i,(iE val i).length<=i
 | 0=>Jv _
 | i + 1=>by rw[nE];exact JB (nq _ _) (Ny (qy val i))
section loop
variable {prog:Program} {w:World} {A:Around} {R:Result->Shared->Prop} {I:Addr} {fp wr:List Addr} {G:Array GenState->Array GenState->Prop} {n:Nat} {P:Nat->Value->Prop} {St:Nat->Shared->Prop}
theorem aQ.at {h h':Heap} {a:Addr} {τ:List Str} (hS:aQ prog w h a τ) (k:∀o,h.get? a=some o->h'.get? a=some o):aQ prog w h' a τ:=
 let ⟨o,es,ep,t,ho,r⟩:=hS;⟨o,es,ep,t,k o ho,r⟩
theorem pX (W:WalksS prog w A.in1 I fp wr G n P St) (S:Addr) (hSf:S ∉ fp) (val:Nat->Str) (hval:∀i v,P i v->∃t,v=.str (val i) t) (hb:n + 1 < scanBound):
  ∀ (k i:Nat) (s:Shared),n - i=k->i<=n->St i s->aQ prog w s.heap S (iE val i)->
   (∀ s',Moved (S::wr) G s s'->aQ prog w s'.heap S (iE val n)->R (.ok (.ret .none)) s')->
   codeAny (model prog w) A (.builtin "set.update.loop" ⟨[.ref S,.ref I],[]⟩) R s:=by
 have hSw:S ∉ wr:=fun h=>hSf (W.sub _ h);have hsub:∀b ∈ wr,b ∈ S::wr:=fun b hb=>Ji _ hb;intro k
 induction k with
 | zero=>
  intro i s hk hi hst hS hR;have jP:i=n:=by omega
  subst jP;refine Ky Mm ?_;rw[Kr Lp _];show wpAny _ A.in1 (pyNext (.ref I) >>= _) _ _ s;refine IZ (W.done s _ _ hst fun s' hm=>?_);show wpAny _ A.in1 (ret Value.none) _ _ s';exact Ja (hR s' (hm.mono hsub) (hS.at fun o e=>hm.heap S o hSw e))
 | succ k ih=>
  intro i s hk hi hst hS hR;have hlt:i < n:=by omega
  refine Ky Mm ?_;rw[Kr Lp _];show wpAny _ A.in1 (pyNext (.ref I) >>= _) _ _ s;refine IZ (W.item i s _ _ hlt hst fun v s' hP hst' hm=>?_);obtain⟨t,rfl⟩:=hval i v hP;have hS':aQ prog w s'.heap S (iE val i):=hS.at fun o e=>hm.heap S o hSw e;show wpAny _ A.in1 (holding [Value.str (val i) t] (setAdd S (.str (val i) t)) >>= _) _ _ s';refine IZ (JQ ?_);unfold setAdd;refine JQ (IZ ((strKind prog w).pyHash (k:=val i) (strKind_is _ _ _ _) ?_));have hl:=qy val i;refine add_str (s:={s' with toks:=s'.toks + 1}) hS' (by omega) fun b h' hsb hS2=>?_;rw[<-nE]at hS2;refine Ja ⟨Li Lp _,ih (i + 1) _ (by omega) hlt (W.frame _ s' _ _ hst' (Kq _) fun b hb o e=>?_) hS2 fun s'' hm'' hS''=>?_⟩
  ·rw[hsb.2 b (fun h:b=S=>hSf (by rw[<-h];exact hb))];exact e
  ·refine hR s'' (Moved.trans W.gtrans ((hm.mono hsub).then_heap (Kq _) fun b o hb e=>?_) hm'') hS'';rw[hsb.2 b (fun h:b=S=>hb (by rw[h];exact Jj))];exact e
end loop
section new
variable {prog:Program} {w:World} {A:Around} {E:NT} {s:Shared}
noncomputable abbrev aR (w:World):Obj:={cls:=.type "set",dict:=none,data:=.set #[] 0 (.fresh 0 0 (!w.params.followText "set-order"))}
theorem vM (h:Heap):aQ prog w (h.push (aR w)) h.objs.size []:=
 ⟨_,#[],0,_,Jr _ rfl,⟨rfl,rfl,rfl⟩,rfl,fun e he=>by simp at he,.nil,by decide,rfl,by
  cases e:w.params.followText "set-order"
  ·exact .inr rfl
  ·exact .inl rfl,.inl rfl⟩
theorem rm (a:Value) {Q₁:NT} (h:Q₁ (.ref s.heap.objs.size) {s with heap:=s.heap.push (aR w)}):
  codeAny (model prog w) A (.call (.builtin "set.__new__") ⟨[.type "set",a],[]⟩) (wants Q₁ E) s:=by
 refine codeAny_of_tree ?_;show wpAny _ A.in1 (do checkBuiltinCall "set.__new__" ⟨[.type "set",a],[]⟩;again (.builtin "set.__new__" ⟨[.type "set",a],[]⟩)) _ _ s;refine IZ (Lc (PySem.F.newCall_set_1 a) (Ja ⟨Li PySem.F.plain_set_new _,Ky PySem.F.entry_set_new ?_⟩));rw[Kr PySem.F.plain_set_new _];unfold Builtin.«set.__new__» Builtin.Frozenset.newClass;have hsub:=sub_set_self;obtain⟨hp,g,d,tk,os⟩:=s;dsimp only
 wp_walk
 refine KC (Ja ?_);dsimp only;simp only[newObj];refine IZ (wpAny_alloc (Ja ?_));exact Ja h
theorem mN (hh:A.handled=none) {l:Addr} {items:NW} {ss:List Str} (hl:s.heap.IsList l items) (hi:StrsAre items.toList ss) (hb:items.size + 1 < scanBound) {Q:NT}
  (h:∀ (h':Heap) (tk:Nat),aQ prog w h' s.heap.objs.size (iE (fun i=>ss.getD i ⟨#[]⟩) items.size)->(∀ b o,s.heap.get? b=some o->h'.get? b=some o)->Q (.ref s.heap.objs.size) {s with heap:=h',toks:=tk}):
  wpAny (model prog w) A (call (.type "set") [.ref l]) Q E s:=by
 obtain⟨c,tl,hmro⟩:=JX.mro;have hmade:=JX.made;have hsub:=JX.sub;refine wpAny_call (codeAny_of_tree ?_);show wpAny _ _ (callAny (.type "set") _) _ _ _;refine Ja ⟨Code.quiet_builtin _ (by decide +kernel),Ky NI ?_⟩;rw[Around.under_plain (weight_type_call_type "set" [.ref l] []) rfl];have h1:=JX.notType;have h2:=JX.canCreate;have hct:=PySem.F.typeCall_set_1 (.ref l)
 repeat (any_goals (first | assumption | wp_step))
 refine LM (rm (.ref l) (E:=E) (Q₁:=fun obj s₁=>obj=.ref s.heap.objs.size/\s₁={s with heap:=s.heap.push (aR w)}) ⟨rfl,rfl⟩) fun r s₁ hr=>?_;cases r with
 | error e=>exact hr
 | ok fl=>
  cases fl with
  | ret obj=>
   obtain⟨rfl,rfl⟩:=hr;have hS:(s.heap.push (aR w)).get? s.heap.objs.size=some (aR w):=Jr _ rfl;have hT:Shared.TypeIs {s with heap:=s.heap.push (aR w)} (.ref s.heap.objs.size) "set" :=⟨_,hS,rfl⟩;have hli:=JX.init.lookup;have hbi:=JX.init.bind (.ref s.heap.objs.size)
   repeat (any_goals (first | assumption | wp_step))
   refine LM (codeAny_call_builtin (R:=wants (fun r s₂=>r=.none/\∃h' tk,s₂={s with heap:=h',toks:=tk}/\aQ prog w h' s.heap.objs.size (iE (fun i=>ss.getD i ⟨#[]⟩) items.size)/\
     (∀ b o,s.heap.get? b=some o->h'.get? b=some o)) E) JX.init.plain PySem.F.entry_set_init (check_set_init_1 hT ?_)) fun r₂ s₂ hr₂=>?_
   ·obtain⟨ol,hol,hcl,nl,hdl⟩:=hl;obtain⟨ocls,odict,odata,oslots⟩:=ol;simp only at hcl hdl;subst hcl;subst hdl;have hol':(s.heap.push (aR w)).get? l=some {cls:=.type "list",dict:=odict,data:=.seq items nl,slots:=oslots}:=Jd _ hol;have a1:=PySem.F.sub_list_set;have a2:=PySem.F.sub_list_frozenset;have hne:(Value.type "list" == Value.type "dict")=false:=by decide
    have hl1:(s.heap.push (aR w)).IsList l items:=⟨_,hol',rfl,nl,rfl⟩;unfold Builtin.«set.__init__» noKeywords Builtin.Frozenset.updateFrom;generalize hPI:pyIter=PI
    wp_walk
    subst hPI;refine Ni hl1 ?_;refine IZ (wpAny_runValue ?_);have hh3:A.in1.in1.in1.handled=none:=by simp[hh]
    have hlS:l < s.heap.objs.size:=Jk hol;have hsz:(s.heap.push (aR w)).objs.size=s.heap.objs.size + 1:=Kg _ _;have hneI:l ≠ (s.heap.push (aR w)).objs.size:=by rw[hsz];exact Js (JM hlS)
    have hSf:s.heap.objs.size ∉ [(s.heap.push (aR w)).objs.size,l]:=by
     rw[hsz];simp only[Jq,Jo,K7,MD,not_or];exact⟨Js (J8 _),KG hlS⟩
    have hval:∀ (i:Nat) (v:Value),items[i]?=some v->∃t,v=.str (ss.getD i ⟨#[]⟩) t:=fun i v hv=>by
     obtain⟨y,t,rfl,e⟩:=StrsAre.item hi i v (by rw[KO];exact hv);exact⟨t,by rw[KH,e];rfl⟩
    refine pX ((Walks.list hh3 _ l hneI items).toS) s.heap.objs.size hSf (fun i=>ss.getD i ⟨#[]⟩) hval hb (items.size - 0) 0 _ rfl (JZ _) ⟨⟨_,Jr _ rfl,rfl,rfl⟩,(hl1.push _)⟩ (aQ.at (vM (prog:=prog) s.heap) fun o' e=>Jd _ e) fun s' hm hS'=>?_;obtain⟨h',g',d',tk',os'⟩:=s';have eg:g'=s.gens:=hm.gens;have ed:d'=s.drawn:=hm.drawn;have eo:os'=s.os:=hm.os;subst eg;subst ed;subst eo;show wpAny _ _ _ _ _ _;refine Ja ?_;show wpAny _ _ (ret Value.none) _ _ _;refine Ja ⟨rfl,h',tk',rfl,hS',fun b ob e=>?_⟩;have hlt:=Jk e;refine hm.heap b ob ?_ (Jd _ (Jd _ e));rw[hsz];simp only[Jq,Jo,K7,MD,not_or];exact⟨Js hlt,Js (JM hlt)⟩
   ·cases r₂ with
    | error e=>exact hr₂
    | ok fl₂=>
     cases fl₂ with
     | ret r=>
      obtain⟨rfl,h',tk,rfl,hS',hk'⟩:=hr₂
      repeat (any_goals (first | assumption | wp_step))
      exact h _ _ hS' hk'
     | _=>exact hr₂.elim
  | _=>exact hr.elim
end new
section orders
theorem kU {α:Type}:∀ (l:List α) (i:Nat) (h:i < l.length),List.Perm (l[i]::l.eraseIdx i) l
 | x::l,0,h=>.refl _
 | x::l,i + 1,h=>by
  simp only[List.getElem_cons_succ,List.eraseIdx_cons_succ];exact(List.Perm.swap _ _ _).trans (List.Perm.cons _ (kU l i (by simpa using h)))
theorem uq {α:Type} (next:Nat->Nat):∀ (fuel k:Nat) (left:List α) (out:Array α),left.length=fuel->List.Perm (pickOrder.go next fuel k left out).toList (out.toList++left)
 | 0,k,left,out,h=>by
  have:left=[]:=MV h;subst this;unfold pickOrder.go;simp
 | fuel + 1,k,left,out,h=>by
  have hi:next k % left.length < left.length:=NQ _ (by omega)
  unfold pickOrder.go;rw[Je hi];refine(uq next fuel (k + 1) _ _ (by rw[LA hi];omega)).trans ?_;rw[Kw,JD];exact List.Perm.append_left _ (kU _ _ hi)
theorem fS {α:Type} (next:Nat->Nat) (xs:Array α):List.Perm (pickOrder next xs).toList xs.toList:=by
 have z:=uq next xs.size 0 xs.toList #[] (by simp)
 simpa[pickOrder]using z
variable {prog:Program} {w:World} {A:Around} {E:NT}
theorem wp_choose {src:Source} {n:Nat} {Q:Nat->Shared->Prop} {s:Shared} (hn:n ≠ 0) (h:∀i d,i < n->Q i {s with drawn:=d}):wpAny (model prog w) A (choose src n) Q E s:=
 fun _ _ _=>⟨hn,h _ _ (NQ _ (Nat.pos_of_ne_zero hn))⟩
theorem hJ {α:Type}:∀ (n:Nat) (xs:List α) (s:Shared) {Q:List α->Shared->Prop},xs.length=n->(∀ ys d,List.Perm ys xs->Q ys {s with drawn:=d})->wpAny (model prog w) A (drawOrder n xs) Q E s
 | 0,xs,s,Q,hl,h=>by
  have:xs=[]:=MV hl;subst this;unfold drawOrder;exact Ja (h [] s.drawn .nil)
 | n + 1,[],s,Q,hl,h=>by simp at hl
 | n + 1,x::xs,s,Q,hl,h=>by
  unfold drawOrder;refine IZ (wp_choose (by simp) fun i d hi=>?_);rw[Je hi];refine IZ (hJ n _ _ (by rw[LA hi];simp at hl ⊢;omega) fun ys d' p=>?_);exact Ja (h _ d' ((List.Perm.cons _ p).trans (kU _ _ hi)))
end orders
namespace F
theorem lF:entryFor table "set.__iter__" =some Builtin.«frozenset.__iter__»:=
 entryFor_alias (id':= "frozenset.__iter__") (by kernel_rfl) rfl (by decide +kernel) (by kernel_rfl)
theorem slot_next:Slot "set_iterator" "__next__" "set_iterator.__next__" :=
 .of (owner:= "set_iterator") (n:= "__next__") (by rw[LU,K8];kernel_rfl) (by decide +kernel) (by decide +kernel) (by decide +kernel)
  (by first | exact .inl (by decide +kernel) | exact .inr (by decide +kernel)) (by rw[M0];kernel_rfl)
theorem entry_next:entryFor table "set_iterator.__next__" =some Builtin.«set_iterator.__next__»:=entryFor_of_fast (by kernel_rfl)
theorem args_next (a:Value):argsOk "set_iterator.__next__" ⟨[a],[]⟩:=by unfold argsOk;kernel_rfl
theorem m3:Slot "set_iterator" "__iter__" "set_iterator.__iter__" :=
 .of (owner:= "set_iterator") (n:= "__iter__") (by rw[LU,K8];kernel_rfl) (by decide +kernel) (by decide +kernel) (by decide +kernel)
  (by first | exact .inl (by decide +kernel) | exact .inr (by decide +kernel)) (by rw[M0];kernel_rfl)
theorem tj:entryFor table "set_iterator.__iter__" =some Builtin.«dict_keyiterator.__iter__»:=
 entryFor_alias (id':= "dict_keyiterator.__iter__") (by kernel_rfl) rfl (by decide +kernel) (by kernel_rfl)
theorem wO (a:Value):argsOk "set_iterator.__iter__" ⟨[a],[]⟩:=by unfold argsOk;kernel_rfl
end F
noncomputable def gi (h:Heap) (I S:Addr) (first:Value) (i n ep:Nat):Prop:=
 ∃o,h.get? I=some o/\o.cls=.type "set_iterator" /\o.data=.fields #[first,.int i 0,.ref S,.int n 0,.int ep 0]
noncomputable def ju (h:Heap) (S:Addr) (es:Array (Int × Value)) (ep:Nat) (t:SetTable):Prop:=∃o,h.get? S=some o/\o.data=.set es ep t/\t.fits es.size=true
theorem gi.typeIs {s:Shared} {I S:Addr} {f:Value} {i n ep:Nat} (x:gi s.heap I S f i n ep):s.TypeIs (.ref I) "set_iterator" :=let ⟨o,ho,hc,_⟩:=x;⟨o,ho,hc⟩
theorem gi.keep {h h':Heap} {I S:Addr} {f:Value} {i n ep:Nat} (x:gi h I S f i n ep) (k:∀o,h.get? I=some o->h'.get? I=some o):gi h' I S f i n ep:=let ⟨o,ho,r⟩:=x;⟨o,k o ho,r⟩
theorem ju.keep {h h':Heap} {S:Addr} {es:Array (Int × Value)} {ep:Nat} {t:SetTable} (x:ju h S es ep t) (k:∀o,h.get? S=some o->h'.get? S=some o):ju h' S es ep t:=let ⟨o,ho,r⟩:=x;⟨o,k o ho,r⟩
section walk
variable {prog:Program} {w:World} {A:Around} {E:NT} {s:Shared}
theorem pP {a:Addr} {o:Obj} {es:Array (Int × Value)} {ep:Nat} {t:SetTable} {Q:Bool->Shared->Prop} (ho:s.heap.get? a=some o) (hd:o.data=.set es ep t) (hf:t.fits es.size=true)
  (h:Q (!w.params.followText "set-order" && (!t.plain && decide (es.size > 1))) s):wpAny (model prog w) A (setDrawn a) Q E s:=by
 unfold setDrawn setsByText;refine IZ (J2 ho hd hf ?_);dsimp only;exact IZ (IZ (KC (Ja (Ja h))))
theorem ji {I S:Addr} {f:Value} {i n ep:Nat} {Q:NT} (x:gi s.heap I S f i n ep) (h:Q (.ref I) s):wpAny (model prog w) A (pyIter (.ref I)) Q E s:=by
 refine Nj x.typeIs F.m3 (Kc F.m3 x.typeIs F.tj ?_ (F.wO _));show wpAny _ _ (ret (.ref I)) _ _ s;exact Ja ⟨_,rfl,"set_iterator",_,x.typeIs,F.slot_next.lookup,h⟩
theorem p6 {S:Addr} {es:Array (Int × Value)} {ep i j:Nat} {t:SetTable} {Q:Option (Value × Nat)->Shared->Prop} (hT:w.params.followText "set-order" =true) (hs:ju s.heap S es ep t)
  (h:Q (((pickOrder (w.params.setOrder S ep) es)[i]?).map fun e=>(e.2,j)) s):wpAny (model prog w) A (setNext S j i ep) Q E s:=by
 obtain⟨o,ho,hd,hf⟩:=hs;unfold setNext setsByText;refine IZ (J2 ho hd hf ?_);dsimp only;refine IZ (IZ (KC (Ja ?_)));show wpAny _ _ (if(w.params.followText "set-order")=true then _ else _) _ _ _;rw[Jc hT];simp only[Mu,JT,KA];unfold setWalk setsByText;refine IZ (IZ (J2 ho hd hf ?_));dsimp only;refine IZ (IZ (KC (Ja ?_)));show wpAny _ _ (if(w.params.followText "set-order")=true then _ else _) _ _ _;rw[Jc hT];exact IZ (KC (Ja (Ja h)))
theorem p7 {S:Addr} {es:Array (Int × Value)} {ep i j:Nat} {t:SetTable} {Q:Option (Value × Nat)->Shared->Prop} (hT:w.params.followText "set-order" =false) (hs:ju s.heap S es ep t) (hn:es.size<=1) (hl:t.led=true)
  (h:Q (match es[SetTable.below t.place j]?,t.place[SetTable.below t.place j]? with | some (_,x),some j=>some (x,j + 1) | _,_=>none) s):wpAny (model prog w) A (setNext S j i ep) Q E s:=by
 obtain⟨o,ho,hd,hf⟩:=hs;unfold setNext setsByText;refine IZ (J2 ho hd hf ?_);dsimp only;refine IZ (IZ (KC (Ja ?_)));show wpAny _ _ (if(w.params.followText "set-order")=true then _ else _) _ _ _;rw[I_ (by rw[hT];decide)];show wpAny _ _ (if(!t.plain && decide (es.size > 1))=true then _ else _) _ _ _;rw[I_ (by rw[JK (Mr.mpr hn),MZ];decide)];refine IZ (m:=if(!t.led && !es.isEmpty)=true then unsupported "set:maker-not-led" else pure ()) ?_;rw[I_ (by rw[hl];simp)];exact Ja (Ja h)
theorem CG {I S:Addr} {es:Array (Int × Value)} {ep i j nx:Nat} {t:SetTable} {v:Value} {Q:Option Value->Shared->Prop} (hit:gi s.heap I S (.int j 0) i es.size ep) (hs:ju s.heap S es ep t)
  (hv:∀ {B:Around} {Q':Option (Value × Nat)->Shared->Prop} {E':NT},Q' (some (v,nx)) s->wpAny (model prog w) B (setNext S j i ep) Q' E' s)
  (hQ:∀h',gi h' I S (.int nx 0) (i + 1) es.size ep->Heap.SameBut I s.heap h'->Q (some v) {s with heap:=h'}):wpAny (model prog w) A (pyNext (.ref I)) Q E s:=by
 obtain⟨o,ho,hc,hd⟩:=id hit;obtain⟨os,hos,hds,hf⟩:=hs;unfold pyNext;refine IZ (Lj (Kz (name:=Str.ofString "__next__") hit.typeIs F.slot_next (Kc F.slot_next hit.typeIs F.entry_next ?_ (F.args_next _))));show wpAny _ _ (fieldsOf (.ref I) >>= _) _ _ s;refine IZ (M1 ho hd ?_);dsimp only;refine IZ (K1 hos hds hf ?_);rw[I_ (by simp)];refine IZ (hv ?_);dsimp only;have g1:=JV (Obj.mapFields (·.setIfInBounds 0 (rawInt nx))) ho (L3 (Ks hd _));refine IZ (L4 ho hd (by simp) ?_);refine IZ (L4 g1 (Ks hd _) (by simp) ?_);refine Ja ⟨v,rfl,Ja (hQ _ ⟨_,JV _ g1 (L3 (Ks (Ks hd _) _)),?_,?_⟩ ((J9 ..).trans (J9 ..)))⟩
 ·rw[Nk,Nk];exact hc
 ·rw[Ks (Ks hd _)];simp[rawInt]
theorem F0 (hh:A.handled=none) {I S:Addr} {es:Array (Int × Value)} {ep i j:Nat} {t:SetTable} {Q:Option Value->Shared->Prop} (hit:gi s.heap I S (.int j 0) i es.size ep) (hs:ju s.heap S es ep t)
  (hv:∀ {B:Around} {Q':Option (Value × Nat)->Shared->Prop} {E':NT},Q' none s->wpAny (model prog w) B (setNext S j i ep) Q' E' s)
  (hQ:∀h',Heap.ExtBut I s.heap h'->Q none {s with heap:=h'}):wpAny (model prog w) A (pyNext (.ref I)) Q E s:=by
 obtain⟨o,ho,hc,hd⟩:=id hit;obtain⟨os,hos,hds,hf⟩:=hs;unfold pyNext;refine IZ (Lj (Kz (name:=Str.ofString "__next__") hit.typeIs F.slot_next (Kc F.slot_next hit.typeIs F.entry_next ?_ (F.args_next _))));show wpAny _ _ (fieldsOf (.ref I) >>= _) _ _ s;refine IZ (M1 ho hd ?_);dsimp only;refine IZ (K1 hos hds hf ?_);rw[I_ (by simp)];refine IZ (hv ?_);dsimp only;refine IZ (L4 ho hd (by simp) ?_);refine IZ ?_;simp only[newExc,newTuple];refine IZ (Kb ?_ (by size_fits));refine IZ (m:=firstArgMember _ _) (Lc (a:=Value.none) (by first | rfl | (simp only[firstArgMember];rfl)) ?_);refine Kb ?_ (by size_fits);simp only[raiseNew];refine IZ (wpAny_handled ?_);rw[show A.in1.handled=none from hh];refine IZ (Ja (wpAny_throw ?_));refine IZ (KP (T:= "StopIteration") (b:=true) ⟨_,Jr _ rfl,rfl⟩ isSubtype_stop ?_);exact Ja (hQ _ (((J9 ..).extBut.push _).push _))
theorem FN {I S tp:Addr} {es:Array (Int × Value)} {ep i p:Nat} {t:SetTable} {e:Int × Value} {ot:Obj} {pl:NW} {c:Nat} {Q:Option Value->Shared->Prop} (hit:gi s.heap I S (.ref tp) i es.size ep) (hs:ju s.heap S es ep t)
  (ht:s.heap.get? tp=some ot) (hdt:ot.data=.seq pl c) (hp:pl[i]?=some (.int p 0)) (he:es[p]?=some e)
  (hQ:∀h',gi h' I S (.ref tp) (i + 1) es.size ep->Heap.SameBut I s.heap h'->Q (some e.2) {s with heap:=h'}):wpAny (model prog w) A (pyNext (.ref I)) Q E s:=by
 obtain⟨o,ho,hc,hd⟩:=id hit;obtain⟨os,hos,hds,hf⟩:=hs;unfold pyNext;refine IZ (Lj (Kz (name:=Str.ofString "__next__") hit.typeIs F.slot_next (Kc F.slot_next hit.typeIs F.entry_next ?_ (F.args_next _))));show wpAny _ _ (fieldsOf (.ref I) >>= _) _ _ s;refine IZ (M1 ho hd ?_);dsimp only;refine IZ (K1 hos hds hf ?_);rw[I_ (by simp)];refine IZ (Ms ht hdt ?_);simp only[Mv,hp];unfold setNextDrawn;refine IZ (IZ (J2 hos hds hf ?_));dsimp only;simp only[Mu,JT,KA,Mv,he];refine Ja ?_;refine IZ (L4 ho hd (by simp) ?_);refine Ja ⟨_,rfl,Ja (hQ _ ⟨_,JV _ ho (L3 (Ks hd _)),?_,?_⟩ (J9 ..))⟩
 ·rw[Nk];exact hc
 ·rw[Ks hd];simp[rawInt]
theorem HN (hh:A.handled=none) {I S tp:Addr} {es:Array (Int × Value)} {ep i:Nat} {t:SetTable} {ot:Obj} {pl:NW} {c:Nat} {Q:Option Value->Shared->Prop} (hit:gi s.heap I S (.ref tp) i es.size ep) (hs:ju s.heap S es ep t)
  (ht:s.heap.get? tp=some ot) (hdt:ot.data=.seq pl c) (hp:pl[i]?=none)
  (hQ:∀h',Heap.ExtBut I s.heap h'->Q none {s with heap:=h'}):wpAny (model prog w) A (pyNext (.ref I)) Q E s:=by
 obtain⟨o,ho,hc,hd⟩:=id hit;obtain⟨os,hos,hds,hf⟩:=hs;unfold pyNext;refine IZ (Lj (Kz (name:=Str.ofString "__next__") hit.typeIs F.slot_next (Kc F.slot_next hit.typeIs F.entry_next ?_ (F.args_next _))));show wpAny _ _ (fieldsOf (.ref I) >>= _) _ _ s;refine IZ (M1 ho hd ?_);dsimp only;refine IZ (K1 hos hds hf ?_);rw[I_ (by simp)];refine IZ (Ms ht hdt ?_);simp only[Mv,hp];have g1:=JV (Obj.mapFields (·.setIfInBounds 0 (rawInt 0))) ho (L3 (Ks hd _));refine IZ (L4 ho hd (by simp) ?_);refine IZ (L4 g1 (Ks hd _) (by simp) ?_);refine IZ ?_;simp only[newExc,newTuple];refine IZ (Kb ?_ (by size_fits));refine IZ (m:=firstArgMember _ _) (Lc (a:=Value.none) (by first | rfl | (simp only[firstArgMember];rfl)) ?_);refine Kb ?_ (by size_fits);simp only[raiseNew];refine IZ (wpAny_handled ?_);rw[show A.in1.handled=none from hh];refine IZ (Ja (wpAny_throw ?_));refine IZ (KP (T:= "StopIteration") (b:=true) ⟨_,Jr _ rfl,rfl⟩ isSubtype_stop ?_);exact Ja (hQ _ (((((J9 ..).trans (J9 ..)).extBut.push _).push _)))
end walk
section walks
variable {prog:Program} {w:World} {A:Around}
theorem EX (hh:A.handled=none) (hT:w.params.followText "set-order" =true) (I S:Addr) (hne:S ≠ I) (es:Array (Int × Value)) (ep:Nat) (t:SetTable):
  Walks prog w A I [I,S] [I] es.size (fun i v=>((pickOrder (w.params.setOrder S ep) es).toList.map (·.2))[i]?=some v) (fun i h=>(∃ j:Nat,gi h I S (.int j 0) i es.size ep)/\ju h S es ep t) where
 sub:=fun b hb=>by simp at hb;simp[hb]
 frame:=fun i h h' st hk=>⟨let ⟨j,x⟩:=st.1;⟨j,x.keep fun o e=>hk I (by simp) o e⟩,st.2.keep fun o e=>hk S (by simp) o e⟩
 item:=fun i s Q E hi st hQ=>by
  obtain⟨⟨j,x⟩,y⟩:=st;have hl:(pickOrder (w.params.setOrder S ep) es).size=es.size:=by have z:=(fS (w.params.setOrder S ep) es).length_eq;simpa using z
  have hi':i < (pickOrder (w.params.setOrder S ep) es).size:=by omega
  refine CG x y (nx:=j) (v:=((pickOrder (w.params.setOrder S ep) es)[i]).2) (fun q=>p6 hT y (by rw[J1 hi'];exact q)) fun h' x' hs'=>?_;refine hQ _ h' s.toks (by simp[hi']) ⟨⟨j,x'⟩,y.keep fun o e=>(hs'.2 S hne).trans e⟩ fun b o hb e=>hs'.extBut b o (fun h=>hb (by simp[h])) e
 done:=fun s Q E st hQ=>by
  obtain⟨⟨j,x⟩,y⟩:=st;have hl:(pickOrder (w.params.setOrder S ep) es).size=es.size:=by have z:=(fS (w.params.setOrder S ep) es).length_eq;simpa using z
  exact F0 hh x y (fun q=>p6 hT y (by rw[Mz (by omega)];exact q)) fun h' he'=>hQ h' s.toks fun b o hb e=>he' b o (fun h=>hb (by simp[h])) e
 self:=fun i s Q E st h=>let ⟨j,x⟩:=st.1;ji x h
theorem nY (p j:Nat):SetTable.below #[p] j=if p < j then 1 else 0:=by
 unfold SetTable.below;show SetTable.below.go #[p] j 1 0 1=_;unfold SetTable.below.go;simp only[Nat.zero_lt_one,Mb,Kd,show(1:Nat) / 2=0 from rfl];show(if(#[p].getD 0 j) < j then SetTable.below.go #[p] j 0 1 1 else SetTable.below.go #[p] j 0 0 0)=_;rw[show(#[p].getD 0 j)=p from rfl];split<;>(unfold SetTable.below.go;rfl)
theorem EY (hh:A.handled=none) (hT:w.params.followText "set-order" =false) (I S:Addr) (hne:S ≠ I) (es:Array (Int × Value)) (ep:Nat) (t:SetTable) (hn:es.size<=1) (hl:t.led=true) (hf:t.fits es.size=true):
  Walks prog w A I [I,S] [I] es.size (fun i v=>(es.toList.map (·.2))[i]?=some v) (fun i h=>(∃ j:Nat,gi h I S (.int j 0) i es.size ep/\(i=0->j=0)/\(∀ p,t.place[0]?=some p->i=1->j=p + 1))/\ju h S es ep t) where
 sub:=fun b hb=>by simp at hb;simp[hb]
 frame:=fun i h h' st hk=>⟨let ⟨j,x,r⟩:=st.1;⟨j,x.keep fun o e=>hk I (by simp) o e,r⟩,st.2.keep fun o e=>hk S (by simp) o e⟩
 item:=fun i s Q E hi st hQ=>by
  obtain⟨⟨j,x,r0,r1⟩,y⟩:=st;have FP:i=0:=by omega
  subst FP;have hj:=r0 rfl;subst hj;have hps:t.place.size=es.size:=by simp only[SetTable.fits,JU,LC]at hf;exact hf.1
  obtain⟨p,hp⟩:∃p,t.place=#[p]:=L5.mp (by omega);obtain⟨e,he⟩:∃e,es=#[e]:=L5.mp (by omega);refine CG x y (nx:=p + 1) (v:=e.2) (fun q=>p7 hT y hn hl ?_) fun h' x' hs'=>?_
  ·rw[hp,nY,I_ (Nat.not_lt_zero _),he];exact q
  ·refine hQ _ h' s.toks (by rw[he];rfl) ⟨⟨p + 1,x',fun c=>by omega,fun p' hp' _=>?_⟩,y.keep fun o e=>(hs'.2 S hne).trans e⟩ fun b o hb e=>hs'.extBut b o (fun h=>hb (by simp[h])) e;rw[hp]at hp';simp at hp';rw[hp']
 done:=fun s Q E st hQ=>by
  obtain⟨⟨j,x,r0,r1⟩,y⟩:=st;have hps:t.place.size=es.size:=by simp only[SetTable.fits,JU,LC]at hf;exact hf.1
  refine F0 hh x y (fun q=>p7 hT y hn hl ?_) fun h' he'=>hQ h' s.toks fun b o hb e=>he' b o (fun h=>hb (by simp[h])) e
  by_cases h0:es.size=0
  ·have he:es=#[]:=Array.eq_empty_of_size_eq_zero h0;rw[he];simpa using q
  ·obtain⟨p,hp⟩:∃p,t.place=#[p]:=L5.mp (by omega);obtain⟨e,he⟩:∃e,es=#[e]:=L5.mp (by omega);have hj:j=p + 1:=r1 p (by rw[hp];rfl) (by omega);rw[hp,nY,hj,Jc (J8 _),he];exact q
 self:=fun i s Q E st h=>let ⟨j,x,_⟩:=st.1;ji x h
theorem EZ (hh:A.handled=none) (I S tp:Addr) (hne:S ≠ I) (hne':tp ≠ I) (es:Array (Int × Value)) (ep:Nat) (t:SetTable) (ps:List Nat) (hp:List.Perm ps (List.range es.size)) (ot:Obj) (c:Nat) (hdt:ot.data=.seq (ps.map fun(i:Nat)=>rawInt i).toArray c):
  Walks prog w A I [I,S,tp] [I] es.size (fun i v=>(ps.map fun p=>(es.getD p (0,.none)).2)[i]?=some v) (fun i h=>gi h I S (.ref tp) i es.size ep/\ju h S es ep t/\h.get? tp=some ot) where
 sub:=fun b hb=>by simp at hb;simp[hb]
 frame:=fun i h h' st hk=>⟨st.1.keep fun o e=>hk I (by simp) o e,st.2.1.keep fun o e=>hk S (by simp) o e,hk tp (by simp) _ st.2.2⟩
 item:=fun i s Q E hi st hQ=>by
  obtain⟨x,y,z⟩:=st;have hlen:ps.length=es.size:=by have z:=hp.length_eq;simpa using z
  have hi':i < ps.length:=by omega
  have hpi:ps[i] < es.size:=by have z:=hp.mem_iff.mp (K6 hi');simpa using z
  refine FN x y z hdt (p:=ps[i]) (e:=es[ps[i]]) (by simp[hi',rawInt]) (J1 hpi) fun h' x' hs'=>?_;refine hQ _ h' s.toks (by simp[hi',Array.getD,hpi]) ⟨x',y.keep fun o e=>(hs'.2 S hne).trans e,(hs'.2 tp hne').trans z⟩ fun b o hb e=>hs'.extBut b o (fun h=>hb (by simp[h])) e
 done:=fun s Q E st hQ=>by
  obtain⟨x,y,z⟩:=st;have hlen:ps.length=es.size:=by have z:=hp.length_eq;simpa using z
  exact HN hh x y z hdt (by simp[hlen]) fun h' he'=>hQ h' s.toks fun b o hb e=>he' b o (fun h=>hb (by simp[h])) e
 self:=fun i s Q E st h=>ji st.1 h
end walks
section iter
variable {prog:Program} {w:World} {A:Around} {E:NT} {s:Shared}
theorem dG {es:Array (Int × Value)} (h:ElemsOf (strKind prog w) es.toList):StrsAre (es.toList.map (·.2)) (es.toList.map fun e=>strOf e.2):=by
 have z:=strsAre_map (es.toList.map (·.2)) fun v hv=>by
  obtain⟨e,he,rfl⟩:=Jf.mp hv;obtain⟨⟨k,hk,_⟩,_⟩:=h e he;obtain⟨_,t,q⟩:=isStr_of hk;exact⟨k,t,q⟩
 rw[JL]at z;exact z
theorem map_getD {α:Type} (d:α) (es:Array α):(List.range es.size).map (fun p=>es.getD p d)=es.toList:=by
 apply List.ext_getElem
 ·simp
 ·intro i h1 h2;simp at h1;simp[Array.getD,h1]
theorem sh {S:Addr} {τ:List Str} {Q:NT} (hS:aQ prog w s.heap S τ)
  (hQ:∀ (s':Shared) (I:Addr) (fp:List Addr) (St:Nat->Heap->Prop) (ord:List Value) (n:Nat),n=τ.length->(∀ A':Around,A'.handled=none->Walks prog w A' I fp [I] n (fun i v=>ord[i]?=some v) St)->St 0 s'.heap->
   (∃ ss,StrsAre ord ss/\List.Perm ss τ)->(∀ b ∈ fp,b < s'.heap.objs.size/\(b=S\/s.heap.objs.size<=b))->s.heap.objs.size<=I->(∀ b o,s.heap.get? b=some o->s'.heap.get? b=some o)->s'.gens=s.gens->s'.os=s.os->s'.toks=s.toks->Q (.ref I) s'):
  wpAny (model prog w) A (pyIter (.ref S)) Q E s:=by
 obtain⟨o,es,ep,t,ho,hex,hd,hel,hp,hb,hf,hled,hpl⟩:=hS;have hT:s.TypeIs (.ref S) "set" :=⟨o,ho,hex.1⟩;have hlt:S < s.heap.objs.size:=Jk ho;have hlen:es.size=τ.length:=by have z:=hp.length_eq;simpa using z
 have hst:ju s.heap S es ep t:=⟨o,ho,hd,hf⟩;refine Nj hT PySem.F.slot_set_iter (Kc PySem.F.slot_set_iter hT F.lF ?_ (PySem.F.args_set_iter_1 _));show wpAny _ _ (Builtin.Frozenset.sizeOf S >>= _) _ _ s;unfold Builtin.Frozenset.sizeOf;refine IZ (IZ (K1 ho hd hf (Ja ?_)));refine IZ (pP ho hd hf ?_);cases q:(!w.params.followText "set-order" && (!t.plain && decide (es.size > 1)))with
 | true=>
  rw[Jc rfl];refine IZ (hJ es.size (List.range es.size) _ KJ fun ps d pp=>?_);have hlp:ps.length=es.size:=by have z:=pp.length_eq;simpa using z
  have hz:(ps.map fun(i:Nat)=>rawInt i).toArray.size<=sizeLine:=by
   have z:=KU hb;simp only[Jp,Jb,hlp];exact z
  refine IZ (Kb ?_ (by first | exact hz | simpa using hz));have h1:(s.heap.push {cls:=.type "tuple",data:=.seq (ps.map fun(i:Nat)=>rawInt i).toArray}).get? S=some o:=Jd _ ho;refine IZ (LY h1 hd hf ?_);refine IZ (Kb (Ja ⟨_,rfl,"set_iterator",_,⟨_,Jr _ rfl,rfl⟩,F.slot_next.lookup,?_⟩));have hz1:(s.heap.push {cls:=.type "tuple",data:=.seq (ps.map fun(i:Nat)=>rawInt i).toArray}).objs.size=s.heap.objs.size + 1:=Kg _ _
  refine hQ _ _ [(s.heap.push {cls:=.type "tuple",data:=.seq (ps.map fun(i:Nat)=>rawInt i).toArray}).objs.size,S,s.heap.objs.size] _ (ps.map fun p=>(es.getD p (0,.none)).2) es.size hlen
   (fun A' hA=>EZ hA _ S s.heap.objs.size (by rw[hz1];exact Js (JM hlt)) (by rw[hz1];exact Js (J8 _)) es ep t ps pp _ 0 rfl) ⟨⟨_,Jr _ rfl,rfl,rfl⟩,⟨o,Jd _ h1,hd,hf⟩,Jd _ (Jr _ rfl)⟩ ?_ ?_ (by rw[hz1];omega)
   (fun b o' e=>Jd _ (Jd _ e)) rfl rfl rfl
  ·have hpe:List.Perm (ps.map fun p=>es.getD p (0,.none)) es.toList:=by
    have z:=pp.map (fun p=>es.getD p (0,.none));rw[map_getD]at z;exact z
   have hel':ElemsOf (strKind prog w) (ps.map fun p=>es.getD p (0,.none)).toArray.toList:=hel.perm (by simpa using hpe);have z:=dG hel';simp only[JL]at z;refine⟨_,z,?_⟩;have z2:=(hpe.map fun e=>strOf e.2).trans hp;rw[JL]at z2;exact z2
  ·intro b hb';rw[Kg,hz1];rw[hz1]at hb';simp only[Jq,K7,MD]at hb';rcases hb' with rfl | rfl | rfl
   ·exact⟨J8 _,.inr (Kq _)⟩
   ·exact⟨JM (JM hlt),.inl rfl⟩
   ·exact⟨JM (J8 _),.inr (Jv _)⟩
 | false=>
  rw[I_ (by decide)];refine IZ (Ja ?_);refine IZ (LY ho hd hf ?_);refine IZ (Kb (Ja ⟨_,rfl,"set_iterator",_,⟨_,Jr _ rfl,rfl⟩,F.slot_next.lookup,?_⟩));have kp:∀b o',s.heap.get? b=some o'->(s.heap.push {cls:=.type "set_iterator",data:=.fields #[.int 0 0,.int 0 0,.ref S,.int es.size 0,.int ep 0]}).get? b=some o':=fun b o' e=>Jd _ e
  have fps:∀b ∈ [s.heap.objs.size,S],b < (s.heap.push {cls:=.type "set_iterator",data:=.fields #[.int 0 0,.int 0 0,.ref S,.int es.size 0,.int ep 0]}).objs.size/\(b=S\/s.heap.objs.size<=b):=fun b hb=>by
   rw[Kg];simp only[Jq,K7,MD]at hb;rcases hb with rfl | rfl
   ·exact⟨J8 _,.inr (Jv _)⟩
   ·exact⟨JM hlt,.inl rfl⟩
  have it:gi (s.heap.push {cls:=.type "set_iterator",data:=.fields #[.int 0 0,.int 0 0,.ref S,.int es.size 0,.int ep 0]}) s.heap.objs.size S (.int (0:Nat) 0) 0 es.size ep:=⟨_,Jr _ rfl,rfl,rfl⟩;cases hT:w.params.followText "set-order" with
  | true=>
   have pk:=fS (w.params.setOrder S ep) es;refine hQ _ s.heap.objs.size [s.heap.objs.size,S] _ _ es.size hlen (fun A' hA=>EX hA hT _ S (Js hlt) es ep t) ⟨⟨0,it⟩,hst.keep fun o e=>kp S o e⟩ ?_ fps (Jv _) kp rfl rfl rfl;have hel':ElemsOf (strKind prog w) (pickOrder (w.params.setOrder S ep) es).toList:=hel.perm pk;exact⟨_,dG hel',(pk.map _).trans hp⟩
  | false=>
   rw[hT]at hled q;have hl:t.led=true:=hled.resolve_left (by decide)
   have hn:es.size<=1:=by
    rcases hpl with h | h
    ·omega
    ·rw[h]at q;simp at q;exact q
   exact hQ _ s.heap.objs.size [s.heap.objs.size,S] _ _ es.size hlen (fun A' hA=>EY hA hT _ S (Js hlt) es ep t hn hl hf) ⟨⟨0,it,fun _=>rfl,fun _ _ c=>by omega⟩,hst.keep fun o e=>kp S o e⟩ ⟨_,dG hel,hp⟩ fps (Jv _) kp rfl rfl rfl
theorem AM:typeLookup (.type "set") "__len__" =pure (some (.builtin "set.__len__")):=by rw[LU,K8];kernel_rfl
theorem rj (hh:A.handled=none) {S:Addr} {τ:List Str} {Q:List Value->Shared->Prop} (hS:aQ prog w s.heap S τ)
  (hQ:∀s' vs ss,(∀ b o,s.heap.get? b=some o->s'.heap.get? b=some o)->s'.gens=s.gens->s'.os=s.os->s.toks<=s'.toks->StrsAre vs ss->List.Perm ss τ->Q vs s'):
  wpAny (model prog w) A (collect (.ref S)) Q E s:=by
 have hlt:S < s.heap.objs.size:=by obtain⟨o,_,_,_,ho,_⟩:=hS;exact Jk ho
 have hT:∀ (s₁:Shared),(∀ o,s.heap.get? S=some o->s₁.heap.get? S=some o)->s₁.TypeIs (.ref S) "set" :=fun s₁ k=>by obtain⟨o,_,_,_,ho,hex,_⟩:=hS;exact⟨o,k o ho,hex.1⟩
 have hbd:τ.length < scanBound:=by obtain⟨o,es,_,_,ho,_,_,_,hp,hb,_⟩:=hS;have z:=hp.length_eq;simp at z;omega
 unfold collect;refine IZ (wpAny_runValue (Ky Na ?_));rw[Kr Nb _];show wpAny _ A.in1 (newList [] >>= fun l=>again (.builtin "list.__iadd__" ⟨[l,.ref S],[]⟩)) _ _ s;refine IZ (Kb ?_);refine Ja ⟨Li LP _,Ky NJ ?_⟩;rw[Kr LP _];show wpAny _ A.in1 (Builtin.List.listExtendWith (.ref s.heap.objs.size) (.ref S) (.ref s.heap.objs.size)) _ _ _;unfold Builtin.List.listExtendWith;have hz1:(s.heap.push {cls:=.type "list",data:=.seq ([]:List Value).toArray}).objs.size=s.heap.objs.size + 1:=Kg _ _;have hL1:(s.heap.push {cls:=.type "list",data:=.seq ([]:List Value).toArray}).get? s.heap.objs.size=some {cls:=.type "list",data:=.seq ([]:List Value).toArray}:=Jr _ rfl;refine IZ (LL (hT _ fun o e=>Jd _ e) ?_);have h1:Builtin.List.listSameRef (.ref s.heap.objs.size) (.ref S)=false:=by simp only[Builtin.List.listSameRef];exact Md.mpr (KG hlt)
 have h2:(Value.type "set" == Value.type "list")=false:=by decide
 have h3:(Value.type "set" == Value.type "tuple")=false:=by decide
 simp only[h1,h2,h3,Ng,JT,KA];refine IZ (sh (s:={s with heap:=s.heap.push {cls:=.type "list",data:=.seq ([]:List Value).toArray}}) (hS.at fun o e=>Jd _ e) fun s₂ I fp St ord n hn W st hord hfp hI kp eg eo et=>?_);refine IZ (JQ ?_);have hT2:=hT s₂ fun o e=>kp _ _ (Jd _ e);unfold Builtin.List.listLengthHint;refine IZ (ML hT2 AM ?_)
 wp_delta
 refine IZ (KP (b:=true) hT2 (by rw[M0];kernel_rfl) ?_);show wpAny _ A.in1 (typeOf (Value.ref S) >>= _) _ _ _;refine IZ (LL hT2 ?_);refine Ja ?_;rw[Jc (by decide)];have hL2:=kp _ _ hL1
 have hLf:s.heap.objs.size ∉ fp:=fun hm=>by
  rcases(hfp _ hm).2 with e | e
  ·exact KG hlt e
  ·exact Nat.not_succ_le_self _ (hz1 ▸ e)
 refine IZ (Kn (IZ ?_));show wpAny _ A.in1 (updateSeq s.heap.objs.size (·.push .none) >>= fun _=>updateSeq s.heap.objs.size (·.pop)) _ _ _;refine IZ (Lf hL2 rfl ?_);have hL3:=JV (Obj.mapSeq (·.push Value.none)) hL2 rfl;refine Lf hL3 rfl ?_;have hL4:=JV (Obj.mapSeq (·.pop)) hL3 rfl
 have oth:∀b o,b ≠ s.heap.objs.size->s₂.heap.get? b=some o->((s₂.heap.update s.heap.objs.size (Obj.mapSeq (·.push Value.none))).update s.heap.objs.size (Obj.mapSeq (·.pop))).get? b=some o:=
  fun b o hb e=>(JR _ _ (J5 hb)).trans ((JR _ _ (J5 hb)).trans e)
 have W1:=(W A.in1.in1 (by simp[hh])).toS
 refine Ja ⟨Li Kt _,codeAny_extend_loopS ((W A.in1 (by simp[hh])).toS) (by rw[hn];exact KU hbd) _ hLf _ n 0 _ _ _ rfl (JZ _)
  ((W A.in1 (by simp[hh])).toS.frame 0 s₂ _ s₂.toks st (Jv _) fun b hb o e=>oth b o (fun h=>hLf (h ▸ hb)) e) hL4 (ItemsOf.nil _) fun s' acc' c' hm hS' hacc=>?_⟩
 show wpAny _ A (load s.heap.objs.size >>= _) _ _ s';refine IZ (wpAny_load hS' (Ja ?_));obtain⟨ss,hs1,hs2⟩:=hord
 have eq:acc'.toList=ord:=by
  have l1:ord.length=n:=by rw[hs1.len_eq,hs2.length_eq,hn]
  have l2:acc'.toList.length=n:=by rw[Jz];exact hacc.1
  refine List.ext_getElem? fun j=>?_
  by_cases hj:j < n
  ·have hj':j < acc'.size:=by rw[hacc.1];exact hj
   have z:=hacc.2 j acc'[j] (J1 hj');rw[z,KO,J1 hj']
  ·rw[MH (by omega),MH (by omega)]
 rw[eq];refine hQ s' ord ss (fun b o e=>?_) (hm.gens.trans eg) (hm.os.trans eo) (JB (Mn et.symm) hm.toks) hs1 hs2;have hlb:=Jk e;have hbL:b ≠ s.heap.objs.size:=Js hlb;have hbI:b ≠ I:=Js (Jw (JM hlb) (JB (Mn hz1.symm) hI));exact hm.heap b o (by simp only[Jq,K7,MD,not_or];exact⟨hbL,hbI⟩) (oth b o hbL (kp b o (Jd _ e)))
theorem rY (hh:A.handled=none) {S:Addr} {τ:List Str} (h64:τ.length < 64) {Q:NT} (hS:aQ prog w s.heap S τ)
  (hQ:∀ (s':Shared) (l:Addr) (out:NW) (ss:List Str) (e:Nat),(∀ b o,s.heap.get? b=some o->s'.heap.get? b=some o)->s'.gens=s.gens->s'.os=s.os->s.toks<=s'.toks->S < l->
   s'.heap.get? l=some (seqObj "list" out e)->StrsAre out.toList ss->List.Perm ss τ->sortedS ss=true->Q (.ref l) s'):
  wpAny (model prog w) A (call (.builtin "sorted") [.ref S]) Q E s:=by
 have hlt:S < s.heap.objs.size:=by obtain⟨o,_,_,_,ho,_⟩:=hS;exact Jk ho
 refine Mi kind_sorted plain_sorted entry_sorted (args_sorted1 _) ?_;unfold Builtin.«sorted»;refine IZ (m:=checkCount "sorted" 1 1 _) (Ja ?_);refine IZ (rj (by simp[hh]) hS fun s' vs ss kp eg eo et h1 h2=>?_);have hl:vs.length < 64:=by rw[h1.len_eq,h2.length_eq];exact h64
 refine IZ (L_ ?_);have hoL:(s'.heap.push (seqObj "list" vs.toArray 0)).get? s'.heap.objs.size=some (seqObj "list" vs.toArray 0):=Jr _ rfl;show wpAny _ _ _ _ _ {s' with heap:=s'.heap.push (seqObj "list" vs.toArray 0)};refine IZ (JQ (Kc M3 ⟨_,hoL,rfl⟩ MM (list_sort_treeK strKind_oneLt hoL h1.keysOf (fun v₁ v₂ rest e=>keyKind_strs (by rw[<-e];exact h1)) hl fun st' a1 a2=>⟨_,rfl,?_⟩) (args_list_sort _)));obtain⟨ss',b1,b2,b3⟩:=sorted_out_str h1 a1 a2;obtain⟨e,he⟩:=sortedHeap_at (out:=(arrOf st').map (·.2)) hoL;have hge:S < s'.heap.objs.size:=by obtain⟨o,_,_,_,ho,_⟩:=hS;exact Jk (kp S o ho)
 refine Ja ⟨_,rfl,hQ _ s'.heap.objs.size _ ss' e (fun b o q=>?_) eg eo et hge he b1 (b2.trans h2) b3⟩;have hb:=Jk (kp b o q);rw[sortedHeap_old (Js hb) (by rw[Kg];exact JM hb)];exact Jd _ (kp b o q)
end iter
open PySem PySem.Spec PyProof.Rows L2
section dict
variable {prog:Program} {w:World} {A:Around} {E:NT} {s:Shared}
theorem zT:typeLookup (.type "dict") "__len__" =pure (some (.builtin "dict.__len__")):=by rw[LU,K8];kernel_rfl
theorem kB:∀ (ts:List Str) (vs:List Value),vs.length=ts.length->(∀ (j:Nat) (x:Str),ts[j]?=some x->∃t,vs[j]?=some (Value.str x t))->StrsAre vs ts
 | [],[],_,_=>.nil
 | x::ts,v::vs,hl,h=>by
  obtain⟨t,e⟩:=h 0 x rfl;have e':v=Value.str x t:=JE (by simpa using e);subst e';exact .cons x t (kB ts vs (by simpa using hl) fun j y e=>by simpa using h (j + 1) y (by simpa using e))
 | [],_::_,hl,_=>by simp at hl
 | _::_,[],hl,_=>by simp at hl
theorem o9 (hh:A.handled=none) {S:Addr} {kvs:List (Key × Value)} {ts:List Str} {Q:List Value->Shared->Prop} (hd:(S == sysModules)=false) (hS:s.heap.DictOf (aL prog w) S kvs) (hk:kvs.map (·.1)=ts.map Sum.inr) (hn:kvs.length<=sizeLine)
  (hQ:∀s' vs,(∀ b o,s.heap.get? b=some o->s'.heap.get? b=some o)->s'.gens=s.gens->s'.os=s.os->s.toks<=s'.toks->s.heap.objs.size<=s'.heap.objs.size->StrsAre vs ts->Q vs s'):
  wpAny (model prog w) A (collect (.ref S)) Q E s:=by
 obtain⟨ep,hm⟩:=hS.dictAt;have hlt:S < s.heap.objs.size:=hm.lt_size;unfold collect;refine IZ (wpAny_runValue (Ky Na ?_));rw[Kr Nb _];show wpAny _ A.in1 (newList [] >>= fun l=>again (.builtin "list.__iadd__" ⟨[l,.ref S],[]⟩)) _ _ s;refine IZ (Kb ?_);refine Ja ⟨Li LP _,Ky NJ ?_⟩;rw[Kr LP _];show wpAny _ A.in1 (Builtin.List.listExtendWith (.ref s.heap.objs.size) (.ref S) (.ref s.heap.objs.size)) _ _ _;unfold Builtin.List.listExtendWith;have hz1:(s.heap.push {cls:=.type "list",data:=.seq ([]:List Value).toArray}).objs.size=s.heap.objs.size + 1:=Kg _ _;have hL1:(s.heap.push {cls:=.type "list",data:=.seq ([]:List Value).toArray}).get? s.heap.objs.size=some {cls:=.type "list",data:=.seq ([]:List Value).toArray}:=Jr _ rfl;have hm1:=hm.push {cls:=.type "list",data:=.seq ([]:List Value).toArray};refine IZ (LL (s:={s with heap:=s.heap.push {cls:=.type "list",data:=.seq ([]:List Value).toArray}}) hm1.dictOf.typeIs ?_);have h1:Builtin.List.listSameRef (.ref s.heap.objs.size) (.ref S)=false:=by simp only[Builtin.List.listSameRef];exact Md.mpr (KG hlt)
 have h2:(Value.type "dict" == Value.type "list")=false:=by decide
 have h3:(Value.type "dict" == Value.type "tuple")=false:=by decide
 simp only[h1,h2,h3,Ng,JT,KA];refine IZ (wpAny_pyIter_dict (s:={s with heap:=s.heap.push {cls:=.type "list",data:=.seq ([]:List Value).toArray}}) hd hm1 ?_);have hm2:=hm1.push {cls:=.type "dict_keyiterator",data:=.fields #[.ref S,.int 0 0,.int kvs.length 0,.int ep 0]}
 have hit2:((s.heap.push {cls:=.type "list",data:=.seq ([]:List Value).toArray}).push {cls:=.type "dict_keyiterator",data:=.fields #[.ref S,.int 0 0,.int kvs.length 0,.int ep 0]}).IsKeyIter (s.heap.push {cls:=.type "list",data:=.seq ([]:List Value).toArray}).objs.size S 0 kvs.length ep:=
  ⟨_,Jr _ rfl,rfl,rfl⟩
 have kp:∀b o,s.heap.get? b=some o->((s.heap.push {cls:=.type "list",data:=.seq ([]:List Value).toArray}).push {cls:=.type "dict_keyiterator",data:=.fields #[.ref S,.int 0 0,.int kvs.length 0,.int ep 0]}).get? b=some o:=fun b o e=>Jd _ (Jd _ e);have hL2:((s.heap.push {cls:=.type "list",data:=.seq ([]:List Value).toArray}).push {cls:=.type "dict_keyiterator",data:=.fields #[.ref S,.int 0 0,.int kvs.length 0,.int ep 0]}).get? s.heap.objs.size=some {cls:=.type "list",data:=.seq ([]:List Value).toArray}:=Jd _ hL1;have hne:S ≠ (s.heap.push {cls:=.type "list",data:=.seq ([]:List Value).toArray}).objs.size:=by rw[hz1];exact Js (JM hlt)
 generalize eI:(s.heap.push {cls:=.type "list",data:=.seq ([]:List Value).toArray}).objs.size=I at hit2 hne ⊢;generalize eh:((s.heap.push {cls:=.type "list",data:=.seq ([]:List Value).toArray}).push {cls:=.type "dict_keyiterator",data:=.fields #[.ref S,.int 0 0,.int kvs.length 0,.int ep 0]})=h₂ at hm2 hit2 kp hL2 ⊢;have hI:I=s.heap.objs.size + 1:=by rw[<-eI,hz1]
 refine IZ (JQ ?_);have hT2:Shared.TypeIs {s with heap:=h₂} (.ref S) "dict" :=hm2.dictOf.typeIs;unfold Builtin.List.listLengthHint;refine IZ (ML hT2 zT ?_)
 wp_delta
 refine IZ (KP (b:=true) hT2 (by rw[M0];kernel_rfl) ?_);show wpAny _ A.in1 (typeOf (Value.ref S) >>= _) _ _ _;refine IZ (LL hT2 ?_);refine Ja ?_;rw[Jc (by decide)]
 have hLf:s.heap.objs.size ∉ [I,S]:=fun hmm=>by
  rcases Jq.mp hmm with e | e
  ·exact Js (J8 _) (e.trans hI)
  ·exact KG hlt (Jo.mp e)
 refine IZ (Kn (IZ ?_));show wpAny _ A.in1 (updateSeq s.heap.objs.size (·.push .none) >>= fun _=>updateSeq s.heap.objs.size (·.pop)) _ _ _;refine IZ (Lf hL2 rfl ?_);have hL3:=JV (Obj.mapSeq (·.push Value.none)) hL2 rfl;refine Lf hL3 rfl ?_;have hL4:=JV (Obj.mapSeq (·.pop)) hL3 rfl
 have oth:∀b o,b ≠ s.heap.objs.size->h₂.get? b=some o->((h₂.update s.heap.objs.size (Obj.mapSeq (·.push Value.none))).update s.heap.objs.size (Obj.mapSeq (·.pop))).get? b=some o:=
  fun b o hb e=>(JR _ _ (J5 hb)).trans ((JR _ _ (J5 hb)).trans e)
 have W:=(Walks.dictKeys (prog:=prog) (w:=w) (knd:=aL prog w) (A:=A.in1) (by simp[hh]) I S hne kvs ep).toS
 refine Ja ⟨Li Kt _,codeAny_extend_loopS W hn _ hLf _ kvs.length 0 _ _ _ rfl (JZ _)
  (W.frame 0 {s with heap:=h₂} _ s.toks ⟨hit2,hm2⟩ (Jv _) fun b hb o e=>oth b o (fun h=>hLf (h ▸ hb)) e) hL4 (ItemsOf.nil _) fun s' acc' c' hmv hS' hacc=>?_⟩
 show wpAny _ A (load s.heap.objs.size >>= _) _ _ s';refine IZ (wpAny_load hS' (Ja ?_));have mJ:ts.length=kvs.length:=by have:=congrArg List.length hk;simpa using this.symm
 refine hQ s' acc'.toList (fun b o e=>?_) hmv.gens hmv.os hmv.toks (Lo (Jk hS')) (kB ts _ (by rw[Jz,hacc.1,mJ]) fun j x ex=>?_)
 ·have hlb:=Jk e;have hbL:b ≠ s.heap.objs.size:=Js hlb;have hbI:b ≠ I:=by rw[hI];exact Js (JM hlb)
  exact hmv.heap b o (by simp only[Jq,K7,MD,not_or];exact⟨hbL,hbI⟩) (oth b o hbL (kp b o e))
 ·have hj:j < ts.length:=(Ju.mp ex).1;have hj':j < acc'.size:=by rw[hacc.1,<-mJ];exact hj
  obtain⟨k,y,q1,q2⟩:=hacc.2 j acc'[j] (J1 hj');have q3:(kvs.map (·.1))[j]?=some k:=by rw[Jy,q1];rfl
  rw[hk,Jy,ex]at q3;obtain rfl:Sum.inr x=k:=JE q3;rcases bo (show k_ (Sum.inr x) acc'[j]=true from q2)with ⟨i,t,e1,e2⟩ | ⟨z,t,e1,e2⟩
  ·cases e1
  ·cases e1
   exact⟨t,by rw[KO,J1 hj',e2]⟩
theorem p5 (hh:A.handled=none) {S:Addr} {kvs:List (Key × Value)} {ts:List Str} (h64:ts.length < 64) {Q:NT} (hd:(S == sysModules)=false) (hS:s.heap.DictOf (aL prog w) S kvs) (hk:kvs.map (·.1)=ts.map Sum.inr)
  (hQ:∀ (s':Shared) (l:Addr) (out:NW) (ss:List Str) (e:Nat),(∀ b o,s.heap.get? b=some o->s'.heap.get? b=some o)->s'.gens=s.gens->s'.os=s.os->s.toks<=s'.toks->s.heap.objs.size<=l->
   s'.heap.get? l=some (seqObj "list" out e)->StrsAre out.toList ss->List.Perm ss ts->sortedS ss=true->Q (.ref l) s'):
  wpAny (model prog w) A (call (.builtin "sorted") [.ref S]) Q E s:=by
 have hlt:S < s.heap.objs.size:=by obtain⟨o,_,_,ho,_⟩:=hS;exact Jk ho
 have mJ:ts.length=kvs.length:=by have:=congrArg List.length hk;simpa using this.symm
 refine Mi kind_sorted plain_sorted entry_sorted (args_sorted1 _) ?_;unfold Builtin.«sorted»;refine IZ (m:=checkCount "sorted" 1 1 _) (Ja ?_);refine IZ (o9 (by simp[hh]) hd hS hk (by rw[<-mJ,Jm];omega) fun s' vs kp eg eo et hge h1=>?_);have hl:vs.length < 64:=by rw[h1.len_eq];exact h64
 refine IZ (L_ ?_);have hoL:(s'.heap.push (seqObj "list" vs.toArray 0)).get? s'.heap.objs.size=some (seqObj "list" vs.toArray 0):=Jr _ rfl;show wpAny _ _ _ _ _ {s' with heap:=s'.heap.push (seqObj "list" vs.toArray 0)};refine IZ (JQ (Kc M3 ⟨_,hoL,rfl⟩ MM (list_sort_treeK strKind_oneLt hoL h1.keysOf (fun v₁ v₂ rest e=>keyKind_strs (by rw[<-e];exact h1)) hl fun st' a1 a2=>⟨_,rfl,?_⟩) (args_list_sort _)));obtain⟨ss',b1,b2,b3⟩:=sorted_out_str h1 a1 a2;obtain⟨e,he⟩:=sortedHeap_at (out:=(arrOf st').map (·.2)) hoL;refine Ja ⟨_,rfl,hQ _ s'.heap.objs.size _ ss' e (fun b o q=>?_) eg eo et hge he b1 b2 b3⟩;have hb:=Jk (kp b o q);rw[sortedHeap_old (Js hb) (by rw[Kg];exact JM hb)];exact Jd _ (kp b o q)
noncomputable def aO (xs:Array (Str × Tok)):NW:=xs.map fun p=>.str p.1 p.2
noncomputable def bH (xs:Array (Str × Tok)) (i:Nat):Str:=(xs[i]?.map (·.1)).getD Str.empty
theorem jA {xs:Array (Str × Tok)} {i:Nat} {v:Value} (h:(aO xs)[i]?=some v):∃t,v=.str (bH xs i) t:=by
 simp only[aO,Array.getElem?_map,JF]at h;obtain⟨p,hp,rfl⟩:=h;exact⟨p.2,by simp[bH,hp]⟩
theorem rp {P:Nat->Value->Prop} (val:Nat->Str) (hval:∀i v,P i v->∃t,v=.str (val i) t):
  CmpOf prog w A .Lt P (fun i j=>decide ((val i).cps.toList < (val j).cps.toList)):=fun i j vi vj s Q E hi hj h=>by
 obtain⟨t,rfl⟩:=hval i vi hi;obtain⟨u,rfl⟩:=hval j vj hj;exact M4 h
theorem oJ {a b:Str} {t u:Tok} {Q:NT} (hh:A.handled=none)
  (h:∀h' tk,(∀ c o,s.heap.get? c=some o->h'.get? c=some o)->Q (if b.cps.toList < a.cps.toList then .str b u else .str a t) {s with heap:=h',toks:=tk}):
  wpAny (model prog w) A (call (.builtin "min") [.str a t,.str b u]) Q E s:=by
 have hT:(s.heap.push {cls:=.type "tuple",data:=.seq #[.str a t,.str b u]}).IsTuple s.heap.objs.size (aO #[(a,t),(b,u)]):=⟨_,Jr _ rfl,rfl,0,by simp[aO]⟩;refine call_min_two (Nc hT ?_);have hsz:(s.heap.push {cls:=.type "tuple",data:=.seq #[.str a t,.str b u]}).objs.size=s.heap.objs.size + 1:=Kg ..
 refine⟨_,[_,s.heap.objs.size],[_],_,_,_,_,rfl,Walks.tuple (A:=A.in1) hh _ s.heap.objs.size (by rw[hsz];exact Js (J8 _)) (aO #[(a,t),(b,u)]),
  ⟨⟨_,Jr _ rfl,rfl,rfl⟩,hT.push _⟩,fun c hc=>?_,by simp[aO],rp (bH #[(a,t),(b,u)]) (fun _ _=>jA),fun v h' tk hP hk=>?_⟩
 ·show c < ((s.heap.push _).push _).objs.size;rw[Kg,hsz];rcases Jq.mp hc with rfl | hc
  ·rw[hsz];exact J8 _
  ·rcases Jq.mp hc with rfl | hc
   ·exact JM (J8 _)
   ·cases hc
 ·have hold:∀c o,s.heap.get? c=some o->h'.get? c=some o:=fun c o e=>by
   refine hk c o (fun hm=>?_) (Jd _ (Jd _ e));rcases Jq.mp hm with e1 | hm
   ·have:=Jk e;rw[e1,hsz]at this;exact Ly _ (Nat.lt_of_succ_lt this)
   ·cases hm
  have:=h h' tk hold
  have hv:v=if b.cps.toList < a.cps.toList then Value.str b u else Value.str a t:=by
   have hP':(aO #[(a,t),(b,u)])[argBest (fun i j=>decide ((bH #[(a,t),(b,u)] i).cps.toList < (bH #[(a,t),(b,u)] j).cps.toList)) 1]?=some v:=by
    have hsz2:(aO #[(a,t),(b,u)]).size - 1=1:=by simp[aO]
    rw[<-hsz2];exact hP
   by_cases hba:b.cps.toList < a.cps.toList
   ·have e:argBest (fun i j=>decide ((bH #[(a,t),(b,u)] i).cps.toList < (bH #[(a,t),(b,u)] j).cps.toList)) 1=1:=by simp[argBest,bH,hba]
    rw[e]at hP';simpa[aO,hba]using hP'.symm
   ·have e:argBest (fun i j=>decide ((bH #[(a,t),(b,u)] i).cps.toList < (bH #[(a,t),(b,u)] j).cps.toList)) 1=0:=by simp[argBest,bH,hba]
    rw[e]at hP';simpa[aO,hba]using hP'.symm
  rw[hv];exact this
end dict
end PySem.Sg
namespace Sw
open PySem PySem.Spec PyProof.Rows L2
noncomputable abbrev Mo:=Addr->Option HO
noncomputable def rd (M:Mo) (H:Hp) (a:Addr):Option HO:=match H a with
 | some (.frz _ u)=>some u
 | some o=>some o
 | none=>M a
noncomputable def ax (K:PySem.W.Frag) (M:Mo):Prop:=∀a o,M a=some o->match o with
 | .lst xs=>∃ (o:Obj) (au:NW) (n:Nat),K.lookup a=some o/\o.cls=.type "list" /\o.dict=none/\o.data=.seq au n/\au.size<=sizeLine/\Vals xs au.toList
 | .tup xs=>∃ (o:Obj) (au:NW) (n:Nat),K.lookup a=some o/\o.cls=.type "tuple" /\o.data=.seq au n/\au.size<=sizeLine/\Vals xs au.toList
 | _=>False
theorem kO {M:Mo} {H:Hp} {a:Addr} {u:HO} (h:rd M H a=some u):Rd H a u\/(H a=none/\M a=some u):=by
 unfold rd at h;cases e:H a with
 | none=>rw[e]at h;exact .inr ⟨rfl,h⟩
 | some o=>
  rw[e]at h;cases o<;>first | (injection h with h;subst h;exact .inl (.inl e)) | (injection h with h;subst h;exact .inl (.inr ⟨_,e⟩))
theorem bf {K:PySem.W.Frag} {M:Mo} (m:ax K M) {H:Hp} {a:Addr} {xs:List V} (h:rd M H a=some (.lst xs)):jv K H a xs:=by
 rcases kO h with h | ⟨_,h⟩
 ·exact .inl h
 ·exact .inr (m a _ h)
theorem bO {K:PySem.W.Frag} {M:Mo} (m:ax K M) {H:Hp} {a:Addr} {xs:List V} (h:rd M H a=some (.tup xs)):rD K H a xs:=by
 rcases kO h with h | ⟨_,h⟩
 ·exact .inl h
 ·exact .inr (m a _ h)
noncomputable def allM {α:Type} (f:V->Option α):List V->Option (List α)
 | []=>some []
 | x::r=>match f x,allM f r with
  | some a,some l=>some (a::l)
  | _,_=>none
noncomputable def data (M:Mo) (H:Hp):Nat->V->Option PyData
 | _,.aD=>some .none
 | _,.bl b=>some (.bool b)
 | _,.int i=>some (.int i)
 | _,.str x=>some (.str x)
 | n + 1,.ref p=>match rd M H p with
  | some (.lst xs)=>(allM (data M H n) xs).map .list
  | some (.tup xs)=>(allM (data M H n) xs).map .tuple
  | _=>none
 | _,_=>none
theorem allM_cons {α:Type} {f:V->Option α} {x:V} {r:List V} {l:List α} (h:allM f (x::r)=some l):∃a t,f x=some a/\allM f r=some t/\l=a::t:=by
 unfold allM at h;split at h
 ·rename_i a t h1 h2;exact⟨a,t,h1,h2,(JE h).symm⟩
 ·cases h
theorem allM_nil {α:Type} {f:V->Option α} {l:List α} (h:allM f []=some l):l=[]:=(JE h).symm
theorem lO {α:Type} {f:V->Option α}:∀ {xs:List V} {bs:List α} {i:Nat} {x:V},allM f xs=some bs->xs[i]?=some x->∃b,bs[i]?=some b/\f x=some b
 | [],bs,i,x,h,e=>by simp at e
 | y::r,bs,i,x,h,e=>by
  obtain⟨a,t,h1,h2,rfl⟩:=allM_cons h;cases i with
  | zero=>
   simp at e;subst e;exact⟨a,rfl,h1⟩
  | succ i=>exact lO (i:=i) h2 (by simpa using e)
theorem cG {α:Type} {f:V->Option α}:∀ {xs:List V} {bs:List α},allM f xs=some bs->bs.length=xs.length
 | [],bs,h=>by rw[allM_nil h];rfl
 | y::r,bs,h=>by
  obtain⟨a,t,h1,h2,rfl⟩:=allM_cons h;simp[cG h2]
theorem Vals.back {xs:List V} {us:List Value} {i:Nat} {u:Value} (r:Vals xs us) (e:us[i]?=some u):∃x,xs[i]?=some x/\RelV x u:=by
 cases h:xs[i]? with
 | none=>
  have:=Vals.none_of r h;rw[this]at e;cases e
 | some x=>
  obtain⟨u',e',rx⟩:=Vals.get r h;rw[e']at e;cases e
  exact⟨x,rfl,rx⟩
theorem dz:∀ {xs:List PyData},(∀ d ∈ xs,PyData.eqv d d=true)->PyData.eqvAll xs xs=true
 | [],_=>rfl
 | x::r,h=>by
  rw[PyData.eqvAll,h x Jj,dz fun d hd=>h d (Ji _ hd)];rfl
theorem kY {α:Type} {f:V->Option α}:∀ {xs:List V} {bs:List α} {b:α},allM f xs=some bs->b ∈ bs->∃x ∈ xs,f x=some b
 | [],bs,b,h,hb=>by rw[allM_nil h]at hb;cases hb
 | y::r,bs,b,h,hb=>by
  obtain⟨a,t,h1,h2,rfl⟩:=allM_cons h;rcases Jq.mp hb with rfl | hb
  ·exact⟨y,Jj,h1⟩
  ·obtain⟨x,hx,e⟩:=kY h2 hb;exact⟨x,Ji _ hx,e⟩
theorem nQ {M:Mo} {H:Hp}:∀ (n:Nat) (x:V) (d:PyData),data M H n x=some d->PyData.eqv d d=true:=by
 intro n
 induction n with
 | zero=>
  intro x d h;cases x<;>first | (cases h;simp[PyData.eqv]) | cases h
 | succ n ih=>
  intro x d h;cases x with
  | ref p=>
   unfold data at h;split at h
   ·obtain⟨l,hl,rfl⟩:=JF.mp h;rw[PyData.eqv]
    exact dz fun d hd=>by
     obtain⟨x,_,e⟩:=kY hl hd;exact ih x d e
   ·obtain⟨l,hl,rfl⟩:=JF.mp h;rw[PyData.eqv]
    exact dz fun d hd=>by
     obtain⟨x,_,e⟩:=kY hl hd;exact ih x d e
   ·cases h
  | _=>first | (cases h;simp[PyData.eqv]) | cases h
inductive Lies (M:Mo) (H:Hp) (h:Heap) (n:Nat):V->Value->PyData->Prop where
 | aD:Lies M H h n .aD .none .none
 | bl (b:Bool):Lies M H h n (.bl b) (.bool b) (.bool b)
 | int (i:Int) (t:Tok):Lies M H h n (.int i) (.int i t) (.int i)
 | str (x:Str) (t:Tok):Lies M H h n (.str x) (.str x t) (.str x)
 | lst {p:Addr} {xs:List V} {au:List Value} {l:List PyData} {m:Nat}:n=m + 1->h.IsList p au.toArray->Vals xs au->allM (data M H m) xs=some l->Lies M H h n (.ref p) (.ref p) (.list l)
 | tup {p:Addr} {xs:List V} {au:List Value} {l:List PyData} {m:Nat}:n=m + 1->h.IsTuple p au.toArray->Vals xs au->allM (data M H m) xs=some l->Lies M H h n (.ref p) (.ref p) (.tuple l)
section
open PySem.SeqAt
variable {X:Cx} {M:Mo} {pins:NU} {σ:L2.St} {H:Hp} {s:Shared}
theorem lies (m:ax X.K M) (I:Inv X pins σ H s) {n:Nat} {x:V} {v:Value} {d:PyData} (rx:RelV x v) (h:data M H n x=some d):Lies M H s.heap n x v d:=by
 cases x with
 | aD=>cases (show v=Value.none from rx);cases n<;>(cases h;exact .aD)
 | bl b=>cases (show v=Value.bool b from rx);cases n<;>(cases h;exact .bl b)
 | int i=>obtain⟨t,e⟩:=(show ∃t,v=Value.int i t from rx);subst e;cases n<;>(cases h;exact .int i t)
 | str x=>obtain⟨t,e⟩:=(show ∃t,v=Value.str x t from rx);subst e;cases n<;>(cases h;exact .str x t)
 | ref p=>
  cases (show v=Value.ref p from rx)
  cases n with
  | zero=>cases h
  | succ n=>
   unfold data at h;split at h
   ·rename_i xs e;obtain⟨l,hl,rfl⟩:=JF.mp h;obtain⟨au,rv,pl,_⟩:=I.list (bf m e);exact .lst rfl pl.isList rv hl
   ·rename_i xs e;obtain⟨l,hl,rfl⟩:=JF.mp h;obtain⟨au,rv,pl,_⟩:=I.tuple (bO m e);exact .tup rfl pl rv hl
   ·cases h
 | _=>cases n<;>cases h
theorem fX {n:Nat} {A:Around} (ih:∀ (x y:V) (v u:Value) (d e:PyData),RelV x v->RelV y u->data M H n x=some d->data M H n y=some e->EqAt A s v u (PyData.eqv d e))
  {xs ys:List V} {vs us:List Value} {l l':List PyData} (r1:Vals xs vs) (r2:Vals ys us) (h1:allM (data M H n) xs=some l) (h2:allM (data M H n) ys=some l'):
  ∀j (q1:j < vs.toArray.size) (q2:j < us.toArray.size),EqAt A s vs.toArray[j] us.toArray[j] (pairEq l l' j):=by
 intro j q1 q2;have q1':j < vs.length:=by simpa using q1
 have q2':j < us.length:=by simpa using q2
 obtain⟨x,ex,rx⟩:=Vals.back r1 (Je q1');obtain⟨y,ey,ry⟩:=Vals.back r2 (Je q2');obtain⟨d,ed,fd⟩:=lO h1 ex;obtain⟨e,ee,fe⟩:=lO h2 ey;have:=ih x y _ _ d e rx ry fd fe;show EqAt A s vs.toArray[j] us.toArray[j] (PyData.eqv (l.getD j .none) (l'.getD j .none));rw[KH,KH,ed,ee];simpa using this
theorem qh {n:Nat} {A:Around} (hu:A.units < cLine) (ih:∀ (x y:V) (v u:Value) (d e:PyData),RelV x v->RelV y u->data M H n x=some d->data M H n y=some e->EqAt A.in1 s v u (PyData.eqv d e))
  {p q:Addr} {xs ys:List V} {vs us:List Value} {l l':List PyData} (hp:s.heap.IsList p vs.toArray) (hq:s.heap.IsList q us.toArray) (r1:Vals xs vs) (r2:Vals ys us) (h1:allM (data M H n) xs=some l) (h2:allM (data M H n) ys=some l'):
  RcAt A s (.ref p) (.ref q) (PyData.eqvAll l l')/\RcNeAt A s (.ref p) (.ref q) (!PyData.eqvAll l l'):=by
 have n1:vs.length=l.length:=by rw[cG h1];exact r1.length.symm
 have n2:us.length=l'.length:=by rw[cG h2];exact r2.length.symm
 by_cases hz:l.length=l'.length
 ·have hs:vs.toArray.size=us.toArray.size:=by simp;omega
  have e1:=RcAt.lists hp hq hs hu (fX ih r1 r2 h1 h2);have e2:=RcNeAt.lists hp hq hs hu (fX ih r1 r2 h1 h2);rw[Jp,n1,eqvAll_same_length hz]at e1 e2;exact⟨e1,e2⟩
 ·have hs:(vs.toArray.size != us.toArray.size)=true:=by simp;omega
  rw[eqvAll_other_length hz];exact⟨RcAt.lists_lengths hp hq hs hu,RcNeAt.lists_lengths hp hq hs hu⟩
theorem nh {n:Nat} {A:Around} (hu:A.units < cLine) (ih:∀ (x y:V) (v u:Value) (d e:PyData),RelV x v->RelV y u->data M H n x=some d->data M H n y=some e->EqAt A.in1 s v u (PyData.eqv d e))
  {p q:Addr} {xs ys:List V} {vs us:List Value} {l l':List PyData} (hp:s.heap.IsTuple p vs.toArray) (hq:s.heap.IsTuple q us.toArray) (r1:Vals xs vs) (r2:Vals ys us) (h1:allM (data M H n) xs=some l) (h2:allM (data M H n) ys=some l'):
  RcAt A s (.ref p) (.ref q) (PyData.eqvAll l l')/\RcNeAt A s (.ref p) (.ref q) (!PyData.eqvAll l l'):=by
 have n1:vs.length=l.length:=by rw[cG h1];exact r1.length.symm
 have n2:us.length=l'.length:=by rw[cG h2];exact r2.length.symm
 have e1:=RcAt.tuples hp hq hu (fX ih r1 r2 h1 h2);have e2:=RcNeAt.tuples hp hq hu (fX ih r1 r2 h1 h2);rw[Jp,Jp,n1,n2,eqvAll_eq]at e1 e2;exact⟨e1,e2⟩
theorem qg {n:Nat} {A:Around} {p q:Addr} {d e:PyData} (h1:data M H n (.ref p)=some d) (h2:data M H n (.ref q)=some e) (h:RcAt A s (.ref p) (.ref q) (PyData.eqv d e)):EqAt A s (.ref p) (.ref q) (PyData.eqv d e):=by
 by_cases hpq:p=q
 ·subst hpq;have hd:=h1.symm.trans h2;cases hd
  rw[nQ _ _ _ h1];exact EqAt.same _
 ·exact EqAt.of_refs hpq h
theorem jk (m:ax X.K M) (I:Inv X pins σ H s):∀ (n:Nat) (A:Around) (x y:V) (v u:Value) (d e:PyData),A.units + n < cLine->RelV x v->RelV y u->data M H n x=some d->data M H n y=some e->EqAt A s v u (PyData.eqv d e):=by
 intro n
 induction n with
 | zero=>
  intro A x y v u d e hu rx ry h1 h2;cases lies m I rx h1 with
  | aD=>
   cases lies m I ry h2 with
   | aD=>exact EqAt.same _
   | bl b2=>exact EqAt.none_bool b2
   | int i2 t2=>exact EqAt.none_int i2 t2
   | str z2 t2=>exact EqAt.none_str z2 t2
   | lst z2 hl2 r2 a2=>exact absurd z2 (by omega)
   | tup z2 hl2 r2 a2=>exact absurd z2 (by omega)
  | bl b1=>
   cases lies m I ry h2 with
   | aD=>exact EqAt.bool_none b1
   | bl b2=>exact EqAt.bool_bool b1 b2
   | int i2 t2=>exact EqAt.bool_int b1 i2 t2
   | str z2 t2=>exact EqAt.bool_str b1 z2 t2
   | lst z2 hl2 r2 a2=>exact absurd z2 (by omega)
   | tup z2 hl2 r2 a2=>exact absurd z2 (by omega)
  | int i1 t1=>
   cases lies m I ry h2 with
   | aD=>exact EqAt.int_none i1 t1
   | bl b2=>exact EqAt.int_bool i1 t1 b2
   | int i2 t2=>exact EqAt.int_int i1 t1 i2 t2
   | str z2 t2=>exact EqAt.int_str i1 t1 z2 t2
   | lst z2 hl2 r2 a2=>exact absurd z2 (by omega)
   | tup z2 hl2 r2 a2=>exact absurd z2 (by omega)
  | str z1 t1=>
   cases lies m I ry h2 with
   | aD=>exact EqAt.str_none z1 t1
   | bl b2=>exact EqAt.str_bool z1 t1 b2
   | int i2 t2=>exact EqAt.str_int z1 t1 i2 t2
   | str z2 t2=>exact EqAt.str_str z1 t1 z2 t2
   | lst z2 hl2 r2 a2=>exact absurd z2 (by omega)
   | tup z2 hl2 r2 a2=>exact absurd z2 (by omega)
  | lst z1 hl1 r1 a1=>
   exact absurd z1 (by omega)
  | tup z1 hl1 r1 a1=>
   exact absurd z1 (by omega)
 | succ n ih=>
  intro A x y v u d e hu rx ry h1 h2;have hu0:A.units < cLine:=by omega
  have ih1:∀ (x y:V) (v u:Value) (d e:PyData),RelV x v->RelV y u->data M H n x=some d->data M H n y=some e->EqAt A.in1 s v u (PyData.eqv d e):=
   fun x y v u d e=>ih A.in1 x y v u d e (by show A.units + 1 + n < cLine;omega)
  cases lies m I rx h1 with
  | aD=>
   cases lies m I ry h2 with
   | aD=>exact EqAt.same _
   | bl b2=>exact EqAt.none_bool b2
   | int i2 t2=>exact EqAt.none_int i2 t2
   | str z2 t2=>exact EqAt.none_str z2 t2
   | lst z2 hl2 r2 a2=>exact EqAt.none_list hl2 hu0
   | tup z2 hl2 r2 a2=>exact EqAt.none_tuple hl2 hu0
  | bl b1=>
   cases lies m I ry h2 with
   | aD=>exact EqAt.bool_none b1
   | bl b2=>exact EqAt.bool_bool b1 b2
   | int i2 t2=>exact EqAt.bool_int b1 i2 t2
   | str z2 t2=>exact EqAt.bool_str b1 z2 t2
   | lst z2 hl2 r2 a2=>exact EqAt.bool_list b1 hl2 hu0
   | tup z2 hl2 r2 a2=>exact EqAt.bool_tuple b1 hl2 hu0
  | int i1 t1=>
   cases lies m I ry h2 with
   | aD=>exact EqAt.int_none i1 t1
   | bl b2=>exact EqAt.int_bool i1 t1 b2
   | int i2 t2=>exact EqAt.int_int i1 t1 i2 t2
   | str z2 t2=>exact EqAt.int_str i1 t1 z2 t2
   | lst z2 hl2 r2 a2=>exact EqAt.int_list i1 t1 hl2 hu0
   | tup z2 hl2 r2 a2=>exact EqAt.int_tuple i1 t1 hl2 hu0
  | str z1 t1=>
   cases lies m I ry h2 with
   | aD=>exact EqAt.str_none z1 t1
   | bl b2=>exact EqAt.str_bool z1 t1 b2
   | int i2 t2=>exact EqAt.str_int z1 t1 i2 t2
   | str z2 t2=>exact EqAt.str_str z1 t1 z2 t2
   | lst z2 hl2 r2 a2=>exact EqAt.str_list z1 t1 hl2 hu0
   | tup z2 hl2 r2 a2=>exact EqAt.str_tuple z1 t1 hl2 hu0
  | lst z1 hl1 r1 a1=>
   cases lies m I ry h2 with
   | aD=>exact EqAt.list_none hl1 hu0
   | bl b2=>exact EqAt.list_bool b2 hl1 hu0
   | int i2 t2=>exact EqAt.list_int i2 t2 hl1 hu0
   | str z2 t2=>exact EqAt.list_str z2 t2 hl1 hu0
   | lst z2 hl2 r2 a2=>
    cases z1;cases z2
    exact qg h1 h2 (qh hu0 ih1 hl1 hl2 r1 r2 a1 a2).1
   | tup z2 hl2 r2 a2=>exact EqAt.list_tuple hl1 hl2 hu0
  | tup z1 hl1 r1 a1=>
   cases lies m I ry h2 with
   | aD=>exact EqAt.tuple_none hl1 hu0
   | bl b2=>exact EqAt.tuple_bool b2 hl1 hu0
   | int i2 t2=>exact EqAt.tuple_int i2 t2 hl1 hu0
   | str z2 t2=>exact EqAt.tuple_str z2 t2 hl1 hu0
   | lst z2 hl2 r2 a2=>exact EqAt.tuple_list hl1 hl2 hu0
   | tup z2 hl2 r2 a2=>
    cases z1;cases z2
    exact qg h1 h2 (nh hu0 ih1 hl1 hl2 r1 r2 a1 a2).1
theorem ni (m:ax X.K M) (I:Inv X pins σ H s) {n:Nat} {A:Around} {x y:V} {v u:Value} {d e:PyData} (hu:A.units + (n + 1) < cLine) (rx:RelV x v) (ry:RelV y u) (h1:data M H (n + 1) x=some d) (h2:data M H (n + 1) y=some e):
  RcAt A s v u (PyData.eqv d e)/\RcNeAt A s v u (!PyData.eqv d e):=by
 have hu0:A.units < cLine:=by omega
 have ih1:∀ (x y:V) (v u:Value) (d e:PyData),RelV x v->RelV y u->data M H n x=some d->data M H n y=some e->EqAt A.in1 s v u (PyData.eqv d e):=
  fun x y v u d e=>jk m I n A.in1 x y v u d e (by show A.units + 1 + n < cLine;omega)
 cases lies m I rx h1 with
 | aD=>
  cases lies m I ry h2 with
  | aD=>exact⟨RcAt.none_none,RcNeAt.none_none⟩
  | bl b2=>exact⟨RcAt.none_bool b2,RcNeAt.none_bool b2⟩
  | int i2 t2=>exact⟨RcAt.none_int i2 t2,RcNeAt.none_int i2 t2⟩
  | str z2 t2=>exact⟨RcAt.none_str z2 t2,RcNeAt.none_str z2 t2⟩
  | lst z2 hl2 r2 a2=>exact⟨RcAt.none_list hl2 hu0,RcNeAt.none_list hl2 hu0⟩
  | tup z2 hl2 r2 a2=>exact⟨RcAt.none_tuple hl2 hu0,RcNeAt.none_tuple hl2 hu0⟩
 | bl b1=>
  cases lies m I ry h2 with
  | aD=>exact⟨RcAt.bool_none b1,RcNeAt.bool_none b1⟩
  | bl b2=>exact⟨RcAt.bool_bool b1 b2,RcNeAt.bool_bool b1 b2⟩
  | int i2 t2=>exact⟨RcAt.bool_int b1 i2 t2,RcNeAt.bool_int b1 i2 t2⟩
  | str z2 t2=>exact⟨RcAt.bool_str b1 z2 t2,RcNeAt.bool_str b1 z2 t2⟩
  | lst z2 hl2 r2 a2=>exact⟨RcAt.bool_list b1 hl2 hu0,RcNeAt.bool_list b1 hl2 hu0⟩
  | tup z2 hl2 r2 a2=>exact⟨RcAt.bool_tuple b1 hl2 hu0,RcNeAt.bool_tuple b1 hl2 hu0⟩
 | int i1 t1=>
  cases lies m I ry h2 with
  | aD=>exact⟨RcAt.int_none i1 t1,RcNeAt.int_none i1 t1⟩
  | bl b2=>exact⟨RcAt.int_bool i1 t1 b2,RcNeAt.int_bool i1 t1 b2⟩
  | int i2 t2=>exact⟨RcAt.int_int i1 t1 i2 t2,RcNeAt.int_int i1 t1 i2 t2⟩
  | str z2 t2=>exact⟨RcAt.int_str i1 t1 z2 t2,RcNeAt.int_str i1 t1 z2 t2⟩
  | lst z2 hl2 r2 a2=>exact⟨RcAt.int_list i1 t1 hl2 hu0,RcNeAt.int_list i1 t1 hl2 hu0⟩
  | tup z2 hl2 r2 a2=>exact⟨RcAt.int_tuple i1 t1 hl2 hu0,RcNeAt.int_tuple i1 t1 hl2 hu0⟩
 | str z1 t1=>
  cases lies m I ry h2 with
  | aD=>exact⟨RcAt.str_none z1 t1,RcNeAt.str_none z1 t1⟩
  | bl b2=>exact⟨RcAt.str_bool z1 t1 b2,RcNeAt.str_bool z1 t1 b2⟩
  | int i2 t2=>exact⟨RcAt.str_int z1 t1 i2 t2,RcNeAt.str_int z1 t1 i2 t2⟩
  | str z2 t2=>exact⟨RcAt.str_str z1 t1 z2 t2,RcNeAt.str_str z1 t1 z2 t2⟩
  | lst z2 hl2 r2 a2=>exact⟨RcAt.str_list z1 t1 hl2 hu0,RcNeAt.str_list z1 t1 hl2 hu0⟩
  | tup z2 hl2 r2 a2=>exact⟨RcAt.str_tuple z1 t1 hl2 hu0,RcNeAt.str_tuple z1 t1 hl2 hu0⟩
 | lst z1 hl1 r1 a1=>
  cases lies m I ry h2 with
  | aD=>exact⟨RcAt.list_none hl1 hu0,RcNeAt.list_none hl1 hu0⟩
  | bl b2=>exact⟨RcAt.list_bool b2 hl1 hu0,RcNeAt.list_bool b2 hl1 hu0⟩
  | int i2 t2=>exact⟨RcAt.list_int i2 t2 hl1 hu0,RcNeAt.list_int i2 t2 hl1 hu0⟩
  | str z2 t2=>exact⟨RcAt.list_str z2 t2 hl1 hu0,RcNeAt.list_str z2 t2 hl1 hu0⟩
  | lst z2 hl2 r2 a2=>
   cases z1;cases z2
   exact qh hu0 ih1 hl1 hl2 r1 r2 a1 a2
  | tup z2 hl2 r2 a2=>exact⟨RcAt.list_tuple hl1 hl2 hu0,RcNeAt.list_tuple hl1 hl2 hu0⟩
 | tup z1 hl1 r1 a1=>
  cases lies m I ry h2 with
  | aD=>exact⟨RcAt.tuple_none hl1 hu0,RcNeAt.tuple_none hl1 hu0⟩
  | bl b2=>exact⟨RcAt.tuple_bool b2 hl1 hu0,RcNeAt.tuple_bool b2 hl1 hu0⟩
  | int i2 t2=>exact⟨RcAt.tuple_int i2 t2 hl1 hu0,RcNeAt.tuple_int i2 t2 hl1 hu0⟩
  | str z2 t2=>exact⟨RcAt.tuple_str z2 t2 hl1 hu0,RcNeAt.tuple_str z2 t2 hl1 hu0⟩
  | lst z2 hl2 r2 a2=>exact⟨RcAt.tuple_list hl1 hl2 hu0,RcNeAt.tuple_list hl1 hl2 hu0⟩
  | tup z2 hl2 r2 a2=>
   cases z1;cases z2
   exact nh hu0 ih1 hl1 hl2 r1 r2 a1 a2
end
section
variable (M:Mo)
noncomputable def rL (i:Int):Bool:=decide (-(2 ^ 64) < i) && decide (i < 2 ^ 64)
noncomputable def jr (op:Operator) (x y:V) (H:Hp) (Q:VK):Prop:=match op,x,y with
 | .Add,.int i,.int j=>Q (.int (i + j)) H
 | .Add,.str i,.str j=>i.length + j.length<=sizeLine/\Q (.str (i++j)) H
 | .Add,.ref a,.ref b=>match rd M H a,rd M H b with
  | some (.lst xs),some (.lst ys)=>xs.length + ys.length<=sizeLine/\∀p,H p=none->M p=none->Q (.ref p) (upd H p (.lst (xs++ys)))
  | some (.tup xs),some (.tup ys)=>xs ≠ []/\ys ≠ []/\xs.length + ys.length<=sizeLine/\∀p,H p=none->M p=none->Q (.ref p) (upd H p (.tup (xs++ys)))
  | _,_=>False
 | .Sub,.int i,.int j=>Q (.int (i - j)) H
 | .Mult,.int i,.int j=>(rL i || rL j)=true/\Q (.int (i * j)) H
 | .Mult,.str x,.int k=>(-(2 ^ 63)<=k/\k < 2 ^ 63/\x.length * k.toNat<=16777216)/\Q (.str (Txt.mul x k)) H
 | .Mult,.ref a,.int k=>match H a with
  | some (.lst xs)=>-(2 ^ 63)<=k/\k < 2 ^ 63/\xs.length * k.toNat<=sizeLine/\∀p,H p=none->M p=none->Q (.ref p) (upd H p (.lst (List.replicate k.toNat xs).flatten))
  | _=>False
 | .FloorDiv,.int i,.int j=>0 < j/\j < 1073741824/\Q (.int (i / j)) H
 | .Mod,.int i,.int j=>0 < j/\Q (.int (i % j)) H
 | .Pow,.int i,.int j=>EL i j/\Q (.int (i ^ j.toNat)) H
 | _,_,_=>False
noncomputable def cC (op:CmpOp) (x y:V) (H:Hp) (Q:VK):Prop:=match op,x,y with
 | .Eq,_,_=>if gE x y=true then Q (.bl (decide (x=y))) H else match data M H 16 x,data M H 16 y with
  | some d,some e=>Q (.bl (PyData.eqv d e)) H
  | _,_=>False
 | .NotEq,_,_=>if gE x y=true then Q (.bl (!decide (x=y))) H else match data M H 16 x,data M H 16 y with
  | some d,some e=>Q (.bl (!PyData.eqv d e)) H
  | _,_=>False
 | .Lt,.int i,.int j=>Q (.bl (decide (i < j))) H
 | .Gt,.int i,.int j=>Q (.bl (decide (j < i))) H
 | .Lt,.str i,.str j=>Q (.bl (decide (i.cps.toList < j.cps.toList))) H
 | .Gt,.str i,.str j=>Q (.bl (decide (j.cps.toList < i.cps.toList))) H
 | .In,.str i,.str j=>Q (.bl (!(Builtin.Str.occurrences j i 0 j.length 1).isEmpty)) H
 | .NotIn,.str i,.str j=>Q (.bl (!(!(Builtin.Str.occurrences j i 0 j.length 1).isEmpty))) H
 | .In,_,.ref p=>match rd M H p with
  | some (.lst xs)=>bb x=true/\xs.all bb=true/\Q (.bl (qQ x xs)) H
  | some (.tup xs)=>bb x=true/\xs.all bb=true/\Q (.bl (qQ x xs)) H
  | _=>False
 | .NotIn,_,.ref p=>match rd M H p with
  | some (.lst xs)=>bb x=true/\xs.all bb=true/\Q (.bl (!qQ x xs)) H
  | some (.tup xs)=>bb x=true/\xs.all bb=true/\Q (.bl (!qQ x xs)) H
  | _=>False
 | .IsNot,_,.aD=>Q (.bl (!decide (x=.aD))) H
 | _,_,_=>False
noncomputable def cS (x:V) (H:Hp) (Q:Bool->Prop):Prop:=match x with
 | .aD=>Q false
 | .bl b=>Q b
 | .int i=>Q (i != 0)
 | .str y=>y.length<=sizeLine/\Q ((y.length:Int) != 0)
 | .ref p=>match rd M H p with
  | some (.lst xs)=>Q (!xs.isEmpty)
  | some (.tup xs)=>Q (!xs.isEmpty)
  | _=>False
 | _=>False
noncomputable def cJ (x y:V) (H:Hp) (Q:VK):Prop:=match x,y with
 | .str z,.int i=>z.length<=sizeLine/\match lL z.cps.toList i with | some c=>Q (.str ⟨#[c]⟩) H | none=>False
 | .ref p,.int i=>match rd M H p with
  | some (.lst xs)=>match lL xs i with | some v=>Q v H | none=>False
  | some (.tup xs)=>match lL xs i with | some v=>Q v H | none=>False
  | _=>False
 | _,_=>False
end
section
variable {X:Cx} {M:Mo}
theorem Es {i j:Int} (h:(rL i || rL j)=true):Cn i j:=by
 unfold rL at h;simp only[Bool.or_eq_true,JU,KL]at h;exact h
noncomputable def g7 (M:Mo) (H:Hp):Prop:=∀a,M a ≠ none->H a=none
theorem ax.look {K:PySem.W.Frag} {M:Mo} (m:ax K M) {a:Addr} (h:M a ≠ none):∃o,K.lookup a=some o:=by
 cases e:M a with
 | none=>exact absurd e h
 | some u=>
  have z:=m a u e;cases u<;>first | exact z.elim | (obtain⟨o,_,_,h1,_⟩:=z;exact⟨o,h1⟩)
theorem Inv.sD (m:ax X.K M) {pins:NU} {σ:L2.St} {H:Hp} {s:Shared} (I:Inv X pins σ H s):g7 M H:=fun a h=>by
 obtain⟨o,e⟩:=m.look h;exact(I.bs a o (I.ok.mod.FL a o e)).2
theorem g7.new {H:Hp} {p:Addr} {o:HO} (h:g7 M (upd H p o)):M p=none:=by
 cases e:M p with
 | none=>rfl
 | some u=>
  have z:=h p (by rw[e];intro z;cases z);rw[ae]at z;cases z
theorem gT (m:ax X.K M) {pins:NU} {σ:L2.St} {Q:VK} {u:Value} {s:Shared} (h:EP X pins σ (fun v H'=>g7 M H'->Q v H') u s):EP X pins σ Q u s:=by
 obtain⟨v,H',I,r,q⟩:=h;exact⟨v,H',I,r,q (Inv.sD m I)⟩
theorem wM (m:ax X.K M) {pins:NU} {s:Shared} {σ:L2.St} {H:Hp} {l b:Addr} {xs ys:List V} {Q:VK} (I:Inv X pins σ H s) (ha:jv X.K H l xs) (hb:jv X.K H b ys) (hz:xs.length + ys.length<=sizeLine)
  (h:∀p,H p=none->M p=none->Q (.ref p) (upd H p (.lst (xs++ys)))):wpAny (model X.prog X.w) X.A (binaryOp .Add (.ref l) (.ref b)) (EP X pins σ Q) X.xe s:=by
 obtain⟨au,r1,p1,_⟩:=I.list ha;obtain⟨its2,r2,p2,_⟩:=I.list hb;obtain⟨⟨c1,d1,da1,sl1⟩,n1,o1,hc1,hd1,hda1⟩:=p1;obtain⟨⟨c2,d2,da2,sl2⟩,n2,o2,hc2,hd2,hda2⟩:=p2;simp only at hc1 hda1 hc2 hda2;subst hc1 hda1 hc2 hda2;have hsz:au.toArray.size + its2.toArray.size<=sizeLine:=by rw[Jp,Jp,<-r1.length,<-r2.length];exact hz
 refine concat_meets ⟨_,o1,rfl⟩ ⟨_,o2,rfl⟩ noFill_list_add seq_list_add PySem.F.slot_list_add PySem.F.entry_list_add (PySem.F.args_list_add_2 _ _) (list_addW l b au.toArray its2.toArray n1 n2 d1 d2 sl1 sl2 hsz) ⟨o1,o2,?_⟩;have ea:au.toArray++its2.toArray=(au++its2).toArray:=by simp
 rw[ea];have I2:=I.FJ (t':=s.toks) (r1.append r2) (by rw[Jl];exact hz);exact⟨.ref _,_,I2,rfl,h _ I.fresh (g7.new (Inv.sD m I2))⟩
theorem DM {x:Str} {k:Int} (h: -(2 ^ 63)<=k/\k < 2 ^ 63/\x.length * k.toNat<=16777216):MulOk x k:=by
 obtain⟨h1,h2,h3⟩:=h;refine⟨by simp;omega,fun z _=>?_,fun z _=>?_⟩
 ·have hk:0 < k:=by omega
  intro hc;have:=Int.lt_of_lt_of_le (Int.lt_mul_of_ediv_lt hk hc) (Int.le_refl _)
  have e:(x.length:Int) * k=((x.length * k.toNat:Nat):Int):=by
   rw[Int.natCast_mul]
   congr 1
   omega
  rw[e]at this;omega
 ·unfold Builtin.Str.tooLong;rw[LQ,Jm];omega
theorem Eu (m:ax X.K M) (op:Operator):iZ X (binaryOp op) (jr M op):=by
 intro pins s σ H x y v u Q I rx ry h;cases op with
 | Add=>
  cases x with
  | int i=>
   cases y with
   | int j=>
    exact DF pins s σ H _ _ v u Q I rx ry ⟨_,_,rfl,rfl,h⟩
   | _=>exact False.elim h
  | str i=>
   cases y with
   | str j=>
    exact sC pins s σ H _ _ v u Q I rx ry ⟨_,_,rfl,rfl,h.1,h.2⟩
   | _=>exact False.elim h
  | ref a=>
   cases y with
   | ref b=>
    unfold jr at h;dsimp only at h;split at h
    ·rename_i xs ys ea eb;cases rx
     cases ry
     exact wM m I (bf m ea) (bf m eb) h.1 h.2
    ·rename_i xs ys ea eb;exact bW (Bv pins s σ H _ _ v u _ I rx ry ⟨_,_,xs,ys,rfl,rfl,bO m ea,bO m eb,h.1,h.2.2.1,fun z=>absurd z h.2.1,fun _ p hp of=>h.2.2.2 p hp of.new⟩) fun _ _=>gT m
    ·exact h.elim
   | _=>exact False.elim h
  | _=>first | exact False.elim h | (cases y<;>exact False.elim h)
 | Sub=>
  cases x with
  | int i=>
   cases y with
   | int j=>
    exact DA pins s σ H _ _ v u Q I rx ry ⟨_,_,rfl,rfl,h⟩
   | _=>exact False.elim h
  | _=>first | exact False.elim h | (cases y<;>exact False.elim h)
 | Mult=>
  cases x with
  | int i=>
   cases y with
   | int j=>
    exact DD pins s σ H _ _ v u Q I rx ry ⟨_,_,rfl,rfl,Es h.1,h.2⟩
   | _=>exact False.elim h
  | str z=>
   cases y with
   | int k=>
    obtain⟨t,rfl⟩:=rx;obtain⟨t',rfl⟩:=ry;exact PySem.SB.mul (DM h.1) fun t' k=>⟨.str _,H,I.tok _,⟨_,rfl⟩,h.2⟩
   | _=>exact False.elim h
  | ref a=>
   cases y with
   | int k=>
    unfold jr at h;dsimp only at h;split at h
    ·rename_i xs ea;exact bW (DB pins s σ H _ _ v u _ I rx ry ⟨_,_,xs,rfl,rfl,ea,h.1,h.2.1,h.2.2.1,fun p hp of=>h.2.2.2 p hp of.new⟩) fun _ _=>gT m
    ·exact h.elim
   | _=>exact False.elim h
  | _=>first | exact False.elim h | (cases y<;>exact False.elim h)
 | FloorDiv=>
  cases x with
  | int i=>
   cases y with
   | int j=>
    exact Bu pins s σ H _ _ v u Q I rx ry ⟨_,_,rfl,rfl,⟨h.1,h.2.1⟩,h.2.2⟩
   | _=>exact False.elim h
  | _=>first | exact False.elim h | (cases y<;>exact False.elim h)
 | Mod=>
  cases x with
  | int i=>
   cases y with
   | int j=>
    exact DE pins s σ H _ _ v u Q I rx ry ⟨_,_,rfl,rfl,h.1,h.2⟩
   | _=>exact False.elim h
  | _=>first | exact False.elim h | (cases y<;>exact False.elim h)
 | Pow=>
  cases x with
  | int i=>
   cases y with
   | int j=>
    exact DC pins s σ H _ _ v u Q I rx ry ⟨_,_,rfl,rfl,h.1,h.2⟩
   | _=>exact False.elim h
  | _=>first | exact False.elim h | (cases y<;>exact False.elim h)
 | _=>exact False.elim h
theorem zw {op:CmpOp} {x y:V} {H:Hp} {Q:VK} (h:cC M op x y H Q) (e:op=.In\/op=.NotIn):(∃ i j,x=.str i/\y=.str j)\/∃p,y=.ref p:=by
 cases y with
 | ref p=>exact .inr ⟨p,rfl⟩
 | str j=>cases x with
  | str i=>exact .inl ⟨i,j,rfl,rfl⟩
  | _=>rcases e with e | e<;>(subst e;exact False.elim h)
 | _=>rcases e with e | e<;>(subst e;cases x<;>exact False.elim h)
theorem D_ {op:CmpOp} {x y:V} {H:Hp} {Q:VK} (h:cC M op x y H Q) (e:op=.Is\/op=.IsNot):y=.aD:=by
 cases y with
 | aD=>rfl
 | _=>rcases e with e | e<;>(subst e;first | exact False.elim h | (cases x<;>exact False.elim h))
theorem yS {op:CmpOp} {x y:V} {H:Hp} {Q:VK} (h:cC M op x y H Q) (e:op=.Lt\/op=.LtE\/op=.Gt\/op=.GtE):(∃ i j,x=.int i/\y=.int j)\/∃i j,x=.str i/\y=.str j:=by
 cases x with
 | int i=>cases y with
  | int j=>exact .inl ⟨i,j,rfl,rfl⟩
  | _=>rcases e with e | e | e | e<;>(subst e;exact False.elim h)
 | str i=>cases y with
  | str j=>exact .inr ⟨i,j,rfl,rfl⟩
  | _=>rcases e with e | e | e | e<;>(subst e;exact False.elim h)
 | _=>rcases e with e | e | e | e<;>(subst e;exact False.elim h)
theorem zX (hu:X.A.units + 64 < cLine) (m:ax X.K M) (op:CmpOp):iZ X (compareOp op) (cC M op):=by
 intro pins s σ H x y v u Q I rx ry h;cases op with
 | Eq=>
  by_cases hs:gE x y=true
  ·exact FA pins s σ H _ _ v u Q I rx ry ⟨hs,Eq.mp (Jc hs) (show(if gE x y=true then _ else _)from h)⟩
  ·have h:=Eq.mp (I_ hs) (show(if gE x y=true then _ else _)from h);split at h
   ·rename_i d e h1 h2;exact(ni (n:=15) m I (by omega) rx ry h1 h2).1 X.prog X.w X.xe _ ⟨.bl _,H,I,rfl,h⟩
   ·exact h.elim
 | NotEq=>
  by_cases hs:gE x y=true
  ·exact Fx pins s σ H _ _ v u Q I rx ry ⟨hs,Eq.mp (Jc hs) (show(if gE x y=true then _ else _)from h)⟩
  ·have h:=Eq.mp (I_ hs) (show(if gE x y=true then _ else _)from h);split at h
   ·rename_i d e h1 h2;exact(ni (n:=15) m I (by omega) rx ry h1 h2).2 X.prog X.w X.xe _ ⟨.bl _,H,I,rfl,h⟩
   ·exact h.elim
 | Lt=>
  obtain⟨i,j,rfl,rfl⟩ | ⟨i,j,rfl,rfl⟩:=yS h (.inl rfl)
  ·exact Fy pins s σ H _ _ v u Q I rx ry ⟨_,_,rfl,rfl,h⟩
  ·exact vG pins s σ H _ _ v u Q I rx ry ⟨_,_,rfl,rfl,h⟩
 | Gt=>
  obtain⟨i,j,rfl,rfl⟩ | ⟨i,j,rfl,rfl⟩:=yS h (.inr (.inr (.inl rfl)))
  ·exact Fz pins s σ H _ _ v u Q I rx ry ⟨_,_,rfl,rfl,h⟩
  ·obtain⟨t,rfl⟩:=rx;obtain⟨t',rfl⟩:=ry;exact PySem.P.gt_str (aF I h rfl)
 | In=>
  obtain⟨i,j,rfl,rfl⟩ | ⟨p,rfl⟩:=zw h (.inl rfl)
  ·exact vH pins s σ H _ _ v u Q I rx ry ⟨_,_,rfl,rfl,h⟩
  ·have h:(match rd M H p with
    | some (.lst xs)=>bb x=true/\xs.all bb=true/\Q (.bl (qQ x xs)) H
    | some (.tup xs)=>bb x=true/\xs.all bb=true/\Q (.bl (qQ x xs)) H
    | _=>False):=by cases x<;>exact h
   split at h
   ·rename_i e;exact nC pins s σ H _ _ v u Q I rx ry ⟨_,_,rfl,.inl (bf m e),h.1,h.2.1,h.2.2⟩
   ·rename_i e;exact nC pins s σ H _ _ v u Q I rx ry ⟨_,_,rfl,.inr (bO m e),h.1,h.2.1,h.2.2⟩
   ·exact h.elim
 | NotIn=>
  obtain⟨i,j,rfl,rfl⟩ | ⟨p,rfl⟩:=zw h (.inr rfl)
  ·exact oD pins s σ H _ _ v u Q I rx ry ⟨_,_,rfl,rfl,h⟩
  ·have h:(match rd M H p with
    | some (.lst xs)=>bb x=true/\xs.all bb=true/\Q (.bl (!qQ x xs)) H
    | some (.tup xs)=>bb x=true/\xs.all bb=true/\Q (.bl (!qQ x xs)) H
    | _=>False):=by cases x<;>exact h
   split at h
   ·rename_i e;exact iA pins s σ H _ _ v u Q I rx ry ⟨_,_,rfl,.inl (bf m e),h.1,h.2.1,h.2.2⟩
   ·rename_i e;exact iA pins s σ H _ _ v u Q I rx ry ⟨_,_,rfl,.inr (bO m e),h.1,h.2.1,h.2.2⟩
   ·exact h.elim
 | IsNot=>
  obtain rfl:=D_ h (.inr rfl);exact Bt pins s σ H _ _ v u Q I rx ry ⟨rfl,by cases x<;>exact h⟩
 | _=>exact False.elim h
theorem C2 (m:ax X.K M):Gp X (fun x H Q=>cS M x H fun k=>Q k H):=by
 intro pins s σ H x v Q I rx h;refine C1 pins s σ H x v Q I rx ?_;unfold cS at h;split at h
 ·exact⟨_,rfl,h⟩
 ·exact⟨_,rfl,h⟩
 ·exact⟨_,rfl,h⟩
 ·exact⟨_,⟨h.1,rfl⟩,h.2⟩
 ·split at h
  ·rename_i e;exact⟨_,.inl ⟨_,bf m e,rfl⟩,h⟩
  ·rename_i e;exact⟨_,.inr (.inl ⟨_,bO m e,rfl⟩),h⟩
  ·exact h.elim
 ·exact h.elim
theorem Ef (m:ax X.K M):Ah X (cJ M):=by
 intro value slice pins s σ H x y v u Q I rx ry h hs;refine D9 value slice pins s σ H x y v u Q I rx ry ?_ hs;unfold cJ at h;split at h
 ·obtain⟨h1,h⟩:=h;split at h
  ·rename_i e;exact .inr (.inr ⟨_,_,_,rfl,rfl,h1,e,h⟩)
  ·exact h.elim
 ·split at h
  ·rename_i e;split at h
   ·rename_i e2;exact .inl ⟨_,_,_,_,rfl,rfl,bf m e,e2,h⟩
   ·exact h.elim
  ·rename_i e;split at h
   ·rename_i e2;exact .inr (.inl ⟨_,_,_,_,rfl,rfl,bO m e,e2,h⟩)
   ·exact h.elim
  ·exact h.elim
 ·exact h.elim
end
inductive Bf where | len | all | any | str | int | abs | sorted | sortset | list | tuple | max | min | sum | dlen | dsorted | smin
 deriving DecidableEq
noncomputable def Bf.name:Bf->Str
 | .len=> "len" | .all=> "all" | .any=> "any" | .str=> "str" | .int=> "int" | .abs=> "abs" | .sorted=> "sorted" | .sortset=> "sorted" | .list=> "list" | .tuple=> "tuple" | .max=> "max" | .min=> "min" | .sum=> "sum" | .dlen=> "len" | .dsorted=> "sorted" | .smin=> "min"
inductive Mf where | startswith | endswith | split | join | append | pop | extend | clear | dpop | dclear | copy | setdefault | get
 deriving DecidableEq
noncomputable def Mf.name:Mf->Str
 | .startswith=> "startswith" | .endswith=> "endswith" | .split=> "split" | .join=> "join" | .append=> "append" | .pop=> "pop" | .extend=> "extend" | .clear=> "clear" | .dpop=> "pop" | .dclear=> "clear" | .copy=> "copy" | .setdefault=> "setdefault" | .get=> "get"
inductive Ty where | str | int | bool | list | tuple | dict | own (x:Str)
 deriving DecidableEq
noncomputable def Ty.name:Ty->Str
 | .str=> "str" | .int=> "int" | .bool=> "bool" | .list=> "list" | .tuple=> "tuple" | .dict=> "dict" | .own x=>x
inductive B2 where | sortT | sortM | sum
 deriving DecidableEq
noncomputable def B2.name:B2->Str
 | .sortT=> "sorted" | .sortM=> "sorted" | .sum=> "sum"
inductive M2 where | insert | popi | upper | remove
 deriving DecidableEq
mutual
inductive Ex where
 | var (i:Nat) | con (v:V) | glob (x:Str)
 | bin (op:Operator) (a b:Ex) | neg (a:Ex)
 | cmp (op:CmpOp) (a b:Ex)
 | and (a b:Ex) | or (a b:Ex) | not (a:Ex)
 | ite (c a b:Ex)
 | call (f:Str) (args:lX)
 | blt (f:Bf) (args:lX)
 | mth (m:Mf) (o:Ex) (args:lX)
 | isin (a:Ex) (T:Ty)
 | idx (a b:Ex)
 | slc (a:Ex) (lo hi:lX)
 | tup (es:lX) | lst (es:lX)
 | comp (x:Str) (fv:List (Str × Nat)) (it:Ix) (elt:Ex) (ifs:lX)
 | cmpD (op:CmpOp) (a b:Ex) | idxD (a b:Ex) | dnew
 | blt2 (f:B2) (a:Ex)
 | iF (a:Ex) | smax (a b:Ex)
 | cmpI (op:CmpOp) (a b:Ex) | lzip (a b:Ex) | xors (i j:Nat) | minL (a:Ex)
 | compT (xs:List Str) (fv:List (Str × Nat)) (it:Ix) (elt:Ex)
inductive lX where
 | nil | cons (e:Ex) (r:lX)
inductive Ix where
 | ex (e:Ex) | rng1 (a:Ex)
end
mutual
inductive Sx where
 | asg (i:Nat) (e:Ex)
 | exp (e:Ex) | ret (e:Ex) | retK (e:Ex) (kp:Pos) (le:Expr)
 | iff (c:Ex) (a b:dm)
 | whl (c:Ex) (b:dm)
 | fr (i:Nat) (it:Ix) (b:dm)
 | sto (o i e:Ex) | asgT (is:List Nat) (e:Ex) | frT (is:List Nat) (it:Ix) (b:dm)
inductive dm where
 | nil | cons (s:Sx) (r:dm)
end
noncomputable def fq (sc:Scope) (x:Str):Bool:=match sc.names.lookup x with
 | some .local=>true | some .cell=>true | some .free=>true | _=>false
noncomputable def jE (sc:Scope) (x:Str):Bool:=match sc.names.lookup x with
 | some .local=>true | some .cell=>true | _=>false
noncomputable def cM (sc:Scope) (x:Str):Bool:=match sc.names.lookup x with
 | some .globalImplicit=>true | _=>false
noncomputable def bP (x:Str):Bool:=!(x == ("__debug__" :Str)) && !(x == ("__classdict__" :Str)) && !(decide (x= "__name__"))
noncomputable def ba:Expr->Bool
 | .Starred _ _=>false | .Set _ _ _=>false | .Slice _ _ _ _=>false | _=>true
noncomputable def iD:Expr->Bool
 | .Call (.Name _ _) [] [] _=>false | _=>true
noncomputable def cD (sc:Scope) (bF:Scope) (N ns:List Str) (fv:List (Str × Nat)):Bool:=
 decide (bF.kind=.function) && ns.all (fun x=>decide (bF.names.lookup x=some .local)) && decide (sc.kind=.function)
 && bF.names.all (fun y=>decide (y.2 ≠ .cell) && (decide (y.2 ≠ .local) || decide (bF.names.lookup y.1=some .local)) && (decide (y.2 ≠ .free) || (decide (sc.names.lookup y.1=some .cell) || decide (sc.names.lookup y.1=some .free))))
 && fv.all (fun y=>decide (N[y.2]?=some y.1) && decide (bF.names.lookup y.1=some .free))
 && decide (ns++fv.map (·.1)).Nodup
noncomputable def ek:Expr->List Expr
 | .BoolOp _ vs _=>vs
 | .BinOp a _ b _=>[a,b]
 | .UnaryOp _ a _=>[a]
 | .IfExp c a b _=>[c,a,b]
 | .Dict ks vs _=>((ks.zip vs).map fun t=>[t.1.getD default,t.2]).flatten
 | .ListComp e gs _ _=>e::(gs.map fun g=>g.target::g.iter::g.ifs).flatten
 | .Compare a _ bs _=>a::bs
 | .Call f es _ _=>f::es
 | .FormattedValue a _ _ _=>[a]
 | .JoinedStr vs _=>vs
 | .Attribute a _ _=>[a]
 | .Subscript a b _=>[a,b]
 | .List es _=>es
 | .Tuple es _ _=>es
 | .Slice l u _ _=>[l.getD default,u.getD default]
 | _=>[]
noncomputable def kd:Expr->Nat
 | .Constant _ k _=>k
 | .Tuple _ k _=>k
 | _=>0
noncomputable def bF:Expr->Scope
 | .ListComp _ _ sc _=>sc
 | _=>default
noncomputable def aG (e:Expr) (i:Nat):Expr:=(ek e).getD i default
noncomputable def se:Stmt->List Expr
 | .Return v _=>[v.getD default]
 | .Assign ts v _=>ts++[v]
 | .For t it _ _ _=>[t,it]
 | .While c _ _ _=>[c]
 | .If c _ _ _=>[c]
 | .Raise e c _=>[e.getD default,c.getD default]
 | .Try _ hs _ _ _=>hs.map fun h=>match h with | .ExceptHandler t _ _ _=>t.getD default
 | .Expr v _=>[v]
 | _=>[]
noncomputable def sb:Stmt->List Stmt × List Stmt
 | .For _ _ b _ _=>(b,[])
 | .While _ b _ _=>(b,[])
 | .If _ a b _=>(a,b)
 | .Try b hs _ _ _=>(b,(hs.map fun h=>match h with | .ExceptHandler _ _ b _=>b).flatten)
 | _=>([],[])
noncomputable def sk (s:Stmt) (i:Nat):Expr:=(se s).getD i default
noncomputable def nx (N:List Str) (i:Nat):Str:=N.getD i Str.empty
noncomputable def IB:V->Const
 | .int i=>.int i | .str x=>.str x | .bl b=>.bool b | _=>.none
noncomputable def IA:V->Bool
 | .int _=>true | .str _=>true | .bl _=>true | .aD=>true | _=>false
noncomputable def zu:Ex->Bool
 | .and _ _=>true | _=>false
noncomputable def Eb:Ex->Bool
 | .or _ _=>true | _=>false
noncomputable def gR:Ex->Bool
 | .comp _ _ _ _ _=>true | .compT _ _ _ _=>true | _=>false
noncomputable def uH:Ex->Bool
 | .compT _ _ _ _=>true | _=>false
noncomputable def isTup:Ex->Bool
 | .tup _=>true | _=>false
noncomputable def lX.len:lX->Nat
 | .nil=>0
 | .cons _ r=>r.len + 1
noncomputable def isIn (fv:List (Str × Nat)) (x:Str):List Str:=x::fv.map (·.1)
noncomputable def wZ (fv:List (Str × Nat)) (xs:List Str):List Str:=xs++fv.map (·.1)
noncomputable def bN (N:List Str):List Nat->List Expr->List Expr
 | [],_=>[]
 | i::is,ts=>.Name (nx N i) (ts.headD default).pos::bN N is ts.tail
mutual
noncomputable def bE (N:List Str):Ex->Expr->Expr
 | .var i,e=>.Name (nx N i) e.pos
 | .con v,e=>.Constant (IB v) (kd e) e.pos
 | .glob x,e=>.Name x e.pos
 | .bin op a b,e=>.BinOp (bE N a (aG e 0)) op (bE N b (aG e 1)) e.pos
 | .neg a,e=>.UnaryOp .USub (bE N a (aG e 0)) e.pos
 | .cmp op a b,e=>.Compare (bE N a (aG e 0)) [op] [bE N b (aG e 1)] e.pos
 | .and a b,e=>.BoolOp .And (bE N a (aG e 0)::(cond (decide ((ek e).length=2)) [bE N b (aG e 1)] (ek (bE N b (.BoolOp .And (ek e).tail e.pos))))) e.pos
 | .or a b,e=>.BoolOp .Or (bE N a (aG e 0)::(cond (decide ((ek e).length=2)) [bE N b (aG e 1)] (ek (bE N b (.BoolOp .Or (ek e).tail e.pos))))) e.pos
 | .not a,e=>.UnaryOp .Not (bE N a (aG e 0)) e.pos
 | .ite c a b,e=>.IfExp (bE N c (aG e 0)) (bE N a (aG e 1)) (bE N b (aG e 2)) e.pos
 | .call f args,e=>.Call (.Name f (aG e 0).pos) (pN N args (ek e).tail) [] e.pos
 | .blt f args,e=>.Call (.Name f.name (aG e 0).pos) (pN N args (ek e).tail) [] e.pos
 | .mth m o args,e=>.Call (.Attribute (bE N o (aG (aG e 0) 0)) m.name (aG e 0).pos) (pN N args (ek e).tail) [] e.pos
 | .isin a T,e=>.Call (.Name "isinstance" (aG e 0).pos) [bE N a (aG e 1),.Name T.name (aG e 2).pos] [] e.pos
 | .idx a b,e=>.Subscript (bE N a (aG e 0)) (bE N b (aG e 1)) e.pos
 | .slc a lo hi,e=>.Subscript (bE N a (aG e 0)) (.Slice (pN N lo [aG (aG e 1) 0]).head? (pN N hi [aG (aG e 1) 1]).head? none (aG e 1).pos) e.pos
 | .tup es,e=>.Tuple (pN N es (ek e)) (kd e) e.pos
 | .lst es,e=>.List (pN N es (ek e)) e.pos
 | .comp x fv it elt ifs,e=>.ListComp (bE (isIn fv x) elt (aG e 0)) [⟨.Name x (aG e 1).pos,bI N it (aG e 2),pN (isIn fv x) ifs ((ek e).drop 3),0⟩] (bF e) e.pos
 | .cmpD op a b,e=>.Compare (bE N a (aG e 0)) [op] [bE N b (aG e 1)] e.pos
 | .idxD a b,e=>.Subscript (bE N a (aG e 0)) (bE N b (aG e 1)) e.pos
 | .dnew,e=>.Dict [] [] e.pos
 | .blt2 f a,e=>.Call (.Name f.name (aG e 0).pos) [bE N a (aG e 1)] [] e.pos
 | .iF a,e=>.Call (.Name "len" (aG e 0).pos) [.Call (.Name "set" (aG (aG e 1) 0).pos) [bE N a (aG (aG e 1) 1)] [] (aG e 1).pos] [] e.pos
 | .smax a b,e=>.Call (.Name "max" (aG e 0).pos) [bE N a (aG e 1),bE N b (aG e 2)] [] e.pos
 | .cmpI op a b,e=>.Compare (bE N a (aG e 0)) [op] [bE N b (aG e 1)] e.pos
 | .lzip a b,e=>.Call (.Name "list" (aG e 0).pos) [.Call (.Name "zip" (aG (aG e 1) 0).pos) [bE N a (aG (aG e 1) 1),bE N b (aG (aG e 1) 2)] [] (aG e 1).pos] [] e.pos
 | .xors i j,e=>.Call (.Name "sorted" (aG e 0).pos) [.BinOp (.Call (.Name "set" (aG (aG (aG e 1) 0) 0).pos) [.Name (nx N i) (aG (aG (aG e 1) 0) 1).pos] [] (aG (aG e 1) 0).pos) .BitXor (.Call (.Name "set" (aG (aG (aG e 1) 1) 0).pos) [.Name (nx N j) (aG (aG (aG e 1) 1) 1).pos] [] (aG (aG e 1) 1).pos) (aG e 1).pos] [] e.pos
 | .minL a,e=>.Call (.Name "min" (aG e 0).pos) [bE N a (aG e 1)] [] e.pos
 | .compT xs fv it elt,e=>.ListComp (bE (wZ fv xs) elt (aG e 0)) [⟨.Tuple (bN (wZ fv xs) (List.range xs.length) (ek (aG e 1))) (kd (aG e 1)) (aG e 1).pos,bI N it (aG e 2),[],0⟩] (bF e) e.pos
noncomputable def pN (N:List Str):lX->List Expr->List Expr
 | .nil,_=>[]
 | .cons c r,es=>bE N c (es.headD default)::pN N r es.tail
noncomputable def bI (N:List Str):Ix->Expr->Expr
 | .ex c,e=>bE N c e
 | .rng1 a,e=>.Call (.Name "range" (aG e 0).pos) [bE N a (aG e 1)] [] e.pos
end
mutual
noncomputable def oE (sc:Scope) (N:List Str):Ex->Expr->Bool
 | .var i,_=>decide (i < N.length) && (fq sc (nx N i) && bP (nx N i))
 | .con v,_=>IA v
 | .glob x,_=>cM sc x && bP x
 | .bin _ a b,e=>oE sc N a (aG e 0) && oE sc N b (aG e 1)
 | .neg a,e=>oE sc N a (aG e 0)
 | .cmp _ a b,e=>oE sc N a (aG e 0) && oE sc N b (aG e 1)
 | .and a b,e=>oE sc N a (aG e 0) && (cond (decide ((ek e).length=2)) (oE sc N b (aG e 1)) (zu b && oE sc N b (.BoolOp .And (ek e).tail e.pos)))
 | .or a b,e=>oE sc N a (aG e 0) && (cond (decide ((ek e).length=2)) (oE sc N b (aG e 1)) (Eb b && oE sc N b (.BoolOp .Or (ek e).tail e.pos)))
 | .not a,e=>oE sc N a (aG e 0)
 | .ite c a b,e=>oE sc N c (aG e 0) && (oE sc N a (aG e 1) && oE sc N b (aG e 2))
 | .call f args,e=>(cM sc f && bP f) && uv sc N args (ek e).tail
 | .blt f args,e=>(cM sc f.name && bP f.name) && ((decide (f ≠ .sortset) && decide (args.len ≠ 0)) && uv sc N args (ek e).tail)
 | .mth _ o args,e=>(iD (bE N o (aG (aG e 0) 0)) && ((aG e 0).pos.endLine == e.pos.line)) && (decide (args.len < 20) && (oE sc N o (aG (aG e 0) 0) && uv sc N args (ek e).tail))
 | .isin a T,e=>(cM sc "isinstance" && (cM sc T.name && bP T.name)) && oE sc N a (aG e 1)
 | .idx a b,e=>oE sc N a (aG e 0) && oE sc N b (aG e 1)
 | .slc a lo hi,e=>oE sc N a (aG e 0) && (uv sc N lo [aG (aG e 1) 0] && uv sc N hi [aG (aG e 1) 1])
 | .tup es,e=>uv sc N es (ek e)
 | .lst es,e=>uv sc N es (ek e)
 | .comp x fv it elt ifs,e=>(cD sc (bF e) N [x] fv && decide (ifs.len<=1)) && (oI sc N it (aG e 2) && (oE (bF e) (isIn fv x) elt (aG e 0) && uv (bF e) (isIn fv x) ifs ((ek e).drop 3)))
 | .cmpD _ a b,e=>oE sc N a (aG e 0) && oE sc N b (aG e 1)
 | .idxD a b,e=>oE sc N a (aG e 0) && oE sc N b (aG e 1)
 | .dnew,_=>true
 | .blt2 f a,e=>cM sc f.name && oE sc N a (aG e 1)
 | .iF a,e=>(cM sc "len" && cM sc "set") && oE sc N a (aG (aG e 1) 1)
 | .smax a b,e=>cM sc "max" && (oE sc N a (aG e 1) && oE sc N b (aG e 2))
 | .cmpI op a b,e=>oE sc N a (aG e 0) && oE sc N b (aG e 1)
 | .lzip a b,e=>(cM sc "list" && cM sc "zip") && (oE sc N a (aG (aG e 1) 1) && oE sc N b (aG (aG e 1) 2))
 | .xors i j,_=>(cM sc "sorted" && cM sc "set") && ((decide (i < N.length) && (fq sc (nx N i) && bP (nx N i))) && (decide (j < N.length) && (fq sc (nx N j) && bP (nx N j))))
 | .minL a,e=>cM sc "min" && oE sc N a (aG e 1)
 | .compT xs fv it elt,e=>(cD sc (bF e) N xs fv && decide (xs.length ≠ 0)) && (oI sc N it (aG e 2) && oE (bF e) (wZ fv xs) elt (aG e 0))
noncomputable def uv (sc:Scope) (N:List Str):lX->List Expr->Bool
 | .nil,_=>true
 | .cons c r,es=>oE sc N c (es.headD default) && uv sc N r es.tail
noncomputable def oI (sc:Scope) (N:List Str):Ix->Expr->Bool
 | .ex c,e=>oE sc N c e
 | .rng1 a,e=>cM sc "range" && oE sc N a (aG e 1)
end
noncomputable def oG:Expr->Bool
 | .ListComp _ _ _ _=>false | .SetComp _ _ _ _=>false | .DictComp _ _ _ _ _=>false | _=>true
noncomputable def rN (sc s:Scope) (x:Str) (tp p:Pos):Bool:=decide (sc.names.lookup x=some .local) && ((tp.line == p.line) && !(s.names.any fun(n,k)=>n == x && (k == .local || k == .cell)))
noncomputable def yF:Expr->Bool
 | .Tuple _ _ _=>false | _=>true
noncomputable def oN (sc:Scope) (N:List Str):List Nat->Bool
 | []=>true
 | i::is=>(decide (i < N.length) && jE sc (nx N i)) && oN sc N is
mutual
noncomputable def bS (N:List Str):Sx->Stmt->Stmt
 | .asg i e,st=>.Assign [.Name (nx N i) (sk st 0).pos] (bE N e (sk st 1)) st.pos
 | .exp e,st=>.Expr (bE N e (sk st 0)) st.pos
 | .ret e,st=>.Return (some (bE N e (sk st 0))) st.pos
 | .retK e kp le,st=>.Return (some (.Call (.Name "sorted" (aG (sk st 0) 0).pos) [bE N e (aG (sk st 0) 1)] [⟨some "key",le,kp⟩] (sk st 0).pos)) st.pos
 | .iff c a b,st=>.If (bE N c (sk st 0)) (CP N a (sb st).1) (CP N b (sb st).2) st.pos
 | .whl c b,st=>.While (bE N c (sk st 0)) (CP N b (sb st).1) [] st.pos
 | .fr i it b,st=>.For (.Name (nx N i) (sk st 0).pos) (bI N it (sk st 1)) (CP N b (sb st).1) [] st.pos
 | .sto o i e,st=>.Assign [.Subscript (bE N o (aG (sk st 0) 0)) (bE N i (aG (sk st 0) 1)) (sk st 0).pos] (bE N e (sk st 1)) st.pos
 | .asgT is e,st=>.Assign [.Tuple (bN N is (ek (sk st 0))) (kd (sk st 0)) (sk st 0).pos] (bE N e (sk st 1)) st.pos
 | .frT is it b,st=>.For (.Tuple (bN N is (ek (sk st 0))) (kd (sk st 0)) (sk st 0).pos) (bI N it (sk st 1)) (CP N b (sb st).1) [] st.pos
noncomputable def CP (N:List Str):dm->List Stmt->List Stmt
 | .nil,_=>[]
 | .cons c r,ss=>bS N c (ss.headD default)::CP N r ss.tail
end
mutual
noncomputable def oS (sc:Scope) (N:List Str):Sx->Stmt->Bool
 | .asg i e,st=>(decide (i < N.length) && jE sc (nx N i)) && ((!gR e || (!uH e && rN sc (bF (sk st 1)) (nx N i) (sk st 0).pos (sk st 1).pos)) && oE sc N e (sk st 1))
 | .exp e,st=>!gR e && oE sc N e (sk st 0)
 | .ret e,st=>oE sc N e (sk st 0)
 | .retK e _ _,st=>cM sc "sorted" && oE sc N e (aG (sk st 0) 1)
 | .iff c a b,st=>oE sc N c (sk st 0) && (CC sc N a (sb st).1 && CC sc N b (sb st).2)
 | .whl c b,st=>oE sc N c (sk st 0) && CC sc N b (sb st).1
 | .fr i it b,st=>(decide (i < N.length) && jE sc (nx N i)) && (oI sc N it (sk st 1) && CC sc N b (sb st).1)
 | .sto o i e,st=>(!gR e && oE sc N o (aG (sk st 0) 0)) && (oE sc N i (aG (sk st 0) 1) && oE sc N e (sk st 1))
 | .asgT is e,st=>((!gR e && !isTup e) && oN sc N is) && oE sc N e (sk st 1)
 | .frT is it b,st=>oN sc N is && (oI sc N it (sk st 1) && CC sc N b (sb st).1)
noncomputable def CC (sc:Scope) (N:List Str):dm->List Stmt->Bool
 | .nil,_=>true
 | .cons c r,ss=>oS sc N c (ss.headD default) && CC sc N r ss.tail
end
noncomputable def nF (sc:Scope) (N:List Str) (b:dm) (ss:List Stmt):Prop:=CP N b ss=ss/\CC sc N b ss=true
noncomputable abbrev St:=L2.St
noncomputable abbrev XS:=Value->Option Addr->St->Hp->Prop
noncomputable def X0:XS:=fun _ _ _ _=>False
noncomputable abbrev Tb:=Addr × Pos × Str
noncomputable def TabAt (H:Hp) (t:Tb):Prop:=H t.1=some (.tbl #[])\/∃c',H t.1=some (.tbl #[rawInt t.2.1.line,rawInt t.2.1.col,.ref c'])/\H c'=some (.cod t.2.2)
structure ff (M:Mo) (H H':Hp):Prop where
 same:∀a o,H a=some o->(∀ ps,o ≠ .tbl ps)->H' a=some o
 off:∀a,M a ≠ none->H a=none->H' a=none
 GP:∀a,H a ≠ none->H' a ≠ none
structure i4 where
 T:Addr
 pos:Pos
 iq:Str
 x:Str
 args:Arguments
 body:Expr
 scope:Scope
noncomputable def i4.le (D:i4):Expr:=.Lambda D.args D.body D.scope D.pos
noncomputable def jL (H:Hp) (y:Addr × Str):Prop:=∃w q xs,H y.1=some (.tup [w,.ref q])/\H q=some (.lst (.str y.2::xs))
noncomputable def ER (a b:Addr × Str):Prop:=PySem.Spec.ltCps b.2.cps.toList a.2.cps.toList=false
structure bZ where
 con:Str->Option V
 mod:Mo
 has:Str->Bool
 fn:Str->Sp
 cm:Bool:=true
 /-- what a call of the function at an address promises -/
 lm:Option (i4 × List Tb):=none
 vc:Addr->Sp:=fun _ _ _ _ _=>False
 /-- the module's dicts -/
 gd:Str->Option (List (Key × V)):=fun _=>none
noncomputable def keyOf:V->Option Key
 | .int i=>some (.inl i)
 | .str x=>some (.inr x)
 | _=>none
noncomputable def CQ:V->Option Int
 | .int i=>some i
 | _=>none
noncomputable def iW:V->Option Str
 | .str x=>some x
 | _=>none
noncomputable def known (M:Mo) (H:Hp):V->Bool
 | .ref p=>match H p with
  | some (.lst _)=>true | some (.tup _)=>true | some (.dK _)=>true | some (.frz _ (.lst _))=>true | _=>false
 | .aD=>true | .bl _=>true | .int _=>true | .str _=>true
 | _=>false
noncomputable def lq (T:Ty) (H:Hp):V->Bool
 | .str _=>decide (T=.str)
 | .int _=>decide (T=.int)
 | .bl _=>decide (T=.bool) || decide (T=.int)
 | .ref p=>match H p with
  | some (.lst _)=>decide (T=.list) | some (.frz _ (.lst _))=>decide (T=.list) | some (.tup _)=>decide (T=.tuple) | some (.dK _)=>decide (T=.dict) | _=>false
 | _=>false
noncomputable def oZ (x:V) (H:Hp):Bool:=match x with
 | .ref p=>(match H p with | some (.dK _)=>true | _=>false)
 | _=>false
noncomputable def bC (M:Mo) (H:Hp):V->Option (Str × Str)
 | .ref p=>match rd M H p with
  | some (.tup [.str a,.str b])=>some (a,b)
  | _=>none
 | _=>none
noncomputable def i5 (x y:Str × Str):Bool:=if x.1=y.1 then decide (x.2.cps.toList < y.2.cps.toList)else decide (x.1.cps.toList < y.1.cps.toList)
noncomputable def qZ (M:Mo) (H:Hp):V->Bool
 | .ref p=>match rd M H p with
  | some (.tup [.int _,r])=>(bC M H r).isSome
  | _=>false
 | _=>false
section
variable (M:Mo)
noncomputable def bp (ts:List Str) (H:Hp) (Q:VK):Prop:=ts.length < 64/\∀ss l,List.Perm ss ts->sortedS ss=true->H l=none->M l=none->Q (.ref l) (upd H l (.lst (ss.map V.str)))
noncomputable def eV (f:Bf) (vs:List V) (H:Hp) (Q:VK):Prop:=match f,vs with
 | .len,[.str y]=>y.length<=sizeLine/\Q (.int y.length) H
 | .len,[.ref p]=>match rd M H p with
  | some (.lst xs)=>Q (.int xs.length) H
  | some (.tup xs)=>Q (.int xs.length) H
  | _=>False
 | .list,[.ref p]=>match rd M H p with
  | some (.lst xs)=>∀l,H l=none->M l=none->Q (.ref l) (upd H l (.lst xs))
  | some (.tup xs)=>∀l,H l=none->M l=none->Q (.ref l) (upd H l (.lst xs))
  | _=>False
 | .sorted,[.ref p]=>match rd M H p with
  | some (.lst xs)=>match allM iW xs with
   | some ts=>bp M ts H Q
   | none=>match allM CQ xs with
    | some ns=>ns.length < 64/\∀ms l,List.Perm ms ns->ms.Pairwise (·<=·)->H l=none->M l=none->Q (.ref l) (upd H l (.lst (ms.map V.int)))
    | none=>False
  | _=>False
 | .dsorted,[.ref p]=>match H p with
  | some (.dK kvs)=>match allM iW (kvs.map fun y=>kV y.1)with
   | some ts=>bp M ts H Q
   | none=>False
  | _=>False
 | .smin,[.str i,.str j]=>Q (.str (if j.cps.toList < i.cps.toList then j else i)) H
 | _,_=>False
noncomputable def dj (m:Mf) (x:V) (vs:List V) (H:Hp) (Q:VK):Prop:=match m,x,vs with
 | .join,.str x,[.ref p]=>match rd M H p with
  | some (.lst xs)=>match allM iW xs with
   | some ts=>JoinOk x ts=true/\Q (.str (Txt.join x ts)) H
   | none=>False
  | _=>False
 | .append,.ref p,[v]=>match H p with
  | some (.lst xs)=>xs.length < sizeLine/\Q .aD (upd H p (.lst (xs++[v])))
  | _=>False
 | .extend,.ref p,[.ref b]=>match H p,H b with
  | some (.lst xs),some (.lst ys)=>xs.length + ys.length<=sizeLine/\Q .aD (upd H p (.lst (xs++ys)))
  | _,_=>False
 | .clear,.ref p,[]=>match H p with
  | some (.lst _)=>Q .aD (upd H p (.lst []))
  | _=>False
 | .dpop,.ref p,[y]=>match H p with
  | some (.dK kvs)=>(match keyOf y with | some k=>(match bR kvs k with | some v=>Q v (upd H p (.dK (gq kvs k))) | none=>False) | none=>False)
  | _=>False
 | .get,.ref p,[y]=>match H p with
  | some (.dK kvs)=>(match keyOf y with | some k=>Q ((bR kvs k).getD .aD) H | none=>False)
  | _=>False
 | _,_,_=>False
noncomputable def DN (m:Mf) (x:V) (H:Hp):Bool:=match m with
 | .append=>(match x with | .ref p=>(match rd M H p with | some (.lst _)=>true | _=>false) | _=>false)
 | .pop=>(match x with | .ref p=>(match rd M H p with | some (.lst _)=>true | _=>false) | _=>false)
 | .extend=>(match x with | .ref p=>(match rd M H p with | some (.lst _)=>true | _=>false) | _=>false)
 | .clear=>(match x with | .ref p=>(match rd M H p with | some (.lst _)=>true | _=>false) | _=>false)
 | .dclear=>oZ x H
 | .copy=>oZ x H
 | .dpop=>oZ x H
 | .setdefault=>oZ x H
 | .get=>oZ x H
 | _=>(match x with | .str _=>true | _=>false)
noncomputable def xM (x:V) (lo hi:Option Int) (H:Hp) (Q:VK):Prop:=match x with
 | .str z=>z.length<=sizeLine/\Q (.str (Txt.slice z lo hi)) H
 | .ref p=>match rd M H p with
  | some (.lst xs)=>∀l,H l=none->M l=none->Q (.ref l) (upd H l (.lst (eB xs lo hi)))
  | some (.tup xs)=>¬ (HT.cz xs.length 0 lo=0/\HT.cz xs.length xs.length hi=xs.length)/\∀l,H l=none->M l=none->Q (.ref l) (upd H l (.tup (eB xs lo hi)))
  | _=>False
 | _=>False
noncomputable def lj (x:V) (H:Hp) (k:List V->(Hp->Prop)->Prop):Prop:=match x with
 | .str z=>z.length<=sizeLine/\k (z.cps.toList.map fun c=>.str ⟨#[c]⟩) (fun _=>True)
 | .ref p=>match rd M H p with
  | some (.lst xs)=>k xs (fun H'=>rd M H' p=some (.lst xs))
  | some (.tup xs)=>k xs (fun H'=>rd M H' p=some (.tup xs))
  | _=>False
 | _=>False
end
noncomputable def dB (te:TE) (tt:TT) (fvs:St) (D:Addr) (aq:Hp->Prop):List V->List V->Hp->(Hp->Prop)->Prop
 | [],acc,H,k=>aq H/\H D=some (.lst acc)/\k H
 | v::r,acc,H,k=>aq H/\tt (some v::fvs) H fun ok H1=>
  if ok=true then te (some v::fvs) H1 fun y H2=>H2 D=some (.lst acc)/\acc.length < sizeLine/\dB te tt fvs D aq r (acc++[y]) (upd H2 D (.lst (acc++[y]))) k
  else dB te tt fvs D aq r acc H1 k
noncomputable def cK (bd:V->Hp->Option St) (te:TE) (tt:TT) (fvs:St) (D:Addr) (aq:Hp->Prop):List V->List V->Hp->(Hp->Prop)->Prop
 | [],acc,H,k=>aq H/\H D=some (.lst acc)/\k H
 | v::r,acc,H,k=>aq H/\match bd v H with
  | some w=>tt (w++fvs) H fun ok H1=>if ok=true then te (w++fvs) H1 fun y H2=>H2 D=some (.lst acc)/\acc.length < sizeLine/\cK bd te tt fvs D aq r (acc++[y]) (upd H2 D (.lst (acc++[y]))) k
   else cK bd te tt fvs D aq r acc H1 k
  | none=>False
noncomputable def fz {ι:Type} (nxt:ι->Hp->(St->Hp->Prop)->Prop) (te:TE) (tt:TT) (fvs:St) (D:Addr) (aq:Hp->Prop):List ι->List V->Hp->(Hp->Prop)->Prop
 | [],acc,H,k=>aq H/\H D=some (.lst acc)/\k H
 | v::r,acc,H,k=>aq H/\nxt v H fun w H0=>tt (w++fvs) H0 fun ok H1=>if ok=true then te (w++fvs) H1 fun y H2=>H2 D=some (.lst acc)/\acc.length < sizeLine/\fz nxt te tt fvs D aq r (acc++[y]) (upd H2 D (.lst (acc++[y]))) k
   else fz nxt te tt fvs D aq r acc H1 k
noncomputable def w8 (M:Mo) (x y:V) (H:Hp) (k:List (V × V)->(Hp->Prop)->Prop):Prop:=match x,y with
 | .ref p,.ref q=>(match rd M H p,rd M H q with
  | some (.lst xs),some (.lst ys)=>k (xs.zip ys) (fun H'=>rd M H' p=some (.lst xs)/\rd M H' q=some (.lst ys))
  | _,_=>False)
 | _,_=>False
noncomputable def oC (M:Mo) (ps:List (V × V)) (H:Hp) (Q:VK):Prop:=∀H' l (ts:List Addr),ts.length=ps.length->(∀ (j:Nat) t,ts[j]?=some t->H t=none/\M t=none/\∃x y,ps[j]?=some (x,y)/\H' t=some (.tup [x,y]))->
 (∀ a o,H a=some o->H' a=some o)->(∀ a,M a ≠ none->H a=none->H' a=none)->H l=none->M l=none->H' l=some (.lst (ts.map V.ref))->Q (.ref l) H'
noncomputable def jH (M:Mo) (op:CmpOp) (x y:V) (H:Hp) (Q:VK):Prop:=match y with
 | .ref p=>(match rd M H p with
  | some (.lst xs)=>(match data M H 8 x,allM (data M H 8) xs with
   | some d,some ds=>(match op with
    | .In=>Q (.bl (ds.any fun e=>PyData.eqv e d)) H
    | .NotIn=>Q (.bl (!ds.any fun e=>PyData.eqv e d)) H
    | _=>False)
   | _,_=>False)
  | _=>False)
 | _=>False
noncomputable def Cb (M:Mo) (n:Nat) (v:V) (H:Hp):Option St:=match v with
 | .ref p=>(match rd M H p with
  | some (.tup xs)=>if xs.length=n then some (xs.map some)else none
  | _=>none)
 | _=>none
noncomputable def EU (M:Mo) (f:B2) (x:V) (H:Hp) (Q:VK):Prop:=match x with
 | .ref p=>(match rd M H p with
  | some (.lst xs)=>(match f with
   | .sortT=>(xs.length < 64/\xs.all (fun x=>(bC M H x).isSome)=true)/\∀ws l,List.Perm ws xs->ws.Pairwise (fun x y=>∀a b,bC M H x=some a->bC M H y=some b->i5 b a=false)->H l=none->M l=none->Q (.ref l) (upd H l (.lst ws))
   | .sortM=>xs.all (qZ M H)=true/\∀ws l,List.Perm ws xs->H l=none->M l=none->Q (.ref l) (upd H l (.lst ws))
   | .sum=>(match allM CQ xs with | some ns=>Q (.int ns.sum) H | none=>False))
  | _=>False)
 | _=>False
noncomputable def Co (M:Mo) (x y:V) (H:Hp) (Q:VK):Prop:=∃ (p q:Addr) (ts us:List Str),x=.ref p/\y=.ref q/\(∃ kvs,H p=some (.dK kvs)/\kvs.map (·.1)=ts.map Sum.inr)/\(∃ kvs,H q=some (.dK kvs)/\kvs.map (·.1)=us.map Sum.inr)/\ts.length < 32/\us.length < 32/\
 ∀ss l,ss.Nodup->(∀ z,z ∈ ss ↔ (z ∈ ts/\z ∉ us)\/(z ∈ us/\z ∉ ts))->sortedS ss=true->H l=none->M l=none->Q (.ref l) (upd H l (.lst (ss.map V.str)))
noncomputable def CD (M:Mo) (x:V) (H:Hp) (Q:VK):Prop:=∃ (p:Addr) (ts:List Str),x=.ref p/\rd M H p=some (.lst (ts.map V.str))/\0 < ts.length/\∀m,m ∈ ts->(∀ y ∈ ts,¬y.cps.toList < m.cps.toList)->Q (.str m) H
noncomputable def qI (M:Mo) (x:V) (H:Hp) (Q:VK):Prop:=match x with
 | .ref p=>(match rd M H p with
  | some (.lst xs)=>(match allM iW xs with
   | some ts=>ts.length + 1 < scanBound/\Q (.int (PySem.Sg.iE (fun i=>ts.getD i ⟨#[]⟩) ts.length).length) H
   | none=>False)
  | _=>False)
 | _=>False
noncomputable def t5 (x y:V) (H:Hp) (Q:VK):Prop:=match x,y with
 | .str a,.str b=>Q (.str (if a.cps.toList < b.cps.toList then b else a)) H
 | _,_=>False
noncomputable def o4 (i:Nat) (tb:TS) (aq:Hp->Prop):List V->TS
 | [],D,σ,H=>aq H/\D.nx σ H
 | v::r,D,σ,H=>aq H/\tb {D with nx:=o4 i tb aq r D,ct:=o4 i tb aq r D,bk:=D.nx} (σ.set i (some v)) H
noncomputable def eO:St->List Nat->List V->St
 | σ,i::is,x::xs=>eO (σ.set i (some x)) is xs
 | σ,_,_=>σ
noncomputable def gk (M:Mo) (is:List Nat) (tb:TS) (aq:Hp->Prop):List V->TS
 | [],D,σ,H=>aq H/\D.nx σ H
 | v::r,D,σ,H=>aq H/\match v with
  | .ref p=>(match rd M H p with
   | some (.tup xs)=>xs.length=is.length/\tb {D with nx:=gk M is tb aq r D,ct:=gk M is tb aq r D,bk:=D.nx} (eO σ is xs) H
   | _=>False)
  | _=>False
noncomputable def vo (x k v:V) (H:Hp) (Q:Hp->Prop):Prop:=match x with
 | .ref p=>(match H p with
  | some (.lst xs)=>(match k with | .int j=>(match oX xs.length j with | some n=>Q (upd H p (.lst (xs.set n v))) | none=>False) | _=>False)
  | some (.dK kvs)=>(match keyOf k with | some kk=>kvs.length < sizeLine/\Q (upd H p (.dK (putK kvs kk v))) | none=>False)
  | _=>False)
 | _=>False
noncomputable def qR (M:Mo) (x y:V) (H:Hp) (Q:VK):Prop:=match x with
 | .ref p=>(match rd M H p with
  | some (.dK kvs)=>(match keyOf y with | some k=>(match bR kvs k with | some v=>Q v H | none=>False) | none=>False)
  | _=>False)
 | _=>False
noncomputable def Ak (M:Mo) (H:Hp):V->Option (List (Key × V))
 | .ref p=>(match rd M H p with | some (.dK kvs)=>some kvs | _=>none)
 | _=>none
noncomputable def rq (M:Mo) (op:CmpOp) (x y:V) (H:Hp) (Q:VK):Prop:=match op with
 | .In=>(match Ak M H y,keyOf x with | some kvs,some k=>Q (.bl (bR kvs k).isSome) H | _,_=>False)
 | .NotIn=>(match Ak M H y,keyOf x with | some kvs,some k=>Q (.bl (!(bR kvs k).isSome)) H | _,_=>False)
 | _=>False
noncomputable def vars (σ:St) (fv:List (Str × Nat)):St:=fv.map fun y=>(σ[y.2]?).join
mutual
noncomputable def wE (Γ:bZ):Ex->XS->TE
 | .var i,_=>fun σ H Q=>match σ[i]? with | some (some v)=>Q v H | _=>False
 | .con v,_=>fun _ H Q=>Q v H
 | .glob x,_=>fun _ H Q=>match Γ.con x with | some v=>Q v H | none=>False
 | .bin op a b,Ξ=>fun σ H Q=>wE Γ a Ξ σ H fun x H1=>wE Γ b Ξ σ H1 fun y H2=>jr Γ.mod op x y H2 Q
 | .neg a,Ξ=>fun σ H Q=>wE Γ a Ξ σ H fun x H1=>match x with | .int i=>Q (.int (-i)) H1 | _=>False
 | .cmp op a b,Ξ=>fun σ H Q=>wE Γ a Ξ σ H fun x H1=>wE Γ b Ξ σ H1 fun y H2=>cC Γ.mod op x y H2 Q
 | .and a b,Ξ=>fun σ H Q=>wE Γ a Ξ σ H fun x H1=>cS Γ.mod x H1 fun k=>if k=true then wE Γ b Ξ σ H1 Q else Q x H1
 | .or a b,Ξ=>fun σ H Q=>wE Γ a Ξ σ H fun x H1=>cS Γ.mod x H1 fun k=>if k=true then Q x H1 else wE Γ b Ξ σ H1 Q
 | .not a,Ξ=>fun σ H Q=>wE Γ a Ξ σ H fun x H1=>cS Γ.mod x H1 fun k=>Q (.bl (!k)) H1
 | .ite c a b,Ξ=>fun σ H Q=>wT Γ c Ξ σ H fun k H1=>if k=true then wE Γ a Ξ σ H1 Q else wE Γ b Ξ σ H1 Q
 | .call f args,Ξ=>fun σ H Q=>(Γ.cm=true/\Γ.has f=true)/\wEs Γ args Ξ σ H fun vs H1=>Γ.fn f vs H1 Q fun C d H'=>Ξ C d σ H'
 | .blt f args,Ξ=>fun σ H Q=>Γ.cm=true/\wEs Γ args Ξ σ H fun vs H1=>eV Γ.mod f vs H1 Q
 | .mth m o args,Ξ=>fun σ H Q=>wE Γ o Ξ σ H fun x H1=>DN Γ.mod m x H1=true/\wEs Γ args Ξ σ H1 fun vs H2=>dj Γ.mod m x vs H2 Q
 | .isin a T,Ξ=>fun σ H Q=>wE Γ a Ξ σ H fun x H1=>match T with
  | .own _=>False
  | T=>known Γ.mod H1 x=true/\Q (.bl (lq T H1 x)) H1
 | .idx a b,Ξ=>fun σ H Q=>wE Γ a Ξ σ H fun x H1=>wE Γ b Ξ σ H1 fun y H2=>cJ Γ.mod x y H2 Q
 | .slc a lo hi,Ξ=>fun σ H Q=>wE Γ a Ξ σ H fun x H1=>wP Γ lo Ξ σ H1 fun l H2=>wP Γ hi Ξ σ H2 fun u H3=>xM Γ.mod x l u H3 Q
 | .tup es,Ξ=>fun σ H Q=>wEs Γ es Ξ σ H fun xs H1=>xs.length<=sizeLine/\∀p,H1 p=none->Γ.mod p=none->Q (.ref p) (upd H1 p (.tup xs))
 | .lst es,Ξ=>fun σ H Q=>wEs Γ es Ξ σ H fun xs H1=>xs.length<=sizeLine/\∀p,H1 p=none->Γ.mod p=none->Q (.ref p) (upd H1 p (.lst xs))
 | .comp _ fv it elt ifs,Ξ=>fun σ H Q=>Γ.cm=true/\wI Γ it Ξ σ H fun xs aq H1=>∀D,H1 D=none->Γ.mod D=none->
  dB (wE Γ elt fun C d _ H'=>Ξ C d σ H') (wTs Γ ifs X0) (vars σ fv) D aq xs [] (upd H1 D (.lst [])) fun H'=>Q (.ref D) H'
 | .cmpD op a b,Ξ=>fun σ H Q=>wE Γ a Ξ σ H fun x H1=>wE Γ b Ξ σ H1 fun y H2=>rq Γ.mod op x y H2 Q
 | .idxD a b,Ξ=>fun σ H Q=>wE Γ a Ξ σ H fun x H1=>wE Γ b Ξ σ H1 fun y H2=>qR Γ.mod x y H2 Q
 | .dnew,_=>fun _ H Q=>∀p,H p=none->Γ.mod p=none->Q (.ref p) (upd H p (.dK []))
 | .blt2 f a,Ξ=>fun σ H Q=>Γ.cm=true/\wE Γ a Ξ σ H fun x H1=>EU Γ.mod f x H1 Q
 | .iF a,Ξ=>fun σ H Q=>Γ.cm=true/\wE Γ a Ξ σ H fun x H1=>qI Γ.mod x H1 Q
 | .smax a b,Ξ=>fun σ H Q=>Γ.cm=true/\wE Γ a Ξ σ H fun x H1=>wE Γ b Ξ σ H1 fun y H2=>t5 x y H2 Q
 | .cmpI op a b,Ξ=>fun σ H Q=>wE Γ a Ξ σ H fun x H1=>wE Γ b Ξ σ H1 fun y H2=>jH Γ.mod op x y H2 Q
 | .lzip a b,Ξ=>fun σ H Q=>Γ.cm=true/\wE Γ a Ξ σ H fun x H1=>wE Γ b Ξ σ H1 fun y H2=>w8 Γ.mod x y H2 fun ps _=>oC Γ.mod ps H2 Q
 | .xors i j,_=>fun σ H Q=>Γ.cm=true/\∃x y,σ[i]?=some (some x)/\σ[j]?=some (some y)/\Co Γ.mod x y H Q
 | .minL a,Ξ=>fun σ H Q=>Γ.cm=true/\wE Γ a Ξ σ H fun x H1=>CD Γ.mod x H1 Q
 | .compT xs fv it elt,Ξ=>fun σ H Q=>Γ.cm=true/\wI Γ it Ξ σ H fun vs aq H1=>∀D,H1 D=none->Γ.mod D=none->
  cK (Cb Γ.mod xs.length) (wE Γ elt fun C d _ H'=>Ξ C d σ H') (fun _ H Q=>Q true H) (vars σ fv) D aq vs [] (upd H1 D (.lst [])) fun H'=>Q (.ref D) H'
noncomputable def wT (Γ:bZ):Ex->XS->TT
 | .and a b,Ξ=>fun σ H Q=>wT Γ a Ξ σ H fun k H1=>if k=true then wT Γ b Ξ σ H1 Q else Q false H1
 | .or a b,Ξ=>fun σ H Q=>wT Γ a Ξ σ H fun k H1=>if k=true then Q true H1 else wT Γ b Ξ σ H1 Q
 | .not a,Ξ=>fun σ H Q=>wT Γ a Ξ σ H fun k H1=>Q (!k) H1
 | .ite c a b,Ξ=>fun σ H Q=>wT Γ c Ξ σ H fun k H1=>if k=true then wT Γ a Ξ σ H1 Q else wT Γ b Ξ σ H1 Q
 | .var i,_=>fun σ H Q=>match σ[i]? with | some (some v)=>cS Γ.mod v H fun k=>Q k H | _=>False
 | .cmp op a b,Ξ=>fun σ H Q=>wE Γ a Ξ σ H fun x H1=>wE Γ b Ξ σ H1 fun y H2=>cC Γ.mod op x y H2 fun x H'=>∃k,x=.bl k/\Q k H'
 | .call f args,Ξ=>fun σ H Q=>(Γ.cm=true/\Γ.has f=true)/\wEs Γ args Ξ σ H fun vs H1=>Γ.fn f vs H1 (fun x H1=>cS Γ.mod x H1 fun k=>Q k H1) fun C d H'=>Ξ C d σ H'
 | .blt f args,Ξ=>fun σ H Q=>Γ.cm=true/\wEs Γ args Ξ σ H fun vs H1=>eV Γ.mod f vs H1 fun x H1=>cS Γ.mod x H1 fun k=>Q k H1
 | .mth m o args,Ξ=>fun σ H Q=>wE Γ o Ξ σ H fun x H1=>DN Γ.mod m x H1=true/\wEs Γ args Ξ σ H1 fun vs H2=>dj Γ.mod m x vs H2 fun x H1=>cS Γ.mod x H1 fun k=>Q k H1
 | .isin a T,Ξ=>fun σ H Q=>wE Γ a Ξ σ H fun x H1=>match T with
  | .own _=>False
  | T=>known Γ.mod H1 x=true/\Q (lq T H1 x) H1
 | .idx a b,Ξ=>fun σ H Q=>wE Γ a Ξ σ H fun x H1=>wE Γ b Ξ σ H1 fun y H2=>cJ Γ.mod x y H2 fun x H1=>cS Γ.mod x H1 fun k=>Q k H1
 | .con v,_=>fun _ H Q=>cS Γ.mod v H fun k=>Q k H
 | .cmpI op a b,Ξ=>fun σ H Q=>wE Γ a Ξ σ H fun x H1=>wE Γ b Ξ σ H1 fun y H2=>jH Γ.mod op x y H2 fun x H'=>∃k,x=.bl k/\Q k H'
 | .cmpD op a b,Ξ=>fun σ H Q=>wE Γ a Ξ σ H fun x H1=>wE Γ b Ξ σ H1 fun y H2=>rq Γ.mod op x y H2 fun x H'=>∃k,x=.bl k/\Q k H'
 | _,_=>fun _ _ _=>False
noncomputable def wEs (Γ:bZ):lX->XS->TA
 | .nil,_=>fun _ H Q=>Q [] H
 | .cons e r,Ξ=>fun σ H Q=>wE Γ e Ξ σ H fun x H1=>wEs Γ r Ξ σ H1 fun xs H2=>Q (x::xs) H2
noncomputable def wP (Γ:bZ):lX->XS->St->Hp->(Option Int->Hp->Prop)->Prop
 | .nil,_=>fun _ H Q=>Q none H
 | .cons e .nil,Ξ=>fun σ H Q=>wE Γ e Ξ σ H fun x H1=>match x with | .int i=>Q (some i) H1 | _=>False
 | _,_=>fun _ _ _=>False
noncomputable def wTs (Γ:bZ):lX->XS->TT
 | .nil,_=>fun _ H Q=>Q true H
 | .cons e _,Ξ=>wT Γ e Ξ
noncomputable def wI (Γ:bZ):Ix->XS->St->Hp->(List V->(Hp->Prop)->Hp->Prop)->Prop
 | .ex e,Ξ,σ,H,k=>wE Γ e Ξ σ H fun x H1=>lj Γ.mod x H1 fun xs aq=>k xs aq H1
 | .rng1 a,Ξ,σ,H,k=>wE Γ a Ξ σ H fun x H1=>match x with
  | .int j=>-(2 ^ 62)<=j/\j < 2 ^ 62/\k ((List.range j.toNat).map fun i:Nat=>.int i) (fun _=>True) H1
  | _=>False
end
mutual
noncomputable def wS:Sx->bZ->XS->TS
 | .asg i e,Γ,Ξ=>fun D σ H=>wE Γ e Ξ σ H fun v H1=>D.nx (σ.set i (some v)) H1
 | .exp e,Γ,Ξ=>fun D σ H=>wE Γ e Ξ σ H fun _ H1=>D.nx σ H1
 | .ret e,Γ,Ξ=>fun D σ H=>wE Γ e Ξ σ H D.rt
 | .retK e _ le,Γ,Ξ=>fun D σ H=>match Γ.lm with
  | some (L,Ts)=>le=L.le/\Γ.cm=true/\wE Γ e Ξ σ H fun x H1=>(∀ t ∈ Ts,TabAt H1 t)/\∃ (p:Addr) (ys:List (Addr × Str)),x=.ref p/\H1 p=some (.lst (ys.map fun y=>.ref y.1))/\ys.length < 64/\(∀ y ∈ ys,jL H1 y)/\
   ∀ (H2:Hp) (l:Addr) (zs:List (Addr × Str)),ff Γ.mod H1 H2->(∀ t ∈ Ts,TabAt H2 t)->H1 l=none->Γ.mod l=none->H2 l=some (.lst (zs.map fun z=>.ref z.1))->zs.Perm ys->zs.Pairwise ER->D.rt (.ref l) H2
  | none=>False
 | .iff c a b,Γ,Ξ=>fun D σ H=>wT Γ c Ξ σ H fun k H1=>if k=true then wSs a Γ Ξ D σ H1 else wSs b Γ Ξ D σ H1
 | .whl c b,Γ,_=>fun D σ H=>∃W:Nat->St->Hp->Prop,(∃ m,W m σ H)/\∀m σ H,W m σ H->wT Γ c X0 σ H fun k H1=>
  if k=true then ∃N:St->Hp->Prop,(∀ σ' H',N σ' H'->∃m',m' < m/\W m' σ' H')/\wSs b Γ X0 {D with nx:=N,ct:=N,bk:=D.nx} σ H1 else D.nx σ H1
 | .fr i it b,Γ,_=>fun D σ H=>Γ.cm=true/\wI Γ it X0 σ H fun xs aq H1=>o4 i (wSs b Γ X0) aq xs D σ H1
 | .sto o i e,Γ,Ξ=>fun D σ H=>wE Γ e Ξ σ H fun v H1=>wE Γ o Ξ σ H1 fun x H2=>wE Γ i Ξ σ H2 fun k H3=>vo x k v H3 (D.nx σ)
 | .asgT is e,Γ,Ξ=>fun D σ H=>Γ.cm=true/\wE Γ e Ξ σ H fun x H1=>match x with
  | .ref p=>(match rd Γ.mod H1 p with | some (.tup xs)=>xs.length=is.length/\D.nx (eO σ is xs) H1 | _=>False)
  | _=>False
 | .frT is it b,Γ,_=>fun D σ H=>Γ.cm=true/\wI Γ it X0 σ H fun xs aq H1=>gk Γ.mod is (wSs b Γ X0) aq xs D σ H1
noncomputable def wSs:dm->bZ->XS->TS
 | .nil,_,_=>fun D σ H=>D.nx σ H
 | .cons s r,Γ,Ξ=>fun D σ H=>wS s Γ Ξ {D with nx:=wSs r Γ Ξ D} σ H
end
structure jK (J:It) (xs:List V) (aq:Hp->Prop):Prop where
 go:∀i H,aq H->i < xs.length->J.go i H
 pO:∀i H x H',i < xs.length->J.pO i H x H'->aq H->H'=H/\xs[i]?=some x
 stop:∀i H,aq H->xs.length<=i->J.stop i H
section
variable {X:Cx} {M:Mo} {pins:NU} {σ:L2.St} {H:Hp} {s:Shared} {p:Addr} {kvs:List (Key × V)} {A:Around} {E:NT}
theorem iQ {x:V} {k:Key} (h:keyOf x=some k):x=kV k:=by
 cases x<;>first | (cases h;rfl) | cases h
theorem Eo {k:Key} {u:Value} {Q:NT} (I:Inv X pins σ H s) (e:H p=some (.dK kvs)) (ry:RelV (kV k) u) (h:∀w' s',Inv X pins σ H s'->RelV ((bR kvs k).getD .aD) w'->Q w' s'):
  wpAny (model X.prog X.w) A (call (.builtin "dict.get") [.ref p,u]) Q E s:=by
 obtain⟨z,hd,vs,rel,dd⟩:=nP I.aZ e;refine call_meetsIn PySem.F.slot_dict_get dd.typeIs PySem.F.entry_dict_get (PySem.F.args_dict_get_2 _ _) (meets_dict_get (aL X.prog X.w) p (lh ry) hd) ⟨_,dd.mapOf,?_⟩;refine h _ _ (I.tok _) ?_;cases l:bR kvs k with
 | none=>have:=gZ.none_of (o:=valueAt vs k) (by rw[<-l];exact rel.val k);rw[this];exact rfl
 | some y=>
  obtain⟨w',hw,rw'⟩:=gZ.some_of (v:=y) (o:=valueAt vs k) (by rw[<-l];exact rel.val k);rw[hw];exact rw'
theorem n8:∀ {kvs:List (Key × V)} {ts:List Str},allM iW (kvs.map fun y=>kV y.1)=some ts->kvs.map (·.1)=ts.map Sum.inr
 | [],ts,h=>by rw[allM_nil h];rfl
 | y::r,ts,h=>by
  obtain⟨a,t,h1,h2,rfl⟩:=allM_cons (x:=kV y.1) (r:=r.map fun y=>kV y.1) h;obtain⟨k,v⟩:=y;cases k with
  | inl i=>cases h1
  | inr x=>cases h1;rw[JA,JA,n8 h2]
end
section
variable {X:Cx} {M:Mo} {pins:NU} {σ:L2.St} {H:Hp} {s:Shared}
noncomputable def IC:Bf->Value
 | .str=>.type "str" | .int=>.type "int" | .list=>.type "list" | .tuple=>.type "tuple"
 | .len=>.builtin "len" | .all=>.builtin "all" | .any=>.builtin "any" | .abs=>.builtin "abs" | .sorted=>.builtin "sorted" | .sortset=>.builtin "sorted"
 | .max=>.builtin "max" | .min=>.builtin "min" | .sum=>.builtin "sum" | .dlen=>.builtin "len" | .dsorted=>.builtin "sorted" | .smin=>.builtin "min"
theorem i9:∀ {xs:List V} {au:List Value} {ts:List Str},Vals xs au->allM iW xs=some ts->StrsAre au ts:=by
 intro xs au ts r e
 induction r generalizing ts with
 | nil=>simp[allM]at e;subst e;exact .nil
 | cons h r ih=>
  rename_i x u xs us;cases x with
  | str y=>
   obtain⟨t,rfl⟩:=h;simp only[allM,iW]at e;cases q:allM iW xs with
   | none=>rw[q]at e;simp at e
   | some ts'=>rw[q]at e;simp at e;subst e;exact .cons y t (ih q)
  | _=>simp[allM,iW]at e
theorem nJ:∀ {xs:List V} {au:List Value} {ts:List Int},Vals xs au->allM CQ xs=some ts->IntsAre au ts:=by
 intro xs au ts r e
 induction r generalizing ts with
 | nil=>simp[allM]at e;subst e;exact .nil
 | cons h r ih=>
  rename_i x u xs us;cases x with
  | int y=>
   obtain⟨t,rfl⟩:=h;simp only[allM,CQ]at e;cases q:allM CQ xs with
   | none=>rw[q]at e;simp at e
   | some ts'=>rw[q]at e;simp at e;subst e;exact .cons y t (ih q)
  | _=>simp[allM,CQ]at e
theorem cL:∀ {au:List Value} {ts:List Str},StrsAre au ts->Vals (ts.map V.str) au
 | _,_,.nil=>.nil
 | _,_,.cons y t r=>.cons ⟨t,rfl⟩ (cL r)
theorem hX:∀ {au:List Value} {ts:List Int},IntsAre au ts->Vals (ts.map V.int) au
 | _,_,.nil=>.nil
 | _,_,.cons y t r=>.cons ⟨t,rfl⟩ (hX r)
theorem Inv.Hv {s':Shared} (I:Inv X pins σ H s) (h1:s'.heap=s.heap) (h2:s'.gens=s.gens) (h3:s'.os=s.os):Inv X pins σ H s':=by
 obtain⟨hp,g,d,tk,os⟩:=s';obtain⟨hp',g',d',tk',os'⟩:=s;dsimp only at h1 h2 h3;subst h1;subst h2;subst h3;exact⟨I.ok,I.os,I.bare,I.base,I.loc,I.cell,I.free,I.d4,I.pin,I.aZ,I.len⟩
theorem dX (mo:ax X.K M) {s':Shared} {l:Addr} {out:NW} {e:Nat} {ys:List V} {Q:VK} (I:Inv X pins σ H s) (kp:∀b o,s.heap.get? b=some o->s'.heap.get? b=some o) (hg:s'.gens=s.gens) (ho:s'.os=s.os) (hl:s.heap.objs.size<=l)
  (hn:s'.heap.get? l=some (seqObj "list" out e)) (hv:Vals ys out.toList) (hz:ys.length<=sizeLine) (h:H l=none->M l=none->Q (.ref l) (upd H l (.lst ys))):EP X pins σ Q (.ref l) s':=by
 have J:Inv X pins σ (upd H l (.lst ys)) {s with heap:=s'.heap,toks:=s'.toks}:=I.laid (t':=s'.toks) kp hl (show bA X.prog X.w _ s'.heap l (.lst ys)from⟨hz,out.toList,e,hv,by rw[hn]⟩);have J':Inv X pins σ (upd H l (.lst ys)) s':=Inv.Hv J rfl hg ho;exact⟨.ref l,_,J',rfl,h (I.aZ.fresh hl) (g7.new (Inv.sD mo J'))⟩
theorem vp (mo:ax X.K M) {p:Addr} {xs:List V} {ts:List Str} {Q:VK} (I:Inv X pins σ H s) (hq:jv X.K H p xs) (e:allM iW xs=some ts) (h:bp M ts H Q):wpAny (model X.prog X.w) X.A (call (.builtin "sorted") [.ref p]) (EP X pins σ Q) X.xe s:=by
 obtain⟨au,rv,pl,hz⟩:=I.list hq;have hs:=i9 rv e;obtain⟨h64,h⟩:=h;refine sorted_strs pl.isList hs (by rw[hs.len_eq];exact h64) fun out ss a1 a2 a3=>?_;obtain⟨c,hc⟩:=sortedAll_at s.heap au out;refine dX mo I (fun b o q=>sortedAll_old q) rfl rfl (Kq _) hc (cL a1) ?_ (h ss _ a2 a3);rw[Jb,a2.length_eq,Jm];omega
theorem mj (mo:ax X.K M) {p:Addr} {xs:List V} {ts:List Int} {Q:VK} (I:Inv X pins σ H s) (hq:jv X.K H p xs) (e:allM CQ xs=some ts) (h64:ts.length < 64)
  (h:∀ms l,List.Perm ms ts->ms.Pairwise (·<=·)->H l=none->M l=none->Q (.ref l) (upd H l (.lst (ms.map V.int)))):wpAny (model X.prog X.w) X.A (call (.builtin "sorted") [.ref p]) (EP X pins σ Q) X.xe s:=by
 obtain⟨au,rv,pl,hz⟩:=I.list hq;have hs:=nJ rv e;refine sorted_ints pl.isList hs (by rw[IntsAre.length hs];exact h64) fun out ss a1 a2 a3=>?_;obtain⟨c,hc⟩:=sortedAll_at s.heap au out;refine dX mo I (fun b o q=>sortedAll_old q) rfl rfl (Kq _) hc (hX a1) ?_ (h ss _ a2 a3);rw[Jb,a2.length_eq,Jm];omega
theorem rZ (hc:X.calm=true) (mo:ax X.K M) {p:Addr} {kvs:List (Key × V)} {ts:List Str} {Q:VK} (I:Inv X pins σ H s) (e:H p=some (.dK kvs)) (et:allM iW (kvs.map fun y=>kV y.1)=some ts) (h:bp M ts H Q):wpAny (model X.prog X.w) X.A (call (.builtin "sorted") [.ref p]) (EP X pins σ Q) X.xe s:=by
 obtain⟨z,hd,vs,rel,dd⟩:=nP I.aZ e;obtain⟨h64,h⟩:=h;refine PySem.Sg.p5 (I.ok.hd hc) h64 hd dd (by rw[<-rel.keys];exact n8 et) fun s' l out ss e kp2 eg eo _ hl hn a1 a2 a3=>?_;refine dX mo I kp2 eg eo hl hn (cL a1) ?_ (h ss _ a2 a3);rw[Jb,a2.length_eq,Jm];omega
theorem Et (hc:X.calm=true) (m:ax X.K M) (f:Bf):n9 X (IC f) (eV M f):=by
 intro pins s σ H xs us Q I r h;cases f with
 | len=>
  cases xs with
  | nil=>exact False.elim h
  | cons x t=>
   cases t with
   | cons _ _=>first | exact False.elim h | (cases x<;>exact False.elim h)
   | nil=>
    cases x with
    | str y=>
     exact o_ pins s σ H _ _ Q I r ⟨_,rfl,h.1,h.2⟩
    | ref p=>
     unfold eV at h;dsimp only at h;split at h
     ·rename_i e;exact iV pins s σ H _ _ Q I r ⟨_,_,rfl,.inl (bf m e),h⟩
     ·rename_i e;exact iV pins s σ H _ _ Q I r ⟨_,_,rfl,.inr (bO m e),h⟩
     ·exact h.elim
    | _=>exact False.elim h
 | list=>
  cases xs with
  | nil=>exact False.elim h
  | cons x t=>
   cases t with
   | cons _ _=>first | exact False.elim h | (cases x<;>exact False.elim h)
   | nil=>
    cases x with
    | ref p=>
     unfold eV at h;dsimp only at h;split at h
     ·rename_i e;exact bW (iU pins s σ H _ _ (fun v H'=>g7 M H'->Q v H') I r ⟨_,_,rfl,.inl (bf m e),fun l hl of=>h l hl of.new⟩) fun _ _=>gT m
     ·rename_i e;exact bW (iU pins s σ H _ _ (fun v H'=>g7 M H'->Q v H') I r ⟨_,_,rfl,.inr (bO m e),fun l hl of=>h l hl of.new⟩) fun _ _=>gT m
     ·exact h.elim
    | _=>exact False.elim h
 | sorted=>
  cases xs with
  | nil=>exact False.elim h
  | cons x t=>
   cases t with
   | cons _ _=>first | exact False.elim h | (cases x<;>exact False.elim h)
   | nil=>
    cases x with
    | ref p=>
     obtain⟨u,rfl,ru⟩:=vals1 r;cases ru
     unfold eV at h;dsimp only at h;split at h
     ·rename_i e;split at h
      ·rename_i eb;exact vp m I (bf m e) eb h
      ·split at h
       ·rename_i eb;exact mj m I (bf m e) eb h.1 h.2
       ·exact h.elim
     ·exact h.elim
    | _=>exact False.elim h
 | dsorted=>
  cases xs with
  | nil=>exact False.elim h
  | cons x t=>
   cases t with
   | cons _ _=>first | exact False.elim h | (cases x<;>exact False.elim h)
   | nil=>
    cases x with
    | ref p=>
     obtain⟨u,rfl,ru⟩:=vals1 r;cases ru
     unfold eV at h;dsimp only at h;split at h
     ·rename_i e;split at h
      ·rename_i et;exact rZ hc m I e et h
      ·exact h.elim
     ·exact h.elim
    | _=>exact False.elim h
 | smin=>
  cases xs with
  | nil=>exact False.elim h
  | cons x t=>
   cases x with
   | str i=>
    cases t with
    | nil=>exact False.elim h
    | cons y t=>
     cases t with
     | cons _ _=>first | exact False.elim h | (cases y<;>exact False.elim h)
     | nil=>
      cases y with
      | str j=>
       obtain⟨u,w',rfl,⟨t,rfl⟩,⟨t',rfl⟩⟩:=vals2 r;refine PySem.Sg.oJ (I.ok.hd hc) fun h' tk k=>⟨_,H,I.kept k,?_,h⟩
       by_cases hj:j.cps.toList < i.cps.toList
       ·rw[Jc hj,Jc hj];exact⟨_,rfl⟩
       ·rw[I_ hj,I_ hj];exact⟨_,rfl⟩
      | _=>exact False.elim h
   | _=>exact False.elim h
 | _=>exact False.elim h
noncomputable def Hr:Mf->String
 | .append=> "list" | .pop=> "list" | .extend=> "list" | .clear=> "list" | .dpop=> "dict" | .dclear=> "dict" | .copy=> "dict" | .setdefault=> "dict" | .get=> "dict" | _=> "str"
noncomputable def DQ:Mf->String
 | .startswith=> "str.startswith" | .endswith=> "str.endswith" | .split=> "str.split" | .join=> "str.join" | .append=> "list.append" | .pop=> "list.pop" | .extend=> "list.extend" | .clear=> "list.clear" | .dpop=> "dict.pop" | .dclear=> "dict.clear" | .copy=> "dict.copy" | .setdefault=> "dict.setdefault" | .get=> "dict.get"
theorem tU:∀ {xs:List V} {us:List Value} {ts:List Str},Vals xs us->allM iW xs=some ts->∃l:List (Str × Tok),strValues l=us/\l.map (·.1)=ts
 | [],_,ts,.nil,h=>by rw[allM_nil h];exact⟨[],rfl,rfl⟩
 | x::xs,_,ts,.cons r t,h=>by
  obtain⟨a,l,h1,h2,rfl⟩:=allM_cons h;obtain⟨q,e1,e2⟩:=tU t h2;cases x<;>first | cases h1 | skip
  obtain⟨tk,rfl⟩:=r;exact⟨(_,tk)::q,by rw[<-e1];rfl,by rw[<-e2];rfl⟩
theorem yM (mo:ax X.K M) (m:Mf):IU X (DQ m) (dj M m):=by
 intro pins s σ H x xs v us Q I rx r h;cases m with
 | join=>
  cases x with
  | str x=>
   cases xs with
   | nil=>exact False.elim h
   | cons y t=>
    cases t with
    | cons _ _=>first | exact False.elim h | (cases y<;>exact False.elim h)
    | nil=>
     cases y with
     | ref p=>
      obtain⟨u,rfl,ru⟩:=vals1 r;obtain⟨t,rfl⟩:=rx;cases ru
      unfold dj at h;dsimp only at h;split at h
      ·rename_i e;split at h
       ·rename_i ts et;obtain⟨au,rv,pl,_⟩:=I.list (bf mo e);obtain⟨l,e1,e2⟩:=tU rv et;exact PySem.SC.join (l:=l) (texts:=ts) (by rw[e1];exact pl.isList) e2 h.1 fun t' k=>⟨.str _,H,I.tok _,⟨_,rfl⟩,h.2⟩
       ·exact h.elim
      ·exact h.elim
     | _=>exact False.elim h
  | _=>exact False.elim h
 | append=>
  cases x with
  | ref p=>
   cases xs with
   | nil=>exact False.elim h
   | cons y t=>
    cases t with
    | cons _ _=>first | exact False.elim h | (cases y<;>exact False.elim h)
    | nil=>
     obtain⟨u,rfl,ru⟩:=vals1 r;unfold dj at h;dsimp only at h;split at h
     ·rename_i e;exact nD pins s σ H _ _ _ _ Q I rx r ⟨_,_,_,rfl,rfl,e,h.1,h.2⟩
     ·exact h.elim
  | _=>exact False.elim h
 | extend=>
  cases x with
  | ref p=>
   cases xs with
   | nil=>exact False.elim h
   | cons y t=>
    cases t with
    | cons _ _=>first | exact False.elim h | (cases y<;>exact False.elim h)
    | nil=>
     cases y with
     | ref b=>
      unfold dj at h;dsimp only at h;split at h
      ·rename_i e1 e2;exact vN pins s σ H _ _ _ _ Q I rx r ⟨_,_,_,_,rfl,rfl,e1,e2,h.1,h.2⟩
      ·exact h.elim
     | _=>exact False.elim h
  | _=>exact False.elim h
 | clear=>
  cases x with
  | ref p=>
   cases xs with
   | nil=>
    unfold dj at h;dsimp only at h;split at h
    ·rename_i e1;exact yO pins s σ H _ _ _ _ Q I rx r ⟨_,_,rfl,rfl,e1,h⟩
    ·exact h.elim
   | cons _ _=>exact False.elim h
  | _=>exact False.elim h
 | dpop=>
  cases x with
  | ref p=>
   cases xs with
   | nil=>exact False.elim h
   | cons y t=>
    cases t with
    | cons _ _=>exact False.elim h
    | nil=>
     unfold dj at h;dsimp only at h;obtain⟨u,rfl,ru⟩:=vals1 r;cases rx
     split at h
     ·rename_i e1;split at h
      ·rename_i ek;split at h
       ·rename_i ev;rw[iQ ek]at ru;exact F5 I e1 ru ev (.inl rfl) fun w' s' I' rw'=>⟨_,_,I',rw',h⟩
       ·exact h.elim
      ·exact h.elim
     ·exact h.elim
  | _=>exact False.elim h
 | get=>
  cases x with
  | ref p=>
   cases xs with
   | nil=>exact False.elim h
   | cons y t=>
    cases t with
    | cons _ _=>exact False.elim h
    | nil=>
     unfold dj at h;dsimp only at h;obtain⟨u,rfl,ru⟩:=vals1 r;cases rx
     split at h
     ·rename_i e1;split at h
      ·rename_i ek;rw[iQ ek]at ru;exact Eo I e1 ru fun w' s' I' rw'=>⟨_,_,I',rw',h⟩
      ·exact h.elim
     ·exact h.elim
  | _=>exact False.elim h
 | _=>exact False.elim h
theorem oY {K:PySem.W.Frag} (mo:ax K M) {x:V} {H:Hp} (h:(match x with | .ref p=>(match rd M H p with | some (.lst _)=>true | _=>false) | _=>false)=true):GD K "list" x H:=by
 cases x with
 | ref p=>
  dsimp only at h;split at h
  ·rename_i e;exact .inl ⟨rfl,_,bf mo e⟩
  ·cases h
 | _=>cases h
theorem lp {K:PySem.W.Frag} {x:V} {H:Hp} (h:oZ x H=true):GD K "dict" x H:=by
 unfold oZ at h;cases x with
 | ref p=>
  dsimp only at h;split at h
  ·rename_i e;exact .inr (.inr (.inl ⟨rfl,.inl ⟨_,e⟩⟩))
  ·cases h
 | _=>cases h
theorem yL {K:PySem.W.Frag} (mo:ax K M) {m:Mf} {x:V} {H:Hp} (h:DN M m x H=true):GD K (Hr m) x H:=by
 cases m with
 | append=>exact oY mo h
 | extend=>exact oY mo h
 | pop=>exact oY mo h
 | clear=>exact oY mo h
 | dclear=>exact lp h
 | copy=>exact lp h
 | dpop=>exact lp h
 | setdefault=>exact lp h
 | get=>exact lp h
 | _=>cases x<;>first | exact rfl | cases h
theorem C_:Gq X (fun x lo hi H Q=>∃z,x=.str z/\z.length<=sizeLine/\Q (.str (Txt.slice z lo hi)) H):=by
 intro pins s σ H x v vl vu lo hi sl Q I rx hs pl pu h;obtain⟨z,rfl,hz,q⟩:=h;obtain⟨t,rfl⟩:=rx;refine⟨"str",_,F.slot_str_getitem.lookup,typeIs_str _ _ _,?_⟩;cases pl with
 | none=>
  cases pu with
  | none=>exact LR (l:=none) (u:=none) (st:=none) hs rfl (MN ⟨JB (Txt.slice_le z _ _) hz,fun t' k=>⟨.str _,H,I.tok _,⟨_,rfl⟩,q⟩⟩)
  | int j uj=>exact LR (l:=none) (u:=some (j,uj)) (st:=none) hs rfl (MN ⟨JB (Txt.slice_le z _ _) hz,fun t' k=>⟨.str _,H,I.tok _,⟨_,rfl⟩,q⟩⟩)
 | int i ui=>
  cases pu with
  | none=>exact LR (l:=some (i,ui)) (u:=none) (st:=none) hs rfl (MN ⟨JB (Txt.slice_le z _ _) hz,fun t' k=>⟨.str _,H,I.tok _,⟨_,rfl⟩,q⟩⟩)
  | int j uj=>exact LR (l:=some (i,ui)) (u:=some (j,uj)) (st:=none) hs rfl (MN ⟨JB (Txt.slice_le z _ _) hz,fun t' k=>⟨.str _,H,I.tok _,⟨_,rfl⟩,q⟩⟩)
theorem C8 (m:ax X.K M):Gq X (xM M):=by
 intro pins s σ H x v vl vu lo hi sl Q I rx hs pl pu h;unfold xM at h;split at h
 ·exact C_ pins s σ H _ v vl vu lo hi sl Q I rx hs pl pu ⟨_,rfl,h.1,h.2⟩
 ·split at h
  ·rename_i e;obtain⟨T,id,h1,h2,h3⟩:=AL pins s σ H _ v vl vu lo hi sl (fun v H'=>g7 M H'->Q v H') I rx hs pl pu ⟨_,_,rfl,bf m e,fun p hp of=>h p hp of.new⟩;exact⟨T,id,h1,h2,bW h3 fun _ _=>gT m⟩
  ·rename_i e;obtain⟨T,id,h1,h2,h3⟩:=C9 pins s σ H _ v vl vu lo hi sl (fun v H'=>g7 M H'->Q v H') I rx hs pl pu ⟨_,_,rfl,bO m e,h.1,fun p hp of=>h.2 p hp of.new⟩;exact⟨T,id,h1,h2,bW h3 fun _ _=>gT m⟩
  ·exact h.elim
 ·exact h.elim
end
theorem xN {K:PySem.W.Frag} {M:Mo} (m:ax K M) {a:Addr} {xs:List V}:jK (IF K a) xs (fun H=>rd M H a=some (.lst xs)) where
 go:=fun i H st e=>⟨xs,xs[i],bf m st,Je e⟩
 pO:=fun i H x H' _ y st=>⟨y.1,y.2 xs (bf m st)⟩
 stop:=fun i H st h=>⟨xs,bf m st,h⟩
theorem AN {K:PySem.W.Frag} {M:Mo} (m:ax K M) {a:Addr} {xs:List V}:jK (IE K a) xs (fun H=>rd M H a=some (.tup xs)) where
 go:=fun i H st e=>⟨xs,xs[i],bO m st,Je e⟩
 pO:=fun i H x H' _ y st=>⟨y.1,y.2 xs (bO m st)⟩
 stop:=fun i H st h=>⟨xs,bO m st,h⟩
theorem vt (lo:Int) (n:Nat):jK (Il lo n) ((List.range n).map fun i:Nat=>.int (lo + i)) (fun _=>True) where
 go:=fun i H st e=>by
  show i < n;simpa using e
 pO:=fun i H x H' e y st=>by
  obtain⟨y1,y2⟩:=y;subst y2;refine⟨y1,?_⟩;have e:i < n:=by simpa using e
  rw[Jy,MX e];rfl
 stop:=fun i H st h=>by
  show n<=i;simpa using h
noncomputable def GU (z:Str):It:=⟨fun i _=>i < z.cps.size,fun i H x H'=>H'=H/\∃c,z.cps[i]?=some c/\x=.str ⟨#[c]⟩,fun i _=>z.cps.size<=i⟩
theorem AO (z:Str):jK (GU z) (z.cps.toList.map fun c=>.str ⟨#[c]⟩) (fun _=>True) where
 go:=fun i H st e=>by
  show i < z.cps.size;simpa using e
 pO:=fun i H x H' e y st=>by
  obtain⟨y1,c,y2,y3⟩:=y;subst y3;refine⟨y1,?_⟩;rw[Jy];simp[y2]
 stop:=fun i H st h=>by
  show z.cps.size<=i;simpa using h
theorem xr {P:Program} {w:World} {K:PySem.W.Frag} {tg:Expr} (it:Addr) (z:Str) (t:Tok):Turn P w K tg (GU z) [it] it (fun i h=>h.IsStrIter it (strIterType z) z t i) where
 mem:=by simp
 obj:=fun i h st b hb=>by
  have e:b=it:=by simpa using hb
  subst e;obtain⟨o,ho,hc,hd⟩:=st;exact⟨o,ho,fun v q=>by rw[hd]at q;cases q⟩
 keep:=fun i h h' st k=>by
  obtain⟨o,ho,r⟩:=st;exact⟨o,k it (by simp) _ ho,r⟩
 item:=by
  intro X hP hw hK hc i pins s σ H E I hf st hg;subst hP hw hK;obtain⟨f0,f1,f2,f3,f4,f5⟩:=hf it (by simp);have hg:i < z.cps.size:=hg;have hx:z.cps[i]?=some z.cps[i]:=J1 hg
  have fin:∀ (ty:String),ty ≠ "x" ->strIterType z=ty->(["enumerate","zip","dict_itemiterator","dict_reverseitemiterator","odict_iterator","itertools.zip_longest","itertools.pairwise"].contains ty=false)->∀h',h'.IsStrIter it ty z t (i + 1)->Heap.SameBut it s.heap h'->
    ∃u,some (Value.str ⟨#[z.cps[i]]⟩ s.toks)=some u/\wpAny (model X.prog X.w) X.A (letOwnedTupleGo tg (.ref it) u) (fun _ s2=>∃x H',Inv X pins σ H' s2/\RelV x u/\(GU z).pO i H x H'/\s2.heap.IsStrIter it (strIterType z) z t (i + 1)/\∀b ∈ [it],H' b=none) E {s with heap:=h',toks:=s.toks + 1}:=by
   intro ty _ e hn h' st' sb;have I1:Inv X pins σ H {s with heap:=h',toks:=s.toks + 1}:=I.turned (fun b o hb e=>sb.extBut b o hb e) f0 f1 f3 f4 f5;obtain⟨o,ho,hcl,hd⟩:=id st';refine⟨_,rfl,uK (s:={s with heap:=h',toks:=s.toks + 1}) ho hcl hd hn ⟨.str ⟨#[z.cps[i]]⟩,H,I1,⟨_,rfl⟩,⟨rfl,_,hx,rfl⟩,by rw[e];exact st',fun b hb=>(hf b hb).1⟩⟩
  cases ha:z.cps.all (·< 128)
  ·have e:strIterType z= "str_iterator" :=by simp[strIterType,ha]
   rw[e]at st;exact wpAny_pyNext_wide_item st hx fun h' st' sb=>fin _ (by decide) e (by decide) h' st' sb
  ·have e:strIterType z= "str_ascii_iterator" :=by simp[strIterType,ha]
   rw[e]at st;exact wpAny_pyNext_ascii_item st hx fun h' st' sb=>fin _ (by decide) e (by decide) h' st' sb
 done:=by
  intro X hP hw hK hc i pins s σ H E I hf st hg;subst hP hw hK;obtain⟨f0,f1,f2,f3,f4,f5⟩:=hf it (by simp);have hg:z.cps.size<=i:=hg;have hx:z.cps[i]?=none:=by simp[hg]
  cases ha:z.cps.all (·< 128)
  ·have e:strIterType z= "str_iterator" :=by simp[strIterType,ha]
   rw[e]at st;exact wpAny_pyNext_wide_end (I.ok.hd hc) st hx fun h' eb=>⟨rfl,I.turned (t':=s.toks) (fun b o hb e=>eb b o hb e) f0 f1 f3 f4 f5⟩
  ·have e:strIterType z= "str_ascii_iterator" :=by simp[strIterType,ha]
   rw[e]at st;exact wpAny_pyNext_ascii_end (I.ok.hd hc) st hx fun h' eb=>⟨rfl,I.turned (t':=s.toks) (fun b o hb e=>eb b o hb e) f0 f1 f3 f4 f5⟩
 self:=fun A i s Q E st h=>by
  cases ha:z.cps.all (·< 128)
  ·have e:strIterType z= "str_iterator" :=by simp[strIterType,ha]
   rw[e]at st;exact wpAny_pyIter_striter_wide st h
  ·have e:strIterType z= "str_ascii_iterator" :=by simp[strIterType,ha]
   rw[e]at st;exact wpAny_pyIter_striter_ascii st h
section
variable {X:Cx} {tg:Expr}
noncomputable def qS (wi:L2.St->Hp->(List V->(Hp->Prop)->Hp->Prop)->Prop):TI:=fun σ H R=>∃k,wi σ H k/\∀J xs aq H1,jK J xs aq->k xs aq H1->R J H1
theorem sV {M:Mo} {x:V} {H:Hp} {k k':List V->(Hp->Prop)->Prop} (h:lj M x H k) (hk:∀xs aq,k xs aq->k' xs aq):lj M x H k':=by
 unfold lj at h ⊢;split at h
 ·exact⟨h.1,hk _ _ h.2⟩
 ·split at h
  ·first | exact hk _ _ h | (rename_i e;rw[e];exact hk _ _ h)
  ·first | exact hk _ _ h | (rename_i e;rw[e];exact hk _ _ h)
  ·exact h.elim
 ·exact h.elim
theorem Dt {pins:NU} {σ:L2.St} {H:Hp} {s:Shared} {R:It->Hp->Prop} {z:Str} {t:Tok} (I:Inv X pins σ H s) (q:R (GU z) H):
  wpAny (model X.prog X.w) X.A (pyIter (.str z t)) (GS X pins σ tg R) X.xe s:=by
 refine wpAny_pyIter_strU ?_;refine⟨s.heap.objs.size,[s.heap.objs.size],_,_,H,rfl,I.kept (t':=s.toks) fun b o e=>Jd _ e,xr _ z t,⟨_,Jr _ rfl,rfl,rfl⟩,fun b hb=>?_,q⟩;have e:b=s.heap.objs.size:=by simpa using hb
 subst e;exact I.zB (Jv _) (I.aZ.fresh (Jv _))
theorem Ds {M:Mo} (m:ax X.K M) {pins:NU} {σ:L2.St} {H:Hp} {s:Shared} {R:It->Hp->Prop} {x:V} {v:Value} (I:Inv X pins σ H s) (rx:RelV x v)
  (h:lj M x H fun xs aq=>∀J,jK J xs aq->R J H):wpAny (model X.prog X.w) X.A (pyIter v) (GS X pins σ tg R) X.xe s:=by
 unfold lj at h;split at h
 ·obtain⟨t,rfl⟩:=rx;exact Dt I (h.2 _ (AO _))
 ·cases rx
  split at h
  ·rename_i xs e;obtain⟨au,rv,p,hz⟩:=I.list (bf m e);refine Ni p.isList ?_;refine⟨s.heap.objs.size,[s.heap.objs.size],_,_,H,rfl,I.kept (t':=s.toks) fun b o e=>Jd _ e,vh _ _,⟨_,Jr _ rfl,rfl,rfl⟩,fun b hb=>?_,h _ (xN m)⟩;have e:b=s.heap.objs.size:=by simpa using hb
   subst e;exact I.zB (Jv _) (I.aZ.fresh (Jv _))
  ·rename_i xs e;obtain⟨au,rv,p,hz⟩:=I.tuple (bO m e);refine Nc (show s.heap.IsTuple _ au.toArray from p) ?_;refine⟨s.heap.objs.size,[s.heap.objs.size],_,_,H,rfl,I.kept (t':=s.toks) fun b o e=>Jd _ e,rO _ _,⟨_,Jr _ rfl,rfl,rfl⟩,fun b hb=>?_,h _ (AN m)⟩;have e:b=s.heap.objs.size:=by simpa using hb
   subst e;exact I.zB (Jv _) (I.aZ.fresh (Jv _))
  ·exact h.elim
 ·exact h.elim
end
theorem tu (env:Env):∀ (names:List (Str × NameKind)) (acc:List (Str × Addr)),(∀ y ∈ names,y.2=.free->∃c,env.cells.lookup y.1=some c)->
  ∃cl,((forIn names acc (fun(x:Str × NameKind) (r:List (Str × Addr))=>if(x.2 == .free)=true then(do let a<-cellOf env x.1;pure (ForInStep.yield ((x.1,a)::r)))else pure (ForInStep.yield r)):Sem (List (Str × Addr)))=pure (cl++acc))/\
   (∀ y ∈ cl,env.cells.lookup y.1=some y.2)/\(∀ y ∈ names,y.2=.free->∃c,(y.1,c) ∈ cl):=by
 intro names
 induction names with
 | nil=>intro acc _;exact⟨[],rfl,(fun _ h=>by cases h),(fun _ h=>by cases h)⟩
 | cons x r ih=>
  intro acc h;obtain⟨n,k⟩:=x;cases hk:(k == NameKind.free)with
  | false=>
   obtain⟨cl,e,h1,h2⟩:=ih acc fun y hy=>h y (Ji _ hy);refine⟨cl,?_,h1,fun y hy hf=>?_⟩
   ·simp only[KZ,hk,JT,KA];exact e
   ·rcases Jq.mp hy with rfl | hy
    ·have hf:k=.free:=hf;rw[hf]at hk;cases hk
    ·exact h2 y hy hf
  | true=>
   have hkf:k=.free:=by simpa using hk
   obtain⟨c,hc⟩:=h (n,k) Jj hkf;obtain⟨cl,e,h1,h2⟩:=ih ((n,c)::acc) fun y hy=>h y (Ji _ hy);refine⟨cl++[(n,c)],?_,fun y hy=>?_,fun y hy hf=>?_⟩
   ·simp only[KZ,hk,Mb];unfold cellOf;have hc':env.cells.lookup n=some c:=hc;rw[hc'];simp only[JD,List.singleton_append];exact e
   ·rcases Jx.mp hy with hy | hy
    ·exact h1 y hy
    ·have ey:y=(n,c):=by simpa using hy
     subst ey;exact hc
   ·rcases Jq.mp hy with rfl | hy
    ·exact⟨c,JG _ (by simp)⟩
    ·obtain⟨d,hd⟩:=h2 y hy hf;exact⟨d,J_ _ hd⟩
theorem tq {env:Env} {bF:Scope} (h:∀y ∈ bF.names,y.2=.free->∃c,env.cells.lookup y.1=some c):
  ∃cl,closureFor bF env=pure cl/\(∀ y c,cl.lookup y=some c->env.cells.lookup y=some c)/\(∀ y,(y,NameKind.free) ∈ bF.names->∃c,cl.lookup y=some c):=by
 obtain⟨cl,e,h1,h2⟩:=tu env bF.names [] h;refine⟨cl,?_,fun y c hl=>h1 (y,c) (Lk hl),fun y hy=>?_⟩
 ·rw[Ld]at e;unfold closureFor;simp only[e];rfl
 ·obtain⟨c,hc⟩:=h2 (y,.free) hy rfl;cases q:cl.lookup y with
  | some d=>exact⟨d,rfl⟩
  | none=>
   exfalso;clear h1 h2 e
   induction cl with
   | nil=>cases hc
   | cons z r ih=>
    obtain⟨a,b⟩:=z;simp only[JJ]at q;cases hb:(y == a)with
    | true=>rw[hb]at q;cases q
    | false=>
     rw[hb]at q;rcases Jq.mp hc with hc | hc
     ·cases hc
      simp at hb
     ·exact ih hc q
theorem fi {bF:Scope} {env:Env} {y:Str}:(relabel bF env).names.lookup y=(bF.names.lookup y).map fun k=>if(k == .free && env.scope.kind == .function && env.kindOf y == some .cell)then .cell else k:=by
 unfold relabel;dsimp only;generalize bF.names=names
 induction names with
 | nil=>rfl
 | cons z r ih=>
  obtain⟨n,k⟩:=z;simp only[JA,JJ];cases hb:(y == n)with
  | true=>
   have e:y=n:=by simpa using hb
   subst e
   by_cases hc:(k == NameKind.free && env.scope.kind == .function && env.kindOf y == some .cell)=true
   ·simp only[hc,Mb,JJ,hb,K0]
   ·simp only[hc,KA,JJ,hb,K0,JT]
  | false=>
   by_cases hc:(k == NameKind.free && env.scope.kind == .function && env.kindOf n == some .cell)=true
   ·simp only[hc,Mb,JJ,hb];exact ih
   ·simp only[hc,KA,JJ,hb,JT];exact ih
theorem fk {α β:Type} [BEq α] [LawfulBEq α] {l:List (α × β)} {a:α} {b:β} (h:l.lookup a=some b):(a,b) ∈ l:=by
 induction l with
 | nil=>cases h
 | cons x r ih=>
  obtain⟨c,d⟩:=x;simp only[JJ]at h;cases hb:(a == c)with
  | true=>
   rw[hb]at h;have e:a=c:=by simpa using hb
   subst e;cases h
   exact Jj
  | false=>rw[hb]at h;exact Ji _ (ih h)
structure ck (X X':Cx) (bF:Scope) (N':List Str):Prop where
 prog:X'.prog=X.prog
 w:X'.w=X.w
 K:X'.K=X.K
 mg:X'.mg=X.mg
 base:X'.base=X.base
 A:X'.A=X.A
 calm:X'.calm=true
 stack:X'.stack=X.stack
 frame:X'.env.frame=X.env.frame
 N:X'.N=N'
 scope:X'.env.scope=relabel bF X.env
noncomputable def Af (X:Cx) (ifs:List Expr) (tt:TT):Prop:=
 ∀ (pins:NU) (s:Shared) (σ:L2.St) (H:Hp) (Q:Bool->Hp->Prop),Inv X pins σ H s->tt σ H Q->
  wpAny (model X.prog X.w) X.A (forIn ifs true fun c r=>if r=true then do let ok<-isTrue c X.env (eval c X.env);pure (ForInStep.yield ok)else pure (ForInStep.yield r)) (TP X pins σ Q) X.xe s
theorem xi {σ:L2.St} {fv:List (Str × Nat)} {i:Nat} {v:V} (h:(vars σ fv)[i]?=some (some v)):∃y,fv[i]?=some y/\σ[y.2]?=some (some v):=by
 unfold vars at h;rw[Jy]at h;cases e:fv[i]? with
 | none=>rw[e]at h;cases h
 | some y=>
  rw[e]at h;refine⟨y,rfl,?_⟩;have h:(σ[y.2]?).join=some v:=by simpa using h
  cases q:σ[y.2]? with
  | none=>rw[q]at h;cases h
  | some z=>rw[q]at h;simp at h;rw[h]
set_option maxHeartbeats 8000000 in
theorem Inv.zc {X:Cx} {pins:NU} {σ:L2.St} {H:Hp} {s:Shared} {C:Addr} {h':Heap} (I:Inv X pins σ H s) (f:mU X pins H C) (sb:Heap.SameBut C s.heap h'):Inv X pins σ H {s with heap:=h'}:=by
 have same:∀b o,b ≠ C->s.heap.get? b=some o->h'.get? b=some o:=fun b o hb e=>sb.extBut b o hb e;obtain⟨f0,f1,f2,f3,f4,f5⟩:=f;refine I.CN (ch:=[C]) (s':={s with heap:=h'}) rfl ⟨fun b o e n hb hx=>same b o (by simpa using hx) e,fun b o e n hb hx=>⟨o.slots,same b o (by simpa using hx) e⟩,fun b o e n _=>n,fun b o e hb=>⟨o,same b o (by simpa using hb) e⟩,fun _ _ q=>q,fun _ _ _ q=>q,fun b ps q=>⟨#[],by simpa using q⟩⟩ (fun b o e=>?_) I.bare (fun b hb=>?_)
 ·refine(I.aZ b o e).aq (fun c u hcu q=>same c u (fun z=>?_) q) (fun _ q=>q) fun _ _ q=>q;subst z;rcases hcu with z | z
  ·rw[<-z,f0]at e;cases e
  ·rw[f0]at z;cases z
 ·rw[show b=C by simpa using hb];exact⟨f3,f1,f4,f5⟩
noncomputable def pK (P:Program) (w:World):wW:=fun _ _ _ _ _ _=>False
noncomputable def eF (X:Cx) (Ξ:XS):Prop:=True
theorem eF.no {X:Cx} {Ξ:XS}:eF X Ξ:=trivial
section
variable {X:Cx} {pins:NU} {σ:L2.St} {H:Hp} {s s':Shared}
theorem ua {Q:VK} {us:List Value} {vs:List V} {k:Nat} {f:Addr} {fd:FuncData} {ps:List Str} {sp:Sp} {Ξ:XS} (F:di X.prog X.w X.K X.mg X.base (pK X.prog X.w) k f fd ps sp) (hr:cO k X.A) (hb:Binds X.K fd ps []) (xo:eF X Ξ)
  (I:Inv X pins σ H s) (r:Vals vs us) (h:sp vs H Q fun C d H'=>Ξ C d σ H'):wpAny (model X.prog X.w) X.A (call (.ref f) us) (EP X pins σ Q) X.xe s:=by
 have hl:(us++[]).length=ps.length:=by rw[Ld,<-r.length];exact F.len _ _ _ _ h
 refine wpAny_call (LM (F.run X.A X.stack s H ⟨us,[]⟩ us vs Q (fun C d H'=>Ξ C d σ H') hr I.FZ (by have:=hb s us I.lU hl;rwa[Ld]at this) r h) fun r s' hq=>?_);cases r with
 | error e=>exact False.elim hq
 | ok fl=>
  cases fl with
  | ret u=>exact I.after hq
  | next=>exact False.elim hq
  | brk=>exact False.elim hq
  | cont=>exact False.elim hq
end
theorem tN {P:Program} {w:World} {K:PySem.W.Frag} {mg:Str->Option Value} {base:Heap} {N:List Str} {qual:Str} {scope:Scope} {f:Addr} {cd:Value} {A:Around} {outer:List Env} {s:Shared} {H:Hp} {E:XK}:
  eF (jR (pK P w) P w K mg base N qual scope f cd A outer s H E) (fun C d _ H'=>E C d H'):=trivial
noncomputable def jI (X:Cx):Prop:=∃e0 o0 L,X.stack=e0::o0/\e0.frame=some L/\X.env.frame=some L
structure HY {ι:Type} (J:It) (xs:List ι) (aq:Hp->Prop) (nxt:ι->Hp->(L2.St->Hp->Prop)->Prop) (g:TG) (n:Nat):Prop where
 go:∀i H,aq H->i < xs.length->J.go i H
 pO:∀i a H y H' R,xs[i]?=some a->J.pO i H y H'->aq H->nxt a H R->∃w,w.length=n/\R w H'/\∀ (w0 f:L2.St) (Q:L2.St->Hp->Prop),w0.length=n->Q (w++f) H'->g y (w0++f) H' Q
 stop:∀i H,aq H->xs.length<=i->J.stop i H
theorem tm {X:Cx} {M:Mo} (mo:ax X.K M) {sc bF:Scope} {elt iter tg:Expr} {ifs:List Expr} {ns:List Str} {pos:Pos} {fv:List (Str × Nat)} {te:TE} {tt:TT} {ι:Type} {nxt:ι->Hp->(L2.St->Hp->Prop)->Prop} {g:TG} {wi:TI} (hc:X.calm=true)
  (hcf:∀y,(sc.names.lookup y=some .cell\/sc.names.lookup y=some .free)->X.env.kindOf y=some .cell\/X.env.kindOf y=some .free)
  (ok:cD sc bF X.N ns fv=true) (hi:PI X tg iter wi) (hg:∀X',ck X X' bF (ns++fv.map (·.1))->(ns++fv.map (·.1)).Nodup->(∀ x ∈ ns,X'.env.scope.names.lookup x=some .local)->PG X' tg g)
  (top:jI X) {Ξ:XS} (xo:eF X Ξ) {use:Option (Value->Sem Unit)} {R:NT} {pins:NU} {s:Shared} {σ:L2.St} {H:Hp} {Q:V->Hp->Prop}
  (he:∀X',ck X X' bF (ns++fv.map (·.1))->eF X' (fun C d _ H'=>Ξ C d σ H')->PE X' elt te) (ht:∀X',ck X X' bF (ns++fv.map (·.1))->Af X' ifs tt)
  (hs:∀v,foldedSetIterable iter X.env v=pure v) (I:Inv X pins σ H s)
  (h:wi σ H fun J H1=>∃ (xs:List ι) (aq:Hp->Prop),HY J xs aq nxt g ns.length/\∃kf:Addr->Hp->Prop,(∀ D H',kf D H'->Q (.ref D) H')/\∀D,H1 D=none->M D=none->fz nxt te tt (vars σ fv) D aq xs [] (upd H1 D (.lst [])) (kf D))
  (hfin:∀D C s' H',Inv X pins σ H' s'->mU X pins H' C->(∃ m,s'.heap.Ns C m)->Q (.ref D) H'->compPost (model X.prog X.w) X.A X.xe use R (.ref D) C (.ok .next) s'):
  wpAny (model X.prog X.w) X.A (comprehension (.ListComp elt [⟨tg,iter,ifs,0⟩] bF pos) bF X.env (firstIterPos [⟨tg,iter,ifs,0⟩] pos) (newList []) (firstAsync [⟨tg,iter,ifs,0⟩]) (firstIter [⟨tg,iter,ifs,0⟩] X.env) use) R X.xe s:=by
 unfold cD at ok;simp only[JU,KL,Lm,Bool.or_eq_true]at ok;obtain⟨⟨⟨⟨⟨hkind,hxl⟩,hsk⟩,hnames⟩,hfv⟩,hND⟩:=ok
 have hfr:∀y ∈ bF.names,y.2=.free->X.env.kindOf y.1=some .cell\/X.env.kindOf y.1=some .free:=fun y hy hf=>by
  rcases(hnames y hy).2 with q | q
  ·exact absurd hf q
  ·exact hcf _ q
 obtain⟨cl,hclos,hcl1,hcl2⟩:=tq (env:=X.env) (bF:=bF) fun y hy hf=>I.ok.has _ (hfr y hy hf);refine wpAny_comprehension_free (cl:=cl) rfl hs hclos hkind (fun y hy hl=>?_) ?_
 ·rcases(hnames y hy).1.2 with q | q
  ·exact absurd hl q
  ·exact q
 show wpAny _ _ (eval iter X.env) _ _ _;refine bW (hi pins s σ H _ I h) fun v s1 h1=>bW h1 fun itv s2 h2=>?_;obtain⟨it,fp,tn,J,H2,rfl,I2,T,st2,f2,xs,aq,SQ,kf,hkf,hW⟩:=h2;refine Kb (wpAny_newFunctionEnv (fun y hy=>(hnames y hy).1.1) (by intro y hy;simp at hy) (fun h₁ hns₁ hsb₁=>?_) hkind);dsimp only at hns₁ hsb₁ ⊢;generalize hG:s2.heap.push {cls:=.type "list",dict:=none,data:=.seq ([]:List Value).toArray}=G at hns₁ hsb₁ ⊢;have hC:G.objs.size=s2.heap.objs.size + 1:=by rw[<-hG,Kg]
 have old:∀b o,s2.heap.get? b=some o->h₁.get? b=some o:=fun b o e=>
  hsb₁.extBut b o (by rw[hC];exact Js (JM (Jk e))) (Jd _ (hG ▸ Jd _ e))
 have hD1:h₁.get? s2.heap.objs.size=some {cls:=.type "list",data:=.seq ([]:List Value).toArray 0}:=
  hsb₁.extBut _ _ (by rw[hC];exact Js (J8 _)) (Jd _ (hG ▸ Jr _ rfl))
 have fD:H2 s2.heap.objs.size=none:=I2.aZ.fresh (Jv _);have fC:H2 G.objs.size=none:=I2.aZ.fresh (by rw[hC];exact Kq _)
 have fpLt:∀b ∈ fp,b < s2.heap.objs.size:=fun b hb=>by
  obtain⟨o,e,_⟩:=T.obj 0 _ st2 b hb;exact Jk e
 have clLt:∀y c,cl.lookup y=some c->c < s2.heap.objs.size:=fun y c e=>by
  obtain⟨v,q⟩:=I2.cell y c (hcl1 y c e);exact q.lt
 let X':Cx:={prog:=X.prog,w:=X.w,K:=X.K,mg:=X.mg,base:=X.base,A:=X.A,N:=ns++fv.map (·.1),s₀:=s2,H₀:=H2,env:=compEnvC bF cl G.objs.size X.env,outer:=X.stack,stack:=X.stack,ex:=fp,fn:=fun _=>false,calm:=true,pn:=[],xe:=notedBy (model X.prog X.w) X.A (compEnvC bF cl G.objs.size X.env) fun e s'=>compPost (model X.prog X.w) X.A X.xe use R (.ref s2.heap.objs.size) G.objs.size (.error e) s'}
 have CO:ck X X' bF (ns++fv.map (·.1)):=⟨rfl,rfl,rfl,rfl,rfl,rfl,rfl,rfl,rfl,rfl,rfl⟩
 have okX:X'.Ok:=by
  refine⟨I.ok.mod,hkind,I.ok.glob,I.ok.blt,(by show s2.heap.objs.size<=G.objs.size;rw[hC];exact Kq _),fun y z c e1 e2=>I.ok.inj y z c (hcl1 _ _ e1) (hcl1 _ _ e2),fun y hy=>?_,fun y c hf=>absurd (show false=true from hf) JC,fun _=>I.ok.hd hc,I.ok.frames,.inl rfl,
   fun b hb=>⟨?_,fun y c e=>?_⟩,I2.bs,?_,fun b o e hb=>?_,fun b hb hm=>?_,I2.stack,I2.tW⟩
  ·have hy:(relabel bF X.env).names.lookup y=some .cell\/(relabel bF X.env).names.lookup y=some .free:=hy;rw[fi]at hy;cases q:bF.names.lookup y with
   | none=>rw[q]at hy;rcases hy with hy | hy<;>cases hy
   | some k=>
    have hm:=fk q
    have kf:k=.free:=by
     rw[q]at hy;simp only[K0]at hy
     by_cases hk:k=.free
     ·exact hk
     ·have e:(k == NameKind.free)=false:=by simpa using hk
      simp only[e,Bool.false_and,JT,KA]at hy;rcases hy with hy | hy
      ·exact absurd (JE hy) (hnames _ hm).1.1
      ·exact JE hy
    subst kf;exact hcl2 y hm
  ·exact Js (Jw (fpLt b hb) (by show _<=G.objs.size;rw[hC];exact Kq _))
  ·exact(f2 b hb).2.2.2.2.1 y c (hcl1 y c e)
  ·exact JB I.ok.B8 I2.sz
  ·rcases(f2 b hb).2.2.2.1 with z | z
   ·exact I.ok.yG b o e z
   ·exact absurd (Jw (Jk e) I.ok.B8) (Mr.mpr z)
  ·rcases Jq.mp (I2.oi b hm)with z | z
   ·exact(f2 b hb).2.1 z
   ·exact(f2 b hb).2.2.1 z
 have loc0:∀ (s':Shared) (H':Hp),(∀ y c,cl.lookup y=some c->s'.heap.get? c=s2.heap.get? c)->∀ (m:Str->Option Value) (i:Nat) (y:Str) (v:V),(ns++fv.map (·.1))[i]?=some y->(List.replicate ns.length none++vars σ fv)[i]?=some (some v)->∃u,RelV v u/\Look X'.env s'.heap m y u:=by
  intro s' H' hkc m i y v e1 e2
  by_cases jP:i < ns.length
  ·rw[JH (by rw[Lu];exact jP),NF,Jc jP]at e2;cases e2
  ·have hge:ns.length<=i:=Nw jP;rw[JY hge]at e1;rw[JY (by rw[Lu];exact hge),Lu]at e2;obtain⟨z,ez,sz⟩:=xi e2;rw[Jy,ez]at e1;have ey:z.1=y:=by simpa using e1
   subst ey;obtain⟨hN,hlf⟩:=hfv z (Jg ez);obtain⟨m2,hn2,hl2⟩:=I2.loc;have hkz:X.env.kindOf z.1=some .cell\/X.env.kindOf z.1=some .free:=hfr _ (fk hlf) rfl
   have hvz:Cf X.env.scope z.1:=by
    rcases hkz with q | q
    ·exact .inr (.inl q)
    ·exact .inr (.inr q)
   obtain⟨u,ru,lk⟩:=hl2 z.2 z.1 v hN sz hvz;refine⟨u,ru,.inr ⟨?_,?_⟩⟩
   ·show(relabel bF X.env).names.lookup z.1=some .cell\/(relabel bF X.env).names.lookup z.1=some .free;rw[fi,hlf];simp only[K0]
    by_cases q:((NameKind.free == NameKind.free) && X.env.scope.kind == .function && X.env.kindOf z.1 == some .cell)=true
    ·rw[Jc q];exact .inl rfl
    ·rw[I_ q];exact .inr rfl
   ·obtain⟨c,hcz⟩:=hcl2 z.1 (fk hlf);rcases lk with ⟨q,_⟩ | ⟨_,c',hc',cell⟩
    ·rcases hkz with z1 | z1<;>(rw[z1]at q;cases q)
    ·have:c'=c:=by
      have:=hcl1 _ _ hcz;rw[hc']at this;exact JE this
     subst this;refine⟨c',hcz,?_⟩;obtain⟨o,ho,hd⟩:=cell;exact⟨o,by rw[hkc _ _ hcz];exact ho,hd⟩
 have hxr:∀x ∈ ns,(relabel bF X.env).names.lookup x=some .local:=fun x hx=>lookup_relabel_local (hxl x hx)
 have I0:∀tk0,Inv X' [] (List.replicate ns.length none++vars σ fv) (upd H2 s2.heap.objs.size (.lst [])) {s2 with heap:=h₁,toks:=tk0}:=fun tk0=>by
  refine⟨okX,rfl,I2.bare,Un.laid old (Jv _) fD,⟨_,hns₁,fun i y v e1 e2 _=>loc0 {s2 with heap:=h₁,toks:=tk0} H2 (fun y c e=>?_) _ i y v e1 e2⟩,fun y c e=>?_,?_,fun y c e=>?_,fun p hp=>absurd (show p ∈ ([]:NU)from hp) (by simp),I2.aZ.laid old (Jv _) ⟨JZ _,[],0,.nil,hD1⟩,?_⟩
  ·obtain⟨v,o,ho,hd⟩:=I2.cell y c (hcl1 y c e);exact(old c o ho).trans ho.symm
  ·obtain⟨v,o,ho,hd⟩:=I2.cell y c (hcl1 y c e);exact⟨v,o,old c o ho,hd⟩
  ·show upd H2 s2.heap.objs.size (.lst []) G.objs.size=none;rw[af (by rw[hC];exact KG (J8 _))];exact fC
  ·rw[af (Js (clLt y c e))];exact I2.d4 y c (hcl1 y c e)
  ·show(List.replicate ns.length none++vars σ fv).length=(ns++fv.map (·.1)).length;simp[vars]
 have fpN:∀b ∈ fp,∀o,(upd H2 s2.heap.objs.size o) b=none:=fun b hb o=>by
  rw[af (Js (fpLt b hb))];exact(f2 b hb).1
 have fpX:∀ {H':Hp},(∀ b ∈ fp,H' b=none)->∀b ∈ fp,mU X' [] H' b:=fun hn b hb=>by
  refine⟨hn b hb,(okX.GO b hb).1,okX.zH b hb,.inl hb,(okX.GO b hb).2,fun p hp=>absurd (show p ∈ ([]:NU)from hp) (by simp)⟩
 have toOut:∀ (s':Shared) (σ':L2.St) (H':Hp) (pins':NU),Inv X' pins' σ' H' s'->Inv X pins σ H' s':=fun s' σ' H' pins' I'=>by
  have B:=I'.base;refine I2.CN (ch:=fp) (s':=s') I'.os ⟨fun b o e n hb hx=>B.keep b o e n hb hx,fun b o e n hb hx=>B.slot b o e n hb hx,B.free,fun b o e hx=>B.there b o e hx,B.kz,B.jQ,B.jN⟩ I'.aZ I'.bare (fun b hb=>?_);obtain⟨f0,f1,f2',f3,f4,f5⟩:=f2 b hb;exact⟨f3,f1,f4,f5⟩
 have xoC:eF X' (fun C d _ H'=>Ξ C d σ H'):=trivial
 have fin:∀ (s':Shared) (σ':L2.St) (H':Hp),Inv X' [] σ' H' s'->Q (.ref s2.heap.objs.size) H'->compPost (model X.prog X.w) X.A X.xe use R (.ref s2.heap.objs.size) G.objs.size (.ok .next) s':=by
  intro s' σ' H' I' q;obtain⟨m,hm,_⟩:=id I'.loc;have I3:Inv X pins σ H' s':=toOut s' σ' H' [] I';exact hfin _ _ s' H' I3 (I2.zB (by rw[hC];exact Kq _) I'.free) ⟨m,hm⟩ q
 have loop:∀s₃:Shared,(∃ tk0,s₃={s2 with heap:=h₁,toks:=tk0})->
   codeAny (model X.prog X.w) X.A (.compLoop (.ListComp elt [⟨tg,iter,ifs,0⟩] bF pos) 0 (.ref it) (.ref s2.heap.objs.size) (compEnvC bF cl G.objs.size X.env))
    (compPost (model X.prog X.w) X.A X.xe use R (.ref s2.heap.objs.size) G.objs.size) s₃:=by
  rintro s₃ ⟨tk0,rfl⟩
  refine codeAny_loop rfl (fun n s'=>∃i acc H' v0,v0.length=ns.length/\Inv X' [] (v0++vars σ fv) H' s'/\tn i s'.heap/\(∀ b ∈ fp,H' b=none)/\i + n=xs.length/\fz nxt te tt (vars σ fv) s2.heap.objs.size aq (xs.drop i) acc H' (kf s2.heap.objs.size))
   (fun n s' hI=>?_) xs.length ⟨0,[],_,_,Lu,I0 tk0,T.keep 0 _ _ st2 (fun b hb o e=>old b o e),fun b hb=>fpN b hb _,by omega,by simpa using hW _ fD (g7.new (Inv.sD (X:=X') mo (I0 tk0)))⟩
  obtain⟨i,acc,H',v0,hv0,I',st',fr',jP,cw⟩:=hI;show wpAny _ _ ((compTurn (.ListComp elt [⟨tg,iter,ifs,0⟩] bF pos) 0 (.ref it) (.ref s2.heap.objs.size) (compEnvC bF cl G.objs.size X.env)).onRaise (fun x=>do noteFrame x (compEnvC bF cl G.objs.size X.env);theTreesLotGoes x)) _ _ _;refine wpAny_noted ?_;rw[compTurn_list];refine IZ (wpAny_standAt (IZ ?_));cases ed:xs.drop i with
  | nil=>
   rw[ed]at cw;obtain⟨hst,hD,hq⟩:=cw;have hle:xs.length<=i:=by simpa using ed
   refine KQ (T.done X' rfl rfl rfl rfl i [] s' _ H' (fun _ _=>False) I' (fpX fr') st' (SQ.stop i H' hst hle)) (fun r s4 ⟨hr,I4⟩=>?_) fun _ _ z=>z.elim;subst hr;exact Ja (fin s4 _ H' I4 (hkf _ _ hq))
  | cons v r=>
   rw[ed]at cw;obtain⟨hst,cw⟩:=cw
   have hlt:i < xs.length:=by
    have:=congrArg List.length ed;simp at this;omega
   have hvi:xs[i]?=some v:=by
    have:=congrArg (fun l=>l[0]?) ed;simpa using this
   have hdr:xs.drop (i + 1)=r:=by
    have:=congrArg List.tail ed;simpa[LJ]using this
   refine KQ (T.item X' rfl rfl rfl rfl i [] s' _ H' (fun _ _=>False) I' (fpX fr') st' (SQ.go i H' hst hlt)) (fun r' s4 ⟨u,hr,h4⟩=>?_) fun _ _ z=>z.elim;subst hr;refine IZ (KQ h4 (fun _ s5 ⟨y,H5,I5,r5,y5,st5,fr5⟩=>?_) fun _ _ z=>z.elim);obtain⟨w,hwl,cw,hgw⟩:=SQ.pO i v H' y H5 _ hvi y5 hst cw;have I5':=I5.pinned (fpX fr5) (T.obj _ _ st5);refine IZ (KQ (hg X' CO hND (fun x hx=>hxr x hx) _ s5 _ H5 y u (fun σ6 H6=>σ6=w++vars σ fv/\H6=H5) I5' r5 (hgw v0 _ _ hv0 ⟨rfl,rfl⟩)) (fun _ s6 ⟨σ6,H6,I6,e6,e6'⟩=>?_) fun _ _ z=>z);subst e6 e6';refine IZ (KQ (ht X' CO _ s6 _ H6 _ I6 cw) (fun okb s7 ⟨H7,I7,q7⟩=>?_) fun _ _ z=>z)
   have again:∀ {s8:Shared} {H8:Hp} {acc':List V},Inv X' ([]++kT fp s5.heap) (w++vars σ fv) H8 s8->fz nxt te tt (vars σ fv) s2.heap.objs.size aq r acc' H8 (kf s2.heap.objs.size)->
     ∃m,m < n/\∃i acc H' v0,v0.length=ns.length/\Inv X' [] (v0++vars σ fv) H' s8/\tn i s8.heap/\(∀ b ∈ fp,H' b=none)/\i + m=xs.length/\fz nxt te tt (vars σ fv) s2.heap.objs.size aq (xs.drop i) acc H' (kf s2.heap.objs.size):=by
    intro s8 H8 acc' I8 c8;refine⟨n - 1,by omega,i + 1,acc',H8,w,hwl,I8.ia,T.keep _ _ _ st5 fun b hb o e=>(I8.pin (b,o) (JG _ (JG _ (eR hb e)))).1,fun b hb=>?_,by omega,by rw[hdr];exact c8⟩;obtain⟨o,e,d⟩:=T.obj _ _ st5 b hb;exact(I8.pin (b,o) (JG _ (JG _ (eR hb e)))).2.1
   cases okb with
   | false=>
    simp only[JT,KA]at q7 ⊢;exact Ja ⟨rfl,again I7 q7⟩
   | true=>
    simp only[Mb]at q7 ⊢;refine IZ (IZ (KQ (he X' CO xoC _ s7 _ H7 _ I7 q7) (fun yv s8 ⟨yy,H8,I8,r8,hD8,hz8,q8⟩=>?_) fun _ _ z=>z));refine IZ (KQ (nD (X:=X') _ s8 _ H8 (.ref s2.heap.objs.size) [yy] (.ref s2.heap.objs.size) [yv] (fun _ H9=>H9=upd H8 s2.heap.objs.size (.lst (acc++[yy]))) I8 rfl (.cons r8 .nil) ⟨_,acc,yy,rfl,rfl,hD8,hz8,rfl⟩) (fun _ s9 ⟨_,H9,I9,_,e9⟩=>?_) fun _ _ z=>z);subst e9;exact Ja (Ja ⟨rfl,again I9 q8⟩)
 exact codeAny_compStart_list (loop _ ⟨_,rfl⟩) (T.self _ 0 _ _ _ (T.keep 0 _ _ st2 (fun b hb o e=>old b o e)) (loop _ ⟨_,rfl⟩))
noncomputable def DI (bd:V->Hp->Option L2.St) (v:V) (H:Hp) (R:L2.St->Hp->Prop):Prop:=match bd v H with
 | some w=>R w H
 | none=>False
theorem nR {bd:V->Hp->Option L2.St} {te:TE} {tt:TT} {fvs:L2.St} {D:Addr} {aq:Hp->Prop} {k:Hp->Prop}:∀ (xs acc:List V) (H:Hp),cK bd te tt fvs D aq xs acc H k=fz (DI bd) te tt fvs D aq xs acc H k
 | [],_,_=>rfl
 | v::r,acc,H=>by
  unfold cK fz;simp only[nR r];rfl
theorem jq {X:Cx} {M:Mo} (mo:ax X.K M) {sc bF:Scope} {elt iter tg:Expr} {ifs:List Expr} {ns:List Str} {pos:Pos} {fv:List (Str × Nat)} {te:TE} {tt:TT} {bd:V->Hp->Option L2.St} {g:TG} {wi:L2.St->Hp->(List V->(Hp->Prop)->Hp->Prop)->Prop} (hc:X.calm=true)
  (hcf:∀y,(sc.names.lookup y=some .cell\/sc.names.lookup y=some .free)->X.env.kindOf y=some .cell\/X.env.kindOf y=some .free)
  (ok:cD sc bF X.N ns fv=true) (hi:PI X tg iter (qS wi)) (hg:∀X',ck X X' bF (ns++fv.map (·.1))->(ns++fv.map (·.1)).Nodup->(∀ x ∈ ns,X'.env.scope.names.lookup x=some .local)->PG X' tg g) (hgb:∀v w w0 f H Q,bd v H=some w->w0.length=ns.length->Q (w++f) H->g v (w0++f) H Q) (hgl:∀v w H,bd v H=some w->w.length=ns.length)
  (top:jI X) {Ξ:XS} (xo:eF X Ξ) {use:Option (Value->Sem Unit)} {R:NT} {pins:NU} {s:Shared} {σ:L2.St} {H:Hp} {Q:V->Hp->Prop}
  (he:∀X',ck X X' bF (ns++fv.map (·.1))->eF X' (fun C d _ H'=>Ξ C d σ H')->PE X' elt te) (ht:∀X',ck X X' bF (ns++fv.map (·.1))->Af X' ifs tt)
  (hs:∀v,foldedSetIterable iter X.env v=pure v) (I:Inv X pins σ H s)
  {kk:List V->(Hp->Prop)->Hp->Prop} (h:wi σ H kk) (hkk:∀xs aq H1,kk xs aq H1->∃kf:Addr->Hp->Prop,(∀ D H',kf D H'->Q (.ref D) H')/\∀D,H1 D=none->M D=none->cK bd te tt (vars σ fv) D aq xs [] (upd H1 D (.lst [])) (kf D))
  (hfin:∀D C s' H',Inv X pins σ H' s'->mU X pins H' C->(∃ m,s'.heap.Ns C m)->Q (.ref D) H'->compPost (model X.prog X.w) X.A X.xe use R (.ref D) C (.ok .next) s'):
  wpAny (model X.prog X.w) X.A (comprehension (.ListComp elt [⟨tg,iter,ifs,0⟩] bF pos) bF X.env (firstIterPos [⟨tg,iter,ifs,0⟩] pos) (newList []) (firstAsync [⟨tg,iter,ifs,0⟩]) (firstIter [⟨tg,iter,ifs,0⟩] X.env) use) R X.xe s:=by
 refine tm (nxt:=DI bd) mo hc hcf ok hi hg top xo he ht hs I ⟨kk,h,fun J xs aq H1 sq q=>⟨xs,aq,⟨sq.go,fun i a H y H' R e y1 st nx=>?_,sq.stop⟩,?_⟩⟩ hfin
 ·obtain⟨hlt,_⟩:=Ju.mp e;obtain⟨eH,ev⟩:=sq.pO i H y H' hlt y1 st;subst eH;rw[e]at ev;obtain rfl:a=y:=JE ev;unfold DI at nx;split at nx
  ·rename_i w ew;exact⟨w,hgl _ _ _ ew,nx,fun w0 f Q hw q=>hgb _ _ _ _ _ _ ew hw q⟩
  ·exact nx.elim
 ·obtain⟨kf,k1,k2⟩:=hkk xs aq H1 q;exact⟨kf,k1,fun D h1 h2=>by rw[<-nR];exact k2 D h1 h2⟩
noncomputable def gS:List Nat->CT
 | []=>FX
 | i::is=>CJ (lD i) (gS is)
theorem eU:∀ {is:List Nat} {xs:List V} {σ:L2.St} {H:Hp} {Q:L2.St->Hp->Prop},xs.length=is.length->Q (eO σ is xs) H->gS is xs σ H Q
 | [],[],σ,H,Q,_,q=>⟨rfl,q⟩
 | i::is,x::xs,σ,H,Q,hl,q=>⟨x,xs,rfl,eU (by simpa using hl) q⟩
 | [],_::_,_,_,_,hl,_=>by simp at hl
 | _::_,[],_,_,_,hl,_=>by simp at hl
theorem tB:∀ (is:List Nat) {ts:List Expr} {N:List Str} {env:Env},assignEach (bN N is ts) env=(bN N is ts).map fun t=>(false,assign t env)
 | [],_,_,_=>rfl
 | _::is,ts,N,env=>congrArg (_::·) (tB is (ts:=ts.tail) (N:=N) (env:=env))
theorem nZ:∀ (is:List Nat) {ts:List Expr} {N:List Str},(bN N is ts).length=is.length
 | [],_,_=>rfl
 | _::is,_,_=>congrArg (·+ 1) (nZ is)
theorem tD {is:List Nat} {ts:List Expr} {N:List Str} {env:Env}:(assignEach (bN N is ts) env).length=is.length:=by
 rw[tB,Jb,nZ]
theorem pq {is:List Nat} {ts:List Expr} {N:List Str} {env:Env}:(assignEach (bN N is ts) env).findIdx? (·.1)=none:=by
 rw[tB,LB];intro x hx;obtain⟨t,_,rfl⟩:=Jf.mp hx;rfl
theorem ik:∀ (xs:List V) (k:Nat) (σ:L2.St),k + xs.length<=σ.length->eO σ (List.range' k xs.length) xs=σ.take k++(xs.map some++σ.drop (k + xs.length))
 | [],k,σ,h=>by
  show σ=_;simp
 | x::xs,k,σ,h=>by
  rw[JW]at h;show eO (σ.set k (some x)) (List.range' (k + 1) xs.length) xs=_;rw[ik xs (k + 1) (σ.set k (some x)) (by rw[Mh];omega)]
  have e:(σ.set k (some x)).take (k + 1)=σ.take k++[some x]:=by
   rw[M5,List.take_set_of_le (Jv _),K3 (by omega)];rfl
  rw[e,List.drop_set_of_lt (by omega),JD,JA,JW,show k + (xs.length + 1)=k + 1 + xs.length by omega];rfl
theorem FE {N:List Str} {i:Nat} (h:i < N.length):N[i]?=some (nx N i):=by
 unfold nx;rw[KH,Je h];rfl
section
variable {X':Cx}
theorem ny (nd:X'.N.Nodup):∀ {is:List Nat} {ts:List Expr},(∀ i ∈ is,i < X'.N.length/\X'.env.scope.names.lookup (nx X'.N i)=some .local)->ED X' (bN X'.N is ts) (gS is)
 | [],_,_=>ur
 | i::is,_,h=>qo (iw nd (FE (h i Jj).1) (.inl (h i Jj).2) (.inr (h i Jj).2)) (ny nd fun j hj=>h j (Ji _ hj)) rfl
end
theorem lJ {te:TE} {tt:TT} {fvs:L2.St} {D:Addr} {aq:Hp->Prop} {k:Hp->Prop}:∀ (xs acc:List V) (H:Hp),dB te tt fvs D aq xs acc H k=cK (fun v _=>some [some v]) te tt fvs D aq xs acc H k
 | [],_,_=>rfl
 | v::r,acc,H=>by
  show(aq H/\tt (some v::fvs) H fun ok H1=>if ok=true then te (some v::fvs) H1 fun y H2=>H2 D=some (.lst acc)/\acc.length < sizeLine/\dB te tt fvs D aq r (acc++[y]) (upd H2 D (.lst (acc++[y]))) k else dB te tt fvs D aq r acc H1 k)=(aq H/\tt (some v::fvs) H fun ok H1=>if ok=true then te (some v::fvs) H1 fun y H2=>H2 D=some (.lst acc)/\acc.length < sizeLine/\cK (fun v _=>some [some v]) te tt fvs D aq r (acc++[y]) (upd H2 D (.lst (acc++[y]))) k else cK (fun v _=>some [some v]) te tt fvs D aq r acc H1 k);simp only[lJ r]
theorem xY {X:Cx}:Af X [] (fun _ H Q=>Q true H):=fun pins s σ H Q I q=>by
 show wpAny _ _ (pure true) _ _ _;exact Ja ⟨H,I,q⟩
theorem uw {v:V} {w w0 f:L2.St} {H:Hp} {Q:L2.St->Hp->Prop} (e:(some [some v]:Option L2.St)=some w) (hw:w0.length=([0]:List Nat).length) (q:Q (w++f) H):lD 0 v (w0++f) H Q:=by
 cases e
 match w0,hw with
 | [a],_=>exact q
section
variable {X:Cx} {M:Mo} {sc bF:Scope} {elt iter:Expr} {ifs:List Expr} {x:Str} {px pos:Pos} {fv:List (Str × Nat)} {te:L2.St->TE} {tt:TT} {wi:L2.St->Hp->(List V->(Hp->Prop)->Hp->Prop)->Prop} {Ξ:XS}
theorem Bn (mo:ax X.K M) (hc:X.calm=true) (top:jI X) (xo:eF X Ξ)
  (hcf:∀y,(sc.names.lookup y=some .cell\/sc.names.lookup y=some .free)->X.env.kindOf y=some .cell\/X.env.kindOf y=some .free)
  (ok:cD sc bF X.N [x] fv=true) (hi:PI X (.Name x px) iter (qS wi))
  (he:∀σ X',ck X X' bF (x::fv.map (·.1))->eF X' (fun C d _ H'=>Ξ C d σ H')->PE X' elt (te σ)) (ht:∀X',ck X X' bF (x::fv.map (·.1))->Af X' ifs tt)
  (hs:∀v,foldedSetIterable iter X.env v=pure v):
  PE X (.ListComp elt [⟨.Name x px,iter,ifs,0⟩] bF pos) (fun σ H Q=>wi σ H fun xs aq H1=>∀D,H1 D=none->M D=none->dB (te σ) tt (vars σ fv) D aq xs [] (upd H1 D (.lst [])) fun H'=>Q (.ref D) H'):=by
 intro pins s σ H Q I h;rw[eval_ListComp];refine jq (bd:=fun v _=>some [some v]) (g:=lD 0) mo hc hcf ok hi (fun X' c nd hl=>iw (by rw[c.N];exact nd) (by rw[c.N];rfl) (.inl (hl x (by simp))) (.inr (hl x (by simp)))) (fun v w w0 f H Q e hw q=>uw e hw q) (fun v w H e=>by cases e;rfl) top xo (he σ) ht hs (use:=none) (R:=EP X pins σ Q) I h (fun xs aq H1 q=>⟨fun D H'=>Q (.ref D) H',fun _ _ z=>z,fun D h1 h2=>(lJ _ _ _).mp (q D h1 h2)⟩) fun D C s' H' I' f ⟨m,hm⟩ q=>?_;refine⟨m,hm,fun h' sb=>⟨.ref D,H',?_,rfl,q⟩⟩;exact Inv.zc I' f sb
theorem A0 (mo:ax X.K M) (hc:X.calm=true) (top:jI X) (xo:eF X Ξ)
  (hcf:∀y,(sc.names.lookup y=some .cell\/sc.names.lookup y=some .free)->X.env.kindOf y=some .cell\/X.env.kindOf y=some .free)
  (ok:cD sc bF X.N [x] fv=true) (hi:PI X (.Name x px) iter (qS wi))
  (he:∀σ X',ck X X' bF (x::fv.map (·.1))->eF X' (fun C d _ H'=>Ξ C d σ H')->PE X' elt (te σ)) (ht:∀X',ck X X' bF (x::fv.map (·.1))->Af X' ifs tt)
  (hs:∀v,foldedSetIterable iter X.env v=pure v) {i:Nat} {t:Str} {tp spos:Pos} (hN:X.N.Nodup) (hit:X.N[i]?=some t) (hx:Loc X.env.scope t) (hf:X.fn t=true\/X.env.scope.names.lookup t=some .local)
  (hsw:swapsWith (.ListComp elt [⟨.Name x px,iter,ifs,0⟩] bF pos) (some (.Name t tp)) spos.line X.env=pure true):
  PS X (.Assign [.Name t tp] (.ListComp elt [⟨.Name x px,iter,ifs,0⟩] bF pos) spos) (fun D σ H=>wi σ H fun xs aq H1=>∀B,H1 B=none->M B=none->dB (te σ) tt (vars σ fv) B aq xs [] (upd H1 B (.lst [])) fun H'=>D.nx (σ.set i (some (.ref B))) H'):=by
 intro pins s σ H D I h;rw[exec_Assign_Name_used _ _ _ _ hsw];refine IZ (wpAny_standAt (IZ ?_));show wpAny _ _ (do let _<-comprehension _ _ _ _ _ _ _ (some _)) _ _ _;refine IZ ?_;refine jq (bd:=fun v _=>some [some v]) (g:=lD 0) mo hc hcf ok hi (fun X' c nd hl=>iw (by rw[c.N];exact nd) (by rw[c.N];rfl) (.inl (hl x (by simp))) (.inr (hl x (by simp)))) (fun v w w0 f H Q e hw q=>uw e hw q) (fun v w H e=>by cases e;rfl) top xo (he σ) ht hs (Q:=fun v H'=>D.nx (σ.set i (some v)) H') I h (fun xs aq H1 q=>⟨fun B H'=>D.nx (σ.set i (some (.ref B))) H',fun _ _ z=>z,fun D h1 h2=>(lJ _ _ _).mp (q D h1 h2)⟩) fun B C s' H' I' f ⟨m,hm⟩ q=>?_;show wpAny _ _ (assign (.Name t tp) X.env (.ref B)) _ _ _;refine IZ (wpAny_standAt ?_);unfold bindName;refine IZ (JQ (wpAny_point ?_));refine IZ (mY I' hN hit hx (v:=.ref B) rfl (fun s2 I2 ⟨a,sb,ha⟩=>?_) hf);refine wpAny_point ?_
 have hne:C ≠ a:=fun z=>by
  subst z;rcases ha with z | z
  ·exact f.2.1 z
  ·exact f.2.2.2.2.1 _ _ z rfl
 obtain⟨o,es,ep,ho,r⟩:=hm;have ho2:s2.heap.get? C=some o:=(sb.2 C hne).trans ho;refine⟨m,⟨o,es,ep,ho2,r⟩,fun h' sb2=>?_⟩;exact Ja (Ja ⟨_,H',Inv.zc I2 f sb2,q⟩)
theorem yq {xs:List Str} {ts:List Expr} {kt} {pt:Pos} (mo:ax X.K M) (hc:X.calm=true) (top:jI X) (xo:eF X Ξ)
  (hcf:∀y,(sc.names.lookup y=some .cell\/sc.names.lookup y=some .free)->X.env.kindOf y=some .cell\/X.env.kindOf y=some .free)
  (ok:cD sc bF X.N xs fv=true) (h0:xs.length ≠ 0) (hi:PI X (.Tuple (bN (wZ fv xs) (List.range xs.length) ts) kt pt) iter (qS wi))
  (he:∀σ X',ck X X' bF (wZ fv xs)->eF X' (fun C d _ H'=>Ξ C d σ H')->PE X' elt (te σ))
  (hs:∀v,foldedSetIterable iter X.env v=pure v):
  PE X (.ListComp elt [⟨.Tuple (bN (wZ fv xs) (List.range xs.length) ts) kt pt,iter,[],0⟩] bF pos) (fun σ H Q=>wi σ H fun vs aq H1=>∀D,H1 D=none->M D=none->cK (Cb M xs.length) (te σ) (fun _ H Q=>Q true H) (vars σ fv) D aq vs [] (upd H1 D (.lst [])) fun H'=>Q (.ref D) H'):=by
 intro pins s σ H Q I h;rw[eval_ListComp];refine jq (bd:=Cb M xs.length) (g:=Eg X.K xs.length (gS (List.range xs.length))) mo hc hcf ok hi (fun X' c nd hl=>?_) (fun v w w0 f H Q e hw q=>?_) (fun v w H e=>?_) top xo (he σ) (fun X' c=>xY) hs (use:=none) (R:=EP X pins σ Q) I h (fun xs aq H1 q=>⟨fun D H'=>Q (.ref D) H',fun _ _ z=>z,q⟩) fun D C s' H' I' f ⟨m,hm⟩ q=>?_
 ·have cN:X'.N=wZ fv xs:=c.N;rw[<-c.K,<-cN];have ln:xs.length<=X'.N.length:=by rw[cN];unfold wZ;rw[Jl];omega
  refine sA c.calm (ny (by rw[cN];exact nd) fun i hi=>?_) (by rw[tD,KJ]) pq;have hi':=MY.mp hi;refine⟨Jw hi' ln,hl _ ?_⟩
  have:nx X'.N i=xs[i]:=by
   unfold nx;rw[cN,KH];unfold wZ;rw[JH hi',Je hi'];rfl
  rw[this];exact K6 hi'
 ·cases v with
  | ref p=>
   unfold Cb at e;dsimp only at e;split at e
   ·rename_i ys ey;split at e
    ·rename_i ly;cases e
     refine⟨p,ys,rfl,bO mo ey,ly,eU (by rw[KJ];exact ly) ?_⟩;rw[<-ly,List.range_eq_range',ik ys 0 _ (by rw[Jl];omega),Kd,NP,Le,List.drop_append_of_le_length (by omega),MA (by omega),Le];exact q
    ·cases e
   ·cases e
  | _=>cases e
 ·cases v with
  | ref p=>
   unfold Cb at e;dsimp only at e;split at e
   ·split at e
    ·rename_i ly;cases e
     rw[Jb];exact ly
    ·cases e
   ·cases e
  | _=>cases e
 refine⟨m,hm,fun h' sb=>⟨.ref D,H',?_,rfl,q⟩⟩;exact Inv.zc I' f sb
end
open PySem.W (Frag keepIn ktsIn mroIn kitOne)
noncomputable def cy:List Str:=["len","all","any","str","int","abs","sorted","list","tuple","max","min","sum","isinstance","range","bool","dict","set","ValueError","reversed","zip"]
noncomputable def pI (mg:Str->Option Value) (x:Str) (u:Value):Prop:=mg x=some u\/(mg x=none/\bootBuiltins x=some u)
structure jS (P:Program) (w:World) (K:Frag) (mg:Str->Option Value) (base:Heap) (k:Nat) (vc:Addr->Sp):Prop where
 run:∀ (A:Around) (outer:List Env) (s:Shared) (H:Hp) (f:Addr) (us:List Value) (vs:List V) (Q:VK) (E:XK),cO k A->wV P w K mg base A outer s H->Vals vs us->vc f vs H Q E->
  codeAny (model P w) A (.call (.ref f) ⟨us,[]⟩) (CR (pK P w) outer P w H s Q E) s
 HM:∀ (s:Shared) (H:Hp) (f:Addr) (vs:List V) (Q:VK) (E:XK),K.In s.heap->hE P w H s.heap->vc f vs H Q E->PySem.W.FnAt f s.heap
theorem jS.mono {P:Program} {w:World} {K:Frag} {mg:Str->Option Value} {base:Heap} {j k:Nat} {vc:Addr->Sp} (F:jS P w K mg base j vc) (h:j<=k):jS P w K mg base k vc:=
 ⟨fun A outer s H f us vs Q E hr=>F.run A outer s H f us vs Q E (hr.mono h),F.HM⟩
theorem jS.none {P:Program} {w:World} {K:Frag} {mg:Str->Option Value} {base:Heap} {k:Nat}:jS P w K mg base k (fun _ _ _ _ _=>False):=
 ⟨fun _ _ _ _ _ _ _ _ _ _ _ _ h=>h.elim,fun _ _ _ _ _ _ _ _ h=>h.elim⟩
noncomputable def GA (P:Program) (w:World) (mg:Str->Option Value) (base:Heap) (x:Str) (kvs:List (Key × V)):Prop:=∃a vs,mg x=some (.ref a)/\KV kvs vs/\base.DictOf (aL P w) a vs
structure cn (P:Program) (w:World) (K:Frag) (mg:Str->Option Value) (base:Heap) (Γ:bZ) (k:Nat):Prop where
 mod:ax K Γ.mod
 con:∀x v,Γ.con x=some v->∃u,mg x=some u/\RelV v u
 fn:∀f,Γ.has f=true->∃fa fd ps,mg f=some (.ref fa)/\keepIn K (.ref fa)=true/\di P w K mg base (pK P w) k fa fd ps (Γ.fn f)/\Binds K fd ps []
 no:∀x ∈ cy,mg x=none
 vc:jS P w K mg base k Γ.vc
 gd:∀x kvs,Γ.gd x=some kvs->GA P w mg base x kvs
structure Ctx (X:Cx) (Γ:bZ) (sc:Scope) (k:Nat):Prop where
 g:cn X.prog X.w X.K X.mg X.base Γ k
 room:Γ.cm=true->cO (k + 1) X.A
 calm:Γ.cm=true->X.calm=true
 un:X.A.units + 64 < cLine
 GC:∀x,fq sc x=true->Cf X.env.scope x
 gl:∀x,cM sc x=true->Gl X x
 cf:∀y,(sc.names.lookup y=some .cell\/sc.names.lookup y=some .free)->X.env.kindOf y=some .cell\/X.env.kindOf y=some .free
 top:jI X
section
variable {X:Cx} {a b e:Expr} {rest:List Expr} {ta tb:TE} {pos:Pos} {M:Mo}
theorem PE.of {t t':TE} (h:PE X e t) (i:∀σ H Q,t' σ H Q->t σ H Q):PE X e t':=fun pins s σ H Q I q=>h pins s σ H Q I (i σ H Q q)
theorem PT.of {t t':TT} (h:PT X e t) (i:∀σ H Q,t' σ H Q->t σ H Q):PT X e t':=fun pins s σ H Q I q=>h pins s σ H Q I (i σ H Q q)
theorem PT.never {t:TT} (i:∀σ H Q,¬t σ H Q):PT X e t:=fun pins s σ H Q I q=>(i σ H Q q).elim
theorem vm {x:V} {H:Hp} {Q Q':Bool->Prop} (h:cS M x H Q) (i:∀k,Q k->Q' k):cS M x H Q':=by
 unfold cS at h ⊢;cases x with
 | aD=>exact i _ h
 | bl b=>exact i _ h
 | int j=>exact i _ h
 | str y=>exact⟨h.1,i _ h.2⟩
 | ref p=>
  dsimp only at h ⊢;split at h
  ·exact i _ h
  ·exact i _ h
  ·exact h.elim
 | _=>exact h.elim
theorem jW (m:ax X.K M) {pins:NU} {s:Shared} {σ:L2.St} {H:Hp} {x:V} {v:Value} {Q:Bool->Prop} {Q':Bool->Shared->Prop} (I:Inv X pins σ H s) (rx:RelV x v) (q:cS M x H Q)
  (h:∀k s',Inv X pins σ H s'->Q k->Q' k s'):wpAny (model X.prog X.w) X.A (truthy v) Q' X.xe s:=by
 refine bW (C2 m pins s σ H x v (fun k H2=>H2=H/\Q k) I rx (vm q fun k z=>⟨rfl,z⟩)) fun k s2 ⟨H2,I2,e2,q2⟩=>?_;subst e2;exact h k s2 I2 q2
theorem uu (m:ax X.K M) (ha:PE X a ta) (hb:PE X (.BoolOp .And (b::rest) pos) tb):PE X (.BoolOp .And (a::b::rest) pos) (fun σ H Q=>ta σ H fun x H1=>cS M x H1 fun k=>if k=true then tb σ H1 Q else Q x H1):=by
 intro pins s σ H Q I h;refine BoolOp_and (bW (ha pins s σ H _ I h) fun v s1 ⟨x,H1,I1,r1,q1⟩=>jW m I1 r1 q1 fun k s2 I2 q2=>?_);cases k with
 | true=>exact hb pins s2 σ H1 Q I2 q2
 | false=>exact⟨x,H1,I2,r1,q2⟩
theorem yi (m:ax X.K M) (ha:PE X a ta) (hb:PE X (.BoolOp .Or (b::rest) pos) tb):PE X (.BoolOp .Or (a::b::rest) pos) (fun σ H Q=>ta σ H fun x H1=>cS M x H1 fun k=>if k=true then Q x H1 else tb σ H1 Q):=by
 intro pins s σ H Q I h;refine BoolOp_or (bW (ha pins s σ H _ I h) fun v s1 ⟨x,H1,I1,r1,q1⟩=>jW m I1 r1 q1 fun k s2 I2 q2=>?_);cases k with
 | false=>exact hb pins s2 σ H1 Q I2 q2
 | true=>exact⟨x,H1,I2,r1,q2⟩
theorem Bd (m:ax X.K M) (ha:PE X a ta):PE X (.UnaryOp .Not a pos) (fun σ H Q=>ta σ H fun x H1=>cS M x H1 fun k=>Q (.bl (!k)) H1):=by
 intro pins s σ H Q I h;refine UnaryOp_ (bW (ha pins s σ H _ I h) fun v s1 ⟨x,H1,I1,r1,q1⟩=>not_of (jW m I1 r1 q1 fun k s2 I2 q2=>⟨.bl (!k),H1,I2,rfl,q2⟩))
theorem Dj (m:ax X.K M) (ha:PE X a ta) (he:∀whole,isTrue a X.env whole=(do let v<-whole;standAt a.pos;holding [v] (truthy v))):PT X a (fun σ H Q=>ta σ H fun x H1=>cS M x H1 fun k=>Q k H1):=by
 intro pins s σ H Q I h;exact isTrue_plain (bW (ha pins s σ H _ I h) fun v s1 ⟨x,H1,I1,r1,q1⟩=>jW m I1 r1 q1 fun k s2 I2 q2=>⟨H1,I2,q2⟩) (he _)
theorem Dl {c:Expr} {tc:TT} {t u:TT} (hc:PT X c tc) (ha:PT X a t) (hb:PT X b u):PT X (.IfExp c a b pos) (fun σ H Q=>tc σ H fun k H1=>if k=true then t σ H1 Q else u σ H1 Q):=by
 intro pins s σ H Q I h;show wpAny _ _ (do if<-isTrue c X.env (eval c X.env)then isTrue a X.env (eval a X.env)else isTrue b X.env (eval b X.env)) _ _ _;refine IZ (bW (hc pins s σ H _ I h) fun k s1 ⟨H1,I1,q1⟩=>?_);cases k with
 | true=>exact ha pins s1 σ H1 Q I1 q1
 | false=>exact hb pins s1 σ H1 Q I1 q1
end
section
variable {X:Cx}
theorem aU {e:Expr} {es:List Expr} {env:Env} (h:ba e=true):starEach (e::es) env=(false,eval e env)::starEach es env:=by
 cases e<;>first | rfl | cases h
theorem plain_any:∀ {es:List Expr} {env:Env} {pos:Pos},(∀ e ∈ es,ba e=true)->(backTo pos (starEach es env)).any (·.1)=false
 | [],_,_,_=>rfl
 | e::es,env,pos,h=>by
  rw[aU (h e Jj)];show(false || (backTo pos (starEach es env)).any (·.1))=false;rw[plain_any fun e he=>h e (Ji _ he)];rfl
theorem plain_all:∀ {es:List Expr} {env:Env} {pos:Pos},(∀ e ∈ es,ba e=true)->(backTo pos (starEach es env)).all (fun x=>!x.1)=true
 | [],_,_,_=>rfl
 | e::es,env,pos,h=>by
  rw[aU (h e Jj)];show((!false) && (backTo pos (starEach es env)).all (fun x=>!x.1))=true;rw[plain_all fun e he=>h e (Ji _ he)];rfl
theorem a2 {a b:Bool} (h:(a && b)=true):a=true/\b=true:=Bool.and_eq_true_iff.mp h
theorem fj {N:List Str} {i:Nat} (h:decide (i < N.length)=true):N[i]?=some (nx N i):=by
 have h:=Kj h;unfold nx;rw[KH,Je h];rfl
theorem aK {N:List Str} (e:Ex) {a:Expr}:ba (bE N e a)=true:=by cases e<;>rfl
theorem fI {N:List Str} (it:Ix) {a:Expr}:ba (bI N it a)=true:=by
 cases it with
 | ex e=>exact aK e
 | rng1 _=>rfl
theorem gf {N:List Str}:∀ (cs:lX) {es:List Expr},∀e ∈ pN N cs es,ba e=true
 | .nil,_=>fun e h=>nomatch (show e ∈ []from h)
 | .cons c r,es=>fun e h=>(Jq.mp (show e ∈ bE N c (es.headD default)::pN N r es.tail from h)).elim (fun q=>q ▸ aK c) (gf r e)
theorem pA {N:List Str}:∀ (cs:lX) {es:List Expr},(pN N cs es).length=cs.len
 | .nil,_=>rfl
 | .cons _ r,_=>congrArg (·+ 1) (pA r)
theorem cB {x:Str} (h:bP x=true):(x == ("__debug__" :Str))=false/\(x == ("__classdict__" :Str))=false/\x ≠ "__name__" :=by
 unfold bP at h;simp only[JU,Mw,LQ]at h;exact⟨h.1.1,h.1.2,h.2⟩
end
theorem B_ (f:Bf):bootBuiltins f.name=some (IC f):=by cases f<;>kernel_rfl
theorem Gg (f:Bf):f.name ∈ cy:=by cases f<;>decide +kernel
theorem BX:("isinstance" :Str) ∈ cy:=by decide +kernel
theorem Ed:("zip" :Str) ∈ cy:=by decide +kernel
theorem Gi (f:B2):f.name ∈ cy:=by cases f<;>decide +kernel
theorem zv:("range" :Str) ∈ cy:=by decide +kernel
theorem wN:bootBuiltins "isinstance" =some (.builtin "isinstance"):=by kernel_rfl
noncomputable def GY:Ty->Option String
 | .str=>some "str" | .int=>some "int" | .bool=>some "bool" | .list=>some "list" | .tuple=>some "tuple" | .dict=>some "dict" | .own _=>none
theorem B9:∀ {T:Ty} {n:String},GY T=some n->bootBuiltins T.name=some (.type n)/\T.name ∈ cy:=by
 intro T n h;cases T<;>first | (cases h;exact⟨by kernel_rfl,by decide +kernel⟩) | cases h
theorem DZ {K:Frag} {M:Mo} {H:Hp} {x:V} {T:Ty} {n:String} (h:known M H x=true) (ht:GY T=some n):∃t,jt K H x t/\kitOne K t (.type n)=some (lq T H x):=by
 cases x with
 | aD=>exact⟨_,.aD,by cases T<;>first | (cases ht;kernel_rfl) | cases ht⟩
 | bl b=>exact⟨_,.bl b,by cases T<;>first | (cases ht;kernel_rfl) | cases ht⟩
 | int i=>exact⟨_,.int i,by cases T<;>first | (cases ht;kernel_rfl) | cases ht⟩
 | str y=>exact⟨_,.str y,by cases T<;>first | (cases ht;kernel_rfl) | cases ht⟩
 | ref p=>
  unfold known at h;dsimp only at h;split at h
  ·rename_i xs e;exact⟨_,.lst e,by unfold lq;simp only[e];cases T<;>first | (cases ht;kernel_rfl) | cases ht⟩
  ·rename_i xs e;exact⟨_,.tup e,by unfold lq;simp only[e];cases T<;>first | (cases ht;kernel_rfl) | cases ht⟩
  ·rename_i xs e;exact⟨_,.dK e,by unfold lq;simp only[e];cases T<;>first | (cases ht;kernel_rfl) | cases ht⟩
  ·rename_i o xs e;exact⟨_,.frz e,by unfold lq;simp only[e];cases T<;>first | (cases ht;kernel_rfl) | cases ht⟩
  ·cases h
 | _=>cases h
section
variable {X:Cx} {Γ:bZ} {sc:Scope} {k:Nat} {Ξ:XS}
theorem BL {pins:NU} {s:Shared} {σ:L2.St} {H:Hp} {x:Str} {u:Value} {pos:Pos} {Q:NT} {E:NT} (I:Inv X pins σ H s) (hg:Gl X x) (hv:pI X.mg x u) (ho:bP x=true) (h:Q u s):
  wpAny (model X.prog X.w) X.A (eval (.Name x pos) X.env) Q E s:=by
 obtain⟨o1,o2,o3⟩:=cB ho;rcases hv with hv | ⟨hv,hb⟩
 ·exact oT I hg hv h o1
 ·exact cj I hg hv hb h o3 o1
theorem Bl {a:Expr} {ta:TE} {y:Str} {p py pos:Pos} {R:V->Hp->VK->Prop} (C:Ctx X Γ sc k) (hg:Gl X "isinstance") (ha:PE X a ta) (hp:ba a=true) (hy:Gl X y) (ho:bP y=true)
  (hR:∀ (pins:NU) (s:Shared) (σ:L2.St) (H:Hp) (x:V) (v:Value) (Q:VK),Inv X pins σ H s->RelV x v->R x H Q->∃u,pI X.mg y u/\wpAny (model X.prog X.w) X.A (call (.builtin "isinstance") [v,u]) (EP X pins σ Q) X.xe s):
  PE X (.Call (.Name "isinstance" p) [a,.Name y py] [] pos) (fun σ H Q=>ta σ H fun x H1=>R x H1 Q):=by
 intro pins s σ H Q I h;refine J4 (cj I hg (C.g.no _ BX) wN ?_);have hs:=aU (env:=X.env) (es:=[.Name y py]) hp;refine Kf ?_ hs rfl;rw[hs];show wpAny _ _ (spliced ((false,eval a X.env)::backTo pos (starEach [.Name y py] X.env))) _ _ s;refine JS (bW (ha pins s σ H _ I h) fun v s1 ⟨x,H1,I1,r1,q1⟩=>?_);obtain⟨u,hv,z⟩:=hR pins s1 σ H1 x v Q I1 r1 q1;exact JS (BL I1 hy hv ho (Ka z))
theorem Ctx.comp {X':Cx} {bF:Scope} {N':List Str} (C:Ctx X Γ sc k) (c:ck X X' bF N') (hc:Γ.cm=true):Ctx X' Γ bF k:=by
 have look:∀y,X'.env.scope.names.lookup y=(bF.names.lookup y).map fun k=>if(k == .free && X.env.scope.kind == .function && X.env.kindOf y == some .cell)then .cell else k:=fun y=>by
  rw[c.scope];exact fi
 refine⟨by rw[c.prog,c.w,c.K,c.mg,c.base];exact C.g,fun h=>by rw[c.A];exact C.room h,fun _=>c.calm,by rw[c.A];exact C.un,fun x h=>?_,fun x h=>?_,fun y h=>?_,let ⟨e0,o0,L,t1,t2,t3⟩:=C.top;⟨e0,o0,L,c.stack.trans t1,t2,c.frame.trans t3⟩⟩
 ·have l:=look x;unfold fq at h;unfold Cf;split at h
  ·rename_i e;rw[e]at l;exact .inl l
  ·rename_i e;rw[e]at l;exact .inr (.inl l)
  ·rename_i e;rw[e]at l;simp only[K0]at l
   by_cases q:((NameKind.free == NameKind.free) && X.env.scope.kind == .function && X.env.kindOf x == some .cell)=true
   ·rw[Jc q]at l;exact .inr (.inl l)
   ·rw[I_ q]at l;exact .inr (.inr l)
  ·cases h
 ·have l:=look x;unfold cM at h;split at h
  ·rename_i e;rw[e]at l;exact l
  ·cases h
 ·have l:=look y;rcases h with h | h
  ·rw[h]at l;exact .inl l
  ·rw[h]at l;simp only[K0]at l
   by_cases q:((NameKind.free == NameKind.free) && X.env.scope.kind == .function && X.env.kindOf y == some .cell)=true
   ·rw[Jc q]at l;exact .inl l
   ·rw[I_ q]at l;exact .inr l
end
section
open PySem.SeqAt
variable {X:Cx} {M:Mo} {pins:NU} {σ:L2.St} {H:Hp} {s:Shared}
theorem Cw {K:Frag} (m:ax K M) {p:Addr} {kvs:List (Key × V)} (h:rd M H p=some (.dK kvs)):Rd H p (.dK kvs):=by
 rcases kO h with h | ⟨_,h⟩
 ·exact h
 ·exact(m p _ h).elim
theorem uY {K:Frag} (m:ax K M) {x:V} {kvs:List (Key × V)} (h:Ak M H x=some kvs):∃p,x=.ref p/\Rd H p (.dK kvs):=by
 unfold Ak at h;cases x with
 | ref p=>
  dsimp only at h;split at h
  ·rename_i e;cases h;exact⟨p,rfl,Cw m e⟩
  ·cases h
 | _=>cases h
theorem BY (m:ax X.K M):Ah X (qR M):=by
 intro value slice pins s σ H x y v u Q I rx ry h hs;unfold qR at h;cases x with
 | ref p=>
  dsimp only at h;cases (show v=Value.ref p from rx)
  split at h
  ·rename_i kvs e;split at h
   ·rename_i k ek;split at h
    ·rename_i y' ev;obtain⟨z,hd,vs,rel,dd⟩:=uT I.aZ (Cw m e);obtain⟨w',hw,rw'⟩:=gZ.some_of (v:=y') (o:=valueAt vs k) (by rw[<-ev];exact rel.val k);rw[iQ ek]at ry;exact tail_any dd.mapOf.typeIs PySem.F.slot_dict_getitem.lookup (wpAny_getItem_of (lh ry) dd.mapOf hw ⟨y',H,I.tok _,rw',h⟩) hs
    ·exact h.elim
   ·exact h.elim
  ·exact h.elim
 | _=>exact h.elim
theorem u3 (hu:X.A.units + 64 < cLine) (m:ax X.K M) (op:CmpOp):iZ X (compareOp op) (rq M op):=by
 intro pins s σ H x y v u Q I rx ry h;cases op with
 | In=>
  have h:(match Ak M H y,keyOf x with | some kvs,some k=>Q (.bl (bR kvs k).isSome) H | _,_=>False):=h
  revert h
  split
  ·rename_i kvs k e ek;intro h0;obtain⟨p,rfl,rd⟩:=uY m e;cases (show u=Value.ref p from ry)
   exact HP (by omega) I (.inl ⟨kvs,k,rd,iQ ek,rfl⟩) rx fun s' I'=>⟨.bl _,H,I',rfl,h0⟩
  ·exact fun h=>h.elim
 | NotIn=>
  have h:(match Ak M H y,keyOf x with | some kvs,some k=>Q (.bl (!(bR kvs k).isSome)) H | _,_=>False):=h
  revert h
  split
  ·rename_i kvs k e ek;intro h0;obtain⟨p,rfl,rd⟩:=uY m e;cases (show u=Value.ref p from ry)
   exact B5 (by omega) I (.inl ⟨kvs,k,rd,iQ ek,rfl⟩) rx fun s' I'=>⟨.bl _,H,I',rfl,h0⟩
  ·exact fun h=>h.elim
 | _=>exact h.elim
end
end Sw
namespace Tm
open PySem PyProof.Rows
noncomputable def dw:Bool->Keyed->Array Keyed->Nat->Nat->Nat->StateT SortSt Sem (Option Nat):=sortPriv% PySem.Builtin.gallop
noncomputable def beyond (left:Bool) (key:Keyed) (arr:Array Keyed) (base i:Nat):StateT SortSt Sem (Option Bool):=do
 let x<-elem' arr (base + i)
 if left then lt' x key else(do let r<-lt' key x;pure (r.map (!·)))
theorem sY (left:Bool) (key:Keyed) (arr:Array Keyed) (base n hint:Nat):dw left key arr base n hint=(do
 let bey:=beyond left key arr base
 let mut (last,o):=(0,1)
 let mut (l,h):=(0,0)
 let some right<-bey hint | return none
 if right then
  let mo:=n - hint
  for _ in [0:n] do
   if o ≥ mo then break
   let some more<-bey (hint + o) | return none
   if !more then break
   last:=o
   o:=2 * o + 1
  l:=hint + last + 1
  h:=hint + min o mo
 else
  let mo:=hint + 1
  for _ in [0:n] do
   if o ≥ mo then break
   let some found<-bey (hint - o) | return none
   if found then break
   last:=o
   o:=2 * o + 1
  l:=hint + 1 - min o mo
  h:=hint - last
 for _ in [0:n] do
  if l ≥ h then break
  let m:=l + (h - l) / 2
  let some more<-bey m | return none
  if more then l:=m + 1 else h:=m
 return some h):=rfl
noncomputable def pick {α β:Type _} (x:Option α) (f:α->β) (g:Unit->β):β:=Break.runK.match_1 (fun _=>β) x f g
structure jU (prog:Program) (w:World) (A:Around) (E:NT) (s:Shared) (κ:SortKind) (D:Keyed->Prop) (less:Keyed->Keyed->Bool):Prop where
 run:∀ (st:SortSt) (x y:Keyed) (Q:Option Bool->SortSt->Prop),kindOf st=κ->D x->D y->Q (some (less x y)) st->wpS (model prog w) A E s (lt' x y) Q st
section
variable {prog:Program} {w:World} {A:Around} {E:NT} {s:Shared} {κ:SortKind} {D:Keyed->Prop} {less:Keyed->Keyed->Bool}
noncomputable def aN (D:Keyed->Prop) (xs:Array Keyed):Prop:=∀x ∈ xs.toList,D x
theorem aN.at {xs:Array Keyed} (h:aN D xs) {i:Nat} (hi:i < xs.size):D xs[i]:=h _ (by simp)
theorem aC {arr:Array Keyed} {i:Nat} {st:SortSt} {Q:Keyed->SortSt->Prop} (h:i < arr.size) (q:Q arr[i] st):wpS (model prog w) A E s (elem' arr i) Q st:=by
 rw[elem'_eq,L6 arr i h];exact Jn q
theorem eJ (C:jU prog w A E s κ D less) {left:Bool} {key:Keyed} {arr:Array Keyed} {base i:Nat} {st:SortSt} {Q:Option Bool->SortSt->Prop} (hk:kindOf st=κ) (ha:aN D arr) (kd:D key) (h:base + i < arr.size) (q:∀b,Q (some b) st):wpS (model prog w) A E s (beyond left key arr base i) Q st:=by
 unfold beyond;refine Jh (aC h ?_);cases left with
 | true=>
  rw[Jc rfl];exact C.run st _ _ _ hk (ha.at h) kd (q _)
 | false=>
  rw[I_ (by decide)];refine Jh (C.run st _ _ _ hk kd (ha.at h) (Jn (q _)))
theorem cA (C:jU prog w A E s κ D less) {left:Bool} {key:Keyed} {arr:Array Keyed} {base n hint:Nat} {st:SortSt} {Q:Option Nat->SortSt->Prop} (hk:kindOf st=κ) (ha:aN D arr) (kd:D key) (hn:base + n<=arr.size) (hh:hint < n) (q:∀k,k<=n->Q (some k) st):
  wpS (model prog w) A E s (dw left key arr base n hint) Q st:=by
 rw[sY];dsimp only
 have last:∀ (l h:Nat),h<=n->wpS (model prog w) A E s (do
   let __s<-forIn [:n] ((none,l,h):Option (Option Nat) × Nat × Nat) fun x __s=>
    if __s.snd.fst ≥ __s.snd.snd then pure (ForInStep.done (none,__s.snd.fst,__s.snd.snd))
    else do
     let __x<-beyond left key arr base (__s.snd.fst + (__s.snd.snd - __s.snd.fst) / 2)
     match __x with
     | some more=>if more=true then pure (ForInStep.yield (none,__s.snd.fst + (__s.snd.snd - __s.snd.fst) / 2 + 1,__s.snd.snd))else pure (ForInStep.yield (none,__s.snd.fst,__s.snd.fst + (__s.snd.snd - __s.snd.fst) / 2))
     | x=>pure (ForInStep.done (some none,__s.snd.fst,__s.snd.snd))
   pick __s.fst (fun r=>pure r) (fun _=>pure (some __s.snd.snd))) Q st:=fun l h hl=>by
  refine Jh (J3 (J6 (I:=fun x c st'=>st'=st/\c.1=none/\c.2.2<=n) (Q:=fun c st'=>st'=st/\c.1=none/\c.2.2<=n) ?_ (fun _ _ hh=>hh) ⟨rfl,rfl,hl⟩) ?_)
  ·rintro x ⟨c1,c2,c3⟩ st' _ _ ⟨rfl,rfl,h3⟩
   dsimp only at h3 ⊢
   by_cases hc:c2 ≥ c3
   ·rw[Jc hc];exact Jn ⟨rfl,rfl,h3⟩
   ·rw[I_ hc];refine Jh (eJ C hk ha kd (by omega) fun b=>?_);dsimp only;cases b with
    | true=>rw[Jc rfl];exact Jn ⟨rfl,rfl,h3⟩
    | false=>rw[I_ (by decide)];exact Jn ⟨rfl,rfl,by dsimp only;omega⟩
  ·rintro⟨c1,c2,c3⟩ st' ⟨rfl,h2,h3⟩
   dsimp only at h2 h3;subst h2;exact Jn (q _ h3)
 refine Jh (eJ C hk ha kd (by omega) fun right=>?_);dsimp only;cases right with
 | true=>
  rw[Jc rfl];refine Jh (J3 (J6 (I:=fun x c st'=>st'=st/\c.1=none) (Q:=fun c st'=>st'=st/\c.1=none) ?_ (fun _ _ hh=>hh) ⟨rfl,rfl⟩) ?_)
  ·rintro x ⟨c1,c2,c3⟩ st' _ _ ⟨rfl,rfl⟩
   dsimp only
   by_cases hc:c3 ≥ n - hint
   ·rw[Jc hc];exact Jn ⟨rfl,rfl⟩
   ·rw[I_ hc];refine Jh (eJ C hk ha kd (by omega) fun b=>?_);dsimp only;cases b with
    | true=>exact Jn ⟨rfl,rfl⟩
    | false=>exact Jn ⟨rfl,rfl⟩
  ·rintro⟨c1,c2,c3⟩ st' ⟨rfl,h2⟩
   dsimp only at h2;subst h2;dsimp only;exact last (hint + c2 + 1) (hint + min c3 (n - hint)) (by omega)
 | false=>
  rw[I_ (by decide)];refine Jh (J3 (J6 (I:=fun x c st'=>st'=st/\c.1=none) (Q:=fun c st'=>st'=st/\c.1=none) ?_ (fun _ _ hh=>hh) ⟨rfl,rfl⟩) ?_)
  ·rintro x ⟨c1,c2,c3⟩ st' _ _ ⟨rfl,rfl⟩
   dsimp only
   by_cases hc:c3 ≥ hint + 1
   ·rw[Jc hc];exact Jn ⟨rfl,rfl⟩
   ·rw[I_ hc];refine Jh (eJ C hk ha kd (by omega) fun b=>?_);dsimp only;cases b with
    | true=>exact Jn ⟨rfl,rfl⟩
    | false=>exact Jn ⟨rfl,rfl⟩
  ·rintro⟨c1,c2,c3⟩ st' ⟨rfl,h2⟩
   dsimp only at h2;subst h2;dsimp only;exact last (hint + 1 - min c3 (hint + 1)) (hint - c2) (by omega)
end
noncomputable def kW:Array Keyed->Array Keyed->StateT SortSt Sem (Array Keyed):=sortPriv% PySem.Builtin.mergeLo
noncomputable def bX:Nat->StateT SortSt Sem Unit:=sortPriv% PySem.Builtin.setMinGallop
theorem jc (g:Nat):bX g=modify fun s=>SortSt.mk' (kindOf s) (arrOf s) (pendingOf s) g (failedOf s):=rfl
noncomputable abbrev G3:=Option (Array Keyed) × Array Keyed × Nat × Nat × Nat × Nat × Nat
noncomputable abbrev G2:=Option (Array Keyed) × Array Keyed × Nat × Nat × Nat × Nat
noncomputable abbrev G1:=Option (Array Keyed) × Array Keyed × Nat × Nat × Nat
section lo
variable (a b:Array Keyed)
noncomputable def fin (out:Array Keyed) (i j:Nat):Array Keyed:=out++a.extract i a.size++b.extract j b.size
noncomputable def gh (out:Array Keyed) (i j:Nat):Array Keyed:=out++b.extract j b.size++a.extract i a.size
noncomputable def GJ (out:Array Keyed) (i j mg ca cb:Nat):StateT SortSt Sem (ForInStep G3):=do
 let x<-elem' a i
 if(i + 1 + 1 == a.size)=true then pure (.done (some (gh a b (out.push x) (i + 1) j),out.push x,i + 1,j,mg,ca,cb))
 else if(decide (ca < 7) && decide (cb < 7))=true then pure (.done (none,out.push x,i + 1,j,mg,ca,cb))
 else pure (.yield (none,out.push x,i + 1,j,mg,ca,cb))
noncomputable def GK (out:Array Keyed) (i j mg ca cb:Nat):StateT SortSt Sem (ForInStep G3):=do
 let x<-elem' b j
 if(j + 1 == b.size)=true then pure (.done (some (fin a b (out.push x) i (j + 1)),out.push x,i,j + 1,mg,ca,cb))
 else do
  let y<-elem' a i
  let r<-dw true y b (j + 1) (b.size - (j + 1)) 0
  match r with
  | some k=>
   if k > 0 then
    if(j + 1 + k == b.size)=true then pure (.done (some (fin a b (out.push x++b.extract (j + 1) (j + 1 + k)) i (j + 1 + k)),out.push x++b.extract (j + 1) (j + 1 + k),i,j + 1 + k,mg,ca,k))
    else GJ a b (out.push x++b.extract (j + 1) (j + 1 + k)) i (j + 1 + k) mg ca k
   else GJ a b (out.push x) i (j + 1) mg ca k
  | _=>pure (.done (some (fin a b (out.push x) i (j + 1)),out.push x,i,j + 1,mg,ca,cb))
noncomputable def lo1 (out:Array Keyed) (i j mg ca cb:Nat):StateT SortSt Sem (ForInStep G3):=do
 bX mg
 let x<-elem' b j
 let r<-dw false x a i (a.size - i) 0
 match r with
 | some k=>
  if k > 0 then
   if(i + k + 1 == a.size)=true then pure (.done (some (gh a b (out++a.extract i (i + k)) (i + k) j),out++a.extract i (i + k),i + k,j,mg,k,cb))
   else if(i + k == a.size)=true then pure (.done (some (fin a b (out++a.extract i (i + k)) (i + k) j),out++a.extract i (i + k),i + k,j,mg,k,cb))
   else GK a b (out++a.extract i (i + k)) (i + k) j mg k cb
  else GK a b out i j mg k cb
 | _=>pure (.done (some (fin a b out i j),out,i,j,mg,ca,cb))
noncomputable def Hu (mg:Nat) (out:Array Keyed) (i j ca cb:Nat):StateT SortSt Sem (ForInStep G2):=do
 let x<-elem' b j
 let y<-elem' a i
 let r<-lt' x y
 match r with
 | some bw=>
  if bw=true then do
   let x<-elem' b j
   if(j + 1 == b.size)=true then pure (.done (some (fin a b (out.push x) i (j + 1)),out.push x,i,j + 1,0,cb + 1))
   else if cb + 1 ≥ mg then pure (.done (none,out.push x,i,j + 1,0,cb + 1))
   else pure (.yield (none,out.push x,i,j + 1,0,cb + 1))
  else do
   let x<-elem' a i
   if(i + 1 + 1 == a.size)=true then pure (.done (some (gh a b (out.push x) (i + 1) j),out.push x,i + 1,j,ca + 1,0))
   else if ca + 1 ≥ mg then pure (.done (none,out.push x,i + 1,j,ca + 1,0))
   else pure (.yield (none,out.push x,i + 1,j,ca + 1,0))
 | _=>pure (.done (some (fin a b out i j),out,i,j,ca,cb))
noncomputable def Ht (all:Nat) (c:G1):StateT SortSt Sem (ForInStep G1):=do
 let d<-forIn [0:all] ((none,c.2.1,c.2.2.1,c.2.2.2.1,0,0):G2) fun _ d=>Hu a b c.2.2.2.2 d.2.1 d.2.2.1 d.2.2.2.1 d.2.2.2.2.1 d.2.2.2.2.2
 pick d.1 (fun r=>pure (.done (some r,d.2.1,d.2.2.1,d.2.2.2.1,c.2.2.2.2))) fun _=>do
  liftM (rule "list.sort.gallop")
  let e<-forIn [0:all] ((none,d.2.1,d.2.2.1,d.2.2.2.1,c.2.2.2.2 + 1,d.2.2.2.2.1,d.2.2.2.2.2):G3) fun _ e=>if e.2.2.2.2.1 > 1 then lo1 a b e.2.1 e.2.2.1 e.2.2.2.1 (e.2.2.2.2.1 - 1) e.2.2.2.2.2.1 e.2.2.2.2.2.2 else lo1 a b e.2.1 e.2.2.1 e.2.2.2.1 e.2.2.2.2.1 e.2.2.2.2.2.1 e.2.2.2.2.2.2
  pick e.1 (fun r=>pure (.done (some r,e.2.1,e.2.2.1,e.2.2.2.1,e.2.2.2.2.1))) fun _=>do
   bX (e.2.2.2.2.1 + 1)
   pure (.yield (none,e.2.1,e.2.2.1,e.2.2.2.1,e.2.2.2.2.1 + 1))
theorem qz:kW a b=(do
 liftM (rule "list.sort.merge-lo")
 let x<-elem' b 0
 if(1 == b.size)=true then pure (fin a b #[x] 0 1)
 else if(0 + 1 == a.size)=true then pure (gh a b #[x] 0 1)
 else do
  let st<-get
  let c<-forIn [0:a.size + b.size] ((none,#[x],0,1,gallopOf st):G1) fun _ c=>Ht a b (a.size + b.size) c
  pick c.1 (fun r=>pure r) fun _=>liftM (unsupported "internal:list.sort.merge-bound" :Sem (Array Keyed))):=rfl
end lo
theorem cQ {α β:Type _} {x:α} {f:α->β} {g:Unit->β}:pick (some x) f g=f x:=rfl
theorem aP {α β:Type _} {f:α->β} {g:Unit->β}:pick none f g=g ():=rfl
structure bV (st st':SortSt):Prop where
 kind:kindOf st'=kindOf st
 arr:arrOf st'=arrOf st
 pend:pendingOf st'=pendingOf st
 fail:failedOf st'=failedOf st
theorem bV.refl {st:SortSt}:bV st st:=⟨rfl,rfl,rfl,rfl⟩
theorem bV.trans {a b c:SortSt} (h:bV a b) (k:bV b c):bV a c:=⟨k.kind.trans h.kind,k.arr.trans h.arr,k.pend.trans h.pend,k.fail.trans h.fail⟩
section perm
variable {a b:Array Keyed}
noncomputable def Tk (a b out:Array Keyed) (i j:Nat):Prop:=out.toList.Perm (a.toList.take i++b.toList.take j)
theorem take_one {α:Type} {l:List α} {i:Nat} {x:α} (h:l[i]?=some x):l.take (i + 1)=l.take i++[x]:=by
 rw[M5,h];rfl
theorem Tk.ql {out:Array Keyed} {i j:Nat} (h:Tk a b out i j) (hi:i < a.size):Tk a b (out.push a[i]) (i + 1) j:=by
 unfold Tk at h ⊢;rw[Kw,take_one (x:=a[i]) (by simp[hi]),JD];refine(h.append_right _).trans ?_;rw[JD];exact(Kp (l₁:=b.toList.take j)).append_left _
theorem Tk.qk {out:Array Keyed} {i j:Nat} (h:Tk a b out i j) (hj:j < b.size):Tk a b (out.push b[j]) i (j + 1):=by
 unfold Tk at h ⊢;rw[Kw,take_one (x:=b[j]) (by simp[hj]),<-JD];exact h.append_right _
theorem rh (a:Array Keyed) (i k:Nat):(a.extract i (i + k)).toList=(a.toList.drop i).take k:=by
 rw[KR,K_]
 congr 1
 omega
theorem m_ (a:Array Keyed) (i:Nat):(a.extract i a.size).toList=a.toList.drop i:=by
 rw[KR,K_];refine K4 ?_;simp
theorem take_add {α:Type} (l:List α) (i k:Nat):l.take (i + k)=l.take i++(l.drop i).take k:=List.take_add
theorem Tk.wA {out:Array Keyed} {i j k:Nat} (h:Tk a b out i j):Tk a b (out++a.extract i (i + k)) (i + k) j:=by
 unfold Tk at h ⊢;rw[JO,rh,take_add,JD];refine(h.append_right _).trans ?_;rw[JD];exact Kp.append_left _
theorem Tk.wz {out:Array Keyed} {i j k:Nat} (h:Tk a b out i j):Tk a b (out++b.extract j (j + k)) i (j + k):=by
 unfold Tk at h ⊢;rw[JO,rh,take_add,<-JD];exact h.append_right _
theorem CA {α:Type} (p q r t:List α):((p++q)++(r++t)).Perm ((p++r)++(q++t)):=by
 rw[JD,JD];refine List.Perm.append_left _ ?_;rw[<-JD,<-JD];exact Kp.append_right _
theorem Tk.fin {out:Array Keyed} {i j:Nat} (h:Tk a b out i j):(Tm.fin a b out i j).toList.Perm (a.toList++b.toList):=by
 unfold Tm.fin;rw[JO,JO,m_,m_,JD];refine(h.append_right _).trans ?_;refine(CA _ _ _ _).trans ?_;rw[Kh,Kh]
theorem Tk.gh {out:Array Keyed} {i j:Nat} (h:Tk a b out i j):(Tm.gh a b out i j).toList.Perm (a.toList++b.toList):=by
 refine List.Perm.trans ?_ h.fin;unfold Tm.gh Tm.fin;rw[JO,JO,JO,JO,JD,JD];exact Kp.append_left _
end perm
section
variable {prog:Program} {w:World} {A:Around} {E:NT} {s:Shared} {κ:SortKind} {D:Keyed->Prop} {less:Keyed->Keyed->Bool} {a b:Array Keyed} {st:SortSt}
theorem eG {g:Nat} {Q:Unit->SortSt->Prop} {st:SortSt} (h:∀st',bV st st'->Q () st'):wpS (model prog w) A E s (bX g) Q st:=by
 rw[jc];exact LV (h _ ⟨rfl,rfl,rfl,rfl⟩)
noncomputable def GW (a b:Array Keyed) (st:SortSt) (n0:Nat) (r:ForInStep G3) (st':SortSt):Prop:=bV st st'/\match r with
 | .done c=>(∃ m,c.1=some m/\m.toList.Perm (a.toList++b.toList))\/(c.1=none/\Tk a b c.2.1 c.2.2.1 c.2.2.2.1/\c.2.2.1 + 1 < a.size/\c.2.2.2.1 < b.size/\n0<=c.2.2.1 + c.2.2.2.1)
 | .yield c=>c.1=none/\Tk a b c.2.1 c.2.2.1 c.2.2.2.1/\c.2.2.1 + 1 < a.size/\c.2.2.2.1 < b.size/\n0<=c.2.2.1 + c.2.2.2.1
theorem tP {out:Array Keyed} {i j mg ca cb n0:Nat} {st':SortSt} (ss:bV st st') (t:Tk a b out i j) (hi:i + 1 < a.size) (hj:j < b.size) (hn:n0<=i + j):wpS (model prog w) A E s (GJ a b out i j mg ca cb) (GW a b st n0) st':=by
 unfold GJ;have hi':i < a.size:=by omega
 refine Jh (aC hi' ?_);have t':=t.ql hi'
 by_cases h:(i + 1 + 1 == a.size)=true
 ·rw[Jc h];exact Jn ⟨ss,.inl ⟨_,rfl,t'.gh⟩⟩
 ·rw[I_ h];have h':i + 1 + 1 ≠ a.size:=by simpa using h
  by_cases h2:(decide (ca < 7) && decide (cb < 7))=true
  ·rw[Jc h2];exact Jn ⟨ss,.inr ⟨rfl,t',by dsimp only;omega,hj,by dsimp only;omega⟩⟩
  ·rw[I_ h2];exact Jn ⟨ss,rfl,t',by dsimp only;omega,hj,by dsimp only;omega⟩
theorem tQ (C:jU prog w A E s κ D less) (hk:kindOf st=κ) (da:aN D a) (db:aN D b) {out:Array Keyed} {i j mg ca cb n0:Nat} {st':SortSt} (ss:bV st st') (t:Tk a b out i j) (hi:i + 1 < a.size) (hj:j < b.size) (hn:n0<=i + j):wpS (model prog w) A E s (GK a b out i j mg ca cb) (GW a b st n0) st':=by
 unfold GK;have hi':i < a.size:=by omega
 refine Jh (aC hj ?_);have t':=t.qk hj
 by_cases h:(j + 1 == b.size)=true
 ·rw[Jc h];exact Jn ⟨ss,.inl ⟨_,rfl,t'.fin⟩⟩
 ·rw[I_ h];have h':j + 1 ≠ b.size:=by simpa using h
  refine Jh (aC hi' (Jh (cA C (ss.kind.trans hk) db (da.at hi') (by omega) (by omega) fun k kl=>?_)));dsimp only
  by_cases hk0:k > 0
  ·rw[Jc hk0]
   by_cases h2:(j + 1 + k == b.size)=true
   ·rw[Jc h2];exact Jn ⟨ss,.inl ⟨_,rfl,t'.wz.fin⟩⟩
   ·rw[I_ h2];have h2':j + 1 + k ≠ b.size:=by simpa using h2
    exact tP ss t'.wz hi (by omega) (by omega)
  ·rw[I_ hk0];exact tP ss t' hi (by omega) (by omega)
theorem Ar (C:jU prog w A E s κ D less) (hk:kindOf st=κ) (da:aN D a) (db:aN D b) {out:Array Keyed} {i j mg ca cb n0:Nat} {st':SortSt} (ss:bV st st') (t:Tk a b out i j) (hi:i + 1 < a.size) (hj:j < b.size) (hn:n0<=i + j):wpS (model prog w) A E s (lo1 a b out i j mg ca cb) (GW a b st n0) st':=by
 unfold lo1;refine Jh (eG fun st2 s2=>?_);have ss:=ss.trans s2;refine Jh (aC hj (Jh (cA C (ss.kind.trans hk) da (db.at hj) (by omega) (by omega) fun k kl=>?_)));dsimp only
 by_cases hk0:k > 0
 ·rw[Jc hk0]
  by_cases h1:(i + k + 1 == a.size)=true
  ·rw[Jc h1];exact Jn ⟨ss,.inl ⟨_,rfl,t.wA.gh⟩⟩
  ·rw[I_ h1];have h1':i + k + 1 ≠ a.size:=by simpa using h1
   by_cases h2:(i + k == a.size)=true
   ·rw[Jc h2];exact Jn ⟨ss,.inl ⟨_,rfl,t.wA.fin⟩⟩
   ·rw[I_ h2];have h2':i + k ≠ a.size:=by simpa using h2
    exact tQ C hk da db ss t.wA (by omega) hj (by omega)
 ·rw[I_ hk0];exact tQ C hk da db ss t hi hj hn
noncomputable def IW (a b:Array Keyed) (st:SortSt) (n0:Nat) (r:ForInStep G2) (st':SortSt):Prop:=bV st st'/\match r with
 | .done c=>(∃ m,c.1=some m/\m.toList.Perm (a.toList++b.toList))\/(c.1=none/\Tk a b c.2.1 c.2.2.1 c.2.2.2.1/\c.2.2.1 + 1 < a.size/\c.2.2.2.1 < b.size/\n0<=c.2.2.1 + c.2.2.2.1)
 | .yield c=>c.1=none/\Tk a b c.2.1 c.2.2.1 c.2.2.2.1/\c.2.2.1 + 1 < a.size/\c.2.2.2.1 < b.size/\n0<=c.2.2.1 + c.2.2.2.1
theorem As (C:jU prog w A E s κ D less) (hk:kindOf st=κ) (da:aN D a) (db:aN D b) {out:Array Keyed} {i j mg ca cb n0:Nat} {st':SortSt} (ss:bV st st') (t:Tk a b out i j) (hi:i + 1 < a.size) (hj:j < b.size) (hn:n0<=i + j):wpS (model prog w) A E s (Hu a b mg out i j ca cb) (IW a b st (n0 + 1)) st':=by
 unfold Hu;have hi':i < a.size:=by omega
 refine Jh (aC hj (Jh (aC hi' (Jh (C.run st' _ _ _ (ss.kind.trans hk) (db.at hj) (da.at hi') ?_)))));dsimp only;cases less b[j] a[i]with
 | true=>
  rw[Jc rfl];refine Jh (aC hj ?_);have t':=t.qk hj
  by_cases h:(j + 1 == b.size)=true
  ·rw[Jc h];exact Jn ⟨ss,.inl ⟨_,rfl,t'.fin⟩⟩
  ·rw[I_ h];have h':j + 1 ≠ b.size:=by simpa using h
   by_cases h2:cb + 1 ≥ mg
   ·rw[Jc h2];exact Jn ⟨ss,.inr ⟨rfl,t',hi,by dsimp only;omega,by dsimp only;omega⟩⟩
   ·rw[I_ h2];exact Jn ⟨ss,rfl,t',hi,by dsimp only;omega,by dsimp only;omega⟩
 | false=>
  rw[I_ (by decide)];refine Jh (aC hi' ?_);have t':=t.ql hi'
  by_cases h:(i + 1 + 1 == a.size)=true
  ·rw[Jc h];exact Jn ⟨ss,.inl ⟨_,rfl,t'.gh⟩⟩
  ·rw[I_ h];have h':i + 1 + 1 ≠ a.size:=by simpa using h
   by_cases h2:ca + 1 ≥ mg
   ·rw[Jc h2];exact Jn ⟨ss,.inr ⟨rfl,t',by dsimp only;omega,hj,by dsimp only;omega⟩⟩
   ·rw[I_ h2];exact Jn ⟨ss,rfl,t',by dsimp only;omega,hj,by dsimp only;omega⟩
theorem Aq (C:jU prog w A E s κ D less) (hk:kindOf st=κ) (da:aN D a) (db:aN D b) {all n0:Nat} {c:G1} {st':SortSt} (h0:0 < all) (ss:bV st st') (t:Tk a b c.2.1 c.2.2.1 c.2.2.2.1) (hi:c.2.2.1 + 1 < a.size) (hj:c.2.2.2.1 < b.size) (hn:n0<=c.2.2.1 + c.2.2.2.1):
  wpS (model prog w) A E s (Ht a b all c) (fun r st'=>bV st st'/\match r with
   | .done c=>∃m,c.1=some m/\m.toList.Perm (a.toList++b.toList)
   | .yield c=>c.1=none/\Tk a b c.2.1 c.2.2.1 c.2.2.2.1/\c.2.2.1 + 1 < a.size/\c.2.2.2.1 < b.size/\n0 + 1<=c.2.2.1 + c.2.2.2.1) st':=by
 unfold Ht
 refine Jh (J3 (J6
  (I:=fun x c st'=>bV st st'/\c.1=none/\Tk a b c.2.1 c.2.2.1 c.2.2.2.1/\c.2.2.1 + 1 < a.size/\c.2.2.2.1 < b.size/\n0 + min x 1<=c.2.2.1 + c.2.2.2.1)
  (Q:=fun c st'=>bV st st'/\((∃ m,c.1=some m/\m.toList.Perm (a.toList++b.toList))\/(c.1=none/\Tk a b c.2.1 c.2.2.1 c.2.2.2.1/\c.2.2.1 + 1 < a.size/\c.2.2.2.1 < b.size/\n0 + 1<=c.2.2.1 + c.2.2.2.1))) ?_ ?_ ⟨ss,rfl,t,hi,hj,by dsimp only;omega⟩) ?_)
 ·rintro x d st2 _ _ ⟨h1,h2,h3,h4,h5,h6⟩
  refine J3 (As (n0:=n0) C hk da db h1 h3 h4 h5 (by omega)) fun r st3 hr=>?_;obtain⟨k1,k2⟩:=hr;cases r with
  | done d=>exact⟨k1,k2⟩
  | yield d=>exact⟨k1,k2.1,k2.2.1,k2.2.2.1,k2.2.2.2.1,by have:=k2.2.2.2.2;omega⟩
 ·rintro d st2 ⟨h1,h2,h3,h4,h5,h6⟩
  exact⟨h1,.inr ⟨h2,h3,h4,h5,by omega⟩⟩
 ·rintro d st2 ⟨h1,⟨m,e,hm⟩ | ⟨e,h3,h4,h5,h6⟩⟩
  ·rw[e,cQ];exact Jn ⟨h1,m,rfl,hm⟩
  ·rw[e,aP];refine Jh (L8 (Kn ⟨rfl,?_⟩))
   refine Jh (J3 (J6
    (I:=fun x c st'=>bV st st'/\c.1=none/\Tk a b c.2.1 c.2.2.1 c.2.2.2.1/\c.2.2.1 + 1 < a.size/\c.2.2.2.1 < b.size/\n0 + 1<=c.2.2.1 + c.2.2.2.1)
    (Q:=fun c st'=>bV st st'/\((∃ m,c.1=some m/\m.toList.Perm (a.toList++b.toList))\/(c.1=none/\Tk a b c.2.1 c.2.2.1 c.2.2.2.1/\c.2.2.1 + 1 < a.size/\c.2.2.2.1 < b.size/\n0 + 1<=c.2.2.1 + c.2.2.2.1))) ?_ ?_ ⟨h1,rfl,h3,h4,h5,h6⟩) ?_)
   ·rintro x e st3 _ _ ⟨g1,g2,g3,g4,g5,g6⟩
    have go:∀mg,wpS (model prog w) A E s (lo1 a b e.2.1 e.2.2.1 e.2.2.2.1 mg e.2.2.2.2.2.1 e.2.2.2.2.2.2) (GW a b st (n0 + 1)) st3:=fun mg=>Ar (n0:=n0 + 1) C hk da db g1 g3 g4 g5 g6;split
    ·refine J3 (go _) fun r st4 hr=>?_;obtain⟨k1,k2⟩:=hr;cases r with
     | done d=>exact⟨k1,k2⟩
     | yield d=>exact⟨k1,k2⟩
    ·refine J3 (go _) fun r st4 hr=>?_;obtain⟨k1,k2⟩:=hr;cases r with
     | done d=>exact⟨k1,k2⟩
     | yield d=>exact⟨k1,k2⟩
   ·rintro e st3 ⟨g1,g2,g3,g4,g5,g6⟩
    exact⟨g1,.inr ⟨g2,g3,g4,g5,g6⟩⟩
   ·rintro e st3 ⟨g1,⟨m,e1,hm⟩ | ⟨e1,g3,g4,g5,g6⟩⟩
    ·rw[e1,cQ];exact Jn ⟨g1,m,rfl,hm⟩
    ·rw[e1,aP];exact Jh (eG fun st4 s4=>Jn ⟨g1.trans s4,rfl,g3,g4,g5,g6⟩)
theorem pQ (C:jU prog w A E s κ D less) (hk:kindOf st=κ) (da:aN D a) (db:aN D b) (ha:1<=a.size) (hb:1<=b.size) {Q:Array Keyed->SortSt->Prop} (q:∀m st',bV st st'->m.toList.Perm (a.toList++b.toList)->Q m st'):
  wpS (model prog w) A E s (kW a b) Q st:=by
 rw[qz];refine Jh (L8 (Kn ⟨rfl,?_⟩));have hb':0 < b.size:=by omega
 refine Jh (aC hb' ?_)
 have t:Tk a b #[b[0]] 0 1:=by
  unfold Tk;have:=take_one (l:=b.toList) (i:=0) (x:=b[0]) (by simp[hb']);rw[this];simp
 by_cases h1:(1 == b.size)=true
 ·rw[Jc h1];exact Jn (q _ _ .refl t.fin)
 ·rw[I_ h1];have h1':1 ≠ b.size:=by simpa using h1
  by_cases h2:(0 + 1 == a.size)=true
  ·rw[Jc h2];exact Jn (q _ _ .refl t.gh)
  ·rw[I_ h2];have h2':0 + 1 ≠ a.size:=by simpa using h2
   refine Jh (Lw (Jh (J3 (J6
    (I:=fun x c st'=>bV st st'/\c.1=none/\Tk a b c.2.1 c.2.2.1 c.2.2.2.1/\c.2.2.1 + 1 < a.size/\c.2.2.2.1 < b.size/\x + 1<=c.2.2.1 + c.2.2.2.1)
    (Q:=fun c st'=>bV st st'/\∃m,c.1=some m/\m.toList.Perm (a.toList++b.toList)) ?_ ?_ ⟨.refl,rfl,t,by dsimp only;omega,by dsimp only;omega,by dsimp only;omega⟩) ?_)))
   ·rintro x c st2 _ _ ⟨g1,g2,g3,g4,g5,g6⟩
    refine J3 (Aq (n0:=x + 1) C hk da db (by omega) g1 g3 g4 g5 g6) fun r st3 hr=>?_;obtain⟨k1,k2⟩:=hr;cases r with
    | done d=>exact⟨k1,k2⟩
    | yield d=>exact⟨k1,k2⟩
   ·rintro c st2 ⟨g1,g2,g3,g4,g5,g6⟩
    omega
   ·rintro c st2 ⟨g1,m,e,hm⟩
    rw[e,cQ];exact Jn (q m _ g1 hm)
end
noncomputable def kX:Array Keyed->Array Keyed->StateT SortSt Sem (Array Keyed):=sortPriv% PySem.Builtin.mergeHi
noncomputable abbrev H3:=Option (Array Keyed) × Nat × Nat × Array Keyed × Nat × Nat × Nat
noncomputable abbrev H2:=Option (Array Keyed) × Nat × Nat × Array Keyed × Nat × Nat
noncomputable abbrev H1:=Option (Array Keyed) × Nat × Nat × Array Keyed × Nat
section hi
variable (a b:Array Keyed)
noncomputable def jP (i j:Nat) (out:Array Keyed):Array Keyed:=a.extract 0 i++b.extract 0 j++out.reverse
noncomputable def wo (i j:Nat) (out:Array Keyed):Array Keyed:=b.extract 0 j++a.extract 0 i++out.reverse
noncomputable def GN (i j:Nat) (out:Array Keyed) (mg ca cb:Nat):StateT SortSt Sem (ForInStep H3):=do
 let x<-elem' a (i - 1)
 if(i - 1 == 0)=true then pure (.done (some (jP a b (i - 1) j (out.push x)),i - 1,j,out.push x,mg,ca,cb))
 else if(decide (ca < 7) && decide (cb < 7))=true then pure (.done (none,i - 1,j,out.push x,mg,ca,cb))
 else pure (.yield (none,i - 1,j,out.push x,mg,ca,cb))
noncomputable def ES (i j:Nat) (out:Array Keyed) (mg ca cb:Nat):StateT SortSt Sem (ForInStep H3):=do
 let x<-elem' b (j - 1)
 if(j - 1 == 1)=true then pure (.done (some (wo a b i (j - 1) (out.push x)),i,j - 1,out.push x,mg,ca,cb))
 else do
  let y<-elem' a (i - 1)
  let r<-dw true y b 0 (j - 1) (j - 1 - 1)
  match r with
  | some k=>
   if j - 1 - k > 0 then
    if(k == 1)=true then pure (.done (some (wo a b i k (out.push x++(b.extract k (j - 1)).reverse)),i,k,out.push x++(b.extract k (j - 1)).reverse,mg,ca,j - 1 - k))
    else if(k == 0)=true then pure (.done (some (jP a b i k (out.push x++(b.extract k (j - 1)).reverse)),i,k,out.push x++(b.extract k (j - 1)).reverse,mg,ca,j - 1 - k))
    else GN a b i k (out.push x++(b.extract k (j - 1)).reverse) mg ca (j - 1 - k)
   else GN a b i (j - 1) (out.push x) mg ca (j - 1 - k)
  | _=>pure (.done (some (jP a b i (j - 1) (out.push x)),i,j - 1,out.push x,mg,ca,cb))
noncomputable def zy (i j:Nat) (out:Array Keyed) (mg ca cb:Nat):StateT SortSt Sem (ForInStep H3):=do
 bX mg
 let x<-elem' b (j - 1)
 let r<-dw false x a 0 i (i - 1)
 match r with
 | some k=>
  if i - k > 0 then
   if(k == 0)=true then pure (.done (some (jP a b k j (out++(a.extract k i).reverse)),k,j,out++(a.extract k i).reverse,mg,i - k,cb))
   else ES a b k j (out++(a.extract k i).reverse) mg (i - k) cb
  else ES a b i j out mg (i - k) cb
 | _=>pure (.done (some (jP a b i j out),i,j,out,mg,ca,cb))
noncomputable def FP (mg:Nat) (i j:Nat) (out:Array Keyed) (ca cb:Nat):StateT SortSt Sem (ForInStep H2):=do
 let x<-elem' b (j - 1)
 let y<-elem' a (i - 1)
 let r<-lt' x y
 match r with
 | some aw=>
  if aw=true then do
   let x<-elem' a (i - 1)
   if(i - 1 == 0)=true then pure (.done (some (jP a b (i - 1) j (out.push x)),i - 1,j,out.push x,ca + 1,0))
   else if ca + 1 ≥ mg then pure (.done (none,i - 1,j,out.push x,ca + 1,0))
   else pure (.yield (none,i - 1,j,out.push x,ca + 1,0))
  else do
   let x<-elem' b (j - 1)
   if(j - 1 == 1)=true then pure (.done (some (wo a b i (j - 1) (out.push x)),i,j - 1,out.push x,0,cb + 1))
   else if cb + 1 ≥ mg then pure (.done (none,i,j - 1,out.push x,0,cb + 1))
   else pure (.yield (none,i,j - 1,out.push x,0,cb + 1))
 | _=>pure (.done (some (jP a b i j out),i,j,out,ca,cb))
noncomputable def HB (all:Nat) (c:H1):StateT SortSt Sem (ForInStep H1):=do
 let d<-forIn [0:all] ((none,c.2.1,c.2.2.1,c.2.2.2.1,0,0):H2) fun _ d=>FP a b c.2.2.2.2 d.2.1 d.2.2.1 d.2.2.2.1 d.2.2.2.2.1 d.2.2.2.2.2
 pick d.1 (fun r=>pure (.done (some r,d.2.1,d.2.2.1,d.2.2.2.1,c.2.2.2.2))) fun _=>do
  liftM (rule "list.sort.gallop")
  let e<-forIn [0:all] ((none,d.2.1,d.2.2.1,d.2.2.2.1,c.2.2.2.2 + 1,d.2.2.2.2.1,d.2.2.2.2.2):H3) fun _ e=>if e.2.2.2.2.1 > 1 then zy a b e.2.1 e.2.2.1 e.2.2.2.1 (e.2.2.2.2.1 - 1) e.2.2.2.2.2.1 e.2.2.2.2.2.2 else zy a b e.2.1 e.2.2.1 e.2.2.2.1 e.2.2.2.2.1 e.2.2.2.2.2.1 e.2.2.2.2.2.2
  pick e.1 (fun r=>pure (.done (some r,e.2.1,e.2.2.1,e.2.2.2.1,e.2.2.2.2.1))) fun _=>do
   bX (e.2.2.2.2.1 + 1)
   pure (.yield (none,e.2.1,e.2.2.1,e.2.2.2.1,e.2.2.2.2.1 + 1))
theorem qA:kX a b=(do
 liftM (rule "list.sort.merge-hi")
 let x<-elem' a (a.size - 1)
 if(a.size - 1 == 0)=true then pure (jP a b (a.size - 1) b.size #[x])
 else if(b.size == 1)=true then pure (wo a b (a.size - 1) b.size #[x])
 else do
  let st<-get
  let c<-forIn [0:a.size + b.size] ((none,a.size - 1,b.size,#[x],gallopOf st):H1) fun _ c=>HB a b (a.size + b.size) c
  pick c.1 (fun r=>pure r) fun _=>liftM (unsupported "internal:list.sort.merge-bound" :Sem (Array Keyed))):=rfl
end hi
section perm
variable {a b:Array Keyed}
noncomputable def Th (a b:Array Keyed) (i j:Nat) (out:Array Keyed):Prop:=out.toList.Perm (a.toList.drop i++b.toList.drop j)
theorem drop_one {α:Type} {l:List α} {i:Nat} {x:α} (h:l[i]?=some x):l.drop i=x::l.drop (i + 1):=by
 obtain⟨h1,h2⟩:=Ju.mp h;rw[La h1,h2]
theorem Th.ql {out:Array Keyed} {i j:Nat} (h:Th a b i j out) (h0:0 < i) (hi:i - 1 < a.size):Th a b (i - 1) j (out.push a[i - 1]):=by
 unfold Th at h ⊢;rw[Kw,drop_one (l:=a.toList) (i:=i - 1) (x:=a[i - 1]) (by simp[hi])];have e:i - 1 + 1=i:=by omega
 rw[e];exact(Kp (l₁:=out.toList) (l₂:=[a[i - 1]])).trans (h.cons _)
theorem Th.qk {out:Array Keyed} {i j:Nat} (h:Th a b i j out) (h0:0 < j) (hj:j - 1 < b.size):Th a b i (j - 1) (out.push b[j - 1]):=by
 unfold Th at h ⊢;rw[Kw,drop_one (l:=b.toList) (i:=j - 1) (x:=b[j - 1]) (by simp[hj])];have e:j - 1 + 1=j:=by omega
 rw[e];exact(Kp (l₁:=out.toList) (l₂:=[b[j - 1]])).trans ((h.cons _).trans LN.symm)
theorem ir (a:Array Keyed) {k i:Nat} (h:k<=i):(a.extract k i).toList++a.toList.drop i=a.toList.drop k:=by
 rw[KR,K_];have e:a.toList.drop i=(a.toList.drop k).drop (i - k):=by rw[List.drop_drop];congr 1;omega
 rw[e,Kh]
theorem Th.wA {out:Array Keyed} {i j k:Nat} (h:Th a b i j out) (hk:k<=i):Th a b k j (out++(a.extract k i).reverse):=by
 unfold Th at h ⊢;rw[JO,MO,<-ir a hk,JD];exact((h.append (Nl _)).trans Kp)
theorem Th.wz {out:Array Keyed} {i j k:Nat} (h:Th a b i j out) (hk:k<=j):Th a b i k (out++(b.extract k j).reverse):=by
 unfold Th at h ⊢;rw[JO,MO,<-ir b hk];refine(h.append (Nl _)).trans ?_;rw[JD];exact Kp.append_left _
theorem lE (a:Array Keyed) (i:Nat):(a.extract 0 i).toList=a.toList.take i:=by
 rw[KR,K_];simp
theorem Th.fin {out:Array Keyed} {i j:Nat} (h:Th a b i j out):(jP a b i j out).toList.Perm (a.toList++b.toList):=by
 unfold jP;rw[JO,JO,MO,lE,lE];refine(((Nl _).trans h).append_left _).trans ?_;refine(CA _ _ _ _).trans ?_;rw[Kh,Kh]
theorem Th.gh {out:Array Keyed} {i j:Nat} (h:Th a b i j out):(wo a b i j out).toList.Perm (a.toList++b.toList):=by
 refine List.Perm.trans ?_ h.fin;unfold wo jP;rw[JO,JO,JO,JO];exact Kp.append_right _
end perm
section
variable {prog:Program} {w:World} {A:Around} {E:NT} {s:Shared} {κ:SortKind} {D:Keyed->Prop} {less:Keyed->Keyed->Bool} {a b:Array Keyed} {st:SortSt}
structure lW (a b:Array Keyed) (n0 i j:Nat) (out:Array Keyed):Prop where
 t:Th a b i j out
 i0:0 < i
 i1:i<=a.size
 j0:1 < j
 j1:j<=b.size
 n:n0 + i + j<=a.size + b.size
noncomputable def GV (a b:Array Keyed) (st:SortSt) (n0:Nat) (r:ForInStep H3) (st':SortSt):Prop:=bV st st'/\match r with
 | .done c=>(∃ m,c.1=some m/\m.toList.Perm (a.toList++b.toList))\/(c.1=none/\lW a b n0 c.2.1 c.2.2.1 c.2.2.2.1)
 | .yield c=>c.1=none/\lW a b n0 c.2.1 c.2.2.1 c.2.2.2.1
theorem tR {out:Array Keyed} {i j mg ca cb n0:Nat} {st':SortSt} (ss:bV st st') (t:lW a b n0 i j out):wpS (model prog w) A E s (GN a b i j out mg ca cb) (GV a b st n0) st':=by
 unfold GN;obtain⟨t,i0,i1,j0,j1,n⟩:=t;have hi':i - 1 < a.size:=by omega
 refine Jh (aC hi' ?_);have t':=t.ql i0 hi'
 by_cases h:(i - 1 == 0)=true
 ·rw[Jc h];exact Jn ⟨ss,.inl ⟨_,rfl,t'.fin⟩⟩
 ·rw[I_ h];have h':i - 1 ≠ 0:=by simpa using h
  have I:lW a b n0 (i - 1) j (out.push a[i - 1]):=⟨t',by omega,by omega,j0,j1,by omega⟩
  by_cases h2:(decide (ca < 7) && decide (cb < 7))=true
  ·rw[Jc h2];exact Jn ⟨ss,.inr ⟨rfl,I⟩⟩
  ·rw[I_ h2];exact Jn ⟨ss,rfl,I⟩
theorem tS (C:jU prog w A E s κ D less) (hk:kindOf st=κ) (da:aN D a) (db:aN D b) {out:Array Keyed} {i j mg ca cb n0:Nat} {st':SortSt} (ss:bV st st') (t:lW a b n0 i j out):wpS (model prog w) A E s (ES a b i j out mg ca cb) (GV a b st n0) st':=by
 unfold ES;obtain⟨t,i0,i1,j0,j1,n⟩:=t;have hi':i - 1 < a.size:=by omega
 have hj':j - 1 < b.size:=by omega
 refine Jh (aC hj' ?_);have t':=t.qk (by omega) hj'
 by_cases h:(j - 1 == 1)=true
 ·rw[Jc h];exact Jn ⟨ss,.inl ⟨_,rfl,t'.gh⟩⟩
 ·rw[I_ h];have h':j - 1 ≠ 1:=by simpa using h
  refine Jh (aC hi' (Jh (cA C (ss.kind.trans hk) db (da.at hi') (by omega) (by omega) fun k kl=>?_)));dsimp only
  by_cases hk0:j - 1 - k > 0
  ·rw[Jc hk0]
   by_cases h2:(k == 1)=true
   ·rw[Jc h2];exact Jn ⟨ss,.inl ⟨_,rfl,(t'.wz kl).gh⟩⟩
   ·rw[I_ h2]
    by_cases h3:(k == 0)=true
    ·rw[Jc h3];exact Jn ⟨ss,.inl ⟨_,rfl,(t'.wz kl).fin⟩⟩
    ·rw[I_ h3];have h2':k ≠ 1:=by simpa using h2
     have h3':k ≠ 0:=by simpa using h3
     exact tR ss ⟨t'.wz kl,i0,i1,by omega,by omega,by omega⟩
  ·rw[I_ hk0];exact tR ss ⟨t',i0,i1,by omega,by omega,by omega⟩
theorem Av (C:jU prog w A E s κ D less) (hk:kindOf st=κ) (da:aN D a) (db:aN D b) {out:Array Keyed} {i j mg ca cb n0:Nat} {st':SortSt} (ss:bV st st') (t:lW a b n0 i j out):wpS (model prog w) A E s (zy a b i j out mg ca cb) (GV a b st n0) st':=by
 unfold zy;refine Jh (eG fun st2 s2=>?_);have ss:=ss.trans s2;have tt:=t;obtain⟨t,i0,i1,j0,j1,n⟩:=t;have hj':j - 1 < b.size:=by omega
 refine Jh (aC hj' (Jh (cA C (ss.kind.trans hk) da (db.at hj') (by omega) (by omega) fun k kl=>?_)));dsimp only
 by_cases hk0:i - k > 0
 ·rw[Jc hk0]
  by_cases h1:(k == 0)=true
  ·rw[Jc h1];exact Jn ⟨ss,.inl ⟨_,rfl,(t.wA kl).fin⟩⟩
  ·rw[I_ h1];have h1':k ≠ 0:=by simpa using h1
   exact tS C hk da db ss ⟨t.wA kl,by omega,by omega,j0,j1,by omega⟩
 ·rw[I_ hk0];exact tS C hk da db ss tt
noncomputable def IV (a b:Array Keyed) (st:SortSt) (n0:Nat) (r:ForInStep H2) (st':SortSt):Prop:=bV st st'/\match r with
 | .done c=>(∃ m,c.1=some m/\m.toList.Perm (a.toList++b.toList))\/(c.1=none/\lW a b n0 c.2.1 c.2.2.1 c.2.2.2.1)
 | .yield c=>c.1=none/\lW a b n0 c.2.1 c.2.2.1 c.2.2.2.1
theorem Aw (C:jU prog w A E s κ D less) (hk:kindOf st=κ) (da:aN D a) (db:aN D b) {out:Array Keyed} {i j mg ca cb n0:Nat} {st':SortSt} (ss:bV st st') (t:lW a b n0 i j out):wpS (model prog w) A E s (FP a b mg i j out ca cb) (IV a b st (n0 + 1)) st':=by
 unfold FP;obtain⟨t,i0,i1,j0,j1,n⟩:=t;have hi':i - 1 < a.size:=by omega
 have hj':j - 1 < b.size:=by omega
 refine Jh (aC hj' (Jh (aC hi' (Jh (C.run st' _ _ _ (ss.kind.trans hk) (db.at hj') (da.at hi') ?_)))));dsimp only;cases less b[j - 1] a[i - 1]with
 | true=>
  rw[Jc rfl];refine Jh (aC hi' ?_);have t':=t.ql i0 hi'
  by_cases h:(i - 1 == 0)=true
  ·rw[Jc h];exact Jn ⟨ss,.inl ⟨_,rfl,t'.fin⟩⟩
  ·rw[I_ h];have h':i - 1 ≠ 0:=by simpa using h
   have I:lW a b (n0 + 1) (i - 1) j (out.push a[i - 1]):=⟨t',by omega,by omega,j0,j1,by omega⟩
   by_cases h2:ca + 1 ≥ mg
   ·rw[Jc h2];exact Jn ⟨ss,.inr ⟨rfl,I⟩⟩
   ·rw[I_ h2];exact Jn ⟨ss,rfl,I⟩
 | false=>
  rw[I_ (by decide)];refine Jh (aC hj' ?_);have t':=t.qk (by omega) hj'
  by_cases h:(j - 1 == 1)=true
  ·rw[Jc h];exact Jn ⟨ss,.inl ⟨_,rfl,t'.gh⟩⟩
  ·rw[I_ h];have h':j - 1 ≠ 1:=by simpa using h
   have I:lW a b (n0 + 1) i (j - 1) (out.push b[j - 1]):=⟨t',i0,i1,by omega,by omega,by omega⟩
   by_cases h2:cb + 1 ≥ mg
   ·rw[Jc h2];exact Jn ⟨ss,.inr ⟨rfl,I⟩⟩
   ·rw[I_ h2];exact Jn ⟨ss,rfl,I⟩
theorem lW.le {n0 n1 i j:Nat} {out:Array Keyed} (t:lW a b n1 i j out) (h:n0<=n1):lW a b n0 i j out:=⟨t.t,t.i0,t.i1,t.j0,t.j1,by have:=t.n;omega⟩
theorem Au (C:jU prog w A E s κ D less) (hk:kindOf st=κ) (da:aN D a) (db:aN D b) {all n0:Nat} {c:H1} {st':SortSt} (h0:0 < all) (ss:bV st st') (t:lW a b n0 c.2.1 c.2.2.1 c.2.2.2.1):
  wpS (model prog w) A E s (HB a b all c) (fun r st'=>bV st st'/\match r with
   | .done c=>∃m,c.1=some m/\m.toList.Perm (a.toList++b.toList)
   | .yield c=>c.1=none/\lW a b (n0 + 1) c.2.1 c.2.2.1 c.2.2.2.1) st':=by
 unfold HB
 refine Jh (J3 (J6
  (I:=fun x (c:H2) st'=>bV st st'/\c.1=none/\lW a b (n0 + min x 1) c.2.1 c.2.2.1 c.2.2.2.1)
  (Q:=fun c st'=>bV st st'/\((∃ m,c.1=some m/\m.toList.Perm (a.toList++b.toList))\/(c.1=none/\lW a b (n0 + 1) c.2.1 c.2.2.1 c.2.2.2.1))) ?_ ?_ ⟨ss,rfl,t.le (Mn (by omega))⟩) ?_)
 ·rintro x d st2 _ _ ⟨h1,h2,h3⟩
  refine J3 (Aw (n0:=n0) C hk da db h1 (h3.le (by omega))) fun r st3 hr=>?_;obtain⟨k1,k2⟩:=hr;cases r with
  | done d=>exact⟨k1,k2⟩
  | yield d=>exact⟨k1,k2.1,k2.2.le (by omega)⟩
 ·rintro d st2 ⟨h1,h2,h3⟩
  exact⟨h1,.inr ⟨h2,h3.le (by omega)⟩⟩
 ·rintro d st2 ⟨h1,⟨m,e,hm⟩ | ⟨e,h3⟩⟩
  ·rw[e,cQ];exact Jn ⟨h1,m,rfl,hm⟩
  ·rw[e,aP];refine Jh (L8 (Kn ⟨rfl,?_⟩))
   refine Jh (J3 (J6
    (I:=fun x c st'=>bV st st'/\c.1=none/\lW a b (n0 + 1) c.2.1 c.2.2.1 c.2.2.2.1)
    (Q:=fun c st'=>bV st st'/\((∃ m,c.1=some m/\m.toList.Perm (a.toList++b.toList))\/(c.1=none/\lW a b (n0 + 1) c.2.1 c.2.2.1 c.2.2.2.1))) ?_ ?_ ⟨h1,rfl,h3⟩) ?_)
   ·rintro x e st3 _ _ ⟨g1,g2,g3⟩
    have go:∀mg,wpS (model prog w) A E s (zy a b e.2.1 e.2.2.1 e.2.2.2.1 mg e.2.2.2.2.2.1 e.2.2.2.2.2.2) (GV a b st (n0 + 1)) st3:=fun mg=>Av (n0:=n0 + 1) C hk da db g1 g3;split
    ·refine J3 (go _) fun r st4 hr=>?_;obtain⟨k1,k2⟩:=hr;cases r with
     | done d=>exact⟨k1,k2⟩
     | yield d=>exact⟨k1,k2⟩
    ·refine J3 (go _) fun r st4 hr=>?_;obtain⟨k1,k2⟩:=hr;cases r with
     | done d=>exact⟨k1,k2⟩
     | yield d=>exact⟨k1,k2⟩
   ·rintro e st3 ⟨g1,g2,g3⟩
    exact⟨g1,.inr ⟨g2,g3⟩⟩
   ·rintro e st3 ⟨g1,⟨m,e1,hm⟩ | ⟨e1,g3⟩⟩
    ·rw[e1,cQ];exact Jn ⟨g1,m,rfl,hm⟩
    ·rw[e1,aP];exact Jh (eG fun st4 s4=>Jn ⟨g1.trans s4,rfl,g3⟩)
theorem pR (C:jU prog w A E s κ D less) (hk:kindOf st=κ) (da:aN D a) (db:aN D b) (ha:1<=a.size) (hb:1<=b.size) {Q:Array Keyed->SortSt->Prop} (q:∀m st',bV st st'->m.toList.Perm (a.toList++b.toList)->Q m st'):
  wpS (model prog w) A E s (kX a b) Q st:=by
 rw[qA];refine Jh (L8 (Kn ⟨rfl,?_⟩));have ha':a.size - 1 < a.size:=by omega
 refine Jh (aC ha' ?_)
 have t:Th a b (a.size - 1) b.size #[a[a.size - 1]]:=by
  unfold Th;have:=drop_one (l:=a.toList) (i:=a.size - 1) (x:=a[a.size - 1]) (by simp[ha']);rw[this];have e:a.size - 1 + 1=a.size:=by omega
  rw[e];simp
 by_cases h1:(a.size - 1 == 0)=true
 ·rw[Jc h1];exact Jn (q _ _ .refl t.fin)
 ·rw[I_ h1];have h1':a.size - 1 ≠ 0:=by simpa using h1
  by_cases h2:(b.size == 1)=true
  ·rw[Jc h2];exact Jn (q _ _ .refl t.gh)
  ·rw[I_ h2];have h2':b.size ≠ 1:=by simpa using h2
   have I0:lW a b (0 + 1) (a.size - 1) b.size #[a[a.size - 1]]:=⟨t,by omega,by omega,by omega,Jv _,by omega⟩
   refine Jh (Lw (Jh (J3 (J6
    (I:=fun x c st'=>bV st st'/\c.1=none/\lW a b (x + 1) c.2.1 c.2.2.1 c.2.2.2.1)
    (Q:=fun c st'=>bV st st'/\∃m,c.1=some m/\m.toList.Perm (a.toList++b.toList)) ?_ ?_ ⟨.refl,rfl,I0⟩) ?_)))
   ·rintro x c st2 _ _ ⟨g1,g2,g3⟩
    refine J3 (Au (n0:=x + 1) C hk da db (by omega) g1 g3) fun r st3 hr=>?_;obtain⟨k1,k2⟩:=hr;cases r with
    | done d=>exact⟨k1,k2⟩
    | yield d=>exact⟨k1,k2⟩
   ·rintro c st2 ⟨g1,g2,g3⟩
    have:=g3.n;have:=g3.i0;omega
   ·rintro c st2 ⟨g1,m,e,hm⟩
    rw[e,cQ];exact Jn (q m _ g1 hm)
end
noncomputable def up (lo:Nat) (c:Option (Option Nat) × Nat):StateT SortSt Sem (ForInStep (Option (Option Nat) × Nat)):=do
 let x<-ltAt' (lo + c.2) (lo + c.2 - 1)
 match x with
 | some sm=>if sm=true then pure (.done (none,c.2))else pure (.yield (none,c.2 + 1))
 | _=>pure (.done (some none,c.2))
noncomputable def F_ (lo nrem n:Nat):StateT SortSt Sem (Option Nat):=do
 let c<-forIn [n:nrem] ((none,n):Option (Option Nat) × Nat) fun _ c=>up lo c
 pick c.1 (fun r=>pure r) fun _=>pure (some c.2)
noncomputable def ET (lo nrem n:Nat):StateT SortSt Sem (Option Nat):=do
 reverseSlice' lo (lo + n)
 F_ lo nrem n
noncomputable def down (lo:Nat) (c:Option (Option Nat) × Nat × Nat):StateT SortSt Sem (ForInStep (Option (Option Nat) × Nat × Nat)):=do
 let x<-ltAt' (lo + c.2.1) (lo + c.2.1 - 1)
 match x with
 | some sm=>
  if sm=true then
   if c.2.2 > 0 then do
    reverseSlice' (lo + c.2.1 - (c.2.2 + 1)) (lo + c.2.1)
    pure (.yield (none,c.2.1 + 1,0))
   else pure (.yield (none,c.2.1 + 1,0))
  else do
   let y<-ltAt' (lo + c.2.1 - 1) (lo + c.2.1)
   match y with
   | some lg=>if lg=true then pure (.done (none,c.2.1,c.2.2))else pure (.yield (none,c.2.1 + 1,c.2.2 + 1))
   | _=>pure (.done (some none,c.2.1,c.2.2))
 | _=>pure (.done (some none,c.2.1,c.2.2))
noncomputable def Ga (lo nrem n:Nat):StateT SortSt Sem (Option Nat):=do
 let c<-forIn [n:nrem] ((none,n,0):Option (Option Nat) × Nat × Nat) fun _ c=>down lo c
 pick c.1 (fun r=>pure r) fun _=>if c.2.2 > 0 then(do
  reverseSlice' (lo + c.2.1 - (c.2.2 + 1)) (lo + c.2.1)
  ET lo nrem c.2.1)else ET lo nrem c.2.1
noncomputable def Al (lo nrem n:Nat):StateT SortSt Sem (Option Nat):=do
 liftM (rule "list.sort.descending-run")
 Ga lo nrem (n + 1)
theorem iT (lo nrem:Nat):countRun' lo nrem=(do
 let c<-forIn [1:nrem] ((none,1):Option (Option Nat) × Nat) fun _ c=>up lo c
 pick c.1 (fun r=>pure r) fun _=>if(c.2 == nrem)=true then pure (some c.2)else if c.2 > 1 then(do
  let x<-ltAt' lo (lo + c.2 - 1)
  match x with
  | some rose=>if rose=true then pure (some c.2)else(do
   reverseSlice' lo (lo + c.2)
   Al lo nrem c.2)
  | _=>pure none)else Al lo nrem c.2):=rfl
noncomputable def zF (lo k:Nat) (c:Option Bool × Nat × Nat):StateT SortSt Sem (ForInStep (Option Bool × Nat × Nat)):=
 if c.2.1 ≥ c.2.2 then pure (.done (none,c.2.1,c.2.2))else do
  let x<-ltAt' (lo + k) (lo + (c.2.1 + c.2.2) / 2)
  match x with
  | some ls=>if ls=true then pure (.yield (none,c.2.1,(c.2.1 + c.2.2) / 2))else pure (.yield (none,(c.2.1 + c.2.2) / 2 + 1,c.2.2))
  | _=>pure (.done (some false,c.2.1,c.2.2))
noncomputable def Ec (lo k:Nat):StateT SortSt Sem (ForInStep (Option Bool × Unit)):=do
 let c<-forIn [0:k] ((none,0,k):Option Bool × Nat × Nat) fun _ c=>zF lo k c
 pick c.1 (fun r=>pure (.done (some r,()))) fun _=>do
  moveDown' (lo + k) (lo + c.2.1)
  pure (.yield (none,()))
theorem fA (lo n ok:Nat):binarySort' lo n ok=(do
 let c<-forIn [max ok 1:n] ((none,()):Option Bool × Unit) fun k _=>Ec lo k
 pick c.1 (fun r=>pure r) fun _=>pure true):=rfl
theorem qB (i:Nat):mergeAt' i=(do
 let s<-get
 let (some (sa,na,pw),some (sb,nb,_)):=((pendingOf s)[i]?,(pendingOf s)[i + 1]?) | unsupported "internal:list.sort.pending"
 set (setPending s (((pendingOf s).setIfInBounds i (sa,na + nb,pw)).eraseIdxIfInBounds (i + 1)))
 let some k<-dw false (<-elem' (arrOf s) sb) (arrOf s) sa na 0 | return false
 let (sa,na):=(sa + k,na - k)
 if na == 0 then return true
 let some nb<-dw true (<-elem' (arrOf s) (sa + na - 1)) (arrOf s) sb nb (nb - 1) | return false
 if nb == 0 then return true
 let x:=(arrOf s).extract sa sb
 let y:=(arrOf s).extract sb (sb + nb)
 let merged<-if na<=nb then kW x y else kX x y
 modify fun s=>setArr s (merged.toList.zipIdx.foldl (fun a (p,j)=>a.setIfInBounds (sa + j) p) (arrOf s))
 return (failedOf (<-get)).isNone):=rfl
noncomputable def Chain:Nat->List (Nat × Nat × Nat)->Nat->Prop
 | a,[],b=>a=b
 | a,x::r,b=>x.1=a/\1<=x.2.1/\Chain (a + x.2.1) r b
theorem Chain.le:∀ {l:List (Nat × Nat × Nat)} {a b:Nat},Chain a l b->a<=b
 | [],a,b,h=>Mn h
 | x::r,a,b,h=>JB (Nat.le_add_right _ _) (Chain.le h.2.2)
theorem Chain.app:∀ {l m:List (Nat × Nat × Nat)} {a b:Nat},Chain a (l++m) b ↔ ∃c,Chain a l c/\Chain c m b
 | [],m,a,b=>⟨fun h=>⟨a,rfl,h⟩,fun⟨c,h1,h2⟩=>by cases (show a=c from h1);exact h2⟩
 | x::r,m,a,b=>by
  constructor
  ·intro h;obtain⟨h1,h2,h3⟩:=(show x.1=a/\1<=x.2.1/\Chain (a + x.2.1) (r++m) b from h);obtain⟨c,h4,h5⟩:=Chain.app.mp h3;exact⟨c,⟨h1,h2,h4⟩,h5⟩
  ·rintro⟨c,⟨h1,h2,h4⟩,h5⟩
   exact⟨h1,h2,Chain.app.mpr ⟨c,h4,h5⟩⟩
theorem eK {α:Type} {l:List α} {i:Nat} (h:i + 1 < l.length):∃l1 x y l2,l=l1++x::y::l2/\l1.length=i:=by
 refine⟨l.take i,l[i],l[i + 1],l.drop (i + 2),?_,by rw[J7];omega⟩;have e1:l=l.take i++l.drop i:=(Kh i l).symm;have e2:l.drop i=l[i]::l.drop (i + 1):=La (by omega);have e3:l.drop (i + 1)=l[i + 1]::l.drop (i + 2):=La h;rw[e2,e3]at e1;exact e1
theorem nj {α:Type} {l2:List α} {x y v:α}:∀ {l1:List α},((l1++x::y::l2).set l1.length v).eraseIdx (l1.length + 1)=l1++v::l2
 | []=>rfl
 | a::r=>by
  show a::((r++x::y::l2).set r.length v).eraseIdx (r.length + 1)=_;rw[nj];rfl
theorem i8 {α:Type} (p:Array α) (i:Nat) (v:α) (h:i + 1 < p.size):((p.setIfInBounds i v).eraseIdxIfInBounds (i + 1)).toList=(p.toList.set i v).eraseIdx (i + 1):=by
 rw[Array.eraseIdxIfInBounds];have h':i + 1 < (p.setIfInBounds i v).size:=by rw[Nz];exact h
 rw[dif_pos h',Array.toList_eraseIdx,Nh]
theorem ug (sa:Nat):∀ (l:List Keyed) (k:Nat) (arr:Array Keyed),sa + k + l.length<=arr.size->
  ((l.zipIdx k).foldl (fun a (p,j)=>a.setIfInBounds (sa + j) p) arr).toList=arr.toList.take (sa + k)++l++arr.toList.drop (sa + k + l.length)
 | [],k,arr,_=>by simp
 | x::r,k,arr,h=>by
  rw[List.zipIdx_cons,LS];have hs:(arr.setIfInBounds (sa + k) x).size=arr.size:=Nz;rw[JW]at h;rw[ug sa r (k + 1) _ (by rw[hs];omega),Nh];have hk:sa + k < arr.toList.length:=by rw[Jz];omega
  have e1:(arr.toList.set (sa + k) x).take (sa + (k + 1))=arr.toList.take (sa + k)++[x]:=by
   rw[<-Nat.add_assoc,take_one (x:=x) (K3 hk),List.take_set_of_le (Jv _)]
  have e2:(arr.toList.set (sa + k) x).drop (sa + (k + 1) + r.length)=arr.toList.drop (sa + k + (x::r).length):=by
   rw[List.drop_set_of_lt (by omega),JW]
   congr 1
   omega
  rw[e1,e2];simp
structure Ok (κ:SortKind) (a₀:Array Keyed) (lo:Nat) (st:SortSt):Prop where
 perm:(arrOf st).Perm a₀
 kind:kindOf st=κ
 fail:failedOf st=none
 ch:Chain 0 (pendingOf st).toList lo
section
variable {prog:Program} {w:World} {A:Around} {E:NT} {s:Shared} {κ:SortKind} {D:Keyed->Prop} {less:Keyed->Keyed->Bool} {a₀:Array Keyed} {st:SortSt}
theorem Ap {t:SortSt} {Q:PUnit->SortSt->Prop} {st:SortSt} (h:Q ⟨⟩ t):wpS (model prog w) A E s (set t:StateT SortSt Sem PUnit) Q st:=by
 unfold wpS;rw[StateT.run_set];exact Ja ⟨rfl,h⟩
theorem aN.perm {xs ys:Array Keyed} (h:aN D ys) (p:xs.Perm ys):aN D xs:=fun x hx=>h x ((K5.mp p).mem_iff.mp hx)
theorem aN.cut {xs:Array Keyed} (h:aN D xs) (i j:Nat):aN D (xs.extract i j):=fun x hx=>by
 rw[KR,K_]at hx;exact h x (MP (LD hx))
theorem AQ (arr:Array Keyed) {i j k:Nat} (h1:i<=j) (h2:j<=k) (h3:k<=arr.size):arr.toList.take i++((arr.extract i j).toList++(arr.extract j k).toList)++arr.toList.drop k=arr.toList:=by
 rw[JD,JD,ir arr h2,ir arr h1,Kh]
theorem jx (C:jU prog w A E s κ D less) (hd:aN D a₀) {lo i:Nat} (ok:Ok κ a₀ lo st) (hi:i + 1 < (pendingOf st).size) (hlo:lo<=a₀.size) {Q:Bool->SortSt->Prop} (q:∀st',Ok κ a₀ lo st'->(pendingOf st').size + 1=(pendingOf st).size->Q true st'):
  wpS (model prog w) A E s (mergeAt' i) Q st:=by
 rw[qB];refine Jh (Lw ?_);obtain⟨l1,⟨sa,na,pw⟩,⟨sb,nb,pb⟩,l2,hl,zy⟩:=eK (l:=(pendingOf st).toList) (i:=i) (by rw[Jz];exact hi);have ch:=ok.ch;rw[hl,Chain.app]at ch;obtain⟨c,c1,c2,c3,c4,c5,c6⟩:=ch;dsimp only at c2 c3 c4 c5 c6;subst c2;subst c4;have p1:(pendingOf st)[i]?=some (sa,na,pw):=by rw[<-KO,hl];simp[<-zy]
 have p2:(pendingOf st)[i + 1]?=some (sa + na,nb,pb):=by rw[<-KO,hl];simp[<-zy]
 rw[p1,p2];dsimp only;have le6:=c6.le;have sz:(arrOf st).size=a₀.size:=ok.perm.size_eq;have da:aN D (arrOf st):=hd.perm ok.perm
 have np:((((pendingOf st).setIfInBounds i (sa,na + nb,pw)).eraseIdxIfInBounds (i + 1))).toList=l1++(sa,na + nb,pw)::l2:=by
  rw[i8 _ _ _ hi,hl,<-zy];exact nj
 have nch:Chain 0 ((((pendingOf st).setIfInBounds i (sa,na + nb,pw)).eraseIdxIfInBounds (i + 1))).toList lo:=by
  rw[np,Chain.app];refine⟨sa,c1,rfl,by dsimp only;omega,?_⟩;dsimp only;rw[<-Nat.add_assoc];exact c6
 have nsz:((((pendingOf st).setIfInBounds i (sa,na + nb,pw)).eraseIdxIfInBounds (i + 1))).size + 1=(pendingOf st).size:=by
  rw[<-Jz,np,<-Jz,hl];simp;omega
 refine Jh (Ap ?_);have ok1:Ok κ a₀ lo (setPending st (((pendingOf st).setIfInBounds i (sa,na + nb,pw)).eraseIdxIfInBounds (i + 1))):=⟨ok.perm,ok.kind,ok.fail,nch⟩;have hsb:sa + na < (arrOf st).size:=by omega
 refine Jh (aC hsb (Jh (cA C ok.kind da (da.at hsb) (by omega) (by omega) fun k kl=>?_)));dsimp only
 by_cases h0:(na - k == 0)=true
 ·rw[Jc h0];exact Jn (q _ ok1 nsz)
 ·rw[I_ h0];have h0':na - k ≠ 0:=by simpa using h0
  have hl2:sa + k + (na - k) - 1 < (arrOf st).size:=by omega
  refine Jh (aC hl2 (Jh (cA C ok.kind da (da.at hl2) (by omega) (by omega) fun nb' nl=>?_)));dsimp only
  by_cases h1:(nb' == 0)=true
  ·rw[Jc h1];exact Jn (q _ ok1 nsz)
  ·rw[I_ h1];have h1':nb' ≠ 0:=by simpa using h1
   have fin:∀ (m:Array Keyed) (st2:SortSt),bV (setPending st (((pendingOf st).setIfInBounds i (sa,na + nb,pw)).eraseIdxIfInBounds (i + 1))) st2->m.toList.Perm (((arrOf st).extract (sa + k) (sa + na)).toList++((arrOf st).extract (sa + na) (sa + na + nb')).toList)->
     wpS (model prog w) A E s (do
      modify fun s=>setArr s (m.toList.zipIdx.foldl (fun a (p,j)=>a.setIfInBounds (sa + k + j) p) (arrOf s))
      let __do_lift<-get
      pure (failedOf __do_lift).isNone) Q st2:=fun m st2 ss pm=>by
    refine Jh (LV (Jh (Lw (Jn ?_))));have ml:=pm.length_eq;rw[Jl,Jz,Jz,Jz,Lq,Lq]at ml;have ea:arrOf st2=arrOf st:=ss.arr;have ps:=ug (sa + k) m.toList 0 (arrOf st) (by rw[Jz];omega)
    have pp:(m.toList.zipIdx.foldl (fun a (p,j)=>a.setIfInBounds (sa + k + j) p) (arrOf st)).Perm a₀:=by
     refine Array.Perm.trans ?_ ok.perm;rw[K5,ps];have e:=AQ (arrOf st) (i:=sa + k) (j:=sa + na) (k:=sa + na + nb') (by omega) (by omega) (by omega);have e2:sa + k + 0 + m.toList.length=sa + na + nb':=by rw[Jz];omega
     rw[e2,Nat.add_zero];refine List.Perm.trans ?_ (List.Perm.of_eq e);exact(pm.append_left _).append_right _
    show Q (failedOf st2).isNone (setArr st2 _);rw[ss.fail,ea];show Q (failedOf st).isNone (setArr st2 _);rw[ok.fail];refine q _ ⟨pp,ss.kind.trans ok.kind,ss.fail.trans ok.fail,?_⟩ ?_
    ·show Chain 0 (pendingOf st2).toList lo;rw[ss.pend];exact nch
    ·show(pendingOf st2).size + 1=_;rw[ss.pend];exact nsz
   have s1:1<=((arrOf st).extract (sa + k) (sa + na)).size:=by rw[Lq];omega
   have s2:1<=((arrOf st).extract (sa + na) (sa + na + nb')).size:=by rw[Lq];omega
   by_cases hm:na - k<=nb'
   ·rw[Jc hm];exact Jh (pQ C ok1.kind (da.cut _ _) (da.cut _ _) s1 s2 fun m st2 ss pm=>fin m st2 ss pm)
   ·rw[I_ hm];exact Jh (pR C ok1.kind (da.cut _ _) (da.cut _ _) s1 s2 fun m st2 ss pm=>fin m st2 ss pm)
end
noncomputable def ja (lo n:Nat):StateT SortSt Sem (ForInStep (Option Unit × Nat)):=do
 modify fun s=>setPending s ((pendingOf s).push (lo,n,0))
 pure (.yield (none,lo + n))
noncomputable def Ct (pw:Nat):StateT SortSt Sem (ForInStep (Option Unit × Unit)):=do
 let st<-get
 match(if(pendingOf st).size > 1 then(pendingOf st)[(pendingOf st).size - 2]? else none)with
 | some (_,_,older)=>if older<=pw then pure (.done (none,()))else(do
  let b<-mergeAt' ((pendingOf st).size - 2)
  if(!b)=true then pure (.done (some (),()))else pure (.yield (none,())))
 | _=>pure (.done (none,()))
noncomputable def mZ (size lo n:Nat):StateT SortSt Sem (ForInStep (Option Unit × Nat)):=do
 let st<-get
 match(pendingOf st).back? with
 | some (s1,n1,_)=>do
  let c<-forIn [0:size] ((none,()):Option Unit × Unit) fun _ _=>Ct (power' size (2 * s1 + n1) (2 * s1 + n1 + n1 + n) size)
  pick c.1 (fun r=>pure (.done (some r,lo))) fun _=>do
   modify fun s=>setPending s ((pendingOf s).modify ((pendingOf s).size - 1) fun(st,len,_)=>(st,len,power' size (2 * s1 + n1) (2 * s1 + n1 + n1 + n) size))
   ja lo n
 | _=>ja lo n
noncomputable def oj (size minrun lo:Nat):StateT SortSt Sem (ForInStep (Option Unit × Nat)):=if lo ≥ size then pure (.done (none,lo))else do
 let r<-countRun' lo (size - lo)
 match r with
 | some n=>if n < minrun then(do
   liftM (rule "list.sort.binary-insertion")
   let b<-binarySort' lo (min (size - lo) minrun) n
   if(!b)=true then pure (.done (some (),lo))else mZ size lo (min (size - lo) minrun))else mZ size lo n
 | _=>pure (.done (some (),lo))
noncomputable def rX:StateT SortSt Sem (ForInStep (Option Unit × Unit)):=do
 let st<-get
 if(pendingOf st).size<=1 then pure (.done (none,()))else(do
  let p:=pendingOf st
  let i:=p.size - 2
  let before:=if i > 0 then p[i - 1]?.map (·.2.1)else none
  let b<-mergeAt' (if before.any (·< (p[i + 1]?.elim 0 (·.2.1)))then i - 1 else i)
  if(!b)=true then pure (.done (some (),()))else pure (.yield (none,())))
theorem ig:sortRuns'=(do
 let st<-get
 let size:=(arrOf st).size
 let c<-forIn [0:size] ((none,0):Option Unit × Nat) fun _ c=>oj size (minRun' size size 0) c.2
 pick c.1 (fun r=>pure r) fun _=>do
  let d<-forIn [0:size] ((none,()):Option Unit × Unit) fun _ _=>rX
  pick d.1 (fun r=>pure r) fun _=>pure ()):=rfl
section
variable {prog:Program} {w:World} {A:Around} {E:NT} {s:Shared} {κ:SortKind} {D:Keyed->Prop} {less:Keyed->Keyed->Bool} {a₀:Array Keyed} {st:SortSt} {lw:Nat}
theorem dR (C:jU prog w A E s κ D less) (hd:aN D a₀) (ok:Ok κ a₀ lw st) {i j:Nat} (hi:i < a₀.size) (hj:j < a₀.size) {Q:Option Bool->SortSt->Prop} (q:∀b,Q (some b) st):wpS (model prog w) A E s (ltAt' i j) Q st:=by
 rw[ltAt'_eq];have sz:=ok.perm.size_eq;have da:aN D (arrOf st):=hd.perm ok.perm;have hi':i < (arrOf st).size:=by omega
 have hj':j < (arrOf st).size:=by omega
 refine Jh (Lw ?_);exact Jh (aC hi' (Jh (aC hj' (C.run st _ _ _ ok.kind (da.at hi') (da.at hj') (q _)))))
theorem Ok.arr (ok:Ok κ a₀ lw st) {xs:Array Keyed} (h:xs.Perm (arrOf st)):Ok κ a₀ lw (setArr st xs):=⟨h.trans ok.perm,ok.kind,ok.fail,ok.ch⟩
theorem jV (ok:Ok κ a₀ lw st) {i j:Nat} {Q:Unit->SortSt->Prop} (q:∀st',Ok κ a₀ lw st'->Q () st'):wpS (model prog w) A E s (reverseSlice' i j) Q st:=by
 rw[reverseSlice'_eq];exact LV (q _ (ok.arr (mirror_perm _ _ _ _)))
theorem vg (ok:Ok κ a₀ lw st) {i j:Nat} {Q:Unit->SortSt->Prop} (q:∀st',Ok κ a₀ lw st'->Q () st'):wpS (model prog w) A E s (moveDown' i j) Q st:=by
 rw[moveDown'_eq];exact LV (q _ (ok.arr (bubble_perm _ _ _)))
theorem kq (C:jU prog w A E s κ D less) (hd:aN D a₀) (ok:Ok κ a₀ lw st) {lo nrem n:Nat} (h1:1<=n) (hn:n<=nrem) (hs:lo + nrem<=a₀.size) {Q:Option Nat->SortSt->Prop} {f:Nat->StateT SortSt Sem (Option Nat)} (q:∀m,n<=m->m<=nrem->wpS (model prog w) A E s (f m) Q st):
  wpS (model prog w) A E s (do
   let c<-forIn [n:nrem] ((none,n):Option (Option Nat) × Nat) fun _ c=>up lo c
   pick c.1 (fun r=>pure r) fun _=>f c.2) Q st:=by
 refine Jh (J3 (J6 (I:=fun x c st'=>st'=st/\c.1=none/\c.2=x) (Q:=fun c st'=>st'=st/\c.1=none/\n<=c.2/\c.2<=nrem) ?_ ?_ ⟨rfl,rfl,rfl⟩) ?_)
 ·rintro x ⟨c1,c2⟩ st' hx hx2 ⟨rfl,rfl,rfl⟩
  unfold up;refine Jh (dR C hd ok (by dsimp only;omega) (by dsimp only;omega) fun b=>?_);dsimp only;cases b with
  | true=>rw[Jc rfl];exact Jn ⟨rfl,rfl,hx,by dsimp only;omega⟩
  | false=>rw[I_ (by decide)];exact Jn ⟨rfl,rfl,rfl⟩
 ·rintro⟨c1,c2⟩ st' ⟨rfl,rfl,h⟩
  dsimp only at h;exact⟨rfl,rfl,by dsimp only;omega,by dsimp only;omega⟩
 ·rintro⟨c1,c2⟩ st' ⟨rfl,h1,h2,h3⟩
  dsimp only at h1 h2 h3;subst h1;rw[aP];exact q _ h2 h3
theorem l_ (C:jU prog w A E s κ D less) (hd:aN D a₀) (ok:Ok κ a₀ lw st) {lo nrem:Nat} (hn:1<=nrem) (hs:lo + nrem<=a₀.size) {Q:Option Nat->SortSt->Prop} (q:∀m st',Ok κ a₀ lw st'->1<=m->m<=nrem->Q (some m) st'):
  wpS (model prog w) A E s (countRun' lo nrem) Q st:=by
 have r4:∀n st',Ok κ a₀ lw st'->1<=n->n<=nrem->wpS (model prog w) A E s (F_ lo nrem n) Q st':=fun n st' ok' h1 h2=>by
  unfold F_;exact kq C hd ok' h1 h2 hs (f:=fun m=>pure (some m)) fun m hm hm2=>Jn (q m st' ok' (by omega) hm2)
 have r3:∀n st',Ok κ a₀ lw st'->1<=n->n<=nrem->wpS (model prog w) A E s (ET lo nrem n) Q st':=fun n st' ok' h1 h2=>by
  unfold ET;exact Jh (jV ok' fun st2 ok2=>r4 n st2 ok2 h1 h2)
 have r2:∀n st',Ok κ a₀ lw st'->1<=n->n<=nrem->wpS (model prog w) A E s (Ga lo nrem n) Q st':=fun n st' ok' h1 h2=>by
  unfold Ga;refine Jh (J3 (J6 (I:=fun x c st2=>Ok κ a₀ lw st2/\c.1=none/\c.2.1=x) (Q:=fun c st2=>Ok κ a₀ lw st2/\c.1=none/\n<=c.2.1/\c.2.1<=nrem) ?_ ?_ ⟨ok',rfl,rfl⟩) ?_)
  ·rintro x ⟨c1,c2,c3⟩ st2 hx hx2 ⟨ok2,rfl,rfl⟩
   unfold down;dsimp only at hx hx2 ⊢;refine Jh (dR C hd ok2 (by omega) (by omega) fun b=>?_);dsimp only;cases b with
   | true=>
    rw[Jc rfl]
    by_cases h3:c3 > 0
    ·rw[Jc h3];exact Jh (jV ok2 fun st3 ok3=>Jn ⟨ok3,rfl,rfl⟩)
    ·rw[I_ h3];exact Jn ⟨ok2,rfl,rfl⟩
   | false=>
    rw[I_ (by decide)];refine Jh (dR C hd ok2 (by omega) (by omega) fun b2=>?_);dsimp only;cases b2 with
    | true=>rw[Jc rfl];exact Jn ⟨ok2,rfl,hx,by dsimp only;omega⟩
    | false=>rw[I_ (by decide)];exact Jn ⟨ok2,rfl,rfl⟩
  ·rintro⟨c1,c2,c3⟩ st2 ⟨ok2,rfl,h⟩
   dsimp only at h;exact⟨ok2,rfl,by dsimp only;omega,by dsimp only;omega⟩
  ·rintro⟨c1,c2,c3⟩ st2 ⟨ok2,h3,h4,h5⟩
   dsimp only at h3 h4 h5;subst h3;rw[aP];dsimp only
   by_cases h6:c3 > 0
   ·rw[Jc h6];exact Jh (jV ok2 fun st3 ok3=>r3 c2 st3 ok3 (by omega) h5)
   ·rw[I_ h6];exact r3 c2 st2 ok2 (by omega) h5
 have r1:∀n st',Ok κ a₀ lw st'->n < nrem->wpS (model prog w) A E s (Al lo nrem n) Q st':=fun n st' ok' h2=>by
  unfold Al;exact Jh (L8 (Kn ⟨rfl,r2 (n + 1) st' ok' (by omega) (by omega)⟩))
 rw[iT]
 refine kq C hd ok (Jv 1) hn hs (f:=fun m=>if(m == nrem)=true then pure (some m)else if m > 1 then(do
  let x<-ltAt' lo (lo + m - 1)
  match x with
  | some rose=>if rose=true then pure (some m)else(do
   reverseSlice' lo (lo + m)
   Al lo nrem m)
  | _=>pure none)else Al lo nrem m) fun m hm hm2=>?_
 by_cases h:(m == nrem)=true
 ·rw[Jc h];exact Jn (q m st ok hm hm2)
 ·rw[I_ h];have h':m ≠ nrem:=by simpa using h
  by_cases h2:m > 1
  ·rw[Jc h2];refine Jh (dR C hd ok (by omega) (by omega) fun b=>?_);dsimp only;cases b with
   | true=>rw[Jc rfl];exact Jn (q m st ok hm hm2)
   | false=>
    rw[I_ (by decide)];exact Jh (jV ok fun st2 ok2=>r1 m st2 ok2 (by omega))
  ·rw[I_ h2];exact r1 m st ok (by omega)
theorem pT (C:jU prog w A E s κ D less) (hd:aN D a₀) (ok:Ok κ a₀ lw st) {lo n k0:Nat} (hs:lo + n<=a₀.size) {Q:Bool->SortSt->Prop} (q:∀st',Ok κ a₀ lw st'->Q true st'):
  wpS (model prog w) A E s (binarySort' lo n k0) Q st:=by
 rw[fA];refine Jh (J3 (J6 (I:=fun x c st'=>Ok κ a₀ lw st'/\c.1=none) (Q:=fun c st'=>Ok κ a₀ lw st'/\c.1=none) ?_ (fun _ _ h=>h) ⟨ok,rfl⟩) ?_)
 ·rintro k c st' hk1 hk2 ⟨ok',h⟩
  unfold Ec;refine Jh (J3 (J6 (I:=fun x c st2=>st2=st'/\c.1=none/\c.2.2<=k) (Q:=fun c st2=>st2=st'/\c.1=none) ?_ (fun _ _ h=>⟨h.1,h.2.1⟩) ⟨rfl,rfl,Jv _⟩) ?_)
  ·rintro x ⟨c1,c2,c3⟩ st2 _ _ ⟨rfl,rfl,h3⟩
   unfold zF;dsimp only at h3 ⊢
   by_cases h4:c2 ≥ c3
   ·rw[Jc h4];exact Jn ⟨rfl,rfl⟩
   ·rw[I_ h4];refine Jh (dR C hd ok' (by omega) (by omega) fun b=>?_);dsimp only;cases b with
    | true=>rw[Jc rfl];exact Jn ⟨rfl,rfl,by dsimp only;omega⟩
    | false=>rw[I_ (by decide)];exact Jn ⟨rfl,rfl,h3⟩
  ·rintro⟨c1,c2,c3⟩ st2 ⟨rfl,h5⟩
   dsimp only at h5;subst h5;rw[aP];exact Jh (vg ok' fun st3 ok3=>Jn ⟨ok3,rfl⟩)
 ·rintro⟨c1,c2⟩ st' ⟨ok',h⟩
  dsimp only at h;subst h;rw[aP];exact Jn (q st' ok')
theorem ite_le (b:Bool) (k:Nat):(if b=true then k - 1 else k)<=k:=by cases b<;>simp
theorem Chain.mod:∀ {l:List (Nat × Nat × Nat)} {a b i pw:Nat},Chain a l b->Chain a (l.modify i fun(s,n,_)=>(s,n,pw)) b
 | [],a,b,i,pw,h=>by cases i<;>exact h
 | x::r,a,b,0,pw,h=>h
 | x::r,a,b,i + 1,pw,h=>⟨h.1,h.2.1,Chain.mod h.2.2⟩
theorem lZ (C:jU prog w A E s κ D less) (hd:aN D a₀) (ok:Ok κ a₀ 0 st) {Q:Unit->SortSt->Prop} (q:∀st',(arrOf st').Perm a₀->failedOf st'=none->Q () st'):wpS (model prog w) A E s sortRuns' Q st:=by
 rw[ig];refine Jh (Lw ?_);dsimp only;rw[ok.perm.size_eq]
 have push:∀lo n st',Ok κ a₀ lo st'->1<=n->lo + n<=a₀.size->wpS (model prog w) A E s (ja lo n) (fun r st2=>match r with
   | .done c=>∃l,c.1=none/\Ok κ a₀ l st2/\l<=a₀.size
   | .yield c=>c.1=none/\Ok κ a₀ c.2 st2/\c.2<=a₀.size) st':=fun lo n st' ok' h1 h2=>by
  unfold ja;refine Jh (LV (Jn ⟨rfl,⟨ok'.perm,ok'.kind,ok'.fail,?_⟩,h2⟩));show Chain 0 ((pendingOf st').push (lo,n,0)).toList (lo + n);rw[Kw,Chain.app];exact⟨lo,ok'.ch,rfl,h1,rfl⟩
 have mid:∀lo n st',Ok κ a₀ lo st'->1<=n->lo + n<=a₀.size->wpS (model prog w) A E s (mZ a₀.size lo n) (fun r st2=>match r with
   | .done c=>∃l,c.1=none/\Ok κ a₀ l st2/\l<=a₀.size
   | .yield c=>c.1=none/\Ok κ a₀ c.2 st2/\c.2<=a₀.size) st':=fun lo n st' ok' h1 h2=>by
  unfold mZ;refine Jh (Lw ?_);split
  ·rename_i s1 n1 p1 hb;refine Jh (J3 (J6 (I:=fun x c st2=>Ok κ a₀ lo st2/\c.1=none) (Q:=fun c st2=>Ok κ a₀ lo st2/\c.1=none) ?_ (fun _ _ h=>h) ⟨ok',rfl⟩) ?_)
   ·rintro x c st2 _ _ ⟨ok2,h3⟩
    unfold Ct;refine Jh (Lw ?_)
    by_cases hp:(pendingOf st2).size > 1
    ·rw[Jc hp];have e:(pendingOf st2)[(pendingOf st2).size - 2]?=some (pendingOf st2)[(pendingOf st2).size - 2]:=L6 _ _ (by omega);rw[e];dsimp only
     by_cases h4:(pendingOf st2)[(pendingOf st2).size - 2].2.2<=power' a₀.size (2 * s1 + n1) (2 * s1 + n1 + n1 + n) a₀.size
     ·rw[Jc h4];exact Jn ⟨ok2,rfl⟩
     ·rw[I_ h4]
      exact Jh (jx C hd ok2 (by omega) (by omega) fun st3 ok3 _=>by
       rw[I_ (by decide)];exact Jn ⟨ok3,rfl⟩)
    ·rw[I_ hp];exact Jn ⟨ok2,rfl⟩
   ·rintro⟨c1,c2⟩ st2 ⟨ok2,h3⟩
    dsimp only at h3;subst h3;rw[aP];refine Jh (LV (push lo n _ ⟨ok2.perm,ok2.kind,ok2.fail,?_⟩ h1 h2));show Chain 0 ((pendingOf st2).modify _ _).toList lo;rw[Array.toList_modify];exact ok2.ch.mod
  ·exact push lo n st' ok' h1 h2
 refine Jh (J3 (J6 (I:=fun x c st'=>c.1=none/\Ok κ a₀ c.2 st'/\c.2<=a₀.size) (Q:=fun c st'=>∃l,c.1=none/\Ok κ a₀ l st'/\l<=a₀.size) ?_ (fun c st' h=>⟨c.2,h⟩) ⟨rfl,ok,JZ _⟩) ?_)
 ·rintro x ⟨c1,lo⟩ st' _ _ ⟨h1,ok',h2⟩
  dsimp only at h1 ok' h2 ⊢;unfold oj
  by_cases h3:lo ≥ a₀.size
  ·rw[Jc h3];exact Jn ⟨lo,rfl,ok',h2⟩
  ·rw[I_ h3];refine Jh (l_ C hd ok' (by omega) (by omega) fun n st2 ok2 n1 n2=>?_);dsimp only
   by_cases h4:n < minRun' a₀.size a₀.size 0
   ·rw[Jc h4];refine Jh (L8 (Kn ⟨rfl,?_⟩));refine Jh (pT C hd ok2 (by omega) fun st3 ok3=>?_);rw[I_ (by decide)];refine J3 (mid lo _ st3 ok3 (by omega) (by omega)) fun r st4 hr=>?_;cases r with
    | done d=>exact hr
    | yield d=>exact hr
   ·rw[I_ h4];refine J3 (mid lo n st2 ok2 n1 (by omega)) fun r st4 hr=>?_;cases r with
    | done d=>exact hr
    | yield d=>exact hr
 ·rintro⟨c1,c2⟩ st' ⟨l,h1,ok',h2⟩
  dsimp only at h1;subst h1;rw[aP];refine Jh (J3 (J6 (I:=fun x c st2=>Ok κ a₀ l st2/\c.1=none) (Q:=fun c st2=>Ok κ a₀ l st2/\c.1=none) ?_ (fun _ _ h=>h) ⟨ok',rfl⟩) ?_)
  ·rintro x c st2 _ _ ⟨ok2,h3⟩
   unfold rX;refine Jh (Lw ?_)
   by_cases hp:(pendingOf st2).size<=1
   ·rw[Jc hp];exact Jn ⟨ok2,rfl⟩
   ·rw[I_ hp];dsimp only;refine Jh (jx C hd ok2 ?_ h2 fun st3 ok3 _=>?_)
    ·exact Mp (Ny (ite_le _ _)) (by omega)
    ·rw[I_ (by decide)];exact Jn ⟨ok3,rfl⟩
  ·rintro⟨d1,d2⟩ st2 ⟨ok2,h3⟩
   dsimp only at h3;subst h3;rw[aP];exact Jn (q st2 ok2.perm ok2.fail)
end
structure Ord (D:Keyed->Prop) (less:Keyed->Keyed->Bool):Prop where
 rB:∀x y,D x->D y->less x y=true->less y x=false
 tr:∀x y z,D x->D y->D z->less y x=false->less z y=false->less z x=false
section
variable {D:Keyed->Prop} {less:Keyed->Keyed->Bool} {xs:Array Keyed}
noncomputable def fc (less:Keyed->Keyed->Bool) (xs:Array Keyed) (i j:Nat):Prop:=∀x y,xs[i]?=some x->xs[j]?=some y->less y x=false
theorem aN.get (h:aN D xs) {i:Nat} {x:Keyed} (e:xs[i]?=some x):D x:=by
 obtain⟨h1,h2⟩:=Array.getElem?_eq_some_iff.mp e;rw[<-h2];exact h.at h1
theorem fc.refl (O:Ord D less) (d:aN D xs) (i:Nat):fc less xs i i:=fun x y e1 e2=>by
 rw[e1]at e2;cases e2
 cases h:less x x with
 | false=>rfl
 | true=>exact h ▸ O.rB x x (d.get e1) (d.get e1) h
theorem fc.trans (O:Ord D less) (d:aN D xs) {i j k:Nat} (hj:j < xs.size) (h1:fc less xs i j) (h2:fc less xs j k):fc less xs i k:=fun x z e1 e3=>by
 have e2:xs[j]?=some xs[j]:=L6 xs j hj;exact O.tr x _ z (d.get e1) (d.get e2) (d.get e3) (h1 x _ e1 e2) (h2 _ z e2 e3)
noncomputable def Up (less:Keyed->Keyed->Bool) (xs:Array Keyed) (n:Nat):Prop:=∀i j,i<=j->j < n->fc less xs i j
noncomputable def Dn (less:Keyed->Keyed->Bool) (xs:Array Keyed) (n:Nat):Prop:=∀i j,i<=j->j < n->fc less xs j i
theorem Up.one (O:Ord D less) (d:aN D xs):Up less xs 1:=fun i j h1 h2=>by
 have:i=j:=by omega
 subst this;exact .refl O d _
theorem Up.more (O:Ord D less) (d:aN D xs) {n:Nat} (h0:1<=n) (hn:n < xs.size) (h:Up less xs n) (hl:fc less xs (n - 1) n):Up less xs (n + 1):=fun i j h1 h2=>by
 by_cases e:j < n
 ·exact h i j h1 e
 ·have:j=n:=by omega
  subst this
  by_cases e2:i=j
  ·subst e2;exact .refl O d _
  ·exact(h i (j - 1) (by omega) (by omega)).trans O d (by omega) hl
theorem Dn.more (O:Ord D less) (d:aN D xs) {n:Nat} (h0:1<=n) (hn:n < xs.size) (h:Dn less xs n) (hl:fc less xs n (n - 1)):Dn less xs (n + 1):=fun i j h1 h2=>by
 by_cases e:j < n
 ·exact h i j h1 e
 ·have:j=n:=by omega
  subst this
  by_cases e2:i=j
  ·subst e2;exact .refl O d _
  ·exact hl.trans O d (by omega) (h i (j - 1) (by omega) (by omega))
theorem fc.congr {ys:Array Keyed} {i j i' j':Nat} (h:fc less xs i' j') (e1:ys[i]?=xs[i']?) (e2:ys[j]?=xs[j']?):fc less ys i j:=fun x y a b=>h x y (by rw[<-e1];exact a) (by rw[<-e2];exact b)
theorem cI {i j:Nat} (hj:j<=xs.size) (k:Nat):(mirror xs i j ((j - i) / 2))[k]?=if i<=k/\k < j then xs[i + j - 1 - k]? else xs[k]?:=getElem?_mirror_all hj k
theorem Dn.turn {n:Nat} (hn:n<=xs.size) (h:Dn less xs n):Up less (mirror xs 0 n ((n - 0) / 2)) n:=fun i j h1 h2=>by
 refine(h (n - 1 - j) (n - 1 - i) (by omega) (by omega)).congr ?_ ?_
 ·rw[cI hn,Jc (by omega)];congr 1;omega
 ·rw[cI hn,Jc (by omega)];congr 1;omega
theorem Dn.same (O:Ord D less) (d:aN D xs) {n i:Nat} (hn:n<=xs.size) (h:Dn less xs n) (h0:1<=n) (eq:∀k,i<=k->k < n->fc less xs k (n - 1)):Dn less (mirror xs i n ((n - i) / 2)) n:=fun a b h1 h2=>by
 have any:∀k l,i<=k->k < n->i<=l->l < n->fc less xs k l:=fun k l k1 k2 l1 l2=>(eq k k1 k2).trans O d (by omega) (h l (n - 1) (by omega) (by omega))
 by_cases ha:i<=a
 ·refine(any (i + n - 1 - b) (i + n - 1 - a) (by omega) (by omega) (by omega) (by omega)).congr ?_ ?_
  ·rw[cI hn,Jc (by omega)]
  ·rw[cI hn,Jc (by omega)]
 ·by_cases hb:i<=b
  ·refine(h a (i + n - 1 - b) (by omega) (by omega)).congr ?_ ?_
   ·rw[cI hn,Jc (by omega)]
   ·rw[cI hn,I_ (by omega)]
  ·refine(h a b h1 h2).congr ?_ ?_
   ·rw[cI hn,I_ (by omega)]
   ·rw[cI hn,I_ (by omega)]
end
section
variable {prog:Program} {w:World} {A:Around} {E:NT} {s:Shared} {κ:SortKind} {D:Keyed->Prop} {less:Keyed->Keyed->Bool} {a₀:Array Keyed} {st:SortSt} {lw:Nat}
theorem dQ (C:jU prog w A E s κ D less) (hd:aN D a₀) (ok:Ok κ a₀ lw st) {i j:Nat} (hi:i < a₀.size) (hj:j < a₀.size) {Q:Option Bool->SortSt->Prop} (q:∀x y,(arrOf st)[i]?=some x->(arrOf st)[j]?=some y->Q (some (less x y)) st):wpS (model prog w) A E s (ltAt' i j) Q st:=by
 rw[ltAt'_eq];have sz:=ok.perm.size_eq;have da:aN D (arrOf st):=hd.perm ok.perm;have hi':i < (arrOf st).size:=by omega
 have hj':j < (arrOf st).size:=by omega
 refine Jh (Lw ?_);exact Jh (aC hi' (Jh (aC hj' (C.run st _ _ _ ok.kind (da.at hi') (da.at hj') (q _ _ (L6 (arrOf st) i hi') (L6 (arrOf st) j hj'))))))
theorem fo {less:Keyed->Keyed->Bool} {xs:Array Keyed} {i j:Nat} {x y:Keyed} (e1:xs[i]?=some x) (e2:xs[j]?=some y) (h:less y x=false):fc less xs i j:=fun a b h1 h2=>by
 rw[e1]at h1;rw[e2]at h2;cases h1;cases h2
 exact h
theorem tO (C:jU prog w A E s κ D less) (O:Ord D less) (hd:aN D a₀) (ok:Ok κ a₀ lw st) {nrem n:Nat} (h1:1<=n) (hn:n<=nrem) (hs:nrem<=a₀.size) (hu:Up less (arrOf st) n) {Q:Option Nat->SortSt->Prop} {f:Nat->StateT SortSt Sem (Option Nat)} (q:∀m,n<=m->m<=nrem->Up less (arrOf st) m->(m=nrem\/∃x y:Keyed,(arrOf st)[m]?=some x/\(arrOf st)[m - 1]?=some y/\less x y=true)->wpS (model prog w) A E s (f m) Q st):
  wpS (model prog w) A E s (do
   let c<-forIn [n:nrem] ((none,n):Option (Option Nat) × Nat) fun _ c=>up 0 c
   pick c.1 (fun r=>pure r) fun _=>f c.2) Q st:=by
 have sz:=ok.perm.size_eq;have da:aN D (arrOf st):=hd.perm ok.perm;refine Jh (J3 (J6 (I:=fun x c st'=>st'=st/\c.1=none/\c.2=x/\Up less (arrOf st) x) (Q:=fun c st'=>st'=st/\c.1=none/\n<=c.2/\c.2<=nrem/\Up less (arrOf st) c.2/\(c.2=nrem\/∃x y,(arrOf st)[c.2]?=some x/\(arrOf st)[c.2 - 1]?=some y/\less x y=true)) ?_ ?_ ⟨rfl,rfl,rfl,hu⟩) ?_)
 ·rintro x ⟨c1,c2⟩ st' hx hx2 ⟨rfl,rfl,rfl,hu'⟩
  unfold up;dsimp only at hx hx2 hu' ⊢;rw[Kd];refine Jh (dQ C hd ok (by omega) (by omega) fun u v e1 e2=>?_);dsimp only;cases hb:less u v with
  | true=>rw[Jc rfl];exact Jn ⟨rfl,rfl,hx,by dsimp only;omega,hu',.inr ⟨u,v,e1,e2,hb⟩⟩
  | false=>rw[I_ (by decide)];exact Jn ⟨rfl,rfl,rfl,hu'.more O da (by omega) (by omega) (fo e2 e1 hb)⟩
 ·rintro⟨c1,c2⟩ st' ⟨rfl,rfl,h,hu'⟩
  dsimp only at h;have e:max n nrem=nrem:=by omega
  rw[e]at h hu';exact⟨rfl,rfl,by dsimp only;omega,by dsimp only;omega,by dsimp only;rw[h];exact hu',.inl h⟩
 ·rintro⟨c1,c2⟩ st' ⟨rfl,h1,h2,h3,h4,h5⟩
  dsimp only at h1 h2 h3 h4 h5;subst h1;rw[aP];exact q _ h2 h3 h4 h5
theorem hV (ok:Ok κ a₀ lw st) {i j:Nat} {Q:Unit->SortSt->Prop} (q:Ok κ a₀ lw (setArr st (mirror (arrOf st) i j ((j - i) / 2)))->Q () (setArr st (mirror (arrOf st) i j ((j - i) / 2)))):wpS (model prog w) A E s (reverseSlice' i j) Q st:=by
 rw[reverseSlice'_eq];exact LV (q (ok.arr (mirror_perm _ _ _ _)))
theorem l0 (C:jU prog w A E s κ D less) (O:Ord D less) (hd:aN D a₀) (ok:Ok κ a₀ lw st) {nrem:Nat} (hn:1<=nrem) (hs:nrem<=a₀.size) {Q:Option Nat->SortSt->Prop} (q:∀m st',Ok κ a₀ lw st'->1<=m->m<=nrem->Up less (arrOf st') m->Q (some m) st'):
  wpS (model prog w) A E s (countRun' 0 nrem) Q st:=by
 have r4:∀n st',Ok κ a₀ lw st'->1<=n->n<=nrem->Up less (arrOf st') n->wpS (model prog w) A E s (F_ 0 nrem n) Q st':=fun n st' ok' h1 h2 hu=>by
  unfold F_;exact tO C O hd ok' h1 h2 hs hu (f:=fun m=>pure (some m)) fun m hm hm2 hu' _=>Jn (q m st' ok' (by omega) hm2 hu')
 have r3:∀n st',Ok κ a₀ lw st'->1<=n->n<=nrem->Dn less (arrOf st') n->wpS (model prog w) A E s (ET 0 nrem n) Q st':=fun n st' ok' h1 h2 hdn=>by
  have sz:=ok'.perm.size_eq;unfold ET;rw[Kd];exact Jh (hV ok' fun ok2=>r4 n _ ok2 h1 h2 (hdn.turn (by omega)))
 have r2:∀n st',Ok κ a₀ lw st'->1<=n->n<=nrem->Dn less (arrOf st') n->wpS (model prog w) A E s (Ga 0 nrem n) Q st':=fun n st' ok' h1 h2 hdn=>by
  unfold Ga
  have i0:∀k,n - (0 + 1)<=k->k < n->fc less (arrOf st') k (n - 1):=fun k k1 k2=>by
   have:k=n - 1:=by omega
   subst this;exact .refl O (hd.perm ok'.perm) _
  refine Jh (J3 (J6 (I:=fun x c st2=>Ok κ a₀ lw st2/\c.1=none/\c.2.1=x/\c.2.2 + 1<=x/\Dn less (arrOf st2) x/\∀k,x - (c.2.2 + 1)<=k->k < x->fc less (arrOf st2) k (x - 1)) (Q:=fun c st2=>Ok κ a₀ lw st2/\c.1=none/\n<=c.2.1/\c.2.1<=nrem/\c.2.2 + 1<=c.2.1/\Dn less (arrOf st2) c.2.1/\∀k,c.2.1 - (c.2.2 + 1)<=k->k < c.2.1->fc less (arrOf st2) k (c.2.1 - 1)) ?_ ?_ ⟨ok',rfl,rfl,by dsimp only;omega,hdn,i0⟩) ?_)
  ·rintro x ⟨c1,c2,c3⟩ st2 hx hx2 ⟨ok2,rfl,rfl,g1,g2,g3⟩
   have sz:=ok2.perm.size_eq;have da:aN D (arrOf st2):=hd.perm ok2.perm;unfold down;dsimp only at hx hx2 g1 g2 g3 ⊢;rw[Kd];refine Jh (dQ C hd ok2 (by omega) (by omega) fun u v e1 e2=>?_);dsimp only;cases hb:less u v with
   | true=>
    have du:D u:=da.get e1;have dv:D v:=da.get e2;have lt:fc less (arrOf st2) c2 (c2 - 1):=fo e1 e2 (O.rB u v du dv hb);rw[Jc rfl]
    by_cases h3:c3 > 0
    ·rw[Jc h3];refine Jh (hV ok2 fun ok3=>Jn ?_);have d1:=g2.same O da (by omega) (by omega) g3;have da3:aN D (arrOf (setArr st2 (mirror (arrOf st2) (c2 - (c3 + 1)) c2 ((c2 - (c2 - (c3 + 1))) / 2)))):=hd.perm ok3.perm;have sz3:=ok3.perm.size_eq
     have l3:fc less (mirror (arrOf st2) (c2 - (c3 + 1)) c2 ((c2 - (c2 - (c3 + 1))) / 2)) c2 (c2 - 1):=by
      have base:fc less (arrOf st2) c2 (c2 - (c3 + 1)):=lt.trans O da (by omega) (g2 _ _ (by omega) (by omega));refine base.congr ?_ ?_
      ·rw[cI (by omega),I_ (by omega)]
      ·rw[cI (by omega),Jc (by omega)];congr 1;omega
     refine⟨ok3,rfl,rfl,by dsimp only;omega,Dn.more O da3 (by omega) (by omega) d1 l3,fun k k1 k2=>?_⟩;have:k=c2:=by dsimp only at k1 k2;omega
     subst this;exact .refl O da3 _
    ·rw[I_ h3];refine Jn ⟨ok2,rfl,rfl,by dsimp only;omega,g2.more O da (by omega) (by omega) lt,fun k k1 k2=>?_⟩;have:k=c2:=by dsimp only at k1 k2;omega
     subst this;exact .refl O da _
   | false=>
    rw[I_ (by decide)];refine Jh (dQ C hd ok2 (by omega) (by omega) fun u' v' f1 f2=>?_);rw[e2]at f1;rw[e1]at f2;cases f1
    cases f2
    dsimp only;cases hb2:less v u with
    | true=>rw[Jc rfl];exact Jn ⟨ok2,rfl,hx,by dsimp only;omega,g1,g2,g3⟩
    | false=>
     rw[I_ (by decide)];have l1:fc less (arrOf st2) c2 (c2 - 1):=fo e1 e2 hb2;have l2:fc less (arrOf st2) (c2 - 1) c2:=fo e2 e1 hb;refine Jn ⟨ok2,rfl,rfl,by dsimp only;omega,g2.more O da (by omega) (by omega) l1,fun k k1 k2=>?_⟩;dsimp only at k1 k2 ⊢
     by_cases ek:k=c2
     ·subst ek;exact .refl O da _
     ·exact(g3 k (by omega) (by omega)).trans O da (by omega) l2
  ·rintro⟨c1,c2,c3⟩ st2 ⟨ok2,rfl,h,g1,g2,g3⟩
   dsimp only at h;have e:max n nrem=nrem:=by omega
   rw[e]at h g1 g2 g3;subst h;exact⟨ok2,rfl,h2,Jv _,g1,g2,g3⟩
  ·rintro⟨c1,c2,c3⟩ st2 ⟨ok2,h3,h4,h5,g1,g2,g3⟩
   dsimp only at h3 h4 h5 g1 g2 g3;have sz:=ok2.perm.size_eq;have da:aN D (arrOf st2):=hd.perm ok2.perm;subst h3;rw[aP];dsimp only
   by_cases h6:c3 > 0
   ·rw[Jc h6,Kd];exact Jh (hV ok2 fun ok3=>r3 c2 _ ok3 (by omega) h5 (g2.same O da (by omega) (by omega) g3))
   ·rw[I_ h6];exact r3 c2 st2 ok2 (by omega) h5 g2
 have r1:∀n st',Ok κ a₀ lw st'->n < nrem->Dn less (arrOf st') (n + 1)->wpS (model prog w) A E s (Al 0 nrem n) Q st':=fun n st' ok' h2 hdn=>by
  unfold Al;exact Jh (L8 (Kn ⟨rfl,r2 (n + 1) st' ok' (by omega) (by omega) hdn⟩))
 have sz:=ok.perm.size_eq;have da:aN D (arrOf st):=hd.perm ok.perm;rw[iT]
 refine tO C O hd ok (Jv 1) hn hs (Up.one O da) (f:=fun m=>if(m == nrem)=true then pure (some m)else if m > 1 then(do
  let x<-ltAt' 0 (0 + m - 1)
  match x with
  | some rose=>if rose=true then pure (some m)else(do
   reverseSlice' 0 (0 + m)
   Al 0 nrem m)
  | _=>pure none)else Al 0 nrem m) fun m hm hm2 hu br=>?_
 by_cases h:(m == nrem)=true
 ·rw[Jc h];exact Jn (q m st ok hm hm2 hu)
 ·rw[I_ h];have h':m ≠ nrem:=by simpa using h
  obtain⟨x,y,e1,e2,hb⟩:=br.resolve_left h';have lt:fc less (arrOf st) m (m - 1):=fo e1 e2 (O.rB x y (da.get e1) (da.get e2) hb)
  by_cases h2:m > 1
  ·rw[Jc h2,Kd];refine Jh (dQ C hd ok (by omega) (by omega) fun u v f1 f2=>?_);dsimp only;cases hb2:less u v with
   | true=>rw[Jc rfl];exact Jn (q m st ok hm hm2 hu)
   | false=>
    rw[I_ (by decide)];have le0:fc less (arrOf st) (m - 1) 0:=fo f2 f1 hb2;have dn:Dn less (arrOf st) m:=fun i j h3 h4=>((hu j (m - 1) (by omega) (by omega)).trans O da (by omega) le0).trans O da (by omega) (hu 0 i (by omega) (by omega));refine Jh (hV ok fun ok2=>?_);have d1:=dn.same O da (i:=0) (by omega) (by omega) fun k _ k2=>hu k (m - 1) (by omega) (by omega);have da2:aN D (arrOf (setArr st (mirror (arrOf st) 0 m ((m - 0) / 2)))):=hd.perm ok2.perm;have sz2:=ok2.perm.size_eq
    have l2:fc less (mirror (arrOf st) 0 m ((m - 0) / 2)) m (m - 1):=by
     have base:fc less (arrOf st) m 0:=lt.trans O da (by omega) le0;refine base.congr ?_ ?_
     ·rw[cI (by omega),I_ (by omega)]
     ·rw[cI (by omega),Jc (by omega)];congr 1;omega
    exact r1 m _ ok2 (by omega) (Dn.more O da2 (by omega) (by omega) d1 l2)
  ·rw[I_ h2];have:m=1:=by omega
   subst this;refine r1 1 st ok (by omega) (Dn.more O da (by omega) (by omega) (fun i j h3 h4=>?_) lt);have:i=j:=by omega
   subst this;exact .refl O da _
end
section
variable {prog:Program} {w:World} {A:Around} {E:NT} {s:Shared} {κ:SortKind} {D:Keyed->Prop} {less:Keyed->Keyed->Bool} {a₀:Array Keyed} {st:SortSt} {lw:Nat}
theorem Up.put (O:Ord D less) {xs:Array Keyed} (d:aN D xs) {k l:Nat} (hk:k < xs.size) (hl:l<=k) (h:Up less xs k) (h1:∀i,i < l->fc less xs i k) (h2:∀i,l<=i->i < k->fc less xs k i):Up less (bubble xs k (k - l)) (k + 1):=by
 have at_:∀i,(bubble xs k (k - l))[i]?=if i=l then xs[k]? else if l < i/\i<=k then xs[i - 1]? else xs[i]?:=fun i=>by
  rw[getElem?_bubble hk (k - l) (by omega)];have e:k - (k - l)=l:=by omega
  rw[e]
 intro i j hij hj
 by_cases ei:i=l
 ·subst ei
  by_cases ej:j=i
  ·subst ej;exact(fc.refl O d k).congr (by rw[at_,Jc rfl]) (by rw[at_,Jc rfl])
  ·exact(h2 (j - 1) (by omega) (by omega)).congr (by rw[at_,Jc rfl]) (by rw[at_,I_ ej,Jc (by omega)])
 ·by_cases il:i < l
  ·have e1:(bubble xs k (k - l))[i]?=xs[i]?:=by rw[at_,I_ ei,I_ (by omega)]
   by_cases ej:j=l
   ·exact(h1 i il).congr e1 (by rw[at_,Jc ej])
   ·by_cases jl:j < l
    ·exact(h i j hij (by omega)).congr e1 (by rw[at_,I_ ej,I_ (by omega)])
    ·exact(h i (j - 1) (by omega) (by omega)).congr e1 (by rw[at_,I_ ej,Jc (by omega)])
  ·have e1:(bubble xs k (k - l))[i]?=xs[i - 1]?:=by rw[at_,I_ ei,Jc (by omega)]
   exact(h (i - 1) (j - 1) (by omega) (by omega)).congr e1 (by rw[at_,I_ (by omega),Jc (by omega)])
theorem pS (C:jU prog w A E s κ D less) (O:Ord D less) (hd:aN D a₀) (ok:Ok κ a₀ lw st) {n k0:Nat} (hs:n<=a₀.size) (h0:1<=k0) (hkn:k0<=n) (hu:Up less (arrOf st) k0) {Q:Bool->SortSt->Prop} (q:∀st',Ok κ a₀ lw st'->Up less (arrOf st') n->Q true st'):
  wpS (model prog w) A E s (binarySort' 0 n k0) Q st:=by
 rw[fA];have e0:max k0 1=k0:=by omega
 rw[e0];refine Jh (J3 (J6 (I:=fun x c st'=>Ok κ a₀ lw st'/\c.1=none/\Up less (arrOf st') x) (Q:=fun c st'=>Ok κ a₀ lw st'/\c.1=none/\Up less (arrOf st') n) ?_ (fun c st' h=>⟨h.1,h.2.1,by have:=h.2.2;rw[show max k0 n=n by omega]at this;exact this⟩) ⟨ok,rfl,hu⟩) ?_)
 ·rintro k c st' hk1 hk2 ⟨ok',h,hu'⟩
  have sz:=ok'.perm.size_eq;have da:aN D (arrOf st'):=hd.perm ok'.perm;unfold Ec
  refine Jh (J3 (J6 (I:=fun x c st2=>st2=st'/\c.1=none/\c.2.1<=c.2.2/\c.2.2<=k/\c.2.2 - c.2.1<=k - x/\(∀ i,i < c.2.1->fc less (arrOf st') i k)/\∀i,c.2.2<=i->i < k->fc less (arrOf st') k i)
   (Q:=fun c st2=>st2=st'/\c.1=none/\c.2.1<=k/\(∀ i,i < c.2.1->fc less (arrOf st') i k)/\∀i,c.2.1<=i->i < k->fc less (arrOf st') k i) ?_ ?_ ⟨rfl,rfl,JZ _,Jv _,by dsimp only;omega,fun i hi=>by dsimp only at hi;omega,fun i h1 h2=>by dsimp only at h1;omega⟩) ?_)
  ·rintro x ⟨c1,c2,c3⟩ st2 _ hx ⟨rfl,rfl,g1,g2,g3,g4,g5⟩
   unfold zF;dsimp only at g1 g2 g3 g4 g5 ⊢
   by_cases h4:c2 ≥ c3
   ·rw[Jc h4];have:c2=c3:=by omega
    subst this;exact Jn ⟨rfl,rfl,g2,g4,g5⟩
   ·rw[I_ h4,Kd,Kd];have m1:(c2 + c3) / 2 < c3:=by omega
    have m2:c2<=(c2 + c3) / 2:=by omega
    generalize hm:(c2 + c3) / 2=m at m1 m2 ⊢;refine Jh (dQ C hd ok' (by omega) (by omega) fun u v e1 e2=>?_);dsimp only;cases hb:less u v with
    | true=>
     rw[Jc rfl];have lm:fc less (arrOf st2) k m:=fo e1 e2 (O.rB u v (da.get e1) (da.get e2) hb);refine Jn ⟨rfl,rfl,m2,by dsimp only;omega,by dsimp only;omega,g4,fun i h1 h2=>?_⟩;exact lm.trans O da (by omega) (hu' m i h1 h2)
    | false=>
     rw[I_ (by decide)];have lm:fc less (arrOf st2) m k:=fo e2 e1 hb;refine Jn ⟨rfl,rfl,by dsimp only;omega,g2,by dsimp only;omega,fun i h1=>?_,g5⟩;dsimp only at h1;exact(hu' i m (by omega) (by omega)).trans O da (by omega) lm
  ·rintro⟨c1,c2,c3⟩ st2 ⟨rfl,rfl,g1,g2,g3,g4,g5⟩
   dsimp only at g1 g2 g3 g4 g5;have:c2=c3:=by omega
   subst this;exact⟨rfl,rfl,g2,g4,g5⟩
  ·rintro⟨c1,c2,c3⟩ st2 ⟨rfl,g1,g2,g3,g4⟩
   dsimp only at g1 g2 g3 g4;subst g1;rw[aP,Kd,Kd,moveDown'_eq];exact Jh (LV (Jn ⟨ok'.arr (bubble_perm _ _ _),rfl,hu'.put O da (by omega) g2 g3 g4⟩))
 ·rintro⟨c1,c2⟩ st' ⟨ok',h,hu'⟩
  dsimp only at h;subst h;rw[aP];exact Jn (q st' ok' hu')
theorem lY (C:jU prog w A E s κ D less) (O:Ord D less) (hd:aN D a₀) (ok:Ok κ a₀ 0 st) (hp:pendingOf st=#[]) (h2:1<=a₀.size) (h64:a₀.size < 64) {Q:Unit->SortSt->Prop} (q:∀st',(arrOf st').Perm a₀->failedOf st'=none->Up less (arrOf st') a₀.size->Q () st'):wpS (model prog w) A E s sortRuns' Q st:=by
 rw[ig];refine Jh (Lw ?_);dsimp only;rw[ok.perm.size_eq]
 have hmr:minRun' a₀.size a₀.size 0=a₀.size:=by
  obtain⟨f,hf⟩:∃f,a₀.size=f + 1:=⟨a₀.size - 1,by omega⟩;have:minRun' (f + 1) a₀.size 0=a₀.size:=by rw[minRun'_succ,Jc h64];rfl
  rwa[<-hf]at this
 rw[hmr]
 have mid:∀n st',Ok κ a₀ 0 st'->n=a₀.size->Up less (arrOf st') n->wpS (model prog w) A E s (mZ a₀.size 0 n) (fun r st2=>match r with
   | .done c=>False
   | .yield c=>c=(none,a₀.size)/\(arrOf st2).Perm a₀/\failedOf st2=none/\Up less (arrOf st2) a₀.size/\(pendingOf st2).size=1) st':=fun n st' ok' hn hu=>by
  subst hn
  have pe:pendingOf st'=#[]:=by
   have:=ok'.ch;cases e:(pendingOf st').toList with
   | nil=>exact Array.toList_eq_nil_iff.mp e
   | cons x r=>
    rw[e]at this;obtain⟨a,b,c⟩:=this;have:=c.le;omega
  unfold mZ;refine Jh (Lw ?_);rw[pe];show wpS _ _ _ _ (ja 0 a₀.size) _ _;unfold ja;refine Jh (LV (Jn ⟨by rw[Kd],ok'.perm,ok'.fail,hu,?_⟩));show((pendingOf st').push _).size=1;rw[pe];rfl
 refine Jh (J3 (J6
  (I:=fun x c st'=>(x=0/\c=(none,0)/\Ok κ a₀ 0 st')\/(1<=x/\c=(none,a₀.size)/\(arrOf st').Perm a₀/\failedOf st'=none/\Up less (arrOf st') a₀.size/\(pendingOf st').size=1))
  (Q:=fun c st'=>c=(none,a₀.size)/\(arrOf st').Perm a₀/\failedOf st'=none/\Up less (arrOf st') a₀.size/\(pendingOf st').size=1) ?_ ?_ (.inl ⟨rfl,rfl,ok⟩)) ?_)
 ·rintro x c st' _ hx (⟨rfl,rfl,ok'⟩ | ⟨hx1,rfl,h1,h2,h3,h4⟩)
  ·dsimp only;unfold oj;rw[I_ (by omega),NA];refine Jh (l0 C O hd ok' h2 (Jv _) fun n st2 ok2 n1 n2 hu=>?_);dsimp only
   by_cases h4:n < a₀.size
   ·rw[Jc h4,Nat.min_self];refine Jh (L8 (Kn ⟨rfl,?_⟩));refine Jh (pS C O hd ok2 (Jv _) n1 n2 hu fun st3 ok3 hu3=>?_);rw[I_ (by decide)];refine J3 (mid a₀.size st3 ok3 rfl hu3) fun r st4 hr=>?_;cases r with
    | done d=>exact hr.elim
    | yield d=>exact .inr ⟨by omega,hr⟩
   ·rw[I_ h4];refine J3 (mid n st2 ok2 (by omega) hu) fun r st4 hr=>?_;cases r with
    | done d=>exact hr.elim
    | yield d=>exact .inr ⟨by omega,hr⟩
  ·dsimp only;unfold oj;rw[Jc (Jv _)];exact Jn ⟨rfl,h1,h2,h3,h4⟩
 ·rintro c st' (⟨hx,_,_⟩ | ⟨_,h⟩)
  ·omega
  ·exact h
 ·rintro c st' ⟨rfl,h1,h2,h3,h4⟩
  rw[aP];refine Jh (J3 (J6 (I:=fun x c st2=>st2=st'/\c.1=none) (Q:=fun c st2=>st2=st'/\c.1=none) ?_ (fun _ _ h=>h) ⟨rfl,rfl⟩) ?_)
  ·rintro x c st2 _ _ ⟨rfl,h5⟩
   unfold rX;refine Jh (Lw ?_);rw[Jc (by omega)];exact Jn ⟨rfl,rfl⟩
  ·rintro⟨d1,d2⟩ st2 ⟨rfl,h5⟩
   dsimp only at h5;subst h5;rw[aP];exact Jn (q st2 h1 h2 h3)
end
open PySem PyProof.Rows PySem.SeqAt
open PySem.AutoSeq1 (wpAny_loadPart')
open PySem.MeetsSeq PySem.MeetsSeq2 PySem.MeetsSeq3 PySem.SeqRoads2
noncomputable def Gx (A:Around) (s:Shared) (y x:Value) (b:Bool):Prop:=
 ∀ (prog:Program) (w:World) (E:NT) (Q:NT),Q (.bool b) s->wpAny (model prog w) A (richCompare .Lt y x) Q E s
noncomputable def vU (e f:Nat->Bool) (fin:Bool):List Nat->Bool
 | []=>fin
 | i::r=>if e i=true then vU e f fin r else f i
theorem rQ (l b:Addr) (xs ys:NW) (n n2:Nat) (dd dd2:Option Addr) (sl sl2:Array (Option Value)) (e f:Nat->Bool):
  Meets (Builtin.«tuple.__lt__» ⟨[.ref l,.ref b],[]⟩)
   (fun A R s=>s.heap.get? l=some {cls:=.type "tuple",dict:=dd,data:=.seq xs n,slots:=sl}/\s.heap.get? b=some {cls:=.type "tuple",dict:=dd2,data:=.seq ys n2,slots:=sl2}/\
    (∀ j (h1:j < xs.size) (h2:j < ys.size),EqAt A.in1 s xs[j] ys[j] (e j)/\(e j=false->Gx A.in1 s xs[j] ys[j] (f j)))/\
    R (.ok (.ret (.bool (vU e f (decide (xs.size < ys.size)) (List.range (min xs.size ys.size)))))) s):=
 .of_wp fun prog w A R s h=>by
  obtain⟨hp,g,d,tk,os⟩:=s;obtain⟨hl,hb,he,h⟩:=h;have f2:=AutoSeq1.sub_tuple_tuple;have zl:(xs.toList.zip ys.toList).length=min xs.size ys.size:=by simp
  wp_walk using wpAny_loadPart' hl,wpAny_loadPart' hb,wpAny_forIn_list _ (fun rest c st=>c.1=none/\st=⟨hp,g,d,tk,os⟩/\∃i,rest=(xs.toList.zip ys.toList).drop i/\
   R (.ok (.ret (.bool (vU e f (decide (xs.size < ys.size)) ((List.range (min xs.size ys.size)).drop i))))) ⟨hp,g,d,tk,os⟩) _
  case turn=>
   rintro⟨y,x⟩ rest c st ⟨_,rfl,i,hz,hR⟩
   have lt:i < (xs.toList.zip ys.toList).length:=by
    by_cases q:i < (xs.toList.zip ys.toList).length
    ·exact q
    ·rw[MA (Nw q)]at hz;cases hz
   have h1:i < xs.size:=by omega
   have h2:i < ys.size:=by omega
   rw[La lt]at hz;injection hz with z1 z2
   rw[List.getElem_zip]at z1;injection z1 with z3 z4
   have z3:y=xs[i]:=by rw[z3];simp
   have z4:x=ys[i]:=by rw[z4];simp
   subst z3 z4
   have rg:(List.range (min xs.size ys.size)).drop i=i::(List.range (min xs.size ys.size)).drop (i + 1):=by
    rw[La (by rw[KJ];omega),List.getElem_range]
   rw[rg]at hR;unfold vU at hR;refine IZ ((he i h1 h2).1 prog w _ _ ?_);cases q:e i with
   | true=>
    rw[q,Jc rfl]at hR
    wp_walk
    exact⟨rfl,rfl,i + 1,z2,hR⟩
   | false=>
    rw[q,I_ (by decide)]at hR;rw[Jc (by rfl)];refine IZ (Kn ?_);refine IZ ((he i h1 h2).2 q prog w _ _ ?_)
    wp_walk
    exact⟨_,rfl,hR⟩
  case fin=>
   rintro⟨c1,c2⟩ st ⟨hc,rfl,i,hz,hR⟩
   simp only at hc;subst hc
   have ge:min xs.size ys.size<=i:=by
    have:=congrArg List.length hz;rw[Nv,zl]at this;simp at this;omega
   rw[MA (by rw[KJ];exact ge)]at hR
   wp_walk
   exact⟨_,rfl,hR⟩
  exact⟨rfl,rfl,0,rfl,h⟩
section
variable {prog:Program} {w:World} {A:Around} {E:NT} {s:Shared} {κ:SortKind}
theorem xI {a:Addr} {vs:List Value} {n:Nat} {P:PySem.Fin->Shared->Prop} {Post:SortSt->Prop} (ho:s.heap.get? a=some (seqObj "list" vs.toArray n)) (hz:vs.length<=sizeLine)
  (h0:vs.length < 2->∀st,arrOf st=pairsOf vs->Post st)
  (hk:2<=vs.length->∀h',(∀ b o,b ≠ a->s.heap.get? b=some o->h'.get? b=some o)->∀Q:SortKind->Shared->Prop,Q κ {s with heap:=h'}->wpAny (model prog w) A (keyKind' vs.toArray) Q E {s with heap:=h'})
  (hr:2<=vs.length->∀h',(∀ b o,b ≠ a->s.heap.get? b=some o->h'.get? b=some o)->∀ (Q:Unit->SortSt->Prop) st,Ok κ (pairsOf vs) 0 st->pendingOf st=#[]->(∀ st',(arrOf st').Perm (pairsOf vs)->failedOf st'=none->Post st'->Q () st')->wpS (model prog w) A E {s with heap:=h'} sortRuns' Q st)
  (h:∀st':SortSt,(arrOf st').Perm (pairsOf vs)->Post st'->P (.done (.ret .none)) {s with heap:=sortedHeap s.heap a vs ((arrOf st').map (·.2))}):
  wpAny (model prog w) A (Builtin.«list.sort» ⟨[.ref a],[]⟩) P E s:=by
 rw[list_sort_plain];have sz:vs.toArray.size=vs.length:=by simp
 have al:a < s.heap.objs.size:=Jk ho;obtain⟨e1,o1⟩:∃e1,(s.heap.update a (Obj.mapSeq fun _=>#[])).get? a=some (seqObj "list" #[] e1):=⟨_,get?_update_seq ho _⟩;refine IZ (listItems_at ho rfl (IZ (Ma ho rfl (IZ (seqEpoch_at o1 rfl (IZ (wpAny_newTuple (IZ (L_ (JQ ?_) (JZ _))) (by rw[Jz,sz];exact hz))))) (by rw[sz];exact hz) (JZ _))));generalize hg:((s.heap.update a (Obj.mapSeq fun _=>#[])).push (seqObj "tuple" vs.toArray 0)).push (seqObj "list" #[] 0)=h6
 have o6:h6.get? a=some (seqObj "list" #[] e1):=by
  rw[<-hg];exact Jd _ (Jd _ o1)
 have k6:∀b o,b ≠ a->s.heap.get? b=some o->h6.get? b=some o:=fun b o hb e=>by
  rw[<-hg];exact Jd _ (Jd _ ((JR _ _ (J5 hb)).trans e))
 have fin:∀st':SortSt,(arrOf st').Perm (pairsOf vs)->failedOf st'=none->Post st'->wpAny (model prog w) A (do
   let touched:=(<-seqEpoch a) != e1
   Builtin.List.listUpdate (.ref a) fun _=>(arrOf st').map (·.2)
   if let some e:=failedOf st' then rule "list.sort.comparison-raised";throw e
   if touched then rule "list.sort.modified";raiseError "ValueError" "list modified during sort"
   ret .none) P E {s with heap:=h6}:=fun st' p1 p2 p3=>by
  refine IZ (seqEpoch_at o6 rfl (IZ (Ma o6 rfl ?_ (JZ _) ?_)))
  ·rw[p2];simp only[Mu,JT,KA];have:=h st' p1 p3;unfold sortedHeap at this;rw[hg]at this;exact Ja this
  ·rw[Array.size_map,p1.size_eq,pairsOf_size];exact Nn hz
 show wpAny (model prog w) A _ P E {s with heap:=h6};dsimp only
 by_cases h2:vs.toArray.size < 2
 ·rw[Jc h2,Jc h2];refine IZ (Ja ?_);rw[StateT.run_pure];refine IZ (Ja ?_);exact fin (SortSt.mk' general' (vs.toArray.zip vs.toArray) #[] 7 none) (MQ _) rfl (h0 (by omega) _ rfl)
 ·rw[I_ h2,I_ h2];refine IZ (hk (by omega) h6 k6 _ ?_);refine IZ (KQ (hr (by omega) h6 k6 (fun _ st'=>(arrOf st').Perm (pairsOf vs)/\failedOf st'=none/\Post st') (SortSt.mk' κ (vs.toArray.zip vs.toArray) #[] 7 none) ⟨MQ _,rfl,rfl,rfl⟩ rfl fun st' a1 a2 a3=>⟨a1,a2,a3⟩) ?_ fun _ _ e=>e)
  rintro⟨⟨⟩,st'⟩ s' ⟨rfl,q1,q2,q3⟩
  exact fin st' q1 q2 q3
theorem kE {l:Addr} {vs:List Value} {Q:NT} {Post:SortSt->Prop} (hl:s.heap.IsList l vs.toArray) (hz:vs.length<=sizeLine)
  (h0:vs.length < 2->∀st,arrOf st=pairsOf vs->Post st)
  (hk:2<=vs.length->∀h',(∀ b o,s.heap.get? b=some o->h'.get? b=some o)->∀Q:SortKind->Shared->Prop,Q κ {s with heap:=h'}->wpAny (model prog w) A.in1.in1 (keyKind' vs.toArray) Q E {s with heap:=h'})
  (hr:2<=vs.length->∀h',(∀ b o,s.heap.get? b=some o->h'.get? b=some o)->∀ (Q:Unit->SortSt->Prop) st,Ok κ (pairsOf vs) 0 st->pendingOf st=#[]->(∀ st',(arrOf st').Perm (pairsOf vs)->failedOf st'=none->Post st'->Q () st')->wpS (model prog w) A.in1.in1 E {s with heap:=h'} sortRuns' Q st)
  (h:∀st':SortSt,(arrOf st').Perm (pairsOf vs)->Post st'->Q (.ref (s.heap.objs.size + 1)) {s with heap:=sortedAll s.heap vs ((arrOf st').map (·.2))}):
  wpAny (model prog w) A (call (.builtin "sorted") [.ref l]) Q E s:=by
 refine Mi kind_sorted plain_sorted entry_sorted (args_sorted1 _) ?_;unfold Builtin.«sorted»;refine IZ (m:=checkCount "sorted" 1 1 _) (Ja (IZ (collect_list hl (IZ (L_ ?_ hz)))));have z1:((s.heap.push (seqObj "list" #[] 0)).update s.heap.objs.size (Obj.mapSeq (·++vs.toArray))).objs.size=s.heap.objs.size + 1:=by rw[NB,size_push']
 generalize hG:((s.heap.push (seqObj "list" #[] 0)).update s.heap.objs.size (Obj.mapSeq (·++vs.toArray))).push (seqObj "list" vs.toArray 0)=G;have oL:G.get? (s.heap.objs.size + 1)=some (seqObj "list" vs.toArray 0):=by rw[<-hG,<-z1];exact Jr _ rfl
 have kG:∀b o,s.heap.get? b=some o->G.get? b=some o:=fun b o e=>by
  rw[<-hG];have hb:=Jk e;exact Jd _ ((JR _ _ (KG hb)).trans (Jd _ e))
 have ne:∀b o,s.heap.get? b=some o->b ≠ s.heap.objs.size + 1:=fun b o e=>Js (JM (Jk e));show wpAny _ _ _ _ _ {s with heap:=G};rw[z1];refine IZ (JQ (Kc M3 ⟨_,oL,rfl⟩ MM (xI (s:={s with heap:=G}) (κ:=κ) (Post:=Post) oL hz h0 (fun z h' k=>hk z h' fun b o e=>k b o (ne b o e) (kG b o e)) (fun z h' k=>hr z h' fun b o e=>k b o (ne b o e) (kG b o e)) fun st' a1 a2=>⟨_,rfl,Ja ⟨_,rfl,?_⟩⟩) (args_list_sort _)));have:=h st' a1 a2;unfold sortedAll at this;rw[hG]at this;exact this
end
end Tm
namespace Sw
open PySem PySem.Spec PyProof.Rows L2
theorem cW {M:Mo} {H:Hp} {p:Addr} {a b:Str} (h:bC M H (.ref p)=some (a,b)):rd M H p=some (.tup [.str a,.str b]):=by
 unfold bC at h;dsimp only at h;split at h
 ·rename_i e;cases h;exact e
 ·cases h
noncomputable def lR:Value->Addr
 | .ref a=>a
 | _=>0
section
variable {X:Cx} {M:Mo} {pins:NU} {σ:L2.St} {H:Hp} {s:Shared}
theorem dW (mo:ax X.K M) (I:Inv X pins σ H s) {p:Addr} {a b:Str} (h:rd M H p=some (.tup [.str a,.str b])):∃o n t u,s.heap.get? p=some o/\o.cls=.type "tuple" /\o.data=.seq #[.str a t,.str b u] n:=by
 obtain⟨au,rv,⟨o,ho,hc,n,hd⟩,_⟩:=I.tuple (bO mo h);cases rv with
 | cons r1 rv=>
  cases rv with
  | cons r2 rv=>
   cases rv
   obtain⟨t,rfl⟩:=r1;obtain⟨u,rfl⟩:=r2;exact⟨o,n,t,u,ho,hc,hd⟩
noncomputable def kk (M:Mo) (H:Hp) (v:Value):Str × Str:=(bC M H (.ref (lR v))).getD (Str.empty,Str.empty)
noncomputable def Ae (M:Mo) (H:Hp) (k:Keyed):Prop:=∃p ab,k.1=.ref p/\bC M H (.ref p)=some ab
theorem CF {M:Mo} {H:Hp} {p:Addr} {ab:Str × Str} (h:bC M H (.ref p)=some ab):kk M H (.ref p)=ab:=by
 unfold kk lR;rw[h];rfl
theorem nO {A:Around} {s:Shared} {a b:Str} {t u:Tok} {prog:Program} {w:World} {E:NT} {Q:Bool->Shared->Prop} (q:Q (a == b) s):wpAny (model prog w) A (eqBool (.str a t) (.str b u)) Q E s:=Ml a t b u prog w E Q q
theorem yT {prog:Program} {w:World} {A:Around} {s:Shared} {a b c d:Str} {t u t' u':Tok} {Q:Bool->Shared->Prop} (q:Q (i5 (a,b) (c,d)) s):
  PySem.W.KatLex prog w A true false Q [(.str a t,.str c t'),(.str b u,.str d u')] 0 s:=by
 refine ME (nO (M6 (fun e=>MR ?_) fun e=>M7 ?_))
 ·have e:a=c:=by simpa using e
  unfold i5 at q;rw[Jc e]at q;refine ME (nO (M6 (fun e2=>MR (PySem.W.kat_nil ?_)) fun e2=>M7 ?_))
  ·have e2:b=d:=by simpa using e2
   subst e2;have:decide (b.cps.toList < b.cps.toList)=false:=JK (KS _);dsimp only at q;rw[this]at q;exact q
  ·show wpAny _ _ (oneLt' false _ _) _ _ _;exact PySem.W.kat_one _ _ (M4 q)
 ·have e:a ≠ c:=by simpa using e
  unfold i5 at q;rw[I_ e]at q;show wpAny _ _ (oneLt' true _ _) _ _ _;exact oneLt_str q
theorem wK (mo:ax X.K M) (I:Inv X pins σ H s) (A':Around) (E':NT):Tm.jU X.prog X.w A' E' s (tuples' true) (Ae M H) (fun x y=>i5 (kk M H x.1) (kk M H y.1)):=by
 refine⟨fun st x y Q hk dx dy q=>?_⟩;obtain⟨p,⟨a,b⟩,ex,hp⟩:=dx;obtain⟨r,⟨c,d⟩,ey,hr⟩:=dy;obtain⟨o1,n1,t1,u1,g1,c1,d1⟩:=dW mo I (cW hp);obtain⟨o2,n2,t2,u2,g2,c2,d2⟩:=dW mo I (cW hr);rw[lt'_eq];refine Jh (Lw ?_);rw[hk,ex,ey];rw[ex,ey,CF hp,CF hr]at q;refine Jh (L8 (Lj (PySem.W.kat_lt g1 d1 g2 d2 ?_)));exact yT ⟨rfl,Jn q⟩
theorem BH (x:Str × Str):i5 x x=false:=by
 unfold i5;rw[Jc rfl];exact JK (KS _)
theorem AE {a b:Str} (h1:¬a.cps.toList < b.cps.toList) (h2:¬b.cps.toList < a.cps.toList):a=b:=by
 have e:a.cps.toList=b.cps.toList:=NC (LH.mp h2) (LH.mp h1);obtain⟨x⟩:=a;obtain⟨y⟩:=b
 congr 1
 exact ND.mp e
theorem yV {x y:Str × Str} (h:i5 x y=true):i5 y x=false:=by
 unfold i5 at h ⊢
 by_cases e:x.1=y.1
 ·rw[Jc e]at h;rw[Jc e.symm];have h:=Kj h;exact JK fun z=>KS _ (MC h z)
 ·rw[I_ e]at h;rw[I_ fun z=>e z.symm];have h:=Kj h;exact JK fun z=>KS _ (MC h z)
theorem DV {x y z:Str × Str} (h:i5 y x=false) (k:i5 z y=false):i5 z x=false:=by
 unfold i5 at h k ⊢;have le:∀ {a b c:List Nat},¬b < a->¬c < b->¬c < a:=fun h1 h2=>LH.mpr (List.le_trans (LH.mp h1) (LH.mp h2))
 by_cases e1:y.1=x.1
 ·rw[Jc e1]at h
  by_cases e2:z.1=y.1
  ·rw[Jc e2]at k;rw[Jc (e2.trans e1)];exact JK (le (LW h) (LW k))
  ·rw[I_ e2]at k;rw[I_ fun q=>e2 (q.trans e1.symm),<-e1];exact k
 ·rw[I_ e1]at h
  by_cases e2:z.1=y.1
  ·rw[I_ fun q=>e1 (e2.symm.trans q),e2];exact h
  ·rw[I_ e2]at k;have h:=LW h;have k:=LW k
   by_cases e3:z.1=x.1
   ·exfalso;rw[e3]at k;exact e1 (AE h k)
   ·rw[I_ e3];exact JK (le h k)
theorem nB:Tm.Ord (Ae M H) (fun x y=>i5 (kk M H x.1) (kk M H y.1)):=⟨fun x y _ _ h=>yV h,fun x y z _ _ _ h k=>DV h k⟩
theorem ng:∀ {xs:List V} {us:List Value},Vals xs us->(∀ x ∈ xs,∃p,x=.ref p)->us=xs.map (fun x=>match x with | .ref p=>Value.ref p | _=>Value.none)
 | _,_,.nil,_=>rfl
 | x::xs,_,.cons r t,h=>by
  obtain⟨p,rfl⟩:=h x Jj;cases r
  rw[ng t fun y hy=>h y (Ji _ hy)];rfl
noncomputable def eD (v:Value):V:=.ref (lR v)
theorem i7:∀ {us:List Value},(∀ u ∈ us,∃p,u=Value.ref p)->Vals (us.map eD) us
 | [],_=>.nil
 | u::us,h=>by
  obtain⟨p,rfl⟩:=h u Jj;exact .cons rfl (i7 fun y hy=>h y (Ji _ hy))
theorem yR {xs:List V} (h:∀x ∈ xs,∃p,x=.ref p):(xs.map (fun x=>match x with | .ref p=>Value.ref p | _=>Value.none)).map eD=xs:=by
 rw[JL];refine(Kv fun x hx=>?_).trans (NO _);obtain⟨p,rfl⟩:=h x hx;rfl
theorem ud {xs:List V} {us:List Value} (r:Vals xs us) (h:∀x ∈ xs,∃p,x=.ref p):(∀ u ∈ us,∃p,u=Value.ref p)/\us.map eD=xs:=by
 rw[ng r h];refine⟨fun u hu=>?_,yR h⟩;obtain⟨x,hx,rfl⟩:=Jf.mp hu;obtain⟨p,rfl⟩:=h x hx;exact⟨p,rfl⟩
theorem qq {us:List Value} (h:∀u ∈ us,∃p,u=Value.ref p) {arr:Array Keyed} (p:arr.Perm (pairsOf us)):(arr.map (·.2)).toList.Perm us/\∀u ∈ (arr.map (·.2)).toList,∃p,u=Value.ref p:=by
 have hl:arr.toList.Perm (us.zip us):=by rw[<-pairsOf_toList];exact K5.mp p
 have e:(arr.map (·.2)).toList.Perm us:=by
  rw[Array.toList_map];have z:=hl.map (·.2);rw[List.map_snd_zip (Jv _)]at z;exact z
 exact⟨e,fun u hu=>h u (e.mem_iff.mp hu)⟩
theorem oV (mo:ax X.K M) (I:Inv X pins σ H s):∀ {us:List Value},(∀ u ∈ us,∃p o n xs f,u=Value.ref p/\s.heap.get? p=some o/\o.cls=.type "tuple" /\o.data=.seq xs n/\xs[0]?=some f/\∃T,f=T)->∃fs,PySem.W.KatTups s.heap us fs/\fs.length=us.length/\∀f ∈ fs,∃u ∈ us,∃p o n xs,u=Value.ref p/\s.heap.get? p=some o/\o.data=.seq xs n/\xs[0]?=some f
 | [],_=>⟨[],.nil,rfl,fun f hf=>by cases hf⟩
 | u::us,h=>by
  obtain⟨p,o,n,xs,f,rfl,h1,h2,h3,h4,_⟩:=h u Jj;obtain⟨fs,k1,k2,k3⟩:=oV mo I (us:=us) fun y hy=>h y (Ji _ hy);refine⟨f::fs,.cons h1 h2 h3 h4 k1,by rw[JW,JW,k2],fun g hg=>?_⟩;rcases Jq.mp hg with rfl | hg
  ·exact⟨_,Jj,p,o,n,xs,rfl,h1,h3,h4⟩
  ·obtain⟨u,hu,r⟩:=k3 g hg;exact⟨u,Ji _ hu,r⟩
end
section
variable {X:Cx} {M:Mo} {pins:NU} {σ:L2.St} {H:Hp} {s:Shared}
theorem vF {xs:List V} (h:xs.all (fun x=>(bC M H x).isSome)=true):∀x ∈ xs,∃p ab,x=.ref p/\bC M H (.ref p)=some ab:=fun x hx=>by
 have z:=Lm.mp h x hx;obtain⟨ab,e⟩:=LK.mp z;cases x with
 | ref p=>exact⟨p,ab,rfl,e⟩
 | _=>cases e
theorem nT {us:List Value} {arr:Array Keyed} (p:arr.Perm (pairsOf us)) {k:Keyed} (h:k ∈ arr.toList):k.1=k.2/\k.1 ∈ us:=by
 have hl:arr.toList.Perm (us.zip us):=by rw[<-pairsOf_toList];exact K5.mp p
 exact mem_zip_self (hl.mem_iff.mp h)
theorem lP {us:List Value} {D:Keyed->Prop} (h:∀u ∈ us,∀v,D (u,v)):Tm.aN D (pairsOf us):=fun k hk=>by
 rw[pairsOf_toList]at hk;obtain⟨a,b⟩:=k;exact h a (mem_zip_self hk).2 b
theorem xJ (mo:ax X.K M) (I:Inv X pins σ H s) {p:Addr} {xs:List V} {Q:VK} (hq:jv X.K H p xs) (all:xs.all (fun x=>(bC M H x).isSome)=true) (h64:xs.length < 64)
  (h:∀ws l,List.Perm ws xs->ws.Pairwise (fun x y=>∀a b,bC M H x=some a->bC M H y=some b->i5 b a=false)->H l=none->M l=none->Q (.ref l) (upd H l (.lst ws))):
  wpAny (model X.prog X.w) X.A (call (.builtin "sorted") [.ref p]) (EP X pins σ Q) X.xe s:=by
 obtain⟨au,rv,pl,hz⟩:=I.list hq;have pr:=vF all;obtain⟨ru,eb⟩:=ud rv fun x hx=>let ⟨p,_,e,_⟩:=pr x hx;⟨p,e⟩
 have ln:au.length=xs.length:=by rw[<-eb,Jb]
 have us:∀u ∈ au,∃p ab,u=Value.ref p/\bC M H (.ref p)=some ab:=fun u hu=>by
  obtain⟨q,rfl⟩:=ru u hu;have:eD (Value.ref q) ∈ xs:=by rw[<-eb];exact Jf.mpr ⟨_,hu,rfl⟩
  obtain⟨p',ab,e,k⟩:=pr _ this;exact⟨q,ab,rfl,by rw[<-(show V.ref q=V.ref p' from e)]at k;exact k⟩
 have ad:Tm.aN (Ae M H) (pairsOf au):=lP fun u hu v=>by
  obtain⟨q,ab,rfl,k⟩:=us u hu;exact⟨q,ab,rfl,k⟩
 refine Tm.kE (κ:=tuples' true) (Post:=fun st=>Tm.Up (fun x y=>i5 (kk M H x.1) (kk M H y.1)) (arrOf st) (pairsOf au).size) pl.isList (by rw[ln];exact hz) (fun h2 st e=>?_) (fun _ h' k Q' q=>?_) (fun h2 h' k Q' st ok hp q=>?_) fun st pm up=>?_
 ·rw[e];intro i j h3 h4;rw[pairsOf_size]at h4;have:i=j:=by omega
  subst this;exact Tm.fc.refl nB ad i
 ·have I':Inv X pins σ H {s with heap:=h'}:=I.kept (t':=s.toks) k
  obtain⟨fs,k1,k2,k3⟩:=oV mo I' (us:=au) fun u hu=>by
   obtain⟨q,⟨a,b⟩,rfl,e⟩:=us u hu;obtain⟨o,n,t,v,g1,g2,g3⟩:=dW mo I' (cW e);exact⟨q,o,n,_,_,rfl,g1,g2,g3,rfl,_,rfl⟩
  refine PySem.W.kat_kind (T:=.type "str") k1 (by omega) (fun f hf=>?_) rfl q;obtain⟨u,hu,q,o,n,zs,rfl,g1,g2,g3⟩:=k3 f hf;obtain⟨q',⟨a,b⟩,e1,e2⟩:=us _ hu;cases e1
  obtain⟨o',n',t,v,g4,g5,g6⟩:=dW mo I' (cW e2);rw[g1]at g4;cases g4
  rw[g2]at g6;cases g6
  have g3:some (Value.str a t)=some f:=g3;cases g3
  exact .now
 ·have I':Inv X pins σ H {s with heap:=h'}:=I.kept (t':=s.toks) k;exact Tm.lY (wK mo I' _ _) nB ad ok hp (by rw[pairsOf_size];omega) (by rw[pairsOf_size];omega) q
 ·obtain⟨o1,o2⟩:=qq ru pm;obtain⟨c,hc⟩:=sortedAll_at s.heap au ((arrOf st).map (·.2));have wp:((((arrOf st).map (·.2)).toList).map eD).Perm xs:=by rw[<-eb];exact o1.map eD
  refine dX mo I (fun b o q=>sortedAll_old q) rfl rfl (Kq _) hc (i7 o2) (by rw[wp.length_eq];exact hz) (h _ _ wp ?_);rw[Ku];intro i j hi hj hij a b ha hb;have hi':i < (arrOf st).size:=by simpa using hi
  have hj':j < (arrOf st).size:=by simpa using hj
  have ei:((((arrOf st).map (·.2)).toList).map eD)[i]=.ref (lR (arrOf st)[i].2):=by simp[eD]
  have ej:((((arrOf st).map (·.2)).toList).map eD)[j]=.ref (lR (arrOf st)[j].2):=by simp[eD]
  rw[ei]at ha;rw[ej]at hb;have si:=(nT pm (k:=(arrOf st)[i]) (by simp)).1;have sj:=(nT pm (k:=(arrOf st)[j]) (by simp)).1;have le:=up i j (Lo hij) (by rw[<-pm.size_eq];exact hj') _ _ (L6 (arrOf st) i hi') (L6 (arrOf st) j hj');dsimp only at le;unfold kk at le;rw[si,sj,ha,hb]at le;exact le
noncomputable def dk (M:Mo) (H:Hp) (v:Value):Int × Str × Str:=match rd M H (lR v)with
 | some (.tup [.int i,r])=>(i,(bC M H r).getD (Str.empty,Str.empty))
 | _=>(0,Str.empty,Str.empty)
noncomputable def CV (M:Mo) (H:Hp) (k:Keyed):Prop:=∃p i r ab,k.1=.ref p/\rd M H p=some (.tup [.int i,.ref r])/\bC M H (.ref r)=some ab
theorem CM {p:Addr} {i:Int} {r:Addr} {ab:Str × Str} (h:rd M H p=some (.tup [.int i,.ref r])) (k:bC M H (.ref r)=some ab):dk M H (.ref p)=(i,ab):=by
 unfold dk lR;dsimp only;rw[h];dsimp only;rw[k];rfl
noncomputable def Hs (x y:Int × Str × Str):Bool:=if x.1=y.1 then i5 x.2 y.2 else decide (x.1 < y.1)
theorem iP (mo:ax X.K M) (I:Inv X pins σ H s) {p r:Addr} {i:Int} (h:rd M H p=some (.tup [.int i,.ref r])):∃o n t,s.heap.get? p=some o/\o.cls=.type "tuple" /\o.data=.seq #[.int i t,.ref r] n:=by
 obtain⟨au,rv,⟨o,ho,hc,n,hd⟩,_⟩:=I.tuple (bO mo h);cases rv with
 | cons r1 rv=>
  cases rv with
  | cons r2 rv=>
   cases rv
   obtain⟨t,rfl⟩:=r1;cases r2
   exact⟨o,n,t,ho,hc,hd⟩
theorem sN (mo:ax X.K M) (I:Inv X pins σ H s) {p r:Addr} {ab cd:Str × Str} (hp:bC M H (.ref p)=some ab) (hr:bC M H (.ref r)=some cd) {A:Around} (hu:A.units < cLine):Tm.Gx A s (.ref p) (.ref r) (i5 ab cd):=fun prog w E Q q=>by
 obtain⟨a,b⟩:=ab;obtain⟨c,d⟩:=cd;obtain⟨⟨c1,dd1,da1,sl1⟩,n1,t1,u1,g1,e1,d1⟩:=dW mo I (cW hp);obtain⟨⟨c2,dd2,da2,sl2⟩,n2,t2,u2,g2,e2,d2⟩:=dW mo I (cW hr);simp only at e1 d1 e2 d2;subst e1 d1 e2 d2
 let e:Nat->Bool:=fun j=>if j=0 then a == c else b == d
 let f:Nat->Bool:=fun j=>if j=0 then decide (a.cps.toList < c.cps.toList)else decide (b.cps.toList < d.cps.toList)
 have lx:Tm.vU e f (decide ((#[Value.str a t1,Value.str b u1]:NW).size < (#[Value.str c t2,Value.str d u2]:NW).size)) (List.range (min (#[Value.str a t1,Value.str b u1]:NW).size (#[Value.str c t2,Value.str d u2]:NW).size))=i5 (a,b) (c,d):=by
  show Tm.vU e f false [0,1]=_;unfold i5;show(if(a == c)=true then(if(b == d)=true then false else decide (b.cps.toList < d.cps.toList))else decide (a.cps.toList < c.cps.toList))=_
  by_cases h1:a=c
  ·rw[Jc (by simp[h1]),Jc h1]
   by_cases h2:b=d
   ·rw[Jc (by simp[h2])];subst h2;exact(JK (KS _)).symm
   ·rw[I_ (by simp[h2])]
  ·rw[I_ (by simp[h1]),I_ h1]
 refine richCompare_meets_room (op:=.Lt) ⟨_,g1,rfl⟩ ⟨_,g2,rfl⟩ F.slot_tuple_lt F.entry_tuple_lt (F.args_tuple_lt_2 _ _) (Tm.rQ p r _ _ n1 n2 dd1 dd2 sl1 sl2 e f) ⟨g1,g2,fun j h1 h2=>?_,?_⟩ hu
 ·match j,h1,h2 with
  | 0,_,_=>exact⟨Ml a t1 c t2,fun _ prog w E Q q=>M4 q⟩
  | 1,_,_=>exact⟨Ml b u1 d u2,fun _ prog w E Q q=>M4 q⟩
  | n + 2,h1,_=>exact absurd h1 (by simp)
 ·rw[lx];exact⟨(fun x=>nomatch x),q⟩
theorem wL (mo:ax X.K M) (I:Inv X pins σ H s) (A':Around) (E':NT) (hu:A'.units + 8 < cLine):Tm.jU X.prog X.w A' E' s (tuples' true) (CV M H) (fun x y=>Hs (dk M H x.1) (dk M H y.1)):=by
 refine⟨fun st x y Q hk dx dy q=>?_⟩;obtain⟨p,i,r,ab,ex,hp,hr⟩:=dx;obtain⟨p',j,r',cd,ey,hp',hr'⟩:=dy;obtain⟨o1,n1,t1,g1,c1,d1⟩:=iP mo I hp;obtain⟨o2,n2,t2,g2,c2,d2⟩:=iP mo I hp';rw[lt'_eq];refine Jh (Lw ?_);rw[hk,ex,ey];rw[ex,ey,CM hp hr,CM hp' hr']at q;refine Jh (L8 (Lj (PySem.W.kat_lt g1 d1 g2 d2 ?_)));show PySem.W.KatLex _ _ _ true false _ [(.int i t1,.int j t2),(.ref r,.ref r')] 0 _;refine ME (SeqAt.EqAt.int_int i t1 j t2 _ _ _ _ (M6 (fun e=>MR ?_) fun e=>M7 ?_))
 ·have e:i=j:=by simpa using e
  unfold Hs at q;rw[Jc e]at q;obtain⟨a,b⟩:=ab;obtain⟨c,d⟩:=cd
  have da:∀ {z:Addr} {a b:Str},bC M H (.ref z)=some (a,b)->data M H 1 (.ref z)=some (.tuple [.str a,.str b]):=fun h=>by
   unfold data;rw[cW h];rfl
  refine ME (jk mo I 1 A' (.ref r) (.ref r') _ _ _ _ (by omega) rfl rfl (da hr) (da hr') _ _ _ _ (M6 (fun e2=>MR (PySem.W.kat_nil ?_)) fun e2=>M7 ?_))
  ·have e2:((a == c) && ((b == d) && true))=true:=e2;simp only[Bool.and_true,JU,LC]at e2;obtain⟨rfl,rfl⟩:=e2;dsimp only at q;rw[BH]at q;exact⟨rfl,Jn q⟩
  ·show wpAny _ _ (oneLt' false _ _) _ _ _;refine PySem.W.kat_one _ _ (sN mo I hr hr' (by omega) _ _ _ _ ?_);exact⟨rfl,Jn q⟩
 ·have e:i ≠ j:=by simpa using e
  unfold Hs at q;rw[I_ e]at q;show wpAny _ _ (oneLt' true _ _) _ _ _;exact oneLt_int ⟨rfl,Jn q⟩
theorem wF {xs:List V} (h:xs.all (qZ M H)=true):∀x ∈ xs,∃p i r ab,x=.ref p/\rd M H p=some (.tup [.int i,.ref r])/\bC M H (.ref r)=some ab:=fun x hx=>by
 have z:=Lm.mp h x hx;cases x with
 | ref p=>
  unfold qZ at z;dsimp only at z;split at z
  ·rename_i i r e;cases r with
   | ref q=>
    obtain⟨ab,k⟩:=LK.mp z;exact⟨p,i,q,ab,rfl,e,k⟩
   | _=>cases z
  ·cases z
 | _=>cases z
theorem xK (mo:ax X.K M) (hu:X.A.units + 64 < cLine) (I:Inv X pins σ H s) {p:Addr} {xs:List V} {Q:VK} (hq:jv X.K H p xs) (all:xs.all (qZ M H)=true)
  (h:∀ws l,List.Perm ws xs->H l=none->M l=none->Q (.ref l) (upd H l (.lst ws))):
  wpAny (model X.prog X.w) X.A (call (.builtin "sorted") [.ref p]) (EP X pins σ Q) X.xe s:=by
 obtain⟨au,rv,pl,hz⟩:=I.list hq;have pr:=wF all;obtain⟨ru,eb⟩:=ud rv fun x hx=>let ⟨p,_,_,_,e,_⟩:=pr x hx;⟨p,e⟩
 have ln:au.length=xs.length:=by rw[<-eb,Jb]
 have us:∀u ∈ au,∃p i r ab,u=Value.ref p/\rd M H p=some (.tup [.int i,.ref r])/\bC M H (.ref r)=some ab:=fun u hu=>by
  obtain⟨q,rfl⟩:=ru u hu;have:eD (Value.ref q) ∈ xs:=by rw[<-eb];exact Jf.mpr ⟨_,hu,rfl⟩
  obtain⟨p',i,r,ab,e,k,k2⟩:=pr _ this;cases (show V.ref q=V.ref p' from e)
  exact⟨q,i,r,ab,rfl,k,k2⟩
 have ad:Tm.aN (CV M H) (pairsOf au):=lP fun u hu v=>by
  obtain⟨q,i,r,ab,rfl,k,k2⟩:=us u hu;exact⟨q,i,r,ab,rfl,k,k2⟩
 refine Tm.kE (κ:=tuples' true) (Post:=fun st=>True) pl.isList (by rw[ln];exact hz) (fun h2 st e=>trivial) (fun _ h' k Q' q=>?_) (fun h2 h' k Q' st ok hp q=>?_) fun st pm up=>?_
 ·have I':Inv X pins σ H {s with heap:=h'}:=I.kept (t':=s.toks) k
  obtain⟨fs,k1,k2,k3⟩:=oV mo I' (us:=au) fun u hu=>by
   obtain⟨q,i,r,ab,rfl,e,_⟩:=us u hu;obtain⟨o,n,t,g1,g2,g3⟩:=iP mo I' e;exact⟨q,o,n,_,_,rfl,g1,g2,g3,rfl,_,rfl⟩
  refine PySem.W.kat_kind (T:=.type "int") k1 (by omega) (fun f hf=>?_) rfl q;obtain⟨u,hu,q,o,n,zs,rfl,g1,g2,g3⟩:=k3 f hf;obtain⟨q',i,r,ab,e1,e2,_⟩:=us _ hu;cases e1
  obtain⟨o',n',t,g4,g5,g6⟩:=iP mo I' e2;rw[g1]at g4;cases g4
  rw[g2]at g6;cases g6
  have g3:some (Value.int i t)=some f:=g3;cases g3
  exact .now
 ·have I':Inv X pins σ H {s with heap:=h'}:=I.kept (t':=s.toks) k;exact Tm.lZ (wL mo I' _ _ (by show X.A.units + 1 + 1 + 8 < cLine;omega)) ad ok fun st' a1 a2=>q st' a1 a2 trivial
 ·obtain⟨o1,o2⟩:=qq ru pm;obtain⟨c,hc⟩:=sortedAll_at s.heap au ((arrOf st).map (·.2));have wp:((((arrOf st).map (·.2)).toList).map eD).Perm xs:=by rw[<-eb];exact o1.map eD
  exact dX mo I (fun b o q=>sortedAll_old q) rfl rfl (Kq _) hc (i7 o2) (by rw[wp.length_eq];exact hz) (h _ _ wp)
end
section
variable {X:Cx} {M:Mo} {pins:NU} {σ:L2.St} {H:Hp} {s:Shared} {p:Addr}
theorem C7 (mo:ax X.K M) (hc:X.calm=true) {xs:List V} {ns:List Int} {Q:VK} (I:Inv X pins σ H s) (hq:jv X.K H p xs) (e:allM CQ xs=some ns) (h:Q (.int ns.sum) H):
  wpAny (model X.prog X.w) X.A (call (.builtin "sum") [.ref p]) (EP X pins σ Q) X.xe s:=by
 obtain⟨au,rv,pl,hz⟩:=I.list hq;have hs:=nJ rv e;obtain⟨ys,ey⟩:=hs.allInts.items
 have hn:ys.toList.map (·.1)=ns:=by
  have a:=hs.numsOf;have b:=nums_intItems (xs:=ys);rw[<-ey]at b;exact b.symm.trans a
 have pl':=pl.isList;rw[ey]at pl';refine sum_intListG (I.ok.hd hc) pl' fun h' tk t' hk=>?_;rw[preSum_eq,K4 (by simp)];refine⟨.int ns.sum,H,I.kept hk,⟨t',?_⟩,h⟩;rw[<-hn]
noncomputable def Gj:B2->String
 | .sortT=> "sorted" | .sortM=> "sorted" | .sum=> "sum"
theorem Gh (mo:ax X.K M) (hc:X.calm=true) (hu:X.A.units + 64 < cLine) (f:B2) {x:V} {v:Value} {Q:VK} (I:Inv X pins σ H s) (r:RelV x v) (h:EU M f x H Q):
  wpAny (model X.prog X.w) X.A (call (.builtin (Gj f)) [v]) (EP X pins σ Q) X.xe s:=by
 unfold EU at h;cases x with
 | ref q=>
  cases (show v=Value.ref q from r)
  dsimp only at h;split at h
  ·rename_i e;have hq:=bf mo e;cases f with
   | sortT=>exact xJ mo I hq h.1.2 h.1.1 h.2
   | sortM=>exact xK mo hu I hq h.1 h.2
   | sum=>
    dsimp only at h;split at h
    ·rename_i en;exact C7 mo hc I hq en h
    ·exact h.elim
  ·exact h.elim
 | _=>exact h.elim
end
end Sw
namespace Zl
open PySem
section
variable {prog:Program} {w:World} {A:Around} {s:Shared} {R:Result->Shared->Prop} {S I:Addr} {n:Nat} {J:Nat->Array Value->Heap->Prop} {F:Array Value->Heap->Prop} {res:Value}
structure Walk (prog:Program) (w:World) (A:Around) (s:Shared) (S I:Addr) (n:Nat) (J:Nat->Array Value->Heap->Prop) (F:Array Value->Heap->Prop):Prop where
 b7:n<=sizeLine
 size:∀i acc h,J i acc h->acc.size=i
 keep:∀i acc h h',J i acc h->(∀ b o,b ≠ S->h.get? b=some o->h'.get? b=some o)->J i acc h'
 item:∀i acc h tk (Q:Option Value->Shared->Prop) (E:NT),i < n->J i acc h->S < h.objs.size->
  (∀ v h',J (i + 1) (acc.push v) h'->(∀ o,h.get? S=some o->h'.get? S=some o)->Q (some v) {s with heap:=h',toks:=tk})->wpAny (model prog w) A (pyNext (.ref I)) Q E {s with heap:=h,toks:=tk}
 done:∀acc h tk (Q:Option Value->Shared->Prop) (E:NT),J n acc h->S < h.objs.size->
  (∀ h',F acc h'->(∀ o,h.get? S=some o->h'.get? S=some o)->Q none {s with heap:=h',toks:=tk})->wpAny (model prog w) A (pyNext (.ref I)) Q E {s with heap:=h,toks:=tk}
theorem qX (W:Walk prog w A.in1 s S I n J F) (hR:∀h' acc c tk,F acc h'->h'.get? S=some {cls:=.type "list",dict:=none,data:=.seq acc c,slots:=#[]}->R (.ok (.ret res)) {s with heap:=h',toks:=tk}):
  ∀ (k i:Nat) (h:Heap) (tk c:Nat) (acc:NW),n - i=k->i<=n->J i acc h->h.get? S=some {cls:=.type "list",dict:=none,data:=.seq acc c,slots:=#[]}->
   codeAny (model prog w) A (.builtin "list.extend.loop" ⟨[.ref S,.ref I,res],[]⟩) R {s with heap:=h,toks:=tk}
 | 0,i,h,tk,c,acc,hk,hi,hj,hS=>by
  have e:i=n:=by omega
  subst e;refine Ky Nr ?_;rw[Kr Kt _];show wpAny _ A.in1 (pyNext (.ref I) >>= _) _ _ _;exact IZ (W.done acc h tk _ _ hj (Jk hS) fun h' f sm=>Ja (hR h' acc c tk f (sm _ hS)))
 | k + 1,i,h,tk,c,acc,hk,hi,hj,hS=>by
  have lt:i < n:=by omega
  have sz:=W.size i acc h hj;have b7:=W.b7;refine Ky Nr ?_;rw[Kr Kt _];show wpAny _ A.in1 (pyNext (.ref I) >>= _) _ _ _;refine IZ (W.item i acc h tk _ _ lt hj (Jk hS) fun v h' hj' sm=>?_);have hS':=sm _ hS;show wpAny _ A.in1 (updateSeq S (·.push v) >>= _) _ _ _;refine IZ ?_;refine Lf hS' rfl (Ja ⟨Li Kt _,?_⟩) (by omega) (by show(acc.push v).size<=sizeLine + 1;rw[NM];omega);exact qX W hR k (i + 1) _ tk _ (acc.push v) (by omega) lt (W.keep _ _ _ _ hj' fun b o hb e=>(JR _ _ (J5 hb)).trans e) (JV _ hS' rfl)
end
section
variable {prog:Program} {w:World} {A:Around} {E:NT} {s:Shared} {I:Addr} {n:Nat} {J:Nat->Array Value->Heap->Prop} {F:Array Value->Heap->Prop} {T:String}
theorem vT {Q:NT} (W:Walk prog w A.in1.in1 s s.heap.objs.size I n J F) (hj:J 0 #[] s.heap) (tl:T ≠ "list") (tt:T ≠ "tuple") (hT:s.TypeIs (.ref I) T)
  (self:∀ (B:Around) (t:Shared) (K:NT) (X:NT),t.TypeIs (.ref I) T->K (.ref I) t->wpAny (model prog w) B (pyIter (.ref I)) K X t)
  (hint:∀ (B:Around) (t:Shared) (K:Bool->Shared->Prop) (X:NT),t.TypeIs (.ref I) T->(∀ b,K b t)->wpAny (model prog w) B (Builtin.List.listLengthHint (.ref I)) K X t)
  (hQ:∀h' acc c tk,F acc h'->h'.get? s.heap.objs.size=some {cls:=.type "list",dict:=none,data:=.seq acc c,slots:=#[]}->Q (.ref s.heap.objs.size) {s with heap:=h',toks:=tk}):
  wpAny (model prog w) A (call (.type "list") [.ref I]) Q E s:=by
 refine callType_codes (Q₁:=fun obj s₁=>obj=.ref s.heap.objs.size/\s₁={s with heap:=s.heap.push {cls:=.type "list",data:=.seq #[]}}) PySem.F.called_list (PySem.F.typeCall_list_1 _) PySem.F.entry_list_init
  (code_list_new _ ⟨rfl,rfl⟩) fun obj s₁ h₁=>?_
 obtain⟨rfl,rfl⟩:=h₁;have hS:(s.heap.push {cls:=.type "list",data:=.seq #[]}).get? s.heap.objs.size=some {cls:=.type "list",data:=.seq #[]}:=Jr _ rfl
 have iS:I ≠ s.heap.objs.size:=by
  obtain⟨o,ho,_⟩:=hT;exact Js (Jk ho)
 have ex:∀h:Heap,(∀ b o,b ≠ s.heap.objs.size->s.heap.get? b=some o->h.get? b=some o)->Shared.TypeIs {s with heap:=h} (.ref I) T:=fun h k=>by
  obtain⟨o,ho,hc⟩:=hT;exact⟨o,k I o iS ho,hc⟩
 refine⟨⟨_,hS,rfl⟩,PySem.F.args_list_init_2 _ _,?_⟩;show wpAny _ _ (do let old<-Builtin.List.listItems (.ref s.heap.objs.size);Builtin.List.listUpdate (.ref s.heap.objs.size) (fun _=>#[]);letGo old.toList.reverse;Builtin.List.listExtendWith (.ref s.heap.objs.size) (.ref I) .none) _ _ _;refine IZ ?_;unfold Builtin.List.listItems;refine IZ (Ms hS rfl (Ja ?_));show wpAny _ _ (updateSeq s.heap.objs.size (fun _=>#[]) >>= fun _=>letGo (#[]:NW).toList.reverse >>= fun _=>Builtin.List.listExtendWith (.ref s.heap.objs.size) (.ref I) .none) _ _ _;refine IZ (Lf hS rfl ?_);have hS2:=JV (Obj.mapSeq (fun _=>(#[]:NW))) hS rfl
 have k2:∀b o,b ≠ s.heap.objs.size->s.heap.get? b=some o->((s.heap.push {cls:=.type "list",data:=.seq #[]}).update s.heap.objs.size (Obj.mapSeq (fun _=>(#[]:NW)))).get? b=some o:=
  fun b o hb e=>(JR _ _ (J5 hb)).trans (Jd _ e)
 refine IZ (wpAny_letGo ?_);generalize (s.heap.push {cls:=.type "list",data:=.seq #[]}).update s.heap.objs.size (Obj.mapSeq (fun _=>(#[]:NW)))=h2 at hS2 k2
 have loop:∀ (h:Heap) (c:Nat) (tk:Nat),(∀ b o,b ≠ s.heap.objs.size->s.heap.get? b=some o->h.get? b=some o)->h.get? s.heap.objs.size=some {cls:=.type "list",data:=.seq #[] c}->
   codeAny (model prog w) A.in1 (.builtin "list.extend.loop" ⟨[.ref s.heap.objs.size,.ref I,.none],[]⟩) (wants (fun r s₂=>r=.none/\Q (.ref s.heap.objs.size) s₂) E) {s with heap:=h,toks:=tk}:=fun h c tk k hs=>
  qX W (fun h' acc c tk f e=>⟨rfl,hQ h' acc c tk f e⟩) n 0 h tk c #[] (NA _) (JZ _) (W.keep _ _ _ _ hj k) hs
 unfold Builtin.List.listExtendWith;refine IZ (LL (T:=T) (ex h2 k2) ?_);have h1:Builtin.List.listSameRef (.ref s.heap.objs.size) (.ref I)=false:=by simp[Builtin.List.listSameRef,J5 iS]
 have h3:(Value.type T == Value.type "list")=false:=by simp[tl]
 have h4:(Value.type T == Value.type "tuple")=false:=by simp[tt]
 simp only[h1,h3,h4,Ng,JT,KA];refine IZ (self _ _ _ _ (ex h2 k2) ?_);refine IZ (JQ (hint _ _ _ _ (ex h2 k2) fun room=>?_));refine wpAny_ite_split (fun _=>?_) (fun _=>Ja ⟨Li Kt _,loop h2 _ _ k2 hS2⟩);refine IZ (Kn ?_);refine IZ ?_;show wpAny _ _ (updateSeq s.heap.objs.size (·.push .none) >>= fun _=>updateSeq s.heap.objs.size (·.pop)) _ _ _;refine IZ (Lf hS2 rfl ?_);have hS3:=JV (Obj.mapSeq (·.push Value.none)) hS2 rfl;refine Lf (hz:=by seq_fits) hS3 rfl ?_;have hS4:=JV (Obj.mapSeq (·.pop)) hS3 rfl;exact Ja ⟨Li Kt _,loop _ _ _ (fun b o hb e=>(JR _ _ (J5 hb)).trans ((JR _ _ (J5 hb)).trans (k2 b o hb e))) hS4⟩
end
noncomputable abbrev mP (h:Heap) (z TI TO a:Addr) (f:Bool):Prop:=
 h.get? z=some {cls:=.type "zip",dict:=none,data:=.fields #[rawInt a,.bool f,.bool false,.ref TI,.ref TO],slots:=#[]}
section
variable {prog:Program} {w:World} {A:Around} {E:NT} {s:Shared}
theorem alive {a:Addr} {o:Obj} {Q:Option Obj->Shared->Prop} (ho:s.heap.get? a=some o) (q:Q (some o) s):wpAny (model prog w) A (loadIfAlive a) Q E s:=by
 have q':Q (s.heap.get? a) s:=by rw[ho];exact q
 exact fun _ _ _=>q'
theorem held {z TI TO a:Addr} {f:Bool} {o:Obj} {Q:Bool->Shared->Prop} (hz:mP s.heap z TI TO a f) (ha:s.heap.get? a=some o)
  (q:∀h',mP h' z TI TO a true->Heap.SameBut z s.heap h'->Q false {s with heap:=h'}):wpAny (model prog w) A (Builtin.SmallTypes.ownedTupleIsFree (.ref z)) Q E s:=by
 unfold Builtin.SmallTypes.ownedTupleIsFree;refine IZ (LF hz rfl (x:=rawInt a) rfl ?_);show wpAny _ _ (loadIfAlive ((a:Int).toNat) >>= _) _ _ _;rw[Mv];refine IZ (alive ha ?_);simp only[Option.isNone_some,JT,KA];refine IZ (LF hz rfl (x:=.bool f) rfl ?_);cases f with
 | true=>
  rw[I_ (show ¬ ((Value.bool true != Value.bool true)=true)from JC)];exact Ja (q s.heap hz (KI _ _))
 | false=>
  rw[Jc (show(Value.bool false != Value.bool true)=true from rfl)];exact IZ (wpAny_setField_rec hz (by simp) fun h' z' sb=>Ja (q h' z' sb))
theorem yH {z TI TO i1 i2 l1 l2 a:Addr} {f:Bool} {o:Obj} {k1 k2:Nat} {xs ys:NW} {x y:Value} {Q:NT} (D:ZipApart z TI TO i1 i2 l1 l2)
  (hz:mP s.heap z TI TO a f) (ha:s.heap.get? a=some o) (hTI:IsPair s.heap TI (.ref i1) (.ref i2))
  (h1:s.heap.IsListIter i1 l1 k1) (h2:s.heap.IsListIter i2 l2 k2) (hl1:s.heap.IsList l1 xs) (hl2:s.heap.IsList l2 ys) (hx:xs[k1]?=some x) (hy:ys[k2]?=some y)
  (q:∀h',mP h' z TI TO a true->h'.IsListIter i1 l1 (k1 + 1)->h'.IsListIter i2 l2 (k2 + 1)->IsPair h' s.heap.objs.size x y->h'.objs.size=s.heap.objs.size + 1->
   (∀ c o,c ≠ z->c ≠ i1->c ≠ i2->s.heap.get? c=some o->h'.get? c=some o)->Q (.ref s.heap.objs.size) {s with heap:=h'}):
  wpAny (model prog w) A (Builtin.«zip.__next__» ⟨[.ref z],[]⟩) (fun fin s'=>∃v,fin=.done (.ret v)/\Q v s') E s:=by
 show wpAny _ _ (field (.ref z) 2 >>= _) _ _ _;refine IZ (LF hz rfl (x:=.bool false) rfl ?_);show wpAny _ _ (field (.ref z) 3 >>= _) _ _ _;refine IZ (LF hz rfl (x:=.ref TI) rfl ?_);refine IZ (Ms hTI rfl ?_);show wpAny _ _ (Builtin.SmallTypes.ownedTupleIsFree (.ref z) >>= _) _ _ _;refine IZ (held hz ha fun g1 z1 s1=>?_);simp only[JT,KA];rw[<-K9];refine IZ ?_;simp only[KZ,M8];refine IZ (IZ (JQ ?_));show wpAny _ _ (Builtin.SmallTypes.nextOf (.ref i1) >>= _) _ _ _;refine IZ (MB (h1.extBut s1.extBut D.i1z) (hl1.extBut s1.extBut D.l1z) hx fun g2 n1 s2=>Ja (Ja ?_));refine IZ (IZ (JQ ?_));show wpAny _ _ (Builtin.SmallTypes.nextOf (.ref i2) >>= _) _ _ _;refine IZ (MB ((h2.extBut s1.extBut D.i2z).extBut s2.extBut D.i12.symm) ((hl2.extBut s1.extBut D.l2z).extBut s2.extBut D.l2i1) hy fun g3 n2 s3=>Ja (Ja (Ja ?_)));refine IZ (wpAny_newTuple ?_ (by show 2<=sizeLine;rw[Jm];omega));have hsz:g3.objs.size=s.heap.objs.size:=by rw[s3.1,s2.1,s1.1]
 have z3:mP g3 z TI TO a true:=s3.extBut _ _ D.i2z.symm (s2.extBut _ _ D.i1z.symm z1);refine Ja ⟨_,rfl,?_⟩;show Q (.ref g3.objs.size) _;rw[hsz];refine q _ (Jd _ z3) ((n1.extBut s3.extBut D.i12).at fun o e=>Jd _ e) (n2.at fun o e=>Jd _ e) (by rw[<-hsz];exact Jr _ rfl) (by rw[Kg,hsz]) fun c o c1 c2 c3 e=>?_;exact Jd _ (s3.extBut _ _ c3 (s2.extBut _ _ c2 (s1.extBut _ _ c1 e)))
theorem B4 {z TI TO i1 i2 l1 l2 a:Addr} {f:Bool} {o:Obj} {k1 k2:Nat} {xs ys:NW} {Q:Fin->Shared->Prop} (hh:A.handled=none) (D:ZipApart z TI TO i1 i2 l1 l2)
  (hz:mP s.heap z TI TO a f) (ha:s.heap.get? a=some o) (hTI:IsPair s.heap TI (.ref i1) (.ref i2)) (h1:s.heap.IsListIter i1 l1 k1) (h2:s.heap.IsListIter i2 l2 k2)
  (hl1:s.heap.IsList l1 xs) (hl2:s.heap.IsList l2 ys) (no:xs[k1]?=none\/ys[k2]?=none)
  (q:∀h' e,(∀ c o,c ≠ z->c ≠ i1->c ≠ i2->s.heap.get? c=some o->h'.get? c=some o)->(∃ o,h'.get? e=some o/\o.cls=.type "StopIteration")->E (.ref e) {s with heap:=h'}):
  wpAny (model prog w) A (Builtin.«zip.__next__» ⟨[.ref z],[]⟩) Q E s:=by
 show wpAny _ _ (field (.ref z) 2 >>= _) _ _ _;refine IZ (LF hz rfl (x:=.bool false) rfl ?_);show wpAny _ _ (field (.ref z) 3 >>= _) _ _ _;refine IZ (LF hz rfl (x:=.ref TI) rfl ?_);refine IZ (Ms hTI rfl ?_);show wpAny _ _ (Builtin.SmallTypes.ownedTupleIsFree (.ref z) >>= _) _ _ _;refine IZ (held hz ha fun g1 z1 s1=>?_);simp only[JT,KA];rw[<-K9];refine IZ ?_;simp only[KZ,M8];refine IZ (IZ (JQ ?_));show wpAny _ _ (Builtin.SmallTypes.nextOf (.ref i1) >>= _) _ _ _;cases hx:xs[k1]? with
 | none=>
  refine IZ (wpAny_nextOf_list_end hh (h1.extBut s1.extBut D.i1z) (hl1.extBut s1.extBut D.l1z) hx fun g2 e s2 he=>?_);exact q g2 e (fun c o c1 c2 _ x=>s2 c o c2 (s1.extBut _ _ c1 x)) he
 | some x=>
  have hy:ys[k2]?=none:=no.resolve_left (by rw[hx];exact fun z=>by cases z);refine IZ (MB (h1.extBut s1.extBut D.i1z) (hl1.extBut s1.extBut D.l1z) hx fun g2 n1 s2=>Ja (Ja ?_));refine IZ (IZ (JQ ?_));show wpAny _ _ (Builtin.SmallTypes.nextOf (.ref i2) >>= _) _ _ _;refine IZ (wpAny_nextOf_list_end hh ((h2.extBut s1.extBut D.i2z).extBut s2.extBut D.i12.symm) ((hl2.extBut s1.extBut D.l2z).extBut s2.extBut D.l2i1) hy fun g3 e s3 he=>?_);exact q g3 e (fun c o c1 c2 c3 x=>s3 c o c3 (s2.extBut _ _ c2 (s1.extBut _ _ c1 x))) he
theorem sg {z TI TO i1 i2 l1 l2 a:Addr} {f:Bool} {o:Obj} {k1 k2:Nat} {xs ys:NW} {x y:Value} {Q:Option Value->Shared->Prop} (D:ZipApart z TI TO i1 i2 l1 l2)
  (hz:mP s.heap z TI TO a f) (ha:s.heap.get? a=some o) (hTI:IsPair s.heap TI (.ref i1) (.ref i2))
  (h1:s.heap.IsListIter i1 l1 k1) (h2:s.heap.IsListIter i2 l2 k2) (hl1:s.heap.IsList l1 xs) (hl2:s.heap.IsList l2 ys) (hx:xs[k1]?=some x) (hy:ys[k2]?=some y)
  (q:∀h',mP h' z TI TO a true->h'.IsListIter i1 l1 (k1 + 1)->h'.IsListIter i2 l2 (k2 + 1)->IsPair h' s.heap.objs.size x y->h'.objs.size=s.heap.objs.size + 1->
   (∀ c o,c ≠ z->c ≠ i1->c ≠ i2->s.heap.get? c=some o->h'.get? c=some o)->Q (some (.ref s.heap.objs.size)) {s with heap:=h'}):wpAny (model prog w) A (pyNext (.ref z)) Q E s:=by
 have hT:s.TypeIs (.ref z) "zip" :=⟨_,hz,rfl⟩;unfold pyNext
 exact IZ (Lj (Kz (name:=Str.ofString "__next__") hT Lx
  (Kc Lx hT PySem.F.entry_zip_next (yH D hz ha hTI h1 h2 hl1 hl2 hx hy fun h' a1 a2 a3 a4 a5 a6=>Ja (q h' a1 a2 a3 a4 a5 a6)) (NK _))))
theorem qi {z TI TO i1 i2 l1 l2 a:Addr} {f:Bool} {o:Obj} {k1 k2:Nat} {xs ys:NW} {Q:Option Value->Shared->Prop} (hh:A.handled=none) (D:ZipApart z TI TO i1 i2 l1 l2)
  (hz:mP s.heap z TI TO a f) (ha:s.heap.get? a=some o) (hTI:IsPair s.heap TI (.ref i1) (.ref i2)) (h1:s.heap.IsListIter i1 l1 k1) (h2:s.heap.IsListIter i2 l2 k2)
  (hl1:s.heap.IsList l1 xs) (hl2:s.heap.IsList l2 ys) (no:xs[k1]?=none\/ys[k2]?=none)
  (q:∀h',(∀ c o,c ≠ z->c ≠ i1->c ≠ i2->s.heap.get? c=some o->h'.get? c=some o)->Q none {s with heap:=h'}):wpAny (model prog w) A (pyNext (.ref z)) Q E s:=by
 have hT:s.TypeIs (.ref z) "zip" :=⟨_,hz,rfl⟩;unfold pyNext
 refine IZ (Lj (Kz (name:=Str.ofString "__next__") hT Lx
  (Kc Lx hT PySem.F.entry_zip_next (B4 hh D hz ha hTI h1 h2 hl1 hl2 no fun h' e hk he=>?_) (NK _))))
 obtain⟨o,ho,hc⟩:=he;refine IZ (KP (T:= "StopIteration") (b:=true) ⟨o,ho,hc⟩ isSubtype_stop ?_);exact Ja (q _ hk)
end
theorem nd {a b:Nat} (h:a < b\/b < a):@Ne Addr a b:=fun e=>by
 have e:(a:Nat)=b:=e;omega
theorem fO:typeLookup (.type "zip") "__len__" =pure none:=by rw[LU,K8];kernel_rfl
theorem w6:typeLookup (.type "zip") "__length_hint__" =pure none:=by rw[LU,K8];kernel_rfl
structure Laid (h₀:Heap) (z TO i1 i2 S:Nat) (xs ys:NW) (as:List Nat) (acc:NW) (h:Heap):Prop where
 acc:acc.toList=as.map Value.ref
 rise:as.Pairwise (·< ·)
 above:∀a ∈ as,S < a
 tup:∀ (j:Nat) a,as[j]?=some a->∃x y,xs[j]?=some x/\ys[j]?=some y/\IsPair h a x y
 old:∀b o,b ≠ z->b ≠ TO->b ≠ i1->b ≠ i2->b ≠ S->h₀.get? b=some o->h.get? b=some o
structure IT (h₀:Heap) (z TI TO i1 i2 l1 l2 S:Nat) (xs ys:NW) (i:Nat) (acc:NW) (h:Heap):Prop where
 laid:∃as:List Nat,as.length=i/\Laid h₀ z TO i1 i2 S xs ys as acc h
 ti:IsPair h TI (.ref i1) (.ref i2)
 h1:h.IsListIter i1 l1 i
 h2:h.IsListIter i2 l2 i
 l1:h.IsList l1 xs
 l2:h.IsList l2 ys
 zp:(i=0/\IsZip h z TI TO .none/\∃a b,IsPair h TO a b)\/∃a f o,mP h z TI TO a f/\h.get? a=some o/\a ≠ z/\a ≠ i1/\a ≠ i2/\a ≠ S
section
variable {prog:Program} {w:World} {A:Around} {E:NT} {s:Shared}
theorem Laid.step {h₀ h h':Heap} {z TO i1 i2 S:Nat} {xs ys:NW} {as:List Nat} {acc:NW} {x y:Value} (L:Laid h₀ z TO i1 i2 S xs ys as acc h) (zs:z < S) (os:TO < S) (s1:i1 < S) (s2:i2 < S) (hS:S < h.objs.size)
  (hx:xs[as.length]?=some x) (hy:ys[as.length]?=some y) (p:IsPair h' h.objs.size x y) (k:∀c o,c ≠ z->c ≠ TO->c ≠ i1->c ≠ i2->h.get? c=some o->h'.get? c=some o):
  Laid h₀ z TO i1 i2 S xs ys (as++[h.objs.size]) (acc.push (.ref h.objs.size)) h':=by
 have lt:∀a ∈ as,a < h.objs.size:=fun a ha=>by
  obtain⟨j,hj⟩:=L7.mp ha;obtain⟨_,_,_,_,e⟩:=L.tup j a hj;exact Jk e
 refine⟨by rw[Kw,L.acc,Jt];rfl,MS.mpr ⟨L.rise,List.pairwise_singleton _ _,fun a ha b hb=>by rw[Jo.mp hb];exact lt a ha⟩,fun a ha=>?_,fun j a hj=>?_,fun b o b1 b2 b3 b4 b5 e=>k b o b1 b2 b3 b4 (L.old b o b1 b2 b3 b4 b5 e)⟩
 ·rcases Jx.mp ha with q | q
  ·exact L.above a q
  ·rw[Jo.mp q];exact hS
 ·rcases Nat.lt_trichotomy j as.length with q | q | q
  ·rw[JH q]at hj;obtain⟨x',y',e1,e2,e3⟩:=L.tup j a hj;have ab:=L.above a (Jg hj);exact⟨x',y',e1,e2,k a _ (nd (by omega)) (nd (by omega)) (nd (by omega)) (nd (by omega)) e3⟩
  ·subst q;have e:h.objs.size=a:=by simpa using hj
   subst e;exact⟨x,y,hx,hy,p⟩
  ·rw[MH (by rw[Jl,List.length_singleton];omega)]at hj;cases hj
theorem w5 {z TI TO i1 i2 l1 l2 S:Nat} {xs ys:NW} (D:ZipApart z TI TO i1 i2 l1 l2) (hh:A.handled=none) (b7:xs.size<=sizeLine) (zs:z < S) (ts:TI < S) (os:TO < S) (s1:i1 < S) (s2:i2 < S) (ls1:l1 < S) (ls2:l2 < S):
  Walk prog w A s S z (min xs.size ys.size) (IT s.heap z TI TO i1 i2 l1 l2 S xs ys) (fun acc h=>∃as:List Nat,as.length=min xs.size ys.size/\Laid s.heap z TO i1 i2 S xs ys as acc h) where
 b7:=JB (NN _ _) b7
 size:=fun i acc h j=>by
  obtain⟨as,hl,L⟩:=j.laid;rw[<-hl,<-Jz,L.acc,Jb]
 keep:=fun i acc h h' j k=>by
  obtain⟨as,hl,L⟩:=j.laid;refine⟨⟨as,hl,L.acc,L.rise,L.above,fun n a hn=>?_,fun b o b1 b2 b3 b4 b5 e=>k b o b5 (L.old b o b1 b2 b3 b4 b5 e)⟩,k _ _ (nd (by omega)) j.ti,j.h1.at fun o e=>k _ o (nd (by omega)) e,j.h2.at fun o e=>k _ o (nd (by omega)) e,j.l1.at fun o e=>k _ o (nd (by omega)) e,j.l2.at fun o e=>k _ o (nd (by omega)) e,?_⟩
  ·obtain⟨x,y,e1,e2,e3⟩:=L.tup n a hn;have:=L.above a (Jg hn);exact⟨x,y,e1,e2,k a _ (nd (by omega)) e3⟩
  ·rcases j.zp with ⟨e,q1,a,b,q2⟩ | ⟨a,f,o,q1,q2,q3,q4,q5,q6⟩
   ·exact .inl ⟨e,k _ _ (nd (by omega)) q1,a,b,k _ _ (nd (by omega)) q2⟩
   ·exact .inr ⟨a,f,o,k _ _ (nd (by omega)) q1,k _ _ q6 q2,q3,q4,q5,q6⟩
 item:=fun i acc h tk Q E lt j hS q=>by
  have hS:S < h.objs.size:=hS;obtain⟨as,hl,L⟩:=j.laid;subst hl;have hx:=J1 (Jw lt (NN _ _));have hy:=J1 (Jw lt (Nat.min_le_right _ _));rcases j.zp with ⟨e,q1,a,b,q2⟩ | ⟨a,f,o,q1,q2,q3,q4,q5,q6⟩
  ·refine wpAny_pyNext_zip_item (s:={s with heap:=h,toks:=tk}) D q1 j.ti q2 j.h1 j.h2 j.l1 j.l2 hx hy fun h' a1 a2 a3 a4 a5 a6 k=>?_;refine q _ h' ⟨⟨_,by simp,L.step zs os s1 s2 hS hx hy a5 fun c o c1 c2 c3 c4 e=>k c o c1 c2 c3 c4 e⟩,k _ _ D.TIz D.TITO D.TIi1 D.TIi2 j.ti,a3,a4,j.l1.at fun o e=>k _ o D.l1z D.l1TO D.l1i1 D.l1i2 e,j.l2.at fun o e=>k _ o D.l2z D.l2TO D.l2i1 D.l2i2 e,.inr ⟨h.objs.size,false,_,a1,a5,nd (by omega),nd (by omega),nd (by omega),nd (by omega)⟩⟩ fun o e=>k _ o (nd (by omega)) (nd (by omega)) (nd (by omega)) (nd (by omega)) e
  ·refine sg (s:={s with heap:=h,toks:=tk}) D q1 q2 j.ti j.h1 j.h2 j.l1 j.l2 hx hy fun h' a1 a3 a4 a5 a6 k=>?_;refine q _ h' ⟨⟨_,by simp,L.step zs os s1 s2 hS hx hy a5 fun c o c1 _ c3 c4 e=>k c o c1 c3 c4 e⟩,k _ _ D.TIz D.TIi1 D.TIi2 j.ti,a3,a4,j.l1.at fun o e=>k _ o D.l1z D.l1i1 D.l1i2 e,j.l2.at fun o e=>k _ o D.l2z D.l2i1 D.l2i2 e,.inr ⟨a,true,o,a1,k a o q3 q4 q5 q2,q3,q4,q5,q6⟩⟩ fun o e=>k _ o (nd (by omega)) (nd (by omega)) (nd (by omega)) e
 done:=fun acc h tk Q E j hS q=>by
  have hS:S < h.objs.size:=hS;obtain⟨as,hl,L⟩:=j.laid
  have no:xs[min xs.size ys.size]?=none\/ys[min xs.size ys.size]?=none:=by
   rcases Nat.le_total xs.size ys.size with c | c
   ·exact .inl (by rw[Nat.min_eq_left c];exact Mz (Jv _))
   ·exact .inr (by rw[Nat.min_eq_right c];exact Mz (Jv _))
  have fin:∀h':Heap,(∀ c o,c ≠ z->c ≠ TO->c ≠ i1->c ≠ i2->h.get? c=some o->h'.get? c=some o)->Laid s.heap z TO i1 i2 S xs ys as acc h':=fun h' k=>
   ⟨L.acc,L.rise,L.above,fun n a hn=>by
    obtain⟨x,y,e1,e2,e3⟩:=L.tup n a hn;have:=L.above a (Jg hn);exact⟨x,y,e1,e2,k a _ (nd (by omega)) (nd (by omega)) (nd (by omega)) (nd (by omega)) e3⟩,fun b o b1 b2 b3 b4 b5 e=>k b o b1 b2 b3 b4 (L.old b o b1 b2 b3 b4 b5 e)⟩
  rcases j.zp with ⟨e,q1,a,b,q2⟩ | ⟨a,f,o,q1,q2,q3,q4,q5,q6⟩
  ·exact wpAny_pyNext_zip_end (s:={s with heap:=h,toks:=tk}) hh D q1 j.ti q2 j.h1 j.h2 j.l1 j.l2 no fun h' k=>q h' ⟨as,hl,fin h' k⟩ fun o e=>k _ o (nd (by omega)) (nd (by omega)) (nd (by omega)) (nd (by omega)) e
  ·exact qi (s:={s with heap:=h,toks:=tk}) hh D q1 q2 j.ti j.h1 j.h2 j.l1 j.l2 no fun h' k=>q h' ⟨as,hl,fin h' fun c o c1 _ c3 c4 e=>k c o c1 c3 c4 e⟩ fun o e=>k _ o (nd (by omega)) (nd (by omega)) (nd (by omega)) e
theorem y0 {l1 l2:Nat} {xs ys:NW} {Q:NT} (hh:A.handled=none) (hl1:s.heap.IsList l1 xs) (hl2:s.heap.IsList l2 ys) (b7:xs.size<=sizeLine)
  (q:∀h' acc c tk (as:List Nat),as.length=min xs.size ys.size->acc.toList=as.map Value.ref->as.Pairwise (·< ·)->(∀ a ∈ as,s.heap.objs.size + 5 < a)->(∀ (j:Nat) a,as[j]?=some a->∃x y,xs[j]?=some x/\ys[j]?=some y/\IsPair h' a x y)->
   (∀ b o,s.heap.get? b=some o->h'.get? b=some o)->h'.get? (s.heap.objs.size + 5)=some {cls:=.type "list",dict:=none,data:=.seq acc c,slots:=#[]}->Q (.ref (s.heap.objs.size + 5)) {s with heap:=h',toks:=tk}):
  wpAny (model prog w) A (call (.type "zip") [.ref l1,.ref l2]) (fun v s'=>wpAny (model prog w) A (call (.type "list") [v]) Q E s') E s:=by
 have lt1:l1 < s.heap.objs.size:=by obtain⟨o,e,_⟩:=id hl1;exact Jk e
 have i5:l2 < s.heap.objs.size:=by obtain⟨o,e,_⟩:=id hl2;exact Jk e
 refine call_zip_2 hl1 hl2 fun h' hz hTI hTO zy ES hs k=>?_;have D:ZipApart (s.heap.objs.size + 4) (s.heap.objs.size + 2) (s.heap.objs.size + 3) s.heap.objs.size (s.heap.objs.size + 1) l1 l2:=by constructor<;>exact nd (by omega)
 have W:=w5 (prog:=prog) (w:=w) (A:=A.in1.in1) (s:={s with heap:=h'}) (S:=h'.objs.size) (xs:=xs) (ys:=ys) D hh b7 (by omega) (by omega) (by omega) (by omega) (by omega) (by omega) (by omega);refine vT (T:= "zip") (s:={s with heap:=h'}) W ⟨⟨[],rfl,rfl,.nil,fun a ha=>by (cases ha),fun j a hj=>by simp at hj,fun b o _ _ _ _ _ e=>e⟩,hTI,zy,ES,hl1.at fun o e=>k _ o e,hl2.at fun o e=>k _ o e,.inl ⟨rfl,hz,_,_,hTO⟩⟩ (by decide) (by decide) ⟨_,hz,rfl⟩ (fun B t K X hT hK=>?_) (fun B t K X hT hK=>?_) (fun h2 acc c tk f e=>?_)
 ·refine Nj hT PySem.F.slot_zip_iter (Kc PySem.F.slot_zip_iter hT PySem.F.entry_zip_iter ?_ (PySem.F.args_zip_iter_1 _));show wpAny _ _ (ret (.ref _)) _ _ t;exact Ja ⟨_,rfl,"zip",_,hT,Lx.lookup,hK⟩
 ·unfold Builtin.List.listLengthHint;refine IZ (ML hT fO ?_);show wpAny _ _ (specialOf (Value.ref _) (Str.ofString "__length_hint__") >>= _) _ _ _;exact IZ (ML hT w6 (Ja (hK true)))
 ·obtain⟨as,hl,L⟩:=f;have e5:h'.objs.size=s.heap.objs.size + 5:=hs;show Q (.ref h'.objs.size) _;have e':h2.get? h'.objs.size=some {cls:=.type "list",dict:=none,data:=.seq acc c,slots:=#[]}:=e;have ab:∀a ∈ as,h'.objs.size < a:=L.above;have old:=L.old;dsimp only at old;rw[e5]at e' ab ⊢
  exact q h2 acc c tk as hl L.acc L.rise ab L.tup (fun b o x=>by
   have:@LT.lt Nat _ b s.heap.objs.size:=Jk x;exact old b o (nd (by omega)) (nd (by omega)) (nd (by omega)) (nd (by omega)) (nd (by omega)) (k b o x)) e'
end
end Zl
namespace Sw
open PySem PySem.Spec PyProof.Rows L2
noncomputable def Iq:Value->V
 | .none=>.aD
 | .bool b=>.bl b
 | .int i _=>.int i
 | .str x _=>.str x
 | .ref a=>.ref a
 | _=>.aD
theorem xm {M:Mo} {H:Hp} {n:Nat} {x:V} {u:Value} {d:PyData} (r:RelV x u) (h:data M H n x=some d):Iq u=x:=by
 cases x with
 | aD=>rw[show u=Value.none from r];rfl
 | bl b=>rw[show u=Value.bool b from r];rfl
 | int i=>obtain⟨t,rfl⟩:=r;rfl
 | str y=>obtain⟨t,rfl⟩:=r;rfl
 | ref a=>rw[show u=Value.ref a from r];rfl
 | byt b=>cases n<;>cases h
 | flt b=>cases n<;>cases h
 | ty b=>cases n<;>cases h
noncomputable def CL (M:Mo) (H:Hp) (d:PyData) (u:Value):Bool:=match data M H 8 (Iq u)with
 | some e=>PyData.eqv e d
 | none=>false
section
variable {X:Cx} {M:Mo} {pins:NU} {σ:L2.St} {H:Hp} {s:Shared}
theorem zM (mo:ax X.K M) (I:Inv X pins σ H s) {A:Around} (hu:A.units + 8 < cLine) {x:V} {v:Value} {d:PyData} (rx:RelV x v) (hx:data M H 8 x=some d):
  ∀ {ys:List V} {us:List Value} {ds:List PyData},Vals ys us->allM (data M H 8) ys=some ds->∀u ∈ us,SeqAt.EqAt A s u v (CL M H d u)
 | _,_,_,.nil,_=>fun u hu=>by cases hu
 | y::ys,u::us,ds,.cons r t,h=>fun u' hm=>by
  obtain⟨e,es,h1,h2,rfl⟩:=allM_cons h;rcases Jq.mp hm with rfl | hm
  ·have q:CL M H d u'=PyData.eqv e d:=by
    unfold CL;rw[xm r h1,h1]
   rw[q];exact jk mo I 8 A y x u' v e d hu r rx h1 hx
  ·exact zM mo I hu rx hx t h2 u' hm
theorem uO {d:PyData}:∀ {ys:List V} {us:List Value} {ds:List PyData},Vals ys us->allM (data M H 8) ys=some ds->us.map (CL M H d)=ds.map (fun e=>PyData.eqv e d)
 | _,_,ds,.nil,h=>by rw[allM_nil h];rfl
 | y::ys,u::us,ds,.cons r t,h=>by
  obtain⟨e,es,h1,h2,rfl⟩:=allM_cons h;rw[JA,JA,uO t h2]
  congr 1
  unfold CL;rw[xm r h1,h1]
end
end Sw
namespace PySem.Sg
open PySem PySem.Spec PyProof.Rows L2
section
variable {prog:Program} {w:World} {A:Around} {E:NT} {s:Shared}
theorem wJ {P:Nat->Value->Prop} (val:Nat->Str) (hval:∀i v,P i v->∃t,v=.str (val i) t):
  CmpOf prog w A .Gt P (fun i j=>decide ((val j).cps.toList < (val i).cps.toList)):=fun i j vi vj s Q E hi hj h=>by
 obtain⟨t,rfl⟩:=hval i vi hi;obtain⟨u,rfl⟩:=hval j vj hj;exact PySem.P.gt_str h
theorem oK {a b:Str} {t u:Tok} {Q:NT} (hh:A.handled=none)
  (h:∀h' tk,(∀ c o,s.heap.get? c=some o->h'.get? c=some o)->Q (if a.cps.toList < b.cps.toList then .str b u else .str a t) {s with heap:=h',toks:=tk}):
  wpAny (model prog w) A (call (.builtin "max") [.str a t,.str b u]) Q E s:=by
 have hT:(s.heap.push {cls:=.type "tuple",data:=.seq #[.str a t,.str b u]}).IsTuple s.heap.objs.size (aO #[(a,t),(b,u)]):=⟨_,Jr _ rfl,rfl,0,by simp[aO]⟩;refine call_max_two (Nc hT ?_);have hsz:(s.heap.push {cls:=.type "tuple",data:=.seq #[.str a t,.str b u]}).objs.size=s.heap.objs.size + 1:=Kg ..
 refine⟨_,[_,s.heap.objs.size],[_],_,_,_,_,rfl,Walks.tuple (A:=A.in1) hh _ s.heap.objs.size (by rw[hsz];exact Js (J8 _)) (aO #[(a,t),(b,u)]),
  ⟨⟨_,Jr _ rfl,rfl,rfl⟩,hT.push _⟩,fun c hc=>?_,by simp[aO],wJ (bH #[(a,t),(b,u)]) (fun _ _=>jA),fun v h' tk hP hk=>?_⟩
 ·show c < ((s.heap.push _).push _).objs.size;rw[Kg,hsz];rcases Jq.mp hc with rfl | hc
  ·rw[hsz];exact J8 _
  ·rcases Jq.mp hc with rfl | hc
   ·exact JM (J8 _)
   ·cases hc
 ·have hold:∀c o,s.heap.get? c=some o->h'.get? c=some o:=fun c o e=>by
   refine hk c o (fun hm=>?_) (Jd _ (Jd _ e));rcases Jq.mp hm with e1 | hm
   ·have:=Jk e;rw[e1,hsz]at this;exact Ly _ (Nat.lt_of_succ_lt this)
   ·cases hm
  have:=h h' tk hold
  have hv:v=if a.cps.toList < b.cps.toList then Value.str b u else Value.str a t:=by
   have hP':(aO #[(a,t),(b,u)])[argBest (fun i j=>decide ((bH #[(a,t),(b,u)] j).cps.toList < (bH #[(a,t),(b,u)] i).cps.toList)) 1]?=some v:=by
    have hsz2:(aO #[(a,t),(b,u)]).size - 1=1:=by simp[aO]
    rw[<-hsz2];exact hP
   by_cases hba:a.cps.toList < b.cps.toList
   ·have e:argBest (fun i j=>decide ((bH #[(a,t),(b,u)] j).cps.toList < (bH #[(a,t),(b,u)] i).cps.toList)) 1=1:=by simp[argBest,bH,hba]
    rw[e]at hP';simpa[aO,hba]using hP'.symm
   ·have e:argBest (fun i j=>decide ((bH #[(a,t),(b,u)] j).cps.toList < (bH #[(a,t),(b,u)] i).cps.toList)) 1=0:=by simp[argBest,bH,hba]
    rw[e]at hP';simpa[aO,hba]using hP'.symm
  rw[hv];exact this
theorem vW {S:Addr} {τ:List Str} {Q:NT} (hS:aQ prog w s.heap S τ) (h:∀t tk,Q (.int τ.length t) {s with toks:=tk}):wpAny (model prog w) A (call (.builtin "len") [.ref S]) Q E s:=by
 obtain⟨o,es,ep,t,ho,hx,hd,hel,pm,hsz,hf,_,_⟩:=hS;have hl:es.size=τ.length:=by have:=pm.length_eq;simpa using this
 refine call_len_set ho hx hd hf (by unfold scanBound at hsz;omega) ?_;rw[hl];exact h _ _
end
end PySem.Sg
namespace Sw
open PySem PySem.Spec PyProof.Rows L2
section
variable {X:Cx} {M:Mo} {pins:NU} {σ:L2.St} {H:Hp} {s:Shared}
theorem BI (mo:ax X.K M) (hc:X.calm=true) {x:V} {u:Value} {Q:VK} (I:Inv X pins σ H s) (r:RelV x u) (h:qI M x H Q):
  wpAny (model X.prog X.w) X.A (call (.type "set") [u]) (fun v s1=>wpAny (model X.prog X.w) X.A (call (.builtin "len") [v]) (EP X pins σ Q) X.xe s1) X.xe s:=by
 unfold qI at h;cases x with
 | ref p=>
  cases (show u=Value.ref p from r)
  dsimp only at h;split at h
  ·rename_i xs e;split at h
   ·rename_i ts et;obtain⟨au,rv,pl,hz⟩:=I.list (bf mo e);have hs:=i9 rv et;have hl:au.length=ts.length:=hs.len_eq;refine PySem.Sg.mN (I.ok.hd hc) pl.isList hs (by rw[Jp,hl];exact h.1) fun h' tk hS kp=>?_;have hS2:PySem.Sg.aQ X.prog X.w h' s.heap.objs.size (PySem.Sg.iE (fun i=>ts.getD i ⟨#[]⟩) ts.length):=by rw[<-hl];exact hS
    exact PySem.Sg.vW (s:={s with heap:=h',toks:=tk}) hS2 fun t tk'=>⟨.int _,H,I.kept (t':=tk') kp,⟨t,rfl⟩,h.2⟩
   ·exact h.elim
  ·exact h.elim
 | _=>exact h.elim
theorem AK (hc:X.calm=true) {x y:V} {v u:Value} {Q:VK} (I:Inv X pins σ H s) (rx:RelV x v) (ry:RelV y u) (h:t5 x y H Q):
  wpAny (model X.prog X.w) X.A (call (.builtin "max") [v,u]) (EP X pins σ Q) X.xe s:=by
 unfold t5 at h;cases x with
 | str a=>
  cases y with
  | str b=>
   obtain⟨t,rfl⟩:=rx;obtain⟨t',rfl⟩:=ry;refine PySem.Sg.oK (I.ok.hd hc) fun h' tk k=>⟨_,H,I.kept k,?_,h⟩;split
   ·exact⟨_,rfl⟩
   ·exact⟨_,rfl⟩
  | _=>exact h.elim
 | _=>exact h.elim
end
section
variable {X:Cx} {M:Mo} {pins:NU} {σ:L2.St} {H:Hp} {s:Shared}
theorem any_map {α:Type} (f:α->Bool) (l:List α):l.any f=(l.map f).any id:=by
 induction l with
 | nil=>rfl
 | cons a r ih=>rw[Lz,JA,Lz,ih];rfl
theorem u0 (hu:X.A.units + 64 < cLine) (mo:ax X.K M) (op:CmpOp):iZ X (compareOp op) (jH M op):=by
 intro pins s σ H x y v u Q I rx ry h;unfold jH at h;cases y with
 | ref p=>
  cases (show u=Value.ref p from ry)
  dsimp only at h;split at h
  ·rename_i xs e;split at h
   ·rename_i d ds hd hds;obtain⟨au,r,pl,hz⟩:=I.list (bf mo e);have he:=zM mo I (A:=X.A.in1) (show X.A.in1.units + 8 < cLine by have:X.A.in1.units=X.A.units + 1:=rfl;omega) rx hd r hds
    have ea:au.toArray.any (CL M H d)=ds.any (fun e=>PyData.eqv e d):=by
     rw[List.any_toArray,any_map,any_map (fun e=>PyData.eqv e d),uO r hds]
    split at h
    ·refine SeqAt.in_listAt (CL M H d) pl.isList (fun w hw=>he w (by simpa using hw)) ⟨.bl _,H,I,rfl,?_⟩;rw[ea];exact h
    ·refine SeqAt.notIn_listAt (CL M H d) pl.isList (fun w hw=>he w (by simpa using hw)) ⟨.bl _,H,I,rfl,?_⟩;rw[ea];exact h
    ·exact h.elim
   ·exact h.elim
  ·exact h.elim
 | _=>exact h.elim
theorem _root_.L2.Inv.Hw {H':Hp} {h':Heap} {t':Nat} (I:Inv X pins σ H s) (k:∀b u,s.heap.get? b=some u->h'.get? b=some u) (old:∀b u,H b=some u->H' b=some u) (fr:∀b,b < s.heap.objs.size->H b=none->H' b=none)
  (new:∀b u,H b=none->H' b=some u->bA X.prog X.w H' h' b u):Inv X pins σ H' {s with heap:=h',toks:=t'}:=by
 refine I.un ⟨fun b u q _ _ _=>k b u q,fun b u q _ _ _=>⟨u.slots,k b u q⟩,fun b u q n _=>fr b (Jk q) n,fun b u q _=>⟨u,k b u q⟩,fun b xs q=>old b _ q,fun b u xs q=>old b _ q,fun b ps q=>⟨#[],by rw[old b _ q];simp⟩⟩ (fun b u e=>?_)
 by_cases hb:H b=none
 ·exact new b u hb e
 ·obtain⟨o,ho⟩:=Option.ne_none_iff_exists'.mp hb;have q:=old b o ho;rw[q]at e;cases e
  exact(I.aZ b _ ho).aq (fun c w _ q=>k c w q) (fun c q=>old c _ q) fun c xs q=>old c _ q
end
theorem qJ {β:Type}:∀ {as:List Nat} {ps:List β} {j:Nat} {a:Nat} {p:β},as.Pairwise (·< ·)->as[j]?=some a->ps[j]?=some p->(as.zip ps).lookup a=some p
 | [],_,_,_,_,_,h,_=>by simp at h
 | _::_,[],_,_,_,_,_,h=>by simp at h
 | b::as,q::ps,0,a,p,_,h,g=>by
  cases h
  cases g
  simp[List.lookup]
 | b::as,q::ps,j + 1,a,p,pw,h,g=>by
  have lt:=(Kk.mp pw).1 a (Jg (by simpa using h));have ne:(a == b)=false:=by simp;omega
  rw[List.zip_cons_cons,List.lookup,ne];exact qJ (Kk.mp pw).2 (by simpa using h) (by simpa using g)
theorem cY {β:Type}:∀ {as:List Nat} {ps:List β} {a:Nat} {p:β},(as.zip ps).lookup a=some p->∃j:Nat,as[j]?=some a/\ps[j]?=some p
 | [],_,_,_,h=>by simp at h
 | _::_,[],_,_,h=>by simp at h
 | b::as,q::ps,a,p,h=>by
  rw[List.zip_cons_cons,List.lookup]at h
  by_cases e:a=b
  ·subst e;simp at h;exact⟨0,rfl,by rw[h];rfl⟩
  ·rw[show(a == b)=false by simp[e]]at h;obtain⟨j,h1,h2⟩:=cY h;exact⟨j + 1,h1,h2⟩
noncomputable def mK (H:Hp) (L:Addr) (as:List Nat) (ps:List (V × V)):Hp:=fun b=>if b=L then some (.lst (as.map V.ref))else match(as.zip ps).lookup b with
 | some p=>some (.tup [p.1,p.2])
 | none=>H b
section
variable {X:Cx} {M:Mo} {pins:NU} {σ:L2.St} {H:Hp} {s:Shared}
theorem zip_get {xs ys:List V} {us ws:List Value} {j:Nat} {u w:Value} (r1:Vals xs us) (r2:Vals ys ws) (e1:us[j]?=some u) (e2:ws[j]?=some w):∃x y,(xs.zip ys)[j]?=some (x,y)/\RelV x u/\RelV y w:=by
 obtain⟨x,ex,rx⟩:=Vals.back r1 e1;obtain⟨y,ey,ry⟩:=Vals.back r2 e2;exact⟨x,y,by rw[Mj];exact⟨ex,ey⟩,rx,ry⟩
theorem mW:∀as:List Nat,Vals (as.map V.ref) (as.map Value.ref)
 | []=>.nil
 | a::r=>.cons (show RelV (.ref a) (.ref a)from rfl) (mW r)
theorem BG (mo:ax X.K M) (hc:X.calm=true) {x y:V} {u w:Value} {Q:VK} (I:Inv X pins σ H s) (rx:RelV x u) (ry:RelV y w) (h:w8 M x y H fun ps _=>oC M ps H Q):
  wpAny (model X.prog X.w) X.A (call (.type "zip") [u,w]) (fun v s1=>wpAny (model X.prog X.w) X.A (call (.type "list") [v]) (EP X pins σ Q) X.xe s1) X.xe s:=by
 unfold w8 at h;cases x with
 | ref p=>
  cases y with
  | ref q=>
   cases (show u=Value.ref p from rx)
   cases (show w=Value.ref q from ry)
   dsimp only at h;split at h
   ·rename_i xs ys e1 e2;obtain⟨us,r1,l1,z1⟩:=I.list (bf mo e1);obtain⟨ws,r2,l2,z2⟩:=I.list (bf mo e2);refine Zl.y0 (I.ok.hd hc) l1.isList l2.isList (by rw[Jp,<-r1.length];exact z1) fun h' acc c tk as hl ea pw ab tp k el=>?_
    have ea':acc=(as.map Value.ref).toArray:=by
     apply ND.mp;rw[ea]
    subst ea';have ln:as.length=(xs.zip ys).length:=by rw[hl,MT,Jp,Jp,r1.length,r2.length]
    have fresh:∀a ∈ as,H a=none:=fun a ha=>I.aZ.fresh (by have:=ab a ha;show s.heap.objs.size<=a;omega);have ne:∀a ∈ as,a ≠ s.heap.objs.size + 5:=fun a ha e=>by have:=ab a ha;omega
    have at_:∀ (j:Nat) a,as[j]?=some a->∃x y,(xs.zip ys)[j]?=some (x,y)/\mK H (s.heap.objs.size + 5) as (xs.zip ys) a=some (.tup [x,y])/\∃xv yv,RelV x xv/\RelV y yv/\IsPair h' a xv yv:=fun j a hj=>by
     obtain⟨xv,yv,t1,t2,t3⟩:=tp j a hj;obtain⟨x,y,g,rx,ry⟩:=zip_get r1 r2 (by simpa using t1) (by simpa using t2);refine⟨x,y,g,?_,xv,yv,rx,ry,t3⟩;unfold mK;rw[I_ (ne a (Jg hj)),qJ pw hj g]
    have old:∀b o,H b=some o->mK H (s.heap.objs.size + 5) as (xs.zip ys) b=some o:=fun b o hb=>by
     unfold mK;rw[I_ (fun z=>by rw[z,I.aZ.fresh (by show s.heap.objs.size<=s.heap.objs.size + 5;omega)]at hb;cases hb)];split
     ·rename_i p' hp;obtain⟨j,g1,_⟩:=cY hp;rw[fresh b (Jg g1)]at hb;cases hb
     ·exact hb
    have I1:Inv X pins σ (mK H (s.heap.objs.size + 5) as (xs.zip ys)) {s with heap:=h',toks:=tk}:=by
     refine I.Hw k old (fun b lt hb=>?_) fun b o hb ho=>?_
     ·unfold mK;have lt':@LT.lt Nat _ b s.heap.objs.size:=lt;rw[I_ (fun z=>by rw[z]at lt';omega)];split
      ·rename_i p' hp;obtain⟨j,g1,_⟩:=cY hp;have:=ab b (Jg g1);omega
      ·exact hb
     ·have ho':=ho;unfold mK at ho'
      by_cases eb:b=s.heap.objs.size + 5
      ·rw[Jc eb]at ho';cases ho'
       rw[eb];refine⟨?_,as.map Value.ref,c,mW as,el⟩;rw[Jb,ln,MT];exact JB (NN _ _) z1
      ·rw[I_ eb]at ho';split at ho'
       ·rename_i p' hp;obtain⟨j,g1,g2⟩:=cY hp;obtain⟨x,y,g3,g4,xv,yv,rx,ry,ip⟩:=at_ j b g1;rw[g4]at ho;cases ho
        exact⟨by rw[Jm];simp,[xv,yv],.cons rx (.cons ry .nil),⟨_,ip,rfl,_,rfl⟩⟩
       ·rw[hb]at ho';cases ho'
    have off:=Inv.sD mo I1
    have offn:∀b o,mK H (s.heap.objs.size + 5) as (xs.zip ys) b=some o->M b=none:=fun b o hb=>by
     cases em:M b with
     | none=>rfl
     | some v=>
      have:=off b (by rw[em];exact fun z=>by cases z);rw[this]at hb;cases hb
    have lst:mK H (s.heap.objs.size + 5) as (xs.zip ys) (s.heap.objs.size + 5)=some (.lst (as.map V.ref)):=by
     unfold mK;rw[Jc rfl]
    refine⟨.ref _,_,I1,rfl,h _ _ as ln (fun j t hj=>?_) old (fun a ha _=>off a ha) (I.aZ.fresh (by show s.heap.objs.size<=s.heap.objs.size + 5;omega)) (offn _ _ lst) lst⟩;obtain⟨x,y,g3,g4,_⟩:=at_ j t hj;exact⟨fresh t (Jg hj),offn _ _ g4,x,y,g3,g4⟩
   ·exact h.elim
  | _=>exact h.elim
 | _=>exact h.elim
end
end Sw
namespace PySem.Sg
open PySem PySem.Spec PyProof.Rows L2
section
variable {prog:Program} {w:World} {A:Around} {E:NT} {s:Shared}
theorem u9 (val:Nat->List Nat):∀n,argBest (fun i j=>decide (val i < val j)) n<=n/\∀k,k<=n->¬val k < val (argBest (fun i j=>decide (val i < val j)) n)
 | 0=>⟨Jv _,fun k h=>by
  have e:k=0:=Nat.le_zero.mp h;subst e;exact KS _⟩
 | n + 1=>by
  obtain⟨h1,h2⟩:=u9 val n;unfold argBest
  by_cases q:val (n + 1) < val (argBest (fun i j=>decide (val i < val j)) n)
  ·rw[Jc (JP q)];refine⟨Jv _,fun k hk z=>?_⟩
   by_cases e:k=n + 1
   ·subst e;exact KS _ z
   ·exact h2 k (by omega) (MC z q)
  ·rw[I_ (by simpa using q)];refine⟨Nn h1,fun k hk=>?_⟩
   by_cases e:k=n + 1
   ·subst e;exact q
   ·exact h2 k (by omega)
theorem mF {l:Addr} {vs:List Value} {ts:List Str} {Q:NT} (hh:A.handled=none) (hl:s.heap.IsList l vs.toArray) (hS:StrsAre vs ts) (hne:0 < ts.length)
  (h:∀h' tk m t,(∀ c o,s.heap.get? c=some o->h'.get? c=some o)->m ∈ ts->(∀ x ∈ ts,¬x.cps.toList < m.cps.toList)->Q (.str m t) {s with heap:=h',toks:=tk}):
  wpAny (model prog w) A (call (.builtin "min") [.ref l]) Q E s:=by
 have len:vs.length=ts.length:=hS.len_eq
 have at_:∀ {i:Nat} {v:Value},vs[i]?=some v->∃x t,ts[i]?=some x/\v=.str x t:=by
  intro i v;clear hl h len hne
  induction hS generalizing i with
  | nil=>intro e;simp at e
  | cons x t r ih=>
   intro e;cases i with
   | zero=>simp at e;exact⟨x,t,rfl,e.symm⟩
   | succ i=>simp at e;simpa using ih e
 have lt:=hl.typeIs;have hlt:l < s.heap.objs.size:=by obtain⟨o,ho,_⟩:=hl;exact Jk ho
 refine call_min_walk (Ni hl ?_)
 refine⟨_,_,_,_,_,_,fun i j=>decide (((ts[i]?).getD Str.empty).cps.toList < ((ts[j]?).getD Str.empty).cps.toList),rfl,Walks.list (A:=A.in1) (by simp[hh]) s.heap.objs.size l (Js hlt) vs.toArray,
  ⟨⟨_,Jr _ rfl,rfl,rfl⟩,hl.push _⟩,fun c hc=>?_,by rw[Jp,len];exact hne,rp (fun i=>(ts[i]?).getD Str.empty) (fun i v e=>?_),fun v h' tk hP hk=>?_⟩
 ·show c < (s.heap.push _).objs.size;rw[Kg];rcases Jq.mp hc with rfl | hc
  ·exact J8 _
  ·rw[Jo.mp hc];exact JM hlt
 ·obtain⟨x,t,e1,e2⟩:=at_ (by simpa using e);exact⟨t,by rw[e1];exact e2⟩
 ·obtain⟨b1,b2⟩:=u9 (fun i=>((ts[i]?).getD Str.empty).cps.toList) (vs.toArray.size - 1);rw[Jp,len]at b1 b2 hP;obtain⟨x,t,e1,rfl⟩:=at_ (show vs[_]?=some v from(List.getElem?_toArray ..).symm.trans hP);refine h h' tk x t (fun c o e=>hk c o (fun z=>?_) (Jd _ e)) (Jg e1) fun y hy=>?_
  ·have:=Jk e;rw[Jo.mp z]at this;exact Ly _ this
  ·obtain⟨k,hk1,hk2⟩:=J0.mp hy;have:=b2 k (by omega);rw[e1,Je hk1,hk2]at this;exact this
end
end PySem.Sg
namespace PySem.Sx
open PySem PySem.SetTable
noncomputable def AF (t:SetTable):Nat->Probe->Probe
 | 0,p=>p
 | n + 1,p=>AF t n (t.advance p)
theorem tV (t:SetTable):∀ (a b:Nat) (p:Probe),AF t (a + b) p=AF t b (AF t a p)
 | 0,b,p=>by rw[Kd];rfl
 | a + 1,b,p=>by rw[Nd];exact tV t a b _
theorem uL (t:SetTable) (hd:t.dummies=#[]) (h:Int):∀ (f:Nat) (p:Probe),probe.go t (fun _=>h + 1) h f p=none->∀n,n < f->∃i,t.slot (AF t n p).j=.live i
 | 0,_,_,n,hn=>by omega
 | f + 1,p,e,n,hn=>by
  unfold probe.go at e;cases hs:t.slot p.j with
  | empty=>rw[hs]at e;cases e
  | dummy=>
   exfalso;unfold SetTable.slot at hs;dsimp only at hs;split at hs
   ·cases hs
   ·split at hs
    ·rename_i q;unfold SetTable.has at q;rw[hd]at q;simp at q
    ·cases hs
  | live i=>
   rw[hs]at e;dsimp only at e;rw[I_ (by simp;omega)]at e;cases n with
   | zero=>exact⟨i,hs⟩
   | succ n=>exact uL t hd h f _ e n (by omega)
noncomputable def m7 (mask i pe:Nat):Probe:={j:=i,more:=runEnd mask i - i,i:=i,perturb:=pe,dummy:=none}
theorem t_ (t:SetTable):∀ (m:Nat) (p:Probe),p.more=m->AF t (m + 1) p={p with j:=(leap t.mask p.i p.perturb).1,more:=runEnd t.mask (leap t.mask p.i p.perturb).1 - (leap t.mask p.i p.perturb).1,i:=(leap t.mask p.i p.perturb).1,perturb:=(leap t.mask p.i p.perturb).2}
 | 0,p,e=>by
  show t.advance p=_;unfold SetTable.advance;rw[I_ (by omega)]
 | m + 1,p,e=>by
  have a:t.advance p={p with j:=p.j + 1,more:=m}:=by
   unfold SetTable.advance;rw[Jc (by omega),e];rfl
  show AF t (m + 1) (t.advance p)=_;rw[t_ t m (t.advance p) (by rw[a]),a]
theorem xS (t:SetTable) (i pe:Nat):∃n,n<=10/\AF t n (m7 t.mask i pe)=m7 t.mask ((i * 5 + 1 + pe / 32) % (t.mask + 1)) (pe / 32):=by
 refine⟨runEnd t.mask i - i + 1,?_,t_ t _ (m7 t.mask i pe) rfl⟩;unfold runEnd;split<;>omega
noncomputable def au (m:Nat):Nat->Nat × Nat->Nat × Nat
 | 0,x=>x
 | k + 1,x=>au m k ((x.1 * 5 + 1 + x.2 / 32) % m,x.2 / 32)
theorem runs (t:SetTable):∀ (k i pe:Nat),∃n,n<=10 * k/\AF t n (m7 t.mask i pe)=m7 t.mask (au (t.mask + 1) k (i,pe)).1 (au (t.mask + 1) k (i,pe)).2
 | 0,i,pe=>⟨0,by omega,rfl⟩
 | k + 1,i,pe=>by
  obtain⟨n1,h1,e1⟩:=xS t i pe;obtain⟨n2,h2,e2⟩:=runs t k ((i * 5 + 1 + pe / 32) % (t.mask + 1)) (pe / 32);exact⟨n1 + n2,by omega,by rw[tV,e1];exact e2⟩
theorem uG (m:Nat):∀ (a b:Nat) (x:Nat × Nat),au m (a + b) x=au m b (au m a x)
 | 0,b,x=>by rw[Kd];rfl
 | a + 1,b,x=>by rw[Nd];exact uG m a b _
theorem uF (m:Nat):∀ (k:Nat) (x:Nat × Nat),(au m k x).2=x.2 / 32 ^ k
 | 0,x=>by simp[au]
 | k + 1,x=>by
  show(au m k _).2=_;rw[uF m k];show x.2 / 32 / 32 ^ k=_;rw[Nat.div_div_eq_div_mul,Nat.pow_succ,Nat.mul_comm]
theorem zr (m:Nat) (hm:0 < m):∀ (k:Nat) (x:Nat × Nat),x.1 < m->(au m k x).1 < m
 | 0,x,h=>h
 | k + 1,x,h=>zr m hm k _ (NQ _ hm)
noncomputable def rK (m:Nat):Nat->Nat->Nat
 | 0,i=>i
 | k + 1,i=>rK m k ((i * 5 + 1) % m)
theorem qN (m:Nat):∀ (k i:Nat),au m k (i,0)=(rK m k i,0)
 | 0,i=>rfl
 | k + 1,i=>by
  show au m k ((i * 5 + 1 + 0 / 32) % m,0 / 32)=_;rw[Nat.zero_div,Nat.add_zero];exact qN m k _
theorem kg (m:Nat):∀ (a b i:Nat),rK m (a + b) i=rK m b (rK m a i)
 | 0,b,i=>by rw[Kd];rfl
 | a + 1,b,i=>by rw[Nd];exact kg m a b _
theorem HQ:(∀ j,j < 8->∃a,a < 8/\rK 8 a 0=j)/\rK 8 8 0=0:=by decide +kernel
theorem F9:(∀ j,j < 16->∃a,a < 16/\rK 16 a 0=j)/\rK 16 16 0=0:=by decide +kernel
theorem F8:(∀ j,j < 32->∃a,a < 32/\rK 32 a 0=j)/\rK 32 32 0=0:=by decide +kernel
theorem F7:(∀ j,j < 64->∃a,a < 64/\rK 64 a 0=j)/\rK 64 64 0=0:=by decide +kernel
noncomputable def CU (m:Nat):Prop:=m=7\/m=15\/m=31\/m=63
theorem full {m:Nat} (hm:CU m) {i j:Nat} (hi:i < m + 1) (hj:j < m + 1):∃k,k < m + 1/\rK (m + 1) k i=j:=by
 have c:(∀ j,j < m + 1->∃a,a < m + 1/\rK (m + 1) a 0=j)/\rK (m + 1) (m + 1) 0=0:=by
  rcases hm with rfl | rfl | rfl | rfl
  ·exact HQ
  ·exact F9
  ·exact F8
  ·exact F7
 obtain⟨a,ha,ea⟩:=c.1 i hi;obtain⟨b,hb,eb⟩:=c.1 j hj
 by_cases q:a<=b
 ·refine⟨b - a,by omega,?_⟩;rw[<-ea,<-kg,show a + (b - a)=b by omega];exact eb
 ·refine⟨m + 1 - a + b,by omega,?_⟩;rw[<-ea,<-kg,show a + (m + 1 - a + b)=m + 1 + b by omega,kg,c.2];exact eb
theorem Ca (h:Int):bits h < 2 ^ 64:=by
 unfold bits;have:=Ki h (show(2 ^ 64:Int) ≠ 0 by decide);have:=Ke h (show(0:Int) < 2 ^ 64 by decide);omega
theorem yZ {t:SetTable} {j i:Nat} (h:t.slot j=.live i):j ∈ t.place.toList:=by
 unfold SetTable.slot at h;dsimp only at h;split at h
 ·rename_i q;have q:=LC.mp q;rw[<-KO]at q;exact Jg q
 ·split at h<;>cases h
theorem wt {t:SetTable} (h:Int) (hm:CU t.mask) (hd:t.dummies=#[]) (hp:t.place.size<=t.mask):∃j,t.freeSlot h=some (j,false):=by
 have key:∀f p,probe.go t (fun _=>h + 1) h f p ≠ none->p.dummy=none->∃j,probe.go t (fun _=>h + 1) h f p=some (.empty j none):=by
  intro f
  induction f with
  | zero=>intro p e _;exact absurd rfl e
  | succ f ih=>
   intro p e hn;unfold probe.go at e ⊢;cases hs:t.slot p.j with
   | empty=>exact⟨p.j,by rw[hn]⟩
   | dummy=>
    exfalso;unfold SetTable.slot at hs;dsimp only at hs;split at hs
    ·cases hs
    ·split at hs
     ·rename_i q;unfold SetTable.has at q;rw[hd]at q;simp at q
     ·cases hs
   | live i=>
    rw[hs]at e;dsimp only at e ⊢;rw[I_ (by simp;omega)]at e ⊢;refine ih _ e ?_;unfold SetTable.advance;split<;>exact hn
 have ne:probe.go t (fun _=>h + 1) h (10 * turns t.mask) (t.probeStart h) ≠ none:=fun e=>by
  have all:∀j,j < t.mask + 1->j ∈ t.place.toList:=fun j hj=>by
   have b:=Ca h
   have hz:(au (t.mask + 1) 13 (bits h % (t.mask + 1),bits h)).2=0:=by
    rw[uF];exact Nat.div_eq_of_lt (by show bits h < 32 ^ 13;omega)
   have hl:=zr (t.mask + 1) (Nat.succ_pos _) 13 (bits h % (t.mask + 1),bits h) (NQ _ (Nat.succ_pos _));obtain⟨k,hk,ek⟩:=full hm hl hj;obtain⟨n,hn,en⟩:=runs t (13 + k) (bits h % (t.mask + 1)) (bits h)
   have e2:au (t.mask + 1) (13 + k) (bits h % (t.mask + 1),bits h)=(j,0):=by
    rw[uG];have:au (t.mask + 1) 13 (bits h % (t.mask + 1),bits h)=((au (t.mask + 1) 13 (bits h % (t.mask + 1),bits h)).1,0):=by rw[<-hz]
    rw[this,qN,ek]
   rw[e2]at en;obtain⟨i,hi⟩:=uL t hd h _ _ e n (by unfold turns;omega);have st:t.probeStart h=m7 t.mask (bits h % (t.mask + 1)) (bits h):=rfl;rw[st,en]at hi;exact yZ hi
  have:=(List.nodup_range (n:=t.mask + 1)).length_le_of_subset fun j hj=>all j (MY.mp hj);rw[KJ,Jz]at this;omega
 obtain⟨j,ej⟩:=key _ _ ne rfl;refine⟨j,?_⟩;unfold SetTable.freeSlot SetTable.probe;rw[ej];rfl
open PySem PySem.SetTable PySem.Sg PyProof.Rows
theorem dH {α:Type} (xs:Array α) (p:Nat) (x:α):(insertAt xs p x).size=xs.size + 1:=by
 unfold SetTable.insertAt;rw[Array.size_append,NM,Lq,Lq];omega
noncomputable def c_ (prog:Program) (w:World) (h:Heap) (a:Addr) (τ:List Str) (m:Nat):Prop:=
 ∃o es ep t,h.get? a=some o/\o.ExactSet/\o.data=.set es ep t/\ElemsOf (strKind prog w) es.toList/\List.Perm (es.toList.map fun e=>strOf e.2) τ
  /\es.size < scanBound/\t.fits es.size=true/\(w.params.followText "set-order" =true\/t.led=true)/\(es.size=0\/t.plain=false)/\t.mask=m/\t.dummies=#[]
theorem c_.is {prog:Program} {w:World} {h:Heap} {a:Addr} {τ:List Str} {m:Nat} (x:c_ prog w h a τ m):aQ prog w h a τ:=by
 obtain⟨o,es,ep,t,h1,h2,h3,h4,h5,h6,h7,h8,h9,_⟩:=x;exact⟨o,es,ep,t,h1,h2,h3,h4,h5,h6,h7,h8,h9⟩
theorem BN {t:SetTable} {es:Array (Int × Value)} (h:Int) (x:Value) (hm:CU t.mask) (hd:t.dummies=#[]) (hf:t.fits es.size=true) (hr:es.size + 1<=t.mask):
  ∃es' p',layNew t es h x=(es',{t with place:=p'},false,false)/\p'.size=es.size + 1:=by
 unfold SetTable.fits at hf;simp only[JU,LC,KL]at hf;obtain⟨j,hj⟩:=wt h hm hd (by omega);refine⟨insertAt es (below t.place j) (h,x),insertAt t.place (below t.place j) j,?_,by rw[dH];omega⟩;unfold layNew;rw[hj];dsimp only
 have e:t.put j=({t with place:=insertAt t.place (below t.place j) j},below t.place j):=by
  unfold SetTable.put;dsimp only;have:has t.dummies j=false:=by unfold SetTable.has;rw[hd];simp
  rw[this];rfl
 rw[e];dsimp only
 have ft:SetTable.fits {t with place:=insertAt t.place (below t.place j) j} (insertAt es (below t.place j) (h,x)).size=true:=by
  unfold SetTable.fits SetTable.fill;simp only[JU,LC,KL,dH,hd];refine⟨by omega,?_⟩;show t.place.size + 1 + 0<=t.mask;omega
 unfold SetTable.orStandIn;rw[Jc ft,ft];rfl
section add
variable {prog:Program} {w:World} {A:Around} {E:NT} {s:Shared}
theorem Ac {a:Addr} {τ:List Str} {k:Str} {u:Tok} {m:Nat} {Q:Bool->Shared->Prop} (hS:c_ prog w s.heap a τ m) (hm:CU m) (hroom:(τ.length + 1) * 5 < m * 3)
  (h:∀b h',Heap.SameBut a s.heap h'->c_ prog w h' a (Sg.putIn τ k) m->Q b {s with heap:=h'}):
  wpAny (model prog w) A (setAddHashed a (.str k u) ((strKind prog w).hash k)) Q E s:=by
 obtain⟨o,es,ep,t,ho,hex,hd,hel,hp,hb,hf,hled,hpl,hmk,hdm⟩:=hS;have m63:m<=63:=by unfold CU at hm;omega
 have hkey:(strKind prog w).is k (.str k u)=true:=strKind_is _ _ _ _;have hlen:es.size=τ.length:=by have z:=hp.length_eq;simpa using z
 unfold setAddHashed setAddHashedIn;refine JQ (IZ (J2 ho hd hf ?_));dsimp only;rw[byScan_of rfl hb hel,Jc rfl];unfold setAddByScan;refine IZ (IZ (Kn (IZ (Nx hkey ho hd hf hel ?_))))
 have memk:k ∈ τ ↔ ∃e ∈ es.toList,(strKind prog w).is k e.2=true:=by
  rw[<-hp.mem_iff,Jf];constructor
  ·rintro⟨e,he,q⟩
   obtain⟨⟨k',hk',_⟩,_⟩:=hel e he;obtain⟨z,_⟩:=isStr_of hk';exact⟨e,he,by rw[<-q,z];exact hk'⟩
  ·rintro⟨e,he,q⟩
   exact⟨e,he,(isStr_of q).1⟩
 cases hr:List.findIdx? (fun e=>(strKind prog w).is k e.2) es.toList with
 | some j=>
  dsimp only;obtain⟨hj,hpj,_⟩:=LG.mp hr;have hk:k ∈ τ:=memk.mpr ⟨_,K6 hj,hpj⟩;have z:=h false s.heap (KI a s.heap) (by unfold Sg.putIn;rw[Jc hk];exact⟨o,es,ep,t,ho,hex,hd,hel,hp,hb,hf,hled,hpl,hmk,hdm⟩);exact Ja (Ja z)
 | none=>
  dsimp only
  have hk:k ∉ τ:=fun c=>by
   obtain⟨e,he,q⟩:=memk.mp c;have z:=LB.mp hr e he;rw[q]at z;exact Bool.noConfusion z
  have h':∀h',Heap.SameBut a s.heap h'->c_ prog w h' a (τ++[k]) m->Q true {s with heap:=h'}:=fun h' a1 a2=>h true h' a1 (by unfold Sg.putIn;rw[I_ hk];exact a2);have p1:=layNew_perm t es ((strKind prog w).hash k) (.str k u);obtain⟨es1,p',el,pz⟩:=BN (t:=t) (es:=es) ((strKind prog w).hash k) (.str k u) (by rw[hmk];exact hm) hdm hf (by rw[hmk];omega);rw[el]at p1 ⊢;dsimp only at p1 ⊢;rw[Kw]at p1;have hel1:ElemsOf (strKind prog w) es1.toList:=(hel.push hkey rfl).perm p1;have hp1:List.Perm (es1.toList.map fun e=>strOf e.2) (τ++[k]):=(p1.map _).trans (by rw[Jt];exact hp.append_right _);have hs1:es1.size=τ.length + 1:=by have z:=hp1.length_eq;simpa using z
  have hb1:es1.size < scanBound:=by unfold scanBound;omega
  refine IZ (told false ?_)
  have last:∀pl:Bool,pl=false->wpAny (model prog w) A (do
    storeSet a es1 {t with place:=p',plain:=pl}
    if(!false && SetTable.tooFull {t with place:=p',plain:=pl})=true then do
      (match(relayAll {t with place:=p',plain:=pl} es1 (SetTable.grown es1.size)).2.2 with | true=>rule "set.scan.the-table-gave-way" | false=>pure ())
      storeSet a (relayAll {t with place:=p',plain:=pl} es1 (SetTable.grown es1.size)).1 (relayAll {t with place:=p',plain:=pl} es1 (SetTable.grown es1.size)).2.1
      pure (some true)
     else pure (some true))
    (fun r s'=>wpAny (model prog w) A (match r with | some added=>pure added | none=>setAddHashedIn a (Value.str k u) ((strKind prog w).hash k) 99999) Q E s') E s:=by
   intro pl hpl0;have g1:=eT (es':=es1) (t':={t with place:=p',plain:=pl}) ho hd;have k1:=J9 s.heap a (Obj.putSet es1 {t with place:=p',plain:=pl});refine IZ (Lh ho hd ?_ (KU hb1))
   have nf:SetTable.tooFull {t with place:=p',plain:=pl}=false:=by
    unfold SetTable.tooFull SetTable.fill;simp only[hdm,hmk,pz,hlen];simp;omega
   rw[I_ (by rw[nf];decide)]
   have ft:SetTable.fits {t with place:=p',plain:=pl} es1.size=true:=by
    unfold SetTable.fits SetTable.fill;simp only[hdm,hmk,pz,hlen,hs1];simp;omega
   exact Ja (Ja (h' _ k1 ⟨_,es1,_,_,g1,hex,rfl,hel1,hp1,hb1,ft,hled,.inr hpl0,hmk,hdm⟩))
  cases q:t.plain with
  | true=>
   rw[Jc rfl,hashByValue_scannable 8 rfl];refine IZ (Ja ?_);exact last false rfl
  | false=>
   rw[I_ (by decide)];refine IZ (Ja ?_);rw[Jc rfl];exact last false rfl
end add
theorem iO {α:Type} (xs:Array α) (p:Nat):(eraseAt xs p).toList=xs.toList.eraseIdx p:=by
 unfold SetTable.eraseAt;rw[Lb,JO,KR,KR];unfold List.extract;rw[List.drop_zero,NA]
 congr 1
 exact K4 (by simp)
theorem s_ {α:Type} (L:List α) (j:Nat) (h:j < L.length):List.Perm L (L[j]::L.eraseIdx j):=by
 have e:L=L.take j++L[j]::L.drop (j + 1):=by rw[List.getElem_cons_drop,Kh]
 rw[Lb];exact(List.Perm.of_eq e).trans LN
section
variable {prog:Program} {w:World} {A:Around} {E:NT} {s:Shared}
theorem zE {a:Addr} {τ:List Str} {k:Str} {u:Tok} {Q:Unit->Shared->Prop} (hS:aQ prog w s.heap a τ) (hroom:τ.length + 1 < scanBound)
  (h:∀h',Heap.SameBut a s.heap h'->aQ prog w h' a (if k ∈ τ then τ.erase k else τ++[k])->Q () {s with heap:=h'}):
  wpAny (model prog w) A (setDiscardHashed a (.str k u) ((strKind prog w).hash k) >>= fun b=>if(!b)=true then setAddHashed a (.str k u) ((strKind prog w).hash k) >>= fun _=>pure ()else pure ()) Q E s:=by
 have hS':=hS;obtain⟨o,es,ep,t,ho,hex,hd,hel,hp,hb,hf,hled,hpl⟩:=hS;have hkey:(strKind prog w).is k (.str k u)=true:=strKind_is _ _ _ _
 have memk:k ∈ τ ↔ ∃e ∈ es.toList,(strKind prog w).is k e.2=true:=by
  rw[<-hp.mem_iff,Jf];constructor
  ·rintro⟨e,he,q⟩
   obtain⟨⟨k',hk',_⟩,_⟩:=hel e he;obtain⟨z,_⟩:=isStr_of hk';exact⟨e,he,by rw[<-q,z];exact hk'⟩
  ·rintro⟨e,he,q⟩
   exact⟨e,he,(isStr_of q).1⟩
 refine IZ ?_;unfold setDiscardHashed setFind setFindIn;refine IZ (IZ (J2 ho hd hf ?_));dsimp only;rw[byScan_of rfl hb hel,Jc rfl];refine IZ (Kn (IZ (Nx hkey ho hd hf hel ?_)));cases hr:List.findIdx? (fun e=>(strKind prog w).is k e.2) es.toList with
 | none=>
  dsimp only;refine Ja (Ja ?_)
  have hk:k ∉ τ:=fun c=>by
   obtain⟨e,he,q⟩:=memk.mp c;have z:=LB.mp hr e he;rw[q]at z;exact Bool.noConfusion z
  rw[Jc (by decide)];refine IZ (add_str hS' hroom fun b h' sb is=>Ja (h h' sb ?_));rw[I_ hk];unfold Sg.putIn at is;rw[I_ hk]at is;exact is
 | some j=>
  obtain⟨hj,hpj,_⟩:=LG.mp hr;have hk:k ∈ τ:=memk.mpr ⟨_,K6 hj,hpj⟩;dsimp only;refine Ja ?_;dsimp only;rw[Kd];refine IZ (J2 ho hd hf ?_);dsimp only;have jz:j < es.size:=by simpa using hj
  have el:(eraseAt es j).toList=es.toList.eraseIdx j:=iO es j
  have ez:(eraseAt es j).size=es.size - 1:=by
   rw[<-Jz,el,LA hj,Jz]
  unfold SetTable.fits at hf;simp only[JU,LC,KL]at hf;obtain⟨q,hq⟩:∃q,t.place[j]?=some q:=⟨_,J1 (by omega)⟩
  have ed:t.drop j={t with place:=eraseAt t.place j,dummies:=insertAt t.dummies (below t.dummies q) q}:=by
   unfold SetTable.drop;rw[hq]
  have pz:(eraseAt t.place j).size=t.place.size - 1:=by
   rw[<-Jz,iO,LA (by simp;omega),Jz]
  have ft:(t.drop j).fits (eraseAt es j).size=true:=by
   rw[ed];unfold SetTable.fits SetTable.fill;simp only[JU,LC,KL];have h2:=hf.2;unfold SetTable.fill at h2;rw[pz,dH,ez];omega
  have hb1:(eraseAt es j).size < scanBound:=by omega
  have g1:=eT (es':=eraseAt es j) (t':=t.drop j) ho hd;have k1:=J9 s.heap a (Obj.putSet (eraseAt es j) (t.drop j));refine IZ (Lh ho hd ?_ (KU hb1));refine IZ (wpAny_point ?_);refine Ja ?_;rw[I_ (by decide)];refine Ja (h _ k1 ⟨_,eraseAt es j,_,t.drop j,g1,hex,rfl,fun e he=>?_,?_,hb1,ft,by rw[ed];exact hled,?_⟩)
  ·rw[el]at he;exact hel e (List.mem_of_mem_eraseIdx he)
  ·rw[Jc hk,el]
   have e1:(es.toList.eraseIdx j).map (fun e=>strOf e.2)=(es.toList.map fun e=>strOf e.2).eraseIdx j:=by
    rw[Lb,Lb,Jt,NS,List.map_drop]
   rw[e1];have hj2:j < (es.toList.map fun e=>strOf e.2).length:=by rw[Jb];exact hj
   have ek:(es.toList.map fun e=>strOf e.2)[j]=k:=by rw[List.getElem_map];exact(isStr_of hpj).1
   have p2:List.Perm (es.toList.map fun e=>strOf e.2) (k::(es.toList.map fun e=>strOf e.2).eraseIdx j):=by
    have:=s_ _ j hj2;rw[ek]at this;exact this
   have p3:=(p2.symm.trans hp).erase k;rw[List.erase_cons_head]at p3;exact p3
  ·rw[ed];exact .inr (hpl.resolve_left (by omega))
end
theorem zg (mask f m:Nat) (l p:Bool):laid mask f m l p #[]=some ({mask:=mask,place:=#[],dummies:=#[],finger:=f,led:=l,moves:=m,plain:=p},#[]):=by
 unfold SetTable.laid SetTable.layClean
 have e:∀n,(List.range n).filterMap (fun j=>((Array.replicate (mask + 1) (none:Option Nat)).getD j none).map (j,·))=[]:=fun n=>by
  rw[List.filterMap_eq_nil_iff];intro j _
  have:(Array.replicate (mask + 1) (none:Option Nat)).getD j none=none:=by
   rw[Array.getD_eq_getD_getElem?,Array.getElem?_replicate];split<;>rfl
  rw[this];rfl
 show some _=_;dsimp only;rw[e];rfl
noncomputable def wY (n:Nat):Nat:=if 21<=n * 5 then sizeAbove (n * 2) - 1 else 7
theorem DP:∀n,n < 32->CU (wY n)/\n * 5 < wY n * 3:=by unfold CU;decide +kernel
section
variable {prog:Program} {w:World} {A:Around} {E:NT} {s:Shared}
theorem qe {a:Addr} {n:Nat} {Q:Unit->Shared->Prop} (hS:c_ prog w s.heap a [] 7) (hn:n < 32) (h:∀h',Heap.SameBut a s.heap h'->c_ prog w h' a [] (wY n)->Q () {s with heap:=h'}):wpAny (model prog w) A (setRoomFor a n) Q E s:=by
 have hS0:=hS;obtain⟨o,es,ep,t,ho,hex,hd,hel,hp,hb,hf,hled,hpl,hmk,hdm⟩:=hS
 have ez:es=#[]:=by
  have z:=hp.length_eq;simp at z;exact z
 subst ez
 have pz:t.place.size=0:=by
  unfold SetTable.fits at hf;simp only[JU,LC,KL]at hf;exact hf.1
 have er:t.roomFor n=if 21<=n * 5 then some (n * 2)else none:=by
  unfold SetTable.roomFor SetTable.fill;rw[hdm,hmk,pz];simp
 unfold setRoomFor;refine IZ (J2 ho hd hf ?_);dsimp only;rw[er]
 by_cases q:21<=n * 5
 ·rw[Jc q];dsimp only;unfold setRelay;refine IZ (J2 ho hd hf ?_);dsimp only
  have big:¬ (sizeAbove (n * 2) > sizeLine):=by
   have:∀k,k < 64->sizeAbove k<=64:=by decide +kernel
   have:=this (n * 2) (by omega);rw[Jm];omega
  rw[I_ big]
  have rl:t.relaid (Array.map (fun x:Int × Value=>x.1) #[]) (n * 2)=some ({mask:=sizeAbove (n * 2) - 1,place:=#[],dummies:=#[],finger:=t.finger,led:=t.led,moves:=t.movedTo (sizeAbove (n * 2) - 1),plain:=t.plain},#[]):=by
   rw[show Array.map (fun x:Int × Value=>x.1) #[]=#[] by simp];unfold SetTable.relaid;exact zg _ _ _ _ _
  rw[rl];refine IZ (Lc (a:=((#[]:Array (Int × Value)),({mask:=sizeAbove (n * 2) - 1,place:=#[],dummies:=#[],finger:=t.finger,led:=t.led,moves:=t.movedTo (sizeAbove (n * 2) - 1),plain:=t.plain}:SetTable))) rfl ?_);dsimp only;refine Lh ho hd (h _ (J9 ..) ⟨_,#[],_,_,eT ho hd,hex,rfl,hel,hp,hb,?_,hled,.inl rfl,?_,rfl⟩) (by simp)
  ·unfold SetTable.fits SetTable.fill;simp
  ·unfold wY;rw[Jc q]
 ·rw[I_ q];refine Ja (h s.heap (KI a s.heap) ?_);unfold wY;rw[I_ q];exact hS0
end
open PySem PySem.SetTable PySem.Sg PyProof.Rows L2
section
variable {prog:Program} {w:World} {A:Around} {E:NT} {s:Shared}
theorem uA {X1 X2:Sem (ForInStep PUnit)} {d S:Addr} {ts:List Str} {es:Array DictEntry} {ep:Nat} {o:Obj} {m:Nat} (hm:CU m) (hr:ts.length * 5 < m * 3) (hSd:S ≠ d) (ho:o.data=.dict es ep) (hk:∀ (i:Nat) e,es[i]?=some e->∃x t,ts[i]?=some x/\e.key=.str x t/\e.hash=(strKind prog w).hash x) (hl:es.size=ts.length) (nd:ts.Nodup):
  ∀ (n i:Nat) (h:Heap) {Q:PUnit->Shared->Prop},i + n=ts.length->c_ prog w h S (ts.take i) m->h.get? d=some o->(∀ h',Heap.SameBut S h h'->c_ prog w h' S ts m->Q ⟨⟩ {s with heap:=h'})->
  wpAny (model prog w) A (forIn (List.range' i n 1) PUnit.unit fun i _=>dictEntries d >>= fun es'=>match es'[i]? with
   | some e=>holding [e.key] (setAddHashed S e.key e.hash) >>= fun _=>dictEpoch d >>= fun p=>if(p != ep)=true then X1 else pure (ForInStep.yield PUnit.unit)
   | _=>X2) Q E {s with heap:=h}
 | 0,i,h,Q,e,hS,hd,q=>by
  rw[show i=ts.length by omega,KD]at hS;exact Ja (q h (KI _ _) hS)
 | n + 1,i,h,Q,e,hS,hd,q=>by
  rw[List.range'_succ,KZ];refine IZ ?_;refine IZ (Np hd ho ?_);obtain⟨en,hen⟩:∃en,es[i]?=some en:=⟨_,J1 (by omega)⟩;rw[hen];dsimp only;obtain⟨x,t,hx,ek,eh⟩:=hk i en hen;rw[ek,eh];have tl:(ts.take i).length=i:=by rw[J7];omega
  have nx:x ∉ ts.take i:=fun z=>by
   obtain⟨j,hj⟩:=L7.mp z;obtain⟨j1,j2⟩:=Ju.mp hj;rw[J7]at j1;obtain⟨i1,i2⟩:=Ju.mp hx;rw[List.getElem_take]at j2;exact Ku.mp nd j i (by omega) i1 (by omega) (j2.trans i2.symm)
  refine IZ (JQ (Ac (s:={s with heap:=h}) hS hm (by rw[tl];omega) fun b h' sb is=>?_));unfold Sg.putIn at is;rw[I_ nx]at is;have ts1:ts.take i++[x]=ts.take (i + 1):=by rw[M5,hx];rfl
  rw[ts1]at is;have hd':=sb.extBut _ _ (J5 hSd) hd;refine IZ (wpAny_dictEpoch (s:={s with heap:=h'}) hd' ho ?_);rw[I_ (by simp)];refine Ja ?_;exact uA hm hr hSd ho hk hl nd n (i + 1) h' (by omega) is hd' fun h2 sb2 is2=>q h2 (sb.trans sb2) is2
end
section
variable {prog:Program} {w:World} {A:Around} {E:NT} {s:Shared}
theorem qv (h:Heap):c_ prog w (h.push (aR w)) h.objs.size [] 7:=
 ⟨_,#[],0,_,Jr _ rfl,⟨rfl,rfl,rfl⟩,rfl,fun e he=>by simp at he,.nil,by decide,rfl,by
  cases e:w.params.followText "set-order"
  ·exact .inr rfl
  ·exact .inl rfl,.inl rfl,rfl,rfl⟩
theorem vE {es:List DictEntry} {kvs:List (Key × Value)} {ts:List Str} (hp:Pairs (aL prog w) es kvs) (hk:kvs.map (·.1)=ts.map Sum.inr):∀ (i:Nat) e,es[i]?=some e->∃x t,ts[i]?=some x/\e.key=.str x t:=by
 induction hp generalizing ts with
 | nil=>intro i e h;simp at h
 | cons h1 h2 h3 ih=>
  intro i e h;cases ts with
  | nil=>simp at hk
  | cons x ts=>
   rw[JA,JA,List.cons.injEq]at hk;cases i with
   | zero=>
    cases h
    rw[hk.1]at h1;obtain⟨t,ht⟩:=Mc (show Value.isStrOf x _=true from h1);exact⟨x,t,rfl,ht⟩
   | succ i=>exact ih hk.2 i e h
theorem gr (hh:A.handled=none) {d:Addr} {kvs:List (Key × Value)} {ts:List Str} (hy:(d == sysModules)=false) (hD:s.heap.DictOf (aL prog w) d kvs) (hk:kvs.map (·.1)=ts.map Sum.inr) (b7:ts.length < 32) {Q:NT}
  (h:∀ (h':Heap) (tk:Nat),c_ prog w h' s.heap.objs.size ts (wY ts.length)->(∀ b o,s.heap.get? b=some o->h'.get? b=some o)->Q (.ref s.heap.objs.size) {s with heap:=h',toks:=tk}):
  wpAny (model prog w) A (call (.type "set") [.ref d]) Q E s:=by
 obtain⟨od,es,ep,hod,hex,hdd,hks,hpr,hnd⟩:=hD;have lt:d < s.heap.objs.size:=Jk hod
 have nd:ts.Nodup:=by
  rw[hk]at hnd;exact(KW.mp hnd).imp fun h e=>h (by rw[e])
 have lk:ts.length=kvs.length:=by have:=congrArg List.length hk;simpa using this.symm
 have esz:es.size=ts.length:=by
  have:=hpr.length;rw[Jz]at this;omega
 have key:∀ (i:Nat) e,es[i]?=some e->∃x t,ts[i]?=some x/\e.key=.str x t/\e.hash=(strKind prog w).hash x:=fun i e he=>by
  obtain⟨x,t,h1,h2⟩:=vE hpr hk i e (by rw[KO];exact he);obtain⟨k',h3,h4⟩:=hks e (Array.mem_of_getElem? he);refine⟨x,t,h1,h2,?_⟩;rw[h4];rw[h2]at h3;cases k' with
  | inl i=>cases h3
  | inr y=>
   have:y=x:=by
    obtain⟨u,hu⟩:=Mc (show Value.isStrOf y (.str x t)=true from h3);cases hu
    rfl
   subst this;rfl
 obtain⟨c,tl,hmro⟩:=JX.mro;have hmade:=JX.made;have hsub:=JX.sub;refine wpAny_call (codeAny_of_tree ?_);show wpAny _ _ (callAny (.type "set") _) _ _ _;refine Ja ⟨Code.quiet_builtin _ (by decide +kernel),Ky NI ?_⟩;rw[Around.under_plain (weight_type_call_type "set" [.ref d] []) rfl];have h1:=JX.notType;have h2:=JX.canCreate;have hct:=PySem.F.typeCall_set_1 (.ref d)
 repeat (any_goals (first | assumption | wp_step))
 refine LM (rm (.ref d) (E:=E) (Q₁:=fun obj s₁=>obj=.ref s.heap.objs.size/\s₁={s with heap:=s.heap.push (aR w)}) ⟨rfl,rfl⟩) fun r s₁ hr=>?_;cases r with
 | error e=>exact hr
 | ok fl=>
  cases fl with
  | ret obj=>
   obtain⟨rfl,rfl⟩:=hr;have hS:(s.heap.push (aR w)).get? s.heap.objs.size=some (aR w):=Jr _ rfl;have hT:Shared.TypeIs {s with heap:=s.heap.push (aR w)} (.ref s.heap.objs.size) "set" :=⟨_,hS,rfl⟩;have hli:=JX.init.lookup;have hbi:=JX.init.bind (.ref s.heap.objs.size)
   repeat (any_goals (first | assumption | wp_step))
   refine LM (codeAny_call_builtin (R:=wants (fun r s₂=>r=.none/\∃h' tk,s₂={s with heap:=h',toks:=tk}/\c_ prog w h' s.heap.objs.size ts (wY ts.length)/\
     (∀ b o,s.heap.get? b=some o->h'.get? b=some o)) E) JX.init.plain PySem.F.entry_set_init (check_set_init_1 hT ?_)) fun r₂ s₂ hr₂=>?_
   ·obtain⟨ocls,odict,odata,oslots⟩:=od;obtain⟨x1,x2,x3⟩:=id hex;have hod':(s.heap.push (aR w)).get? d=some ⟨ocls,odict,odata,oslots⟩:=Jd _ hod;have hTd:Shared.TypeIs {s with heap:=s.heap.push (aR w)} (.ref d) "dict" :=⟨_,hod',x1⟩
    have fin:∀ (B:Around) (K:PUnit->Shared->Prop) (X:NT),(∀ h',c_ prog w h' s.heap.objs.size ts (wY ts.length)->(∀ b o,s.heap.get? b=some o->h'.get? b=some o)->K ⟨⟩ {s with heap:=h'})->
      wpAny (model prog w) B (Builtin.Frozenset.updateFrom "set.__init__" s.heap.objs.size (.ref d)) K X {s with heap:=s.heap.push (aR w)}:=fun B K X hK=>by
     unfold Builtin.Frozenset.updateFrom Builtin.Frozenset.isAnySet;refine IZ (IZ (KP (T:= "dict") (b:=false) hTd PySem.F.sub_dict_set ?_));dsimp only;refine KP (T:= "dict") (b:=false) hTd PySem.F.sub_dict_frozenset ?_;rw[I_ (by decide)];refine IZ (LL hTd ?_);rw[Jc (by decide)];refine IZ (Kn ?_);refine IZ (Lc (a:=d) rfl ?_);rw[hy,I_ (by decide)];refine IZ (wpAny_dictEpoch hod' hdd ?_);refine IZ (Np hod' hdd ?_);rw[esz];refine IZ (qe (qv s.heap) b7 fun h1 sb1 is1=>?_);have hd1:=sb1.extBut _ _ (Js lt) hod';refine IZ (Np (s:={s with heap:=h1}) hd1 hdd ?_);rw[esz,Std.Legacy.Range.forIn_eq_forIn_range'];have mk:=DP ts.length b7;refine IZ ?_
     have rs:Std.Legacy.Range.size [:ts.length]=ts.length:=by
      simp[Std.Legacy.Range.size]
     rw[rs];refine uA (s:=s) mk.1 mk.2 (KG lt) hdd key esz nd ts.length 0 h1 (by omega) (by rw[NP];exact is1) hd1 fun h2 sb2 is2=>?_;refine Ja (hK h2 is2 fun b o e=>?_);have ne:b ≠ s.heap.objs.size:=Js (Jk e);exact sb2.extBut _ _ ne (sb1.extBut _ _ ne (Jd _ e))
    unfold Builtin.«set.__init__» noKeywords;generalize hU:Builtin.Frozenset.updateFrom=U
    wp_walk
    subst hU;refine fin _ _ _ fun h' is k=>?_;refine Ja ⟨rfl,h',s.toks,rfl,is,k⟩
   ·cases r₂ with
    | error e=>exact hr₂
    | ok fl₂=>
     cases fl₂ with
     | ret r=>
      obtain⟨rfl,h',tk,rfl,hS',hk'⟩:=hr₂
      repeat (any_goals (first | assumption | wp_step))
      exact h _ _ hS' hk'
     | _=>exact hr₂.elim
  | _=>exact hr.elim
end
section
variable {prog:Program} {w:World} {A:Around} {E:NT} {s:Shared}
theorem xh {a:Addr} {o:Obj} {es:Array (Int × Value)} {ep:Nat} {t:SetTable} {Q:Array (Int × Value)->Shared->Prop} (ho:s.heap.get? a=some o) (hd:o.data=.set es ep t) (hf:t.fits es.size=true)
  (hs:w.params.followText "set-order" =true\/es.size<=1) (h:∀arr,List.Perm arr.toList es.toList->Q arr s):wpAny (model prog w) A (setWalk a) Q E s:=by
 unfold setWalk setsByText;refine IZ (J2 ho hd hf ?_);dsimp only;refine IZ (IZ (KC (Ja ?_)));show wpAny _ _ (if(w.params.followText "set-order")=true then _ else _) _ _ _;cases q:w.params.followText "set-order" with
 | true=>
  rw[Jc rfl];exact IZ (KC (Ja (h _ (fS _ es))))
 | false=>
  have hn:es.size<=1:=hs.resolve_left (by rw[q];decide);rw[I_ (by decide)];show wpAny _ _ (if(!t.plain && decide (es.size > 1))=true then _ else _) _ _ _;rw[I_ (by rw[JK (Mr.mpr hn),MZ];decide)];refine IZ ?_;show wpAny _ _ (if(!t.led && decide (es.size > 1))=true then _ else _) _ _ _;rw[I_ (by rw[JK (Mr.mpr hn),MZ];decide)];exact Ja (Ja (h es (List.Perm.refl _)))
theorem kP {α:Type} {b:α}:∀ (l:List (Int × Value)) (k:α->Sem (ForInStep α)) (f:Int × Value->α->Sem (ForInStep α)) {Q:α->Shared->Prop},(∀ e ∈ l,f e b=pure (ForInStep.yield b))->Q b s->wpAny (model prog w) A (forIn l b f) Q E s
 | [],_,f,Q,_,q=>Ja q
 | e::r,k,f,Q,h,q=>by
  rw[KZ,h e Jj];refine IZ (Ja ?_);exact kP r k f (fun x hx=>h x (Ji _ hx)) q
theorem vy {a b:Addr} {τ ρ:List Str} {Q:Bool->Shared->Prop} (ha:aQ prog w s.heap a τ) (hb:aQ prog w s.heap b ρ) (h:Q true s):wpAny (model prog w) A (setsQuiet [a,b]) Q E s:=by
 obtain⟨o,es,ep,t,ho,hex,hd,hel,hp,hbd,hf,hled,hpl⟩:=ha;obtain⟨o2,es2,ep2,t2,ho2,hex2,hd2,hel2,hp2,hbd2,hf2,hled2,hpl2⟩:=hb;unfold setsQuiet;simp only[KZ,M8];refine IZ (IZ (IZ (K1 ho hd hf ?_)));rw[<-K9];refine IZ (kP es.toList (fun _=>pure (ForInStep.yield (none,()))) _ (fun e he=>?_) ?_)
 ·obtain⟨⟨k,hk,_⟩,_⟩:=hel e he;obtain⟨_,u,eu⟩:=isStr_of hk
  try dsimp only
  rw[eu]
 dsimp only;refine Ja ?_;dsimp only;refine IZ (IZ (K1 ho2 hd2 hf2 ?_));rw[<-K9];refine IZ (kP es2.toList (fun _=>pure (ForInStep.yield (none,()))) _ (fun e he=>?_) ?_)
 ·obtain⟨⟨k,hk,_⟩,_⟩:=hel2 e he;obtain⟨_,u,eu⟩:=isStr_of hk
  try dsimp only
  rw[eu]
 dsimp only;refine Ja (Ja ?_);dsimp only;exact Ja h
theorem pU {a r:Addr} {τ ρ:List Str} {Q:Array (Int × Value)->Shared->Prop} (har:a ≠ r) (ha:aQ prog w s.heap a τ) (hr:aQ prog w s.heap r ρ)
  (h:∀arr h',Heap.SameBut r s.heap h'->aQ prog w h' r ρ->ElemsOf (strKind prog w) arr.toList->List.Perm (arr.toList.map fun e=>strOf e.2) τ->Q arr {s with heap:=h'}):wpAny (model prog w) A (setWalkUnseen a [r] (some r)) Q E s:=by
 have ha0:=ha;have hr0:=hr;obtain⟨o,es,ep,t,ho,hex,hd,hel,hp,hbd,hf,hled,hpl⟩:=ha;unfold setWalkUnseen setsByText;refine IZ (J2 ho hd hf ?_);dsimp only;refine IZ (IZ (KC (Ja ?_)))
 have b7:∀ (q:w.params.followText "set-order" =true\/es.size<=1),wpAny (model prog w) A (setWalk a) Q E s:=fun q=>
  xh ho hd hf q fun arr pm=>h arr s.heap (KI _ _) hr0 (hel.perm pm) ((pm.map _).trans hp)
 show wpAny _ _ (if(w.params.followText "set-order" || (t.led && t.plain) || decide (es.size<=1))=true then _ else _) _ _ _;cases q:w.params.followText "set-order" with
 | true=>
  rw[Jc (by simp)];exact b7 (.inl q)
 | false=>
  by_cases n1:es.size<=1
  ·rw[Jc (by simp[n1])];exact b7 (.inr n1)
  ·have tp:t.plain=false:=hpl.resolve_left (by omega);have tl:t.led=true:=hled.resolve_left (by rw[q];decide);rw[I_ (by simp[n1,tp])];refine IZ (vy ha0 hr0 ?_);rw[I_ (by decide)];refine IZ (Kn ?_)
   try dsimp only
   obtain⟨o2,es2,ep2,t2,ho2,hex2,hd2,hel2,hp2,hbd2,hf2,hled2,hpl2⟩:=hr;refine IZ (J2 ho2 hd2 hf2 ?_);dsimp only;rw[tl,tp]
   by_cases pl:t2.plain=true
   ·rw[Jc (by simp[pl])];refine IZ (Lh ho2 hd2 ?_ (KU hbd2));refine Ja (h es _ (J9 ..) ⟨_,es2,_,_,eT ho2 hd2,hex2,rfl,hel2,hp2,hbd2,hf2,by simpa using hled2,.inr (by simp)⟩ hel hp)
   ·rw[I_ (by simp[pl])];exact Ja (h es s.heap (KI _ _) hr0 hel hp)
end
section
variable {prog:Program} {w:World} {A:Around} {E:NT} {s:Shared}
theorem c_.at {h h':Heap} {a:Addr} {τ:List Str} {m:Nat} (x:c_ prog w h a τ m) (k:∀o,h.get? a=some o->h'.get? a=some o):c_ prog w h' a τ m:=by
 obtain⟨o,es,ep,t,h1,r⟩:=x;exact⟨o,es,ep,t,k o h1,r⟩
theorem vP {r c:Addr} {τ:List Str} {id:String} {Q:Unit->Shared->Prop} (b7:τ.length < 32) (ne:c ≠ r) (hr:c_ prog w s.heap r τ (wY τ.length)) (hc:c_ prog w s.heap c [] 7)
  (h:∀h',Heap.SameBut c s.heap h'->aQ prog w h' c τ->Q () {s with heap:=h'}):wpAny (model prog w) A (Builtin.Frozenset.merge id c r) Q E s:=by
 have hc0:=hc;obtain⟨o,es,ep,t,ho,hex,hd,hel,hp,hbd,hf,hled,hpl,hmk,hdm⟩:=hr;have hlen:es.size=τ.length:=by have z:=hp.length_eq;simpa using z
 unfold Builtin.Frozenset.merge;refine IZ (LY ho hd hf ?_);unfold setMerge;rw[I_ (by simpa using ne)];refine IZ (J2 ho hd hf ?_);dsimp only
 by_cases e0:es.isEmpty=true
 ·rw[Jc e0]
  have tn:τ=[]:=by
   have:es.size=0:=by simpa[Array.isEmpty]using e0
   exact NL.mp (by omega)
  rw[tn]at h;exact Ja (h s.heap (KI _ _) hc.is)
 ·rw[I_ e0,hlen];refine IZ (qe hc b7 fun h1 sb1 is1=>?_);obtain⟨o1,es1,ep1,t1,ho1,hex1,hd1,hel1,hp1,hbd1,hf1,hled1,hpl1,hmk1,hdm1⟩:=is1;have ez:es1.size=0:=by have z:=hp1.length_eq;simpa using z
  refine IZ (J2 (s:={s with heap:=h1}) ho1 hd1 hf1 ?_);dsimp only
  have pz:t1.place.size=0:=by
   unfold SetTable.fits at hf1;simp only[JU,LC,KL]at hf1;omega
  have rd:t1.road t=.slotForSlot:=by
   unfold SetTable.road SetTable.fill;rw[hdm1,hmk1,hmk,hdm,pz];simp
  rw[rd];dsimp only;refine Lh (s:={s with heap:=h1}) ho1 hd1 (h _ (sb1.trans (J9 ..)) ⟨_,es,_,_,eT ho1 hd1,hex1,rfl,hel,hp,hbd,?_,?_,?_⟩) (KU hbd)
  ·exact hf
  ·rcases hled with q | q
   ·exact .inl q
   ·rcases hled1 with q1 | q1
    ·exact .inl q1
    ·exact .inr (by simp[q,q1])
  ·rcases hpl with q | q
   ·exact .inl q
   ·exact .inr (by simp[q])
noncomputable def jM (ρ:List Str):List Str->List Str
 | []=>ρ
 | k::r=>jM (if k ∈ ρ then ρ.erase k else ρ++[k]) r
theorem ko:∀ (τ ρ:List Str),(jM ρ τ).length<=ρ.length + τ.length
 | [],ρ=>by simp[jM]
 | k::r,ρ=>by
  unfold jM;refine JB (ko r _) ?_;split
  ·have:=List.length_erase_le (a:=k) (l:=ρ);rw[JW];omega
  ·rw[Jl,JW];simp;omega
theorem kn:∀ {τ ρ:List Str},ρ.Nodup->τ.Nodup->(jM ρ τ).Nodup/\∀x,x ∈ jM ρ τ ↔ (x ∈ ρ/\x ∉ τ)\/(x ∈ τ/\x ∉ ρ)
 | [],ρ,h,_=>⟨h,fun x=>by simp[jM]⟩
 | k::r,ρ,h,g=>by
  obtain⟨g1,g2⟩:=JN.mp g;unfold jM
  by_cases q:k ∈ ρ
  ·rw[Jc q];obtain⟨i1,i2⟩:=kn (h.erase k) g2;refine⟨i1,fun x=>?_⟩;rw[i2 x,h.mem_erase_iff,Jq]
   by_cases e:x=k
   ·subst e;simp[q,g1]
   ·simp[e]
  ·rw[I_ q];have n:(ρ++[k]).Nodup:=JI.mpr ⟨h,by simp,fun a ha b hb e=>by rw[Jo.mp hb]at e;exact q (e ▸ ha)⟩;obtain⟨i1,i2⟩:=kn n g2;refine⟨i1,fun x=>?_⟩;rw[i2 x,Jx,Jo,Jq]
   by_cases e:x=k
   ·subst e;simp[q,g1]
   ·simp[e]
end
theorem mM:entryFor table "set.__xor__" =some Builtin.«frozenset.__xor__»:=
 entryFor_alias (id':= "frozenset.__xor__") (by kernel_rfl) rfl (by decide +kernel) (by kernel_rfl)
section
variable {prog:Program} {w:World} {A:Around} {E:NT} {s:Shared}
theorem aQ.ty {a:Addr} {τ:List Str} (h:aQ prog w s.heap a τ):s.TypeIs (.ref a) "set" :=by
 obtain⟨o,es,ep,t,ho,hex,_⟩:=h;exact⟨o,ho,hex.1⟩
theorem kj {a:Addr} {τ:List Str} {Q:Bool->Shared->Prop} (h:aQ prog w s.heap a τ) (q:Q true s):wpAny (model prog w) A (Builtin.Frozenset.isAnySet (.ref a)) Q E s:=by
 unfold Builtin.Frozenset.isAnySet;refine IZ (KP (T:= "set") (b:=true) (aQ.ty h) sub_set_self ?_);exact Ja q
theorem yI {Q:NT} (h:Q (.ref s.heap.objs.size) {s with heap:=s.heap.push (aR w)}):wpAny (model prog w) A (newSet (.type "set")) Q E s:=by
 unfold newSet setsByText;refine IZ (IZ (KC (Ja ?_)));dsimp only;simp only[newObj];exact IZ (wpAny_alloc (Ja h))
theorem zA {r:Addr} {τ:List Str} {id:String} {Q:NT} (b7:τ.length < 32) (hr:c_ prog w s.heap r τ (wY τ.length))
  (h:∀h',(∀ b o,s.heap.get? b=some o->h'.get? b=some o)->aQ prog w h' s.heap.objs.size τ->Q (.ref s.heap.objs.size) {s with heap:=h'}):wpAny (model prog w) A (Builtin.Frozenset.newFrom id (.type "set") (.ref r)) Q E s:=by
 have hr0:=hr;obtain⟨o,es,ep,t,ho,hex,_⟩:=hr;have lt:r < s.heap.objs.size:=Jk ho;have k0:∀b o,s.heap.get? b=some o->(s.heap.push (aR w)).get? b=some o:=fun b o e=>Jd _ e;have hr1:=hr0.at (h':=s.heap.push (aR w)) (k0 r);unfold Builtin.Frozenset.newFrom;refine IZ (yI ?_);refine IZ (Lc (a:=s.heap.objs.size) rfl ?_);refine IZ (JQ ?_);unfold Builtin.Frozenset.updateFrom;refine IZ (kj (s:={s with heap:=s.heap.push (aR w)}) hr1.is ?_);rw[Jc rfl];refine IZ (Lc (a:=r) rfl ?_);refine vP (s:={s with heap:=s.heap.push (aR w)}) b7 (KG lt) hr1 (qv s.heap) fun h' sb is=>?_;refine Ja (h h' (fun b o e=>sb.extBut _ _ (Js (Jk e)) (k0 b o e)) is)
theorem qU {S o:Addr} {ob:Obj} {eo:Array (Int × Value)} {ep:Nat} {t:SetTable} {id:String} (hSo:o ≠ S) (hd:ob.data=.set eo ep t) (hf:t.fits eo.size=true):
  ∀ (l:List (Int × Value)) (ρ:List Str) (h:Heap) {Q:PUnit->Shared->Prop},ElemsOf (strKind prog w) l->aQ prog w h S ρ->h.get? o=some ob->ρ.length + l.length < scanBound->
  (∀ h',Heap.SameBut S h h'->aQ prog w h' S (jM ρ (l.map fun e=>strOf e.2))->Q ⟨⟩ {s with heap:=h'})->
  wpAny (model prog w) A (forIn l PUnit.unit fun e _=>(holding [e.2] (setDiscardHashed S e.2 e.1 >>= fun b=>if(!b)=true then setAddHashed S e.2 e.1 >>= fun _=>pure ()else pure ())) >>= fun _=>Builtin.Frozenset.unchanged id o ep >>= fun _=>pure (ForInStep.yield PUnit.unit)) Q E {s with heap:=h}
 | [],ρ,h,Q,_,hS,_,_,q=>Ja (q h (KI _ _) hS)
 | e::r,ρ,h,Q,he,hS,ho,len,q=>by
  rw[KZ];obtain⟨⟨k,hk,hh⟩,_⟩:=he.head;obtain⟨e1,u,eu⟩:=isStr_of hk;obtain⟨hv,x⟩:=e;dsimp only at hk hh e1 eu;subst eu hh;rw[JW]at len;refine IZ (IZ (JQ (zE (s:={s with heap:=h}) hS (by omega) fun h' sb is=>?_)));have ho':=sb.extBut _ _ hSo ho;unfold Builtin.Frozenset.unchanged;refine IZ (IZ (LY (s:={s with heap:=h'}) ho' hd hf ?_));rw[I_ (by simp)];refine Ja (Ja ?_);refine qU hSo hd hf r _ h' he.tail is ho' ?_ fun h2 sb2 is2=>q h2 (sb.trans sb2) ?_
  ·split
   ·have:=List.length_erase_le (a:=k) (l:=ρ);omega
   ·rw[Jl];simp;omega
  ·rw[JA];unfold jM;exact is2
theorem w_ {S o:Addr} {ρ τ:List Str} {id:String} {Q:Unit->Shared->Prop} (hSo:o ≠ S) (hS:aQ prog w s.heap S ρ) (ho:aQ prog w s.heap o τ) (len:ρ.length + τ.length < scanBound)
  (h:∀h' l,Heap.SameBut S s.heap h'->List.Perm l τ->aQ prog w h' S (jM ρ l)->Q () {s with heap:=h'}):wpAny (model prog w) A (Builtin.Frozenset.symmetricDifferenceUpdate id S (.ref o)) Q E s:=by
 have hT:s.TypeIs (.ref o) "set" :=aQ.ty ho;have ho0:=ho;obtain⟨ob,es,ep,t,hob,hex,hd,hel,hp,hbd,hf,hled,hpl⟩:=ho;unfold Builtin.Frozenset.symmetricDifferenceUpdate;rw[I_ (by simpa using hSo)];refine IZ (LL hT ?_);rw[I_ (by decide)];refine IZ (kj ho0 ?_);dsimp only;rw[Jc rfl];refine IZ (Ja ?_);refine IZ (Lc (a:=o) rfl ?_);refine IZ (LY hob hd hf ?_);refine JQ ?_;refine IZ (pU hSo ho0 hS fun arr h1 sb1 is1 he pm=>?_);rw[<-K9];have hob1:=sb1.extBut _ _ hSo hob;have ln:=pm.length_eq;rw[Jb]at ln;refine IZ (qU hSo hd hf arr.toList ρ h1 he is1 hob1 (by omega) fun h2 sb2 is2=>Ja (h h2 _ (sb1.trans sb2) pm is2))
theorem w9 {a b:Addr} {τ ρ:List Str} {Q:NT} (fa:τ.length < 32) (fb:ρ.length < 32) (ha:c_ prog w s.heap a τ (wY τ.length)) (hb:c_ prog w s.heap b ρ (wY ρ.length))
  (h:∀h' l,(∀ b o,s.heap.get? b=some o->h'.get? b=some o)->List.Perm l τ->aQ prog w h' s.heap.objs.size (jM ρ l)->Q (.ref s.heap.objs.size) {s with heap:=h'}):wpAny (model prog w) A (binaryOp .BitXor (.ref a) (.ref b)) Q E s:=by
 have Ta:s.TypeIs (.ref a) "set" :=aQ.ty ha.is;have Tb:s.TypeIs (.ref b) "set" :=aQ.ty hb.is;refine wpAny_binaryOp_same (op:=.BitXor) (T:= "set") Ta Tb PySem.F.fills_set_xor PySem.F.slot_set_xor ?_;refine Kc PySem.F.slot_set_xor Ta mM ?_ (PySem.F.args_set_xor_2 _ _)
 have lt:a < s.heap.objs.size:=by
  obtain⟨o,es,ep,t,ho,hex,_⟩:=ha;exact Jk ho
 unfold Builtin.«frozenset.__xor__»;refine IZ (m:=Builtin.Frozenset.slot1 "__xor__" ⟨[.ref a,.ref b],[]⟩) (Lc (a:=(.ref a,.ref b)) (by kernel_rfl) ?_);dsimp only;rw[I_ (by decide:¬ (false=true))];dsimp only;refine IZ (IZ (kj ha.is ?_));refine kj hb.is ?_;rw[I_ (by decide)];refine IZ (Lc (a:=a) rfl ?_);refine IZ (IZ (m:=Builtin.Frozenset.baseOf a) ?_);unfold Builtin.Frozenset.baseOf;refine IZ (KP (T:= "set") (b:=true) Ta sub_set_self ?_);rw[Jc rfl];refine Ja ?_;refine IZ (zA fb hb fun h1 k1 is1=>?_);refine IZ (Lc (a:=s.heap.objs.size) rfl ?_);refine IZ (JQ (w_ (s:={s with heap:=h1}) (Js lt) is1 (ha.at (k1 a)).is (by unfold scanBound;omega) fun h2 l sb pm is2=>?_));refine Ja ?_;exact Ja ⟨_,rfl,by simp,h h2 l (fun b o e=>sb.extBut _ _ (Js (Jk e)) (k1 b o e)) pm is2⟩
end
end PySem.Sx
namespace Sw
open PySem PySem.Spec PyProof.Rows L2
open PySem.W (Frag keepIn ktsIn mroIn kitOne)
theorem Iw (m:Mf):PlainAttrs (Hr m)/\Slot (Hr m) m.name (DQ m)/\typeOf (.builtin (DQ m))=pure (.type "method_descriptor"):=by
 cases m
 ·exact⟨MF,F.slot_str_startswith,F.type_str_startswith⟩
 ·exact⟨MF,F.slot_str_endswith,F.type_str_endswith⟩
 ·exact⟨MF,F.slot_str_split,F.type_str_split⟩
 ·exact⟨MF,F.slot_str_join,F.type_str_join⟩
 ·exact⟨Mx,F.slot_list_append,F.type_list_append⟩
 ·exact⟨Mx,F.slot_list_pop,F.type_list_pop⟩
 ·exact⟨Mx,F.slot_list_extend,F.type_list_extend⟩
 ·exact⟨Mx,F.slot_list_clear,F.type_list_clear⟩
 ·exact⟨LZ,F.slot_dict_pop,F.type_dict_pop⟩
 ·exact⟨LZ,F.slot_dict_clear,F.type_dict_clear⟩
 ·exact⟨LZ,F.slot_dict_copy,F.type_dict_copy⟩
 ·exact⟨LZ,F.slot_dict_setdefault,F.type_dict_setdefault⟩
 ·exact⟨LZ,F.slot_dict_get,F.type_dict_get⟩
theorem gb {o:Expr} {m:Str} {env:Env} {t:Sem Value} (h:iD o=true):attributeBase o m env t=t:=by
 cases o with
 | Call f args kws pos=>
  cases f with
  | Name x p=>
   cases args with
   | nil=>
    cases kws with
    | nil=>cases h
    | cons _ _=>rfl
   | cons _ _=>rfl
  | _=>rfl
 | _=>rfl
section
variable {X:Cx}
theorem Bg {M:Mo} (mo:ax X.K M) {m:Mf} {o:Expr} {apos cpos:Pos} {to:TE} (ho:PE X o to) (hn:iD o=true) (hl:(apos.endLine == cpos.line)=true):
  PE X (.Call (.Attribute o m.name apos) [] [] cpos) (fun σ H Q=>to σ H fun x H1=>DN M m x H1=true/\dj M m x [] H1 Q):=by
 obtain⟨pa,slot,hty⟩:=Iw m;intro pins s σ H Q I h;refine wpAny_Call_method0_late (gb hn) hl (bW (ho pins s σ H _ I h) fun v s1 ⟨x,H1,I1,r1,ty,q1⟩=>?_);obtain⟨h1,h2⟩:=xp I1 r1 (yL mo ty);exact⟨_,_,pa,slot,hty,h1,h2,Calls.callWith_builtin rfl (PySem.evalArgs_none (yM mo m pins s1 σ H1 x [] v [] Q I1 r1 .nil q1))⟩
theorem Dx {M:Mo} (mo:ax X.K M) {m:Mf} {o e:Expr} {es:List Expr} {apos cpos:Pos} {to:TE} {t:TA} (ho:PE X o to) (ha:PA X (e::es) t) (hp:∀e' ∈ e::es,ba e'=true) (hn:iD o=true) (hl:(apos.endLine == cpos.line)=true) (hf:(e::es).length < 20):
  PE X (.Call (.Attribute o m.name apos) (e::es) [] cpos) (fun σ H Q=>to σ H fun x H1=>DN M m x H1=true/\t σ H1 fun vs H2=>dj M m x vs H2 Q):=by
 obtain⟨pa,slot,hty⟩:=Iw m
 have hfew:((backTo cpos (starEach (e::es) X.env)).all (fun x=>!x.1) && (backToKw cpos (keywordEach [] X.env)).all (fun x=>x.1.isSome)
   && decide ((e::es).length + ([]:List Keyword).length + (if([]:List Keyword).isEmpty then 0 else 1) < 30))=true:=by
  rw[plain_all hp];simp only[Bool.true_and];rw[JU];refine⟨rfl,JP ?_⟩;simp at hf ⊢;omega
 intro pins s σ H Q I h;refine wpAny_Call_method_late (gb hn) hfew hl rfl (bW (ho pins s σ H _ I h) fun v s1 ⟨x,H1,I1,r1,ty,q1⟩=>?_);obtain⟨h1,h2⟩:=xp I1 r1 (yL mo ty);refine⟨_,_,pa,slot,hty,h1,h2,?_⟩;have hA:=ha cpos pins s1 σ H1 _ I1 q1;have hs:=aU (env:=X.env) (es:=es) (hp e Jj);rw[hs]at hA ⊢;refine Calls.callWith_builtin (by show(false || (backTo cpos (starEach es X.env)).any (·.1))=false;rw[plain_any fun e he=>hp e (Ji _ he)];rfl) (Calls.evalArgs_plain ?_);exact bW hA fun us s2 ⟨vs,H2,I2,r2,q2⟩=>yM mo m pins s2 σ H2 x vs v us Q I2 r1 r2 q2
end
section
variable (Γ:bZ) (k:Nat)
theorem cR {op:CmpOp} {b:Expr} (h:ba b=true):behindInMarks op b=false:=by
 cases b<;>first | rfl | cases h
theorem Az {X:Cx}:GR X (unaryOp .USub) (fun x H Q=>match x with | .int i=>Q (.int (-i)) H | _=>False):=by
 intro pins s σ H x v Q I r h;split at h
 ·exact C0 pins s σ H _ v Q I r ⟨_,rfl,h⟩
 ·exact h.elim
theorem yr {X:Cx} {Γ:bZ} {sc:Scope} {k:Nat} {Ξ:XS} {f:Str} {es:List Expr} {t:TA} {p pos:Pos} (C:Ctx X Γ sc k) (xo:eF X Ξ) (hg:Gl X f) (ho:bP f=true) (ha:PA X es t) (hp:∀e ∈ es,ba e=true) (h0:es=[]->t=fun _ H Q=>Q [] H):
  PE X (.Call (.Name f p) es [] pos) (fun σ H Q=>(Γ.cm=true/\Γ.has f=true)/\t σ H fun vs H1=>Γ.fn f vs H1 Q fun C d H'=>Ξ C d σ H'):=by
 intro pins s σ H Q I ⟨⟨hc,hh⟩,h⟩;obtain⟨fa,fd,ps,hm,hk,F,hb⟩:=C.g.fn f hh;refine J4 (oT I hg hm ?_ (cB ho).1);cases es with
 | nil=>
  rw[h0 rfl]at h;exact PySem.W.callWith_K0 I.lU hk (ua (us:=[]) F ((C.room hc).mono (Kq _)) hb xo I .nil h)
 | cons e es=>
  refine PySem.W.callWith_K (h₀:=X.base) I.ok.mod.FL hk (bW (ha pos pins s σ H _ I h) fun us s1 ⟨vs,H1,I1,r,q⟩=>⟨I1.lU,?_⟩) (aU (hp e Jj)) (plain_any fun e he=>hp e (Ji _ he));exact ua F ((C.room hc).mono (Kq _)) hb xo I1 r q
theorem Bp {X:Cx} {M:Mo} {e:Expr} {es:List Expr} {t:TA} {p pos:Pos} {x:Str} (hc:X.calm=true) (mo:ax X.K M) (f:Bf) (hx:f.name=x) (hg:Gl X x) (hm:X.mg x=none) (ho:bP x=true) (ha:PA X (e::es) t) (hp:∀e' ∈ e::es,ba e'=true):
  PE X (.Call (.Name x p) (e::es) [] pos) (G_ (eV M f) t):=by
 subst hx;have hb:=Et hc mo f;have hv:=B_ f;have he:=aU (env:=X.env) (es:=es) (hp e Jj);have hpl:=plain_any (env:=X.env) (pos:=pos) (es:=es) fun e he=>hp e (Ji _ he);obtain⟨o1,o2,o3⟩:=cB ho;cases f with
 | str=>exact fT hb hg hm hv ha o3 o1 he hpl
 | int=>exact fT hb hg hm hv ha o3 o1 he hpl
 | list=>exact fT hb hg hm hv ha o3 o1 he hpl
 | tuple=>exact fT hb hg hm hv ha o3 o1 he hpl
 | _=>exact yt hb hg hm hv ha o3 o1 he hpl
theorem boot_sorted:bootBuiltins ("sorted" :Str)=some (.builtin "sorted"):=by kernel_rfl
theorem boot_set:bootBuiltins ("set" :Str)=some (.type "set"):=by kernel_rfl
theorem qm {b:Expr} (h:ba b=true):vd b:=by
 intro o i;cases b<;>first | rfl | cases h
theorem cV {e:Expr} {env:Env} (h:ba e=true) (v:Value):foldedSetIterable e env v=pure v:=by
 cases e<;>first | rfl | cases h
theorem yp {X:Cx} {M:Mo} {sc bF:Scope} {elt iter:Expr} {ifs:List Expr} {x:Str} {px pos:Pos} {fv:List (Str × Nat)} {tt:TT} {wi:L2.St->Hp->(List V->(Hp->Prop)->Hp->Prop)->Prop} {Ξ:XS} {Γ:bZ} {el:Ex} (mo:ax X.K M) (hc:X.calm=true) (top:jI X) (xo:eF X Ξ)
  (hcf:∀y,(sc.names.lookup y=some .cell\/sc.names.lookup y=some .free)->X.env.kindOf y=some .cell\/X.env.kindOf y=some .free)
  (ok:cD sc bF X.N [x] fv=true) (hi:PI X (.Name x px) iter (qS wi))
  (he:∀σ X',ck X X' bF (x::fv.map (·.1))->eF X' (fun C d _ H'=>Ξ C d σ H')->PE X' elt (wE Γ el fun C d _ H'=>Ξ C d σ H')) (ht:∀X',ck X X' bF (x::fv.map (·.1))->Af X' ifs tt)
  (hs:∀v,foldedSetIterable iter X.env v=pure v):
  PE X (.ListComp elt [⟨.Name x px,iter,ifs,0⟩] bF pos) (fun σ H Q=>wi σ H fun xs aq H1=>∀D,H1 D=none->M D=none->dB (wE Γ el fun C d _ H'=>Ξ C d σ H') tt (vars σ fv) D aq xs [] (upd H1 D (.lst [])) fun H'=>Q (.ref D) H'):=
 Bn (te:=fun σ=>wE Γ el fun C d _ H'=>Ξ C d σ H') mo hc top xo hcf ok hi he ht hs
theorem Cc (f:B2):bootBuiltins f.name=some (.builtin (Gj f)):=by cases f<;>kernel_rfl
theorem Fw {X:Cx} {M:Mo} {e:Expr} {te:TE} {p pos:Pos} (hc:X.calm=true) (mo:ax X.K M) (hu:X.A.units + 64 < cLine) (f:B2) (hg:Gl X f.name) (hm:X.mg f.name=none) (ha:PE X e te) (hp:ba e=true):
  PE X (.Call (.Name f.name p) [e] [] pos) (fun σ H Q=>te σ H fun x H1=>EU M f x H1 Q):=by
 intro pins s σ H Q I h;have hs:=aU (env:=X.env) (es:=[]) hp;refine J4 (cj I hg hm (Cc f) ?_ (by cases f<;>decide) (by cases f<;>decide));refine Kf ?_ hs rfl;rw[hs];refine JS (bW (ha pins s σ H _ I h) fun u s1 ⟨x,H1,I1,r1,q1⟩=>Ka ?_);exact Gh mo hc hu f I1 r1 q1
theorem vB {X:Cx} {M:Mo} {sc bF:Scope} {elt iter:Expr} {xs:List Str} {ts:List Expr} {kt} {pt pos:Pos} {fv:List (Str × Nat)} {wi:L2.St->Hp->(List V->(Hp->Prop)->Hp->Prop)->Prop} {Ξ:XS} {Γ:bZ} {el:Ex} (mo:ax X.K M) (hc:X.calm=true) (top:jI X) (xo:eF X Ξ)
  (hcf:∀y,(sc.names.lookup y=some .cell\/sc.names.lookup y=some .free)->X.env.kindOf y=some .cell\/X.env.kindOf y=some .free)
  (ok:cD sc bF X.N xs fv=true) (h0:xs.length ≠ 0) (hi:PI X (.Tuple (bN (wZ fv xs) (List.range xs.length) ts) kt pt) iter (qS wi))
  (he:∀σ X',ck X X' bF (wZ fv xs)->eF X' (fun C d _ H'=>Ξ C d σ H')->PE X' elt (wE Γ el fun C d _ H'=>Ξ C d σ H'))
  (hs:∀v,foldedSetIterable iter X.env v=pure v):
  PE X (.ListComp elt [⟨.Tuple (bN (wZ fv xs) (List.range xs.length) ts) kt pt,iter,[],0⟩] bF pos) (fun σ H Q=>wi σ H fun vs aq H1=>∀D,H1 D=none->M D=none->cK (Cb M xs.length) (wE Γ el fun C d _ H'=>Ξ C d σ H') (fun _ H Q=>Q true H) (vars σ fv) D aq vs [] (upd H1 D (.lst [])) fun H'=>Q (.ref D) H'):=
 yq (te:=fun σ=>wE Γ el fun C d _ H'=>Ξ C d σ H') mo hc top xo hcf ok h0 hi he hs
theorem boot_len:bootBuiltins ("len" :Str)=some (.builtin "len"):=by kernel_rfl
theorem boot_max:bootBuiltins ("max" :Str)=some (.builtin "max"):=by kernel_rfl
theorem Bk {X:Cx} {M:Mo} {e:Expr} {te:TE} {p p2 pos pos2:Pos} (hc:X.calm=true) (mo:ax X.K M) (g1:Gl X "len") (m1:X.mg "len" =none) (g2:Gl X "set") (m2:X.mg "set" =none) (ha:PE X e te) (hp:ba e=true):
  PE X (.Call (.Name "len" p) [.Call (.Name "set" p2) [e] [] pos2] [] pos) (fun σ H Q=>te σ H fun x H1=>qI M x H1 Q):=by
 intro pins s σ H Q I h;have hs:=aU (env:=X.env) (es:=[]) hp;refine J4 (cj I g1 m1 boot_len ?_);refine Kf ?_ rfl rfl;refine JS (J4 (cj I g2 m2 boot_set ?_));refine Ko ?_ hs rfl;rw[hs];refine JS (bW (ha pins s σ H _ I h) fun u s1 ⟨x,H1,I1,r1,q1⟩=>Ka ?_);exact bW (BI mo hc I1 r1 q1) fun v s2 z=>Ka z
theorem Bc {X:Cx} {a b:Expr} {ta tb:TE} {p pos:Pos} (hc:X.calm=true) (hg:Gl X "max") (hm:X.mg "max" =none) (ha:PE X a ta) (hb:PE X b tb) (hp:ba a=true) (hp2:ba b=true):
  PE X (.Call (.Name "max" p) [a,b] [] pos) (fun σ H Q=>ta σ H fun x H1=>tb σ H1 fun y H2=>t5 x y H2 Q):=by
 intro pins s σ H Q I h;have hs:=aU (env:=X.env) (es:=[b]) hp;have hs2:=aU (env:=X.env) (es:=[]) hp2;refine J4 (cj I hg hm boot_max ?_);refine Kf ?_ hs (by rw[hs2];rfl);rw[hs,hs2];refine JS (bW (ha pins s σ H _ I h) fun v s1 ⟨x,H1,I1,r1,q1⟩=>JS (bW (hb pins s1 σ H1 _ I1 q1) fun u s2 ⟨y,H2,I2,r2,q2⟩=>Ka ?_));exact AK hc I2 r1 r2 q2
theorem boot_zip:bootBuiltins ("zip" :Str)=some (.type "zip"):=by kernel_rfl
theorem boot_list:bootBuiltins ("list" :Str)=some (.type "list"):=by kernel_rfl
theorem Bi {X:Cx} {M:Mo} {a b:Expr} {ta tb:TE} {p p2 pos pos2:Pos} (hc:X.calm=true) (mo:ax X.K M) (g1:Gl X "list") (m1:X.mg "list" =none) (g2:Gl X "zip") (m2:X.mg "zip" =none) (ha:PE X a ta) (hb:PE X b tb) (hp:ba a=true) (hp2:ba b=true):
  PE X (.Call (.Name "list" p) [.Call (.Name "zip" p2) [a,b] [] pos2] [] pos) (fun σ H Q=>ta σ H fun x H1=>tb σ H1 fun y H2=>w8 M x y H2 fun ps _=>oC M ps H2 Q):=by
 intro pins s σ H Q I h;have hs:=aU (env:=X.env) (es:=[b]) hp;have hs2:=aU (env:=X.env) (es:=[]) hp2;refine J4 (cj I g1 m1 boot_list ?_);refine Ko ?_ rfl rfl;refine JS (J4 (cj I g2 m2 boot_zip ?_));refine Ko ?_ hs (by rw[hs2];rfl);rw[hs,hs2];refine JS (bW (ha pins s σ H _ I h) fun v s1 ⟨x,H1,I1,r1,q1⟩=>JS (bW (hb pins s1 σ H1 _ I1 q1) fun u s2 ⟨y,H2,I2,r2,q2⟩=>Ka ?_));exact bW (BG mo hc I2 r1 r2 q2) fun v s2 z=>Ka z
theorem lN:∀ (l:List Str),allM iW (l.map V.str)=some l
 | []=>rfl
 | b::r=>by simp only[JA,allM,iW,lN r]
theorem boot_min:bootBuiltins ("min" :Str)=some (.builtin "min"):=by kernel_rfl
theorem Bh {X:Cx} {M:Mo} {e:Expr} {te:TE} {p pos:Pos} (hc:X.calm=true) (mo:ax X.K M) (g1:Gl X "min") (m1:X.mg "min" =none) (ha:PE X e te) (hp:ba e=true):
  PE X (.Call (.Name "min" p) [e] [] pos) (fun σ H Q=>te σ H fun x H1=>CD M x H1 Q):=by
 intro pins s σ H Q I h;have hs:=aU (env:=X.env) (es:=[]) hp;refine J4 (cj I g1 m1 boot_min ?_);refine Kf ?_ hs rfl;rw[hs];refine JS (bW (ha pins s σ H _ I h) fun u s1 ⟨x,H1,I1,r1,q1⟩=>Ka ?_);obtain⟨p,ts,rfl,e1,hn,q⟩:=q1;cases r1
 obtain⟨au,rv,pl,hz⟩:=I1.list (bf mo e1);exact PySem.Sg.mF (I1.ok.hd hc) pl.isList (i9 rv (lN ts)) hn fun h' tk m t hk h1 h2=>⟨.str m,H1,I1.kept (t':=tk) hk,⟨t,rfl⟩,q m h1 h2⟩
theorem r_ {P:Program} {w:World} {h h':Heap} {a:Addr} {τ:List Str} {m:Nat} (x:PySem.Sx.c_ P w h a τ m) (k:∀b o,h.get? b=some o->h'.get? b=some o):PySem.Sx.c_ P w h' a τ m:=by
 obtain⟨o,es,ep,t,h1,r⟩:=x;exact⟨o,es,ep,t,k _ _ h1,r⟩
theorem keys_nodup {P:Program} {w:World} {h:Heap} {a:Addr} {vs:List (Key × Value)} {ts:List Str} (d:h.DictOf (aL P w) a vs) (e:vs.map (·.1)=ts.map Sum.inr):ts.Nodup:=by
 obtain⟨_,_,_,_,_,_,_,_,nd⟩:=d;rw[e]at nd;exact(KW.mp nd).imp fun h e=>h (by rw[e])
theorem wG {P:Program} {w:World} {h h':Heap} {a:Addr} {vs:List (Key × Value)} (d:h.DictOf (aL P w) a vs) (k:∀b o,h.get? b=some o->h'.get? b=some o):h'.DictOf (aL P w) a vs:=
 let ⟨o,es,ep,h1,r⟩:=d;⟨o,es,ep,k _ _ h1,r⟩
theorem zI {X:Cx} {pins:NU} {s:Shared} {σ:L2.St} {H:Hp} {i:Nat} {x:Str} {v:V} {pos:Pos} {Q:NT} {E:NT} (I:Inv X pins σ H s) (hN:X.N[i]?=some x) (hv:Cf X.env.scope x) (hd:(x == ("__debug__" :Str))=false) (hcd:(x == ("__classdict__" :Str))=false)
  (e:σ[i]?=some (some v)) (q:∀u,RelV v u->Q u s):wpAny (model X.prog X.w) X.A (eval (.Name x pos) X.env) Q E s:=by
 obtain⟨m,hn,hl⟩:=I.loc;obtain⟨u,r,l⟩:=hl i x v hN e hv;have fin:=q u r;rcases l with ⟨hk,hm⟩ | ⟨hk,c,hc,hcell⟩
 ·exact MI (wpAny_loadName_local I.ok.kind hk hn hm fin) hd
 ·rcases hk with hk | hk
  ·exact MI (wpAny_loadName_cell I.ok.kind hk hc hcell fin) hd
  ·exact MI (wpAny_loadName_free I.ok.kind hk hc hcell fin hcd) hd
theorem A_ {X:Cx} {Γ:bZ} {sc:Scope} {k:Nat} {i j:Nat} {p p1 p2 q1 q2 r1 r2 pb pos:Pos} (C:Ctx X Γ sc k) (hc:X.calm=true) (g1:Gl X "sorted") (g2:Gl X "set") (hi:decide (i < X.N.length)=true) (vi:fq sc (nx X.N i)=true/\bP (nx X.N i)=true) (hj:decide (j < X.N.length)=true) (vj:fq sc (nx X.N j)=true/\bP (nx X.N j)=true):
  PE X (.Call (.Name "sorted" p) [.BinOp (.Call (.Name "set" p1) [.Name (nx X.N i) q1] [] r1) .BitXor (.Call (.Name "set" p2) [.Name (nx X.N j) q2] [] r2) pb] [] pos) (fun σ H Q=>∃x y,σ[i]?=some (some x)/\σ[j]?=some (some y)/\Co Γ.mod x y H Q):=by
 intro pins s σ H Q I h;obtain⟨x,y,e1,e2,a,b,ts,us,rfl,rfl,⟨ka,ha,kt⟩,⟨kb,hb,ku⟩,fa,fb,q⟩:=h;obtain⟨a1,a2,_⟩:=cB vi.2;obtain⟨b1,b2,_⟩:=cB vj.2;have m1:=C.g.no "sorted" (by decide +kernel);have m2:=C.g.no "set" (by decide +kernel);obtain⟨_,ya,va,ra,da⟩:=nP I.aZ ha;obtain⟨_,yb,vb,rb,db⟩:=nP I.aZ hb;refine J4 (cj I g1 m1 boot_sorted ?_);refine Kf ?_ rfl rfl;refine JS (wpAny_BinOp ?_);refine J4 (cj I g2 m2 boot_set ?_);refine Ko ?_ rfl rfl;refine JS (zI I (fj hi) (C.GC _ vi.1) a1 a2 e1 fun u ru=>Ka ?_);cases ru
 refine PySem.Sx.gr (I.ok.hd hc) ya da (ra.keys.symm.trans kt) fa fun h1 t1 S1 k1=>?_;have I1:=Inv.kept (t':=t1) I k1;refine J4 (cj I1 g2 m2 boot_set ?_);refine Ko ?_ rfl rfl;refine JS (zI I1 (fj hj) (C.GC _ vj.1) b1 b2 e2 fun u ru=>Ka ?_);cases ru
 refine PySem.Sx.gr (s:={s with heap:=h1,toks:=t1}) (I.ok.hd hc) yb (wG db k1) (rb.keys.symm.trans ku) fb fun h2 t2 S2 k2=>?_;have k12:∀b o,s.heap.get? b=some o->h2.get? b=some o:=fun b o e=>k2 b o (k1 b o e);have ndt:ts.Nodup:=keys_nodup da (ra.keys.symm.trans kt);have ndu:us.Nodup:=keys_nodup db (rb.keys.symm.trans ku);refine PySem.Sx.w9 (s:={s with heap:=h2,toks:=t2}) fa fb (r_ S1 k2) S2 fun h3 l k3 pl S3=>?_;have k123:∀b o,s.heap.get? b=some o->h3.get? b=some o:=fun b o e=>k3 b o (k12 b o e);obtain⟨x1,x2⟩:=PySem.Sx.kn ndu (pl.nodup_iff.mpr ndt);refine Ka ?_;refine PySem.Sg.rY (s:={s with heap:=h3,toks:=t2}) (I.ok.hd hc) (Mp (PySem.Sx.ko _ _) (by rw[pl.length_eq];omega)) S3 fun s' l' out ss e kp2 eg eo et hl hn y1 y2 y3=>?_;refine dX C.g.mod I (fun b o q=>kp2 b o (k123 b o q)) eg eo (JB (by obtain⟨o,_,_,_,ho,_⟩:=S1;exact Lo (Jk (k2 _ _ ho))) (Lo hl)) hn (cL y1) ?_ fun n1 n2=>q ss _ (y2.nodup_iff.mpr x1) (fun z=>?_) y3 n1 n2
 ·rw[Jb,y2.length_eq,Jm];exact JB (PySem.Sx.ko _ _) (by rw[pl.length_eq];omega)
 ·rw[y2.mem_iff,x2 z,pl.mem_iff];exact⟨fun h=>h.symm,fun h=>h.symm⟩
theorem AY {X:Cx}:Af X [] (fun _ H Q=>Q true H):=fun pins s σ H Q I q=>by
 show wpAny _ _ (pure true) _ _ _;exact Ja ⟨H,I,q⟩
theorem AX {X:Cx} {c:Expr} {t:TT} (h:PT X c t):Af X [c] t:=fun pins s σ H Q I q=>by
 show wpAny _ _ (forIn [c] true fun c r=>if r=true then do let ok<-isTrue c X.env (eval c X.env);pure (ForInStep.yield ok)else pure (ForInStep.yield r)) _ _ _;rw[KZ];simp only[Mb,M8];refine IZ (IZ (bW (h pins s σ H Q I q) fun b s1 z=>Ja ?_));exact Ja z
theorem Dq {X:Cx} {e:Expr} {te:TE} (h:PE X e te):PO X (some e) (fun σ H Q=>te σ H fun x H1=>match x with | .int i=>Q (some i) H1 | _=>False):=by
 intro pins s σ H Q I hw;rw[evalPart_some];refine bW (h pins s σ H _ I hw) fun u s1 ⟨x,H1,I1,r1,q1⟩=>?_;cases x with
 | int i=>
  obtain⟨t,e⟩:=(show ∃t,u=Value.int i t from r1);subst e;exact⟨some i,H1,I1,.int i t,q1⟩
 | _=>exact q1.elim
theorem A9 {X:Cx} {tg a:Expr} {ta:TE} {p pos:Pos} (hg:Gl X "range") (hm:X.mg "range" =none) (ha:PE X a ta) (hp:ba a=true):
  PI X tg (.Call (.Name "range" p) [a] [] pos) (qS fun σ H k=>ta σ H fun x H1=>match x with | .int j=>-(2 ^ 62)<=j/\j < 2 ^ 62/\k ((List.range j.toNat).map fun i:Nat=>.int i) (fun _=>True) H1 | _=>False):=by
 intro pins s σ H R I ⟨kk,hw,hk⟩;have hs:=aU (env:=X.env) (es:=[]) hp;refine Call_ (cj I hg hm boot_range (Ko ?_ hs rfl));rw[hs];refine JS (bW (ha pins s σ H _ I hw) fun v s1 ⟨x,H1,I1,r1,q1⟩=>Ka ?_);cases x with
 | int j=>
  obtain⟨t,e⟩:=(show ∃t,v=Value.int j t from r1);subst e;obtain⟨q1,q2,q⟩:=q1;refine call_range_1 (xV I1 (by omega) (by omega) q1 q2 ?_);have hq:=vt 0 j.toNat;simp only[Int.zero_add]at hq;rw[Int.sub_zero];exact hk _ _ _ _ hq q
 | _=>exact q1.elim
theorem zj {x:V} {k:Key} (h:keyOf x=some k):x=kV k:=by
 cases x<;>first | (cases h;rfl) | cases h
theorem Bb {X:Cx} {M:Mo} (mo:ax X.K M) {es:List Expr} {t:TA} {x1} {pos:Pos} (h:PA X es t):PE X (.Tuple es x1 pos) (fun σ H Q=>t σ H fun xs H1=>xs.length<=sizeLine/\∀p,H1 p=none->M p=none->Q (.ref p) (upd H1 p (.tup xs))):=by
 intro pins s σ H Q I hq;refine wpAny_Tuple_spliced (bW (h pos pins s σ H _ I hq) fun us s1 ⟨xs,H1,I1,r,z,q⟩=>⟨by rw[<-r.length];exact z,?_⟩);have hf:H1 s1.heap.objs.size=none:=I1.aZ.fresh (Jv _);have I2:Inv X pins σ (upd H1 s1.heap.objs.size (.tup xs)) {s1 with heap:=s1.heap.push {cls:=.type "tuple",data:=.seq us.toArray}}:=I1.laid (t':=s1.toks) (fun b u e=>Jd _ e) (Jv _) ⟨z,us,r,⟨_,Jr _ rfl,rfl,_,rfl⟩⟩;exact⟨.ref s1.heap.objs.size,_,I2,rfl,q _ hf (g7.new (Inv.sD mo I2))⟩
theorem Bj {X:Cx} {M:Mo} (mo:ax X.K M) {es:List Expr} {t:TA} {pos:Pos} (h:PA X es t):PE X (.List es pos) (fun σ H Q=>t σ H fun xs H1=>xs.length<=sizeLine/\∀p,H1 p=none->M p=none->Q (.ref p) (upd H1 p (.lst xs))):=by
 intro pins s σ H Q I hq;refine wpAny_List_spliced (bW (h pos pins s σ H _ I hq) fun us s1 ⟨xs,H1,I1,r,z,q⟩=>⟨by rw[<-r.length];exact z,?_⟩);have hf:H1 s1.heap.objs.size=none:=I1.aZ.fresh (Jv _);have I2:Inv X pins σ (upd H1 s1.heap.objs.size (.lst xs)) {s1 with heap:=s1.heap.push {cls:=.type "list",data:=.seq us.toArray}}:=I1.laid (t':=s1.toks) (fun b u e=>Jd _ e) (Jv _) ⟨z,us,0,r,Jr _ rfl⟩;exact⟨.ref s1.heap.objs.size,_,I2,rfl,q _ hf (g7.new (Inv.sD mo I2))⟩
theorem fY {X:Cx} {Γ:bZ} {sc:Scope} {k:Nat} {pins:NU} {s:Shared} {σ:L2.St} {H:Hp} {x:V} {v:Value} {T:Ty} {n:String} {Q:VK} (C:Ctx X Γ sc k) (I:Inv X pins σ H s) (rx:RelV x v) (ht:GY T=some n)
  (q:known Γ.mod H x=true/\Q (.bl (lq T H x)) H):∃u,pI X.mg T.name u/\wpAny (model X.prog X.w) X.A (call (.builtin "isinstance") [v,u]) (EP X pins σ Q) X.xe s:=by
 obtain⟨b1,b2⟩:=B9 ht;obtain⟨t,ty,kt⟩:=DZ (K:=X.K) q.1 ht;exact⟨_,.inr ⟨C.g.no _ b2,b1⟩,wm I rx ty kt fun tk=>⟨.bl _,H,I.tok _,rfl,q.2⟩⟩
theorem Bm {X:Cx} {v:V} {n:Nat} {p:Pos} (h:IA v=true):PE X (.Constant (IB v) n p) (fun _ H Q=>Q v H):=by
 cases v
 case int i=>exact Dy
 case str x=>exact Dv
 case bl b=>exact Fv
 case aD=>exact Dw
 all_goals cases h
theorem ym {X:Cx} {Γ:bZ} {sc:Scope} {k:Nat} {x:Str} {p:Pos} (C:Ctx X Γ sc k) (hg:cM sc x=true) (ho:bP x=true):
  PE X (.Name x p) (fun _ H Q=>match Γ.con x with | some v=>Q v H | none=>False):=by
 intro pins s σ H Q I q;cases e:Γ.con x with
 | none=>rw[e]at q;exact q.elim
 | some v=>
  rw[e]at q;obtain⟨u,hu,ru⟩:=C.g.con _ _ e;exact oT I (C.gl _ hg) hu ⟨v,H,I,ru,q⟩ (cB ho).1
theorem Ba {X:Cx} {Γ:bZ} {sc:Scope} {k:Nat} {i:Nat} {p:Pos} (C:Ctx X Γ sc k) (hi:decide (i < X.N.length)=true) (h:fq sc (nx X.N i)=true/\bP (nx X.N i)=true):
  PE X (.Name (nx X.N i) p) (fun σ H Q=>match σ[i]? with | some (some v)=>Q v H | _=>False):=by
 obtain⟨o1,o2,o3⟩:=cB h.2;refine PE.of (Du (fj hi) (C.GC _ h.1) o1 o2) fun σ H Q q=>?_
 match e:σ[i]?,q with
 | some (some v),q=>exact⟨v,e,q⟩
theorem yk {X:Cx} {Γ:bZ} {sc:Scope} {k:Nat} {a:Expr} {ta:TE} {T:Ty} {p py pos:Pos} (C:Ctx X Γ sc k) (hg:Gl X "isinstance") (ha:PE X a ta) (hp:ba a=true) (hy:Gl X T.name) (ho:bP T.name=true):
  PE X (.Call (.Name "isinstance" p) [a,.Name T.name py] [] pos) (fun σ H Q=>ta σ H fun x H1=>match(generalizing:=false) T with
   | .own _=>False
   | T=>known Γ.mod H1 x=true/\Q (.bl (lq T H1 x)) H1):=by
 refine Bl C hg ha hp hy ho fun pins s σ H x v Q I rx q=>?_;cases T with
 | own c=>exact q.elim
 | str=>exact fY (T:=.str) (n:= "str") C I rx rfl q
 | int=>exact fY (T:=.int) (n:= "int") C I rx rfl q
 | bool=>exact fY (T:=.bool) (n:= "bool") C I rx rfl q
 | list=>exact fY (T:=.list) (n:= "list") C I rx rfl q
 | tuple=>exact fY (T:=.tuple) (n:= "tuple") C I rx rfl q
 | dict=>exact fY (T:=.dict) (n:= "dict") C I rx rfl q
theorem Gm {N:List Str} {b:Ex} {tl:List Expr} {p:Pos} (h:zu b=true):∃x r,bE N b (.BoolOp .And tl p)=.BoolOp .And (x::r) p:=by
 cases b<;>first | exact⟨_,_,rfl⟩ | cases h
theorem Ho {N:List Str} {b:Ex} {tl:List Expr} {p:Pos} (h:Eb b=true):∃x r,bE N b (.BoolOp .Or tl p)=.BoolOp .Or (x::r) p:=by
 cases b<;>first | exact⟨_,_,rfl⟩ | cases h
theorem uc {N:List Str} {b:Ex} {a:Expr} {l:Bool} {e1:Expr} {tl:List Expr} {p:Pos} {o1 o2:Bool} {P:Expr->Prop} (h:cond l o1 (zu b && o2)=true)
  (h1:o1=true->P (.BoolOp .And [a,bE N b e1] p)) (h2:o2=true->∀x r,bE N b (.BoolOp .And tl p)=.BoolOp .And (x::r) p->P (.BoolOp .And (a::x::r) p)):
  P (.BoolOp .And (a::cond l [bE N b e1] (ek (bE N b (.BoolOp .And tl p)))) p):=by
 cases l with
 | true=>exact h1 h
 | false=>
  obtain⟨h,ho⟩:=a2 h;obtain⟨x,r,e⟩:=Gm (N:=N) (tl:=tl) (p:=p) h;rw[e];exact h2 ho x r e
theorem xT {N:List Str} {b:Ex} {a:Expr} {l:Bool} {e1:Expr} {tl:List Expr} {p:Pos} {o1 o2:Bool} {P:Expr->Prop} (h:cond l o1 (Eb b && o2)=true)
  (h1:o1=true->P (.BoolOp .Or [a,bE N b e1] p)) (h2:o2=true->∀x r,bE N b (.BoolOp .Or tl p)=.BoolOp .Or (x::r) p->P (.BoolOp .Or (a::x::r) p)):
  P (.BoolOp .Or (a::cond l [bE N b e1] (ek (bE N b (.BoolOp .Or tl p)))) p):=by
 cases l with
 | true=>exact h1 h
 | false=>
  obtain⟨h,ho⟩:=a2 h;obtain⟨x,r,e⟩:=Ho (N:=N) (tl:=tl) (p:=p) h;rw[e];exact h2 ho x r e
theorem Bo {X:Cx} {Γ:bZ} {sc:Scope} {k:Nat} {f:Bf} {es:List Expr} {t:TA} {p pos:Pos} (C:Ctx X Γ sc k) (hg:cM sc f.name=true) (ho:bP f.name=true) (h0:es.length ≠ 0) (ha:PA X es t) (hp:∀e' ∈ es,ba e'=true):
  PE X (.Call (.Name f.name p) es [] pos) (fun σ H Q=>Γ.cm=true/\t σ H fun vs H1=>eV Γ.mod f vs H1 Q):=by
 intro pins s σ H Q I ⟨hc,q⟩;cases es with
 | nil=>exact absurd rfl h0
 | cons e es=>exact Bp (C.calm hc) C.g.mod f rfl (C.gl _ hg) (C.g.no _ (Gg f)) ho ha hp pins s σ H Q I q
theorem Be {X:Cx} {Γ:bZ} {m:Mf} {o:Expr} {es:List Expr} {apos cpos:Pos} {to:TE} {t:TA} (mo:ax X.K Γ.mod) (ho:PE X o to) (hn:iD o=true) (hl:(apos.endLine == cpos.line)=true) (hf:es.length < 20) (ha:PA X es t) (hp:∀e' ∈ es,ba e'=true) (h0:es=[]->t=fun _ H Q=>Q [] H):
  PE X (.Call (.Attribute o m.name apos) es [] cpos) (fun σ H Q=>to σ H fun x H1=>DN Γ.mod m x H1=true/\t σ H1 fun vs H2=>dj Γ.mod m x vs H2 Q):=by
 cases es with
 | nil=>rw[h0 rfl];exact Bg mo ho hn hl
 | cons e es=>exact Dx mo ho ha hp hn hl hf
theorem nil_of {N:List Str} {Γ:bZ} {Ξ:XS} {es:List Expr}:∀ (args:lX),pN N args es=[]->wEs Γ args Ξ=fun _ H Q=>Q [] H
 | .nil,_=>rfl
 | .cons _ _,h=>nomatch (show _::_=[]from h)
theorem yn {X:Cx} {M:Mo} (mo:ax X.K M) {pos:Pos}:PE X (.Dict [] [] pos) (fun _ H Q=>∀p,H p=none->M p=none->Q (.ref p) (upd H p (.dK []))):=by
 intro pins s σ H Q I h;exact bW (yo pins s σ H (fun v H'=>g7 M H'->Q v H') I fun p hp of=>h p hp of.new) fun _ _=>gT mo
theorem cN {P:List Str->Prop} {a b:List Str} (e:a=b) (h:P a):P b:=e ▸ h
theorem gP {X:Cx} {Γ:bZ} {sc:Scope} {k:Nat} {e:Expr} {te:TE} {t:TT} (C:Ctx X Γ sc k) (h:PE X e te) (hl:∀whole,isTrue e X.env whole=(do let v<-whole;standAt e.pos;holding [v] (truthy v))) (i:∀σ H Q,t σ H Q->te σ H fun x H1=>cS Γ.mod x H1 fun k=>Q k H1):PT X e t:=
 PT.of (Dj C.g.mod h hl) i
mutual
theorem sE:(e:Ex)->∀ {X:Cx} {sc:Scope} {Ξ:XS} {ast:Expr},Ctx X Γ sc k->eF X Ξ->oE sc X.N e ast=true->PE X (bE X.N e ast) (wE Γ e Ξ)
 | .var i=>fun C xo h=>Ba C (a2 h).1 (a2 (a2 h).2)
 | .con v=>fun C xo h=>Bm h
 | .glob x=>fun C xo h=>ym C (a2 h).1 (a2 h).2
 | .bin op a b=>fun C xo h=>Fu (Eu C.g.mod op) (sE a C xo (a2 h).1) (sE b C xo (a2 h).2)
 | .neg a=>fun C xo h=>Ft Az (sE a C xo h)
 | .cmp op a b=>fun C xo h=>oB (zX C.un C.g.mod op) (sE a C xo (a2 h).1) (sE b C xo (a2 h).2) (cR (aK b))
 | .and a b=>fun C xo h=>uc (P:=fun e=>PE _ e (wE Γ (.and a b) _)) (a2 h).2
   (fun h2=>uu C.g.mod (sE a C xo (a2 h).1) (yj (sE b C xo h2)))
   (fun h2 x r e=>uu C.g.mod (sE a C xo (a2 h).1) (e ▸ sE b C xo h2))
 | .or a b=>fun C xo h=>xT (P:=fun e=>PE _ e (wE Γ (.or a b) _)) (a2 h).2
   (fun h2=>yi C.g.mod (sE a C xo (a2 h).1) (yj (sE b C xo h2)))
   (fun h2 x r e=>yi C.g.mod (sE a C xo (a2 h).1) (e ▸ sE b C xo h2))
 | .not a=>fun C xo h=>Bd C.g.mod (sE a C xo h)
 | .ite c a b=>fun C xo h=>yl (sT c C xo (a2 h).1) (sE a C xo (a2 (a2 h).2).1) (sE b C xo (a2 (a2 h).2).2)
 | .call f args=>fun C xo h=>yr C xo (C.gl _ (a2 (a2 h).1).1) (a2 (a2 h).1).2 (EN args C xo (a2 h).2) (gf args) (nil_of args)
 | .blt f args=>fun C xo h=>Bo C (a2 (a2 h).1).1 (a2 (a2 h).1).2 (by rw[pA];exact Kj (a2 (a2 (a2 h).2).1).2) (EN args C xo (a2 (a2 h).2).2) (gf args)
 | .mth m o args=>fun C xo h=>Be C.g.mod (sE o C xo (a2 (a2 (a2 h).2).2).1) (a2 (a2 h).1).1 (a2 (a2 h).1).2 (by rw[pA];exact Kj (a2 (a2 h).2).1) (EN args C xo (a2 (a2 (a2 h).2).2).2) (gf args) (nil_of args)
 | .isin a T=>fun C xo h=>yk C (C.gl _ (a2 (a2 h).1).1) (sE a C xo (a2 h).2) (aK a) (C.gl _ (a2 (a2 (a2 h).1).2).1) (a2 (a2 (a2 h).1).2).2
 | .idx a b=>fun C xo h=>CB (Ef C.g.mod) (sE a C xo (a2 h).1) (sE b C xo (a2 h).2) (qm (aK b))
 | .slc a lo hi=>fun C xo h=>yh (C8 C.g.mod) (sE a C xo (a2 h).1) (sP lo C xo (a2 (a2 h).2).1) (sP hi C xo (a2 (a2 h).2).2)
 | .tup es=>fun C xo h=>Bb C.g.mod (EN es C xo h)
 | .lst es=>fun C xo h=>Bj C.g.mod (EN es C xo h)
 | .comp x fv it elt ifs=>fun C xo h pins s σ H Q I q=>
  yp (Γ:=Γ) (el:=elt) C.g.mod (C.calm q.1) C.top xo C.cf (a2 (a2 h).1).1 (sI it C xo (a2 (a2 h).2).1)
   (fun σ X' c xc=>cN (P:=fun N=>PE X' (bE N elt _) _) c.N (sE elt (C.comp c q.1) xc (cN (P:=fun N=>oE _ N elt _=true) c.N.symm (a2 (a2 (a2 h).2).2).1)))
   (fun X' c=>cN (P:=fun N=>Af X' (pN N ifs _) _) c.N (Ir ifs (C.comp c q.1) eF.no (cN (P:=fun N=>uv _ N ifs _=true) c.N.symm (a2 (a2 (a2 h).2).2).2) (Kj (a2 (a2 h).1).2)))
   (cV (fI it)) pins s σ H Q I q.2
 | .cmpD op a b=>fun C xo h=>oB (u3 C.un C.g.mod op) (sE a C xo (a2 h).1) (sE b C xo (a2 h).2) (cR (aK b))
 | .idxD a b=>fun C xo h=>CB (BY C.g.mod) (sE a C xo (a2 h).1) (sE b C xo (a2 h).2) (qm (aK b))
 | .dnew=>fun C xo h=>yn C.g.mod
 | .blt2 f a=>fun C xo h pins s σ H Q I q=>Fw (C.calm q.1) C.g.mod C.un f (C.gl _ (a2 h).1) (C.g.no _ (Gi f)) (sE a C xo (a2 h).2) (aK a) pins s σ H Q I q.2
 | .iF a=>fun C xo h pins s σ H Q I q=>Bk (C.calm q.1) C.g.mod (C.gl _ (a2 (a2 h).1).1) (C.g.no _ (by decide +kernel)) (C.gl _ (a2 (a2 h).1).2) (C.g.no _ (by decide +kernel)) (sE a C xo (a2 h).2) (aK a) pins s σ H Q I q.2
 | .smax a b=>fun C xo h pins s σ H Q I q=>Bc (C.calm q.1) (C.gl _ (a2 h).1) (C.g.no _ (by decide +kernel)) (sE a C xo (a2 (a2 h).2).1) (sE b C xo (a2 (a2 h).2).2) (aK a) (aK b) pins s σ H Q I q.2
 | .cmpI op a b=>fun C xo h=>oB (u0 C.un C.g.mod op) (sE a C xo (a2 h).1) (sE b C xo (a2 h).2) (cR (aK b))
 | .lzip a b=>fun C xo h pins s σ H Q I q=>Bi (C.calm q.1) C.g.mod (C.gl _ (a2 (a2 h).1).1) (C.g.no _ (by decide +kernel)) (C.gl _ (a2 (a2 h).1).2) (C.g.no _ Ed) (sE a C xo (a2 (a2 h).2).1) (sE b C xo (a2 (a2 h).2).2) (aK a) (aK b) pins s σ H Q I q.2
 | .xors i j=>fun C xo h pins s σ H Q I q=>A_ C (C.calm q.1) (C.gl _ (a2 (a2 h).1).1) (C.gl _ (a2 (a2 h).1).2) (a2 (a2 (a2 h).2).1).1 (a2 (a2 (a2 (a2 h).2).1).2) (a2 (a2 (a2 h).2).2).1 (a2 (a2 (a2 (a2 h).2).2).2) pins s σ H Q I q.2
 | .minL a=>fun C xo h pins s σ H Q I q=>Bh (C.calm q.1) C.g.mod (C.gl _ (a2 h).1) (C.g.no _ (by decide +kernel)) (sE a C xo (a2 h).2) (aK a) pins s σ H Q I q.2
 | .compT xs fv it elt=>fun C xo h pins s σ H Q I q=>
  vB (Γ:=Γ) (el:=elt) C.g.mod (C.calm q.1) C.top xo C.cf (a2 (a2 h).1).1 (Kj (a2 (a2 h).1).2) (sI it C xo (a2 (a2 h).2).1)
   (fun σ X' c xc=>cN (P:=fun N=>PE X' (bE N elt _) _) c.N (sE elt (C.comp c q.1) xc (cN (P:=fun N=>oE _ N elt _=true) c.N.symm (a2 (a2 h).2).2)))
   (cV (fI it)) pins s σ H Q I q.2
theorem sT:(e:Ex)->∀ {X:Cx} {sc:Scope} {Ξ:XS} {ast:Expr},Ctx X Γ sc k->eF X Ξ->oE sc X.N e ast=true->PT X (bE X.N e ast) (wT Γ e Ξ)
 | .and a b=>fun C xo h=>uc (P:=fun e=>PT _ e (wT Γ (.and a b) _)) (a2 h).2
   (fun h2=>PW.pt (xW (sT a C xo (a2 h).1) (AW (sT b C xo h2))))
   (fun h2 x r e=>PW.pt (xW (sT a C xo (a2 h).1) fun _=>(show PT _ (.BoolOp .And (x::r) _) (wT Γ b _)from e ▸ sT b C xo h2)))
 | .or a b=>fun C xo h=>xT (P:=fun e=>PT _ e (wT Γ (.or a b) _)) (a2 h).2
   (fun h2=>PW.pt (Cy (sT a C xo (a2 h).1) (Di (sT b C xo h2))))
   (fun h2 x r e=>PW.pt (Cy (sT a C xo (a2 h).1) fun _=>(show PT _ (.BoolOp .Or (x::r) _) (wT Γ b _)from e ▸ sT b C xo h2)))
 | .not a=>fun C xo h=>Dk (sT a C xo h)
 | .ite c a b=>fun C xo h=>Dl (sT c C xo (a2 h).1) (sT a C xo (a2 (a2 h).2).1) (sT b C xo (a2 (a2 h).2).2)
 | .cmp op a b=>fun C xo h=>oA (zX C.un C.g.mod op) (sE a C xo (a2 h).1) (sE b C xo (a2 h).2) (cR (aK b))
 | .var i=>fun C xo h=>gP C (sE (.var i) C xo h) (fun _=>rfl) fun σ H Q q=>q
 | .call f args=>fun C xo h=>gP C (sE (.call f args) C xo h) (fun _=>rfl) fun σ H Q q=>q
 | .blt f args=>fun C xo h=>gP C (sE (.blt f args) C xo h) (fun _=>rfl) fun σ H Q q=>q
 | .mth m o args=>fun C xo h=>gP C (sE (.mth m o args) C xo h) (fun _=>rfl) fun σ H Q q=>q
 | .isin a T=>fun C xo h=>gP C (sE (.isin a T) C xo h) (fun _=>rfl) fun σ H Q q=>by cases T<;>exact q
 | .idx a b=>fun C xo h=>gP C (sE (.idx a b) C xo h) (fun _=>rfl) fun σ H Q q=>q
 | .con v=>fun C xo h=>gP C (sE (.con v) C xo h) (fun _=>rfl) fun σ H Q q=>q
 | .glob x=>fun C xo h=>PT.never fun σ H Q q=>q
 | .bin op a b=>fun C xo h=>PT.never fun σ H Q q=>q
 | .neg a=>fun C xo h=>PT.never fun σ H Q q=>q
 | .slc a lo hi=>fun C xo h=>PT.never fun σ H Q q=>q
 | .tup es=>fun C xo h=>PT.never fun σ H Q q=>q
 | .lst es=>fun C xo h=>PT.never fun σ H Q q=>q
 | .comp x fv it elt ifs=>fun C xo h=>PT.never fun σ H Q q=>q
 | .cmpD op a b=>fun C xo h=>oA (u3 C.un C.g.mod op) (sE a C xo (a2 h).1) (sE b C xo (a2 h).2) (cR (aK b))
 | .idxD a b=>fun C xo h=>PT.never fun σ H Q q=>q
 | .dnew=>fun C xo h=>PT.never fun σ H Q q=>q
 | .blt2 f a=>fun C xo h=>PT.never fun σ H Q q=>q
 | .iF a=>fun C xo h=>PT.never fun σ H Q q=>q
 | .smax a b=>fun C xo h=>PT.never fun σ H Q q=>q
 | .cmpI op a b=>fun C xo h=>oA (u0 C.un C.g.mod op) (sE a C xo (a2 h).1) (sE b C xo (a2 h).2) (cR (aK b))
 | .lzip a b=>fun C xo h=>PT.never fun σ H Q q=>q
 | .xors i j=>fun C xo h=>PT.never fun σ H Q q=>q
 | .minL a=>fun C xo h=>PT.never fun σ H Q q=>q
 | .compT xs fv it elt=>fun C xo h=>PT.never fun σ H Q q=>q
theorem sP:(es:lX)->∀ {X:Cx} {sc:Scope} {Ξ:XS} {ast:Expr},Ctx X Γ sc k->eF X Ξ->uv sc X.N es [ast]=true->PO X (pN X.N es [ast]).head? (wP Γ es Ξ)
 | .nil=>fun C xo h=>A5
 | .cons e .nil=>fun C xo h=>Dq (sE e C xo (a2 h).1)
 | .cons e (.cons f r)=>fun C xo h pins s σ H Q I q=>False.elim q
theorem Ir:(es:lX)->∀ {X:Cx} {sc:Scope} {Ξ:XS} {asts:List Expr},Ctx X Γ sc k->eF X Ξ->uv sc X.N es asts=true->es.len<=1->Af X (pN X.N es asts) (wTs Γ es Ξ)
 | .nil=>fun C xo h hl=>AY
 | .cons e .nil=>fun C xo h hl=>AX (sT e C xo (a2 h).1)
 | .cons e (.cons _ r)=>fun C xo h hl=>absurd (Nat.le_of_succ_le_succ hl) (Nat.not_succ_le_zero _)
theorem sI:(it:Ix)->∀ {X:Cx} {sc:Scope} {Ξ:XS} {tg ast:Expr},Ctx X Γ sc k->eF X Ξ->oI sc X.N it ast=true->PI X tg (bI X.N it ast) (qS (wI Γ it Ξ))
 | .ex e=>fun C xo h pins s σ H R I ⟨kk,hw,hk⟩=>
  bW (sE e C xo h pins s σ H _ I hw) fun v s1 ⟨x,H1,I1,r1,q1⟩=>Ds C.g.mod I1 r1 (sV q1 fun xs aq q J sq=>hk J xs aq H1 sq q)
 | .rng1 a=>fun C xo h=>A9 (C.gl _ (a2 h).1) (C.g.no _ zv) (sE a C xo (a2 h).2) (aK a)
theorem EN:(es:lX)->∀ {X:Cx} {sc:Scope} {Ξ:XS} {asts:List Expr},Ctx X Γ sc k->eF X Ξ->uv sc X.N es asts=true->PA X (pN X.N es asts) (wEs Γ es Ξ)
 | .nil=>fun C xo h=>Dz
 | .cons e r=>fun C xo h=>Br (sE e C xo (a2 h).1) (EN r C xo (a2 h).2) (aU (aK e))
end
end
noncomputable def aA (ys:List (Addr × Str)):List Value:=ys.map fun y=>.ref y.1
theorem yu {keys:NW} {ys:List (Addr × Str)} (hk:StrsAre keys.toList (ys.map (·.2))) {xs:Array Keyed} (hp:xs.Perm (keys.zip (aA ys).toArray)) (hs:SortedToK strKind xs xs.size):
  ∃zs:List (Addr × Str),zs.Perm ys/\(xs.map (·.2)).toList=aA zs/\zs.Pairwise ER:=by
 have hl:xs.toList.Perm (keys.toList.zip (aA ys)):=by rw[<-ksk_zip];exact K5.mp hp
 let f:Keyed->Addr × Str:=fun p=>((match p.2 with | .ref a=>a | _=>0),strOf p.1)
 have e1:(keys.toList.zip (aA ys)).map f=ys:=by
  have:∀ (ks:List Value) (ys:List (Addr × Str)),StrsAre ks (ys.map (·.2))->(ks.zip (aA ys)).map f=ys:=by
   intro ks ys
   induction ys generalizing ks with
   | nil=>intro h;cases ks<;>rfl
   | cons y r ih=>
    intro h;cases h with
    | cons _ t h'=>
     have e:=ih _ h';show List.map f ((Value.str y.2 t,Value.ref y.1)::List.zip _ (aA r))=y::r;rw[JA,e];rfl
  exact this _ _ hk
 have mem:∀p ∈ xs.toList,(∃ x t,p.1=.str x t)/\∃a,p.2=.ref a:=fun p h=>by
  have h:=hl.mem_iff.mp h;obtain⟨a,b⟩:=p;obtain⟨h1,h2⟩:=Ls h;obtain⟨y,_,rfl⟩:=Jf.mp h2;exact⟨hk.all _ h1,_,rfl⟩
 refine⟨xs.toList.map f,by have:=hl.map f;rwa[e1]at this,?_,?_⟩
 ·rw[Array.toList_map];unfold aA;rw[JL];refine Kv fun p h=>?_;obtain⟨_,a,e⟩:=mem p h;show p.2=Value.ref (match p.2 with | .ref a=>a | _=>0);rw[e]
 ·rw[Ku];intro i j hi hj hij;have hi':i < xs.size:=by simpa using hi
  have hj':j < xs.size:=by simpa using hj
  have h1:=hs i j (Lo hij) hj';obtain⟨⟨x,t,ex⟩,_⟩:=mem xs[i] (by simp);obtain⟨⟨y,u,ey⟩,_⟩:=mem xs[j] (by simp);rw[KK_str hi' (x:=x) (t:=t) (q:=xs[i].2) (Prod.ext ex rfl),KK_str hj' (x:=y) (t:=u) (q:=xs[j].2) (Prod.ext ey rfl)]at h1
  change decide (y.cps.toList < x.cps.toList)=false at h1
  unfold ER;simp only[List.getElem_map,Array.getElem_toList];show ltCps (strOf xs[j].1).cps.toList (strOf xs[i].1).cps.toList=false;rw[show strOf xs[i].1=x by rw[ex];rfl,show strOf xs[j].1=y by rw[ey];rfl,ltCps_eq];exact h1
theorem vZ {keys:NW} {ks:List Str} (hk:StrsAre keys.toList ks) (h2:2<=keys.size):keyKind' keys=pure oneType':=by
 obtain⟨v₁,v₂,rest,e⟩:∃v₁ v₂ rest,keys.toList=v₁::v₂::rest:=by
  have hl:2<=keys.toList.length:=by rw[Jz];exact h2
  cases q:keys.toList with
  | nil=>rw[q]at hl;simp at hl
  | cons v₁ r=>
   cases r with
   | nil=>rw[q]at hl;simp at hl
   | cons v₂ rest=>exact⟨v₁,v₂,rest,rfl⟩
 have ek:keys=(v₁::v₂::rest).toArray:=by rw[<-e,L9]
 rw[e]at hk;rw[ek];exact keyKind_strs hk
theorem BQ {keys:NW} {vs:List Value} {ks:List Str} (hk:StrsAre keys.toList ks):KeysOf strKind (keys.zip vs.toArray):=by
 intro p hp;rw[ksk_zip]at hp;obtain⟨x,y⟩:=p;obtain⟨z,t,e⟩:=hk.all _ (Ls hp).1;exact⟨z.cps.toList,by rw[e]⟩
section
variable {X:Cx} {M:Mo} {pins:NU} {σ:L2.St} {k:Nat} {vc:Addr->Sp} {ys:List (Addr × Str)} {g a kS:Addr}
structure wU (M:Mo) (H:Hp) (ys:List (Addr × Str)) (H2:Hp) (l:Addr) (zs:List (Addr × Str)):Prop where
 old:∀b o,H b=some o->H2 b=some o
 off:∀b,M b ≠ none->H b=none->H2 b=none
 new:H l=none
 mod:M l=none
 at_:H2 l=some (.lst (zs.map fun z=>.ref z.1))
 perm:zs.Perm ys
 up:zs.Pairwise ER
theorem oa:∀ys:List (Addr × Str),Vals (ys.map fun y=>.ref y.1) (aA ys)
 | []=>.nil
 | _::r=>.cons rfl (oa r)
structure pJ (M:Mo) (H:Hp) (a kS:Addr) (H':Hp):Prop where
 old:∀b o,H b=some o->H' b=some o
 off:∀b,M b ≠ none->H b=none->H' b=none
 aH:H a=none
 kH:H kS=none
 aM:M a=none
 kM:M kS=none
 ne:kS ≠ a
theorem pJ.upd {H H':Hp} {o:HO} {b:Addr} (m:pJ M H a kS H') (hb:b=a\/b=kS):pJ M H a kS (upd H' b o):=by
 have h1:H b=none:=by exact hb.elim (fun z=>z ▸ m.aH) (fun z=>z ▸ m.kH)
 have h2:M b=none:=by exact hb.elim (fun z=>z ▸ m.aM) (fun z=>z ▸ m.kM)
 refine⟨fun c u e=>?_,fun c e n=>?_,m.aH,m.kH,m.aM,m.kM,m.ne⟩
 ·rw[af (ag e h1)];exact m.old c u e
 ·rw[af (fun z=>e (by rw[z];exact h2))];exact m.off c e n
theorem qL {H H':Hp} {s:Shared} {keys:NW} {e e1:Nat} {st:SortSt} {P:PySem.Fin->Shared->Prop} {E:NT} {A:Around} (m:pJ M H a kS H') (I:Inv X pins σ H' s)
  (ak:s.heap.get? kS=some (seqObj "list" keys e)) (aa:s.heap.get? a=some (seqObj "list" #[] e1)) (hK:H' kS=some (.lst ((ys.map (·.2)).map V.str))) (hA:H' a=some (.lst [])) (hk:StrsAre keys.toList (ys.map (·.2))) (h64:ys.length < 64)
  (hp:(arrOf st).Perm (keys.zip (aA ys).toArray)) (hs:SortedToK strKind (arrOf st) (arrOf st).size) (hfl:failedOf st=none)
  (h:∀H2 s2 zs,Inv X pins σ H2 s2->wU M H ys H2 a zs->P (.done (.ret .none)) s2):wpAny (model X.prog X.w) A (ksk_tail a false e1 (.ref kS) st) P E s:=by
 obtain⟨zs,z1,z2,z3⟩:=yu hk hp hs
 have hsz:keys.size=ys.length:=by
  have h1:=hk.length;rw[Jz,Jb]at h1;exact h1
 have zl:zs.length=ys.length:=z1.length_eq;have i1:=Inv.iF (t':=s.toks) (ys:=[]) (au:=keys.toList) (its':=[]) (f:=fun _=>#[]) I hK (by simpa using ak) rfl .nil (JZ _);have m1:pJ M H a kS (upd H' kS (.lst [])):=m.upd (.inr rfl);have a1:(s.heap.update kS (Obj.mapSeq fun _=>(#[]:NW))).get? a=some (seqObj "list" #[] e1):=(JR _ _ m.ne).trans aa;have hA1:upd H' kS (.lst []) a=some (.lst []):=by rw[af (J5 m.ne)];exact hA
 unfold ksk_tail;dsimp only;refine IZ (Ma ak rfl ?_ (by rw[hsz,Jm];omega) (JZ _));refine IZ (wpAny_letGo ?_);refine IZ (seqEpoch_at a1 rfl ?_);refine IZ (Ma a1 rfl ?_ (JZ _) ?_)
 ·rw[hfl];simp only[Mu,JT,KA];refine Ja (h _ _ zs (Inv.iF (ys:=zs.map fun z=>.ref z.1) (au:=[]) (its':=aA zs) (f:=fun _=>(arrOf st).map (·.2)) (t':=s.toks) i1 hA1 a1 (by rw[<-z2,L9]) (oa zs) (by rw[Jb,zl,Jm];omega)) ?_);have m2:pJ M H a kS (upd (upd H' kS (.lst [])) a (.lst (zs.map fun z=>.ref z.1))):=m1.upd (.inl rfl);exact⟨m2.old,m2.off,m.aH,m.aM,ae,z1,z3⟩
 ·have:((arrOf st).map (·.2)).size=ys.length:=by
   rw[<-Jz,z2];unfold aA;rw[Jb,zl]
  simp only[JT,KA];rw[this,Jm];omega
theorem BR {H H':Hp} {s:Shared} {keys:NW} {e e1:Nat} {P:PySem.Fin->Shared->Prop} {E:NT} {A:Around} (m:pJ M H a kS H') (I:Inv X pins σ H' s)
  (ak:s.heap.get? kS=some (seqObj "list" keys e)) (aa:s.heap.get? a=some (seqObj "list" #[] e1)) (hK:H' kS=some (.lst ((ys.map (·.2)).map V.str))) (hA:H' a=some (.lst [])) (hk:StrsAre keys.toList (ys.map (·.2))) (h64:ys.length < 64)
  (h:∀H2 s2 zs,Inv X pins σ H2 s2->wU M H ys H2 a zs->P (.done (.ret .none)) s2):wpAny (model X.prog X.w) A (ksk_end a false (aA ys).toArray e1 (.ref kS) keys) P E s:=by
 have hsz:keys.size=ys.length:=by
  have h1:=hk.length;rw[Jz,Jb]at h1;exact h1
 have hrl:(aA ys).length=ys.length:=by unfold aA;rw[Jb]
 have hzs:(keys.zip (aA ys).toArray).size=ys.length:=by rw[Array.size_zip,hsz,Jp,hrl,Nat.min_self]
 unfold ksk_end;dsimp only;simp only[JT,KA]
 by_cases h2:(aA ys).toArray.size < 2
 ·rw[Jc h2,Jc h2];refine IZ (Ja ?_);rw[StateT.run_pure];refine IZ (Ja ?_);dsimp only;refine qL (st:=SortSt.mk' general' (keys.zip (aA ys).toArray) #[] 7 none) m I ak aa hK hA hk h64 (MQ _) ?_ rfl h;intro i j hij hj;have hj2:j < (keys.zip (aA ys).toArray).size:=hj;rw[hzs]at hj2;rw[Jp,hrl]at h2;have:i=j:=by omega
  subst this;exact strKind.irrefl _
 ·rw[I_ h2,I_ h2];rw[Jp,hrl]at h2;rw[vZ hk (by rw[hsz];omega)];refine IZ (Ja ?_)
  refine IZ (KQ (wpS_sortRunsK (κ:=strKind) (a₀:=keys.zip (aA ys).toArray) (st:=SortSt.mk' oneType' (keys.zip (aA ys).toArray) #[] 7 none)
   (Q:=fun _ st'=>(arrOf st').Perm (keys.zip (aA ys).toArray)/\failedOf st'=none/\SortedToK strKind (arrOf st') (keys.zip (aA ys).toArray).size)
   strKind_oneLt (BQ hk) ⟨MQ _,rfl,rfl,rfl⟩ (by rw[hzs];omega) (by rw[hzs];exact h64) fun st' a1 a2 a3=>⟨a1,a2,a3⟩) ?_ fun _ _ e=>e)
  rintro⟨⟨⟩,st'⟩ s' ⟨rfl,hp,hf,hs⟩
  dsimp only;exact qL m I ak aa hK hA hk h64 hp (by rw[hp.size_eq];exact hs) hf h
end
section
variable {X:Cx} {M:Mo} {pins:NU} {σ:L2.St} {k:Nat} {vc:Addr->Sp} {ys:List (Addr × Str)} {g a kS:Addr}
structure Apart (X:Cx) (pins:NU) (a:Addr):Prop where
 s0:X.s₀.heap.objs.size<=a
 nl:a ≠ X.env.locals
 nc:∀x c,X.env.cells.lookup x=some c->c ≠ a
 np:∀p ∈ X.pn++pins,p.1 ≠ a
theorem Inv.apart {H:Hp} {s:Shared} (I:Inv X pins σ H s) (h:s.heap.objs.size<=a):Apart X pins a:=
 ⟨JB I.sz h,KG (Jw I.lt h),fun x c e=>(let ⟨_,q⟩:=I.cell x c e;Js (Jw q.lt h)),fun p hp=>Js (Jw (Jk (I.pin p hp).1) h)⟩
theorem Apart.DK {H:Hp} {s:Shared} (I:Inv X pins σ H s) (f:Apart X pins a):a ∉ w4 X.stack:=fun z=>by
 rcases Jq.mp (I.oi _ z)with e | hb
 ·exact f.nl e
 ·obtain⟨_,o,e,_⟩:=I.ok.jj.mem hb;exact absurd (Jk e) (Mr.mpr f.s0)
theorem Inv.rR {H:Hp} {s:Shared} {o:HO} (I:Inv X pins σ H s) (hn:H a=none) (f:Apart X pins a) (new:bA X.prog X.w (upd H a o) s.heap a o):Inv X pins σ (upd H a o) s:=by
 have ne:∀b u,H b=some u->b ≠ a:=fun b u e=>ag e hn;refine⟨I.ok,I.os,I.bare,⟨I.base.keep,I.base.slot,fun b ob e n hx=>?_,I.base.there,fun b xs e=>?_,fun b ob u e=>?_,fun b qs e=>?_⟩,I.loc,I.cell,by rw[af (J5 f.nl)];exact I.free,fun x c e=>by rw[af (f.nc x c e)];exact I.d4 x c e,fun p hp'=>?_,?_,I.len⟩
 ·rw[af (Js (Jw (Jk e) f.s0))];exact I.base.free b ob e n hx
 ·have q:=I.base.kz b xs e;rw[af (ne _ _ q)];exact q
 ·have q:=I.base.jQ b ob u e;rw[af (ne _ _ q)];exact q
 ·obtain⟨m,q⟩:=I.base.jN b qs e;exact⟨m,by rw[af (ne _ _ q)];exact q⟩
 ·obtain⟨h1,h2,h3⟩:=I.pin p hp';exact⟨h1,by rw[af (f.np p hp')];exact h2,h3⟩
 ·intro b u e
  by_cases hb:b=a
  ·subst hb;rw[ae]at e;cases e;exact new
  ·rw[af hb]at e;exact(I.aZ b u e).aq (fun _ _ _ q=>q) (fun d q=>by rw[af (ne _ _ q)];exact q) fun d xs q=>by rw[af (ne _ _ q)];exact q
theorem Inv.forget {H:Hp} {s:Shared} {xs:List V} (I:Inv X pins σ (upd H a (.lst xs)) s) (hn:H a=none) (f:Apart X pins a):Inv X pins σ H s:=by
 have nt:∀ {b:Addr} {o:HO},(∀ ys,o ≠ .lst ys)->upd H a (.lst xs) b=some o->H b=some o:=fun{b o} no q=>by
  by_cases hb:b=a
  ·subst hb;rw[ae]at q;exact absurd (JE q).symm (no xs)
  ·rwa[af hb]at q
 have un:∀ {b:Addr},upd H a (.lst xs) b=none->H b=none:=fun{b} q=>by
  by_cases hb:b=a
  ·subst hb;exact hn
  ·rwa[af hb]at q
 refine⟨I.ok,I.os,I.bare,⟨I.base.keep,I.base.slot,fun b ob e n hx=>un (I.base.free b ob e n hx),I.base.there,fun b xs e=>nt (fun _ z=>nomatch z) (I.base.kz b xs e),fun b ob u e=>nt (fun _ z=>nomatch z) (I.base.jQ b ob u e),fun b qs e=>?_⟩,I.loc,I.cell,un I.free,fun x c e=>un (I.d4 x c e),fun p hp'=>?_,?_,I.len⟩
 ·obtain⟨m,q⟩:=I.base.jN b qs e;exact⟨m,nt (fun _ z=>nomatch z) q⟩
 ·obtain⟨h1,h2,h3⟩:=I.pin p hp';exact⟨h1,un h2,h3⟩
 ·intro b u e;have hb:b ≠ a:=ag e hn;exact(I.aZ b u (by rw[af hb];exact e)).aq (fun _ _ _ q=>q) (fun d q=>nt (fun _ z=>nomatch z) q) fun d xs q=>nt (fun _ z=>nomatch z) q
theorem zi {H H':Hp} {s:Shared} {e1:Nat} {P:PySem.Fin->Shared->Prop} {E:NT} {A:Around} (F:jS X.prog X.w X.K X.mg X.base k vc) (hr:cO k A) (hfr:A.frames=some X.stack) (m:pJ M H a kS H') (I:Inv X pins σ H' s) (fa:Apart X pins a)
  (aa:s.heap.get? a=some (seqObj "list" #[] e1)) (hK:H' kS=some (.lst [])) (hA:H' a=none) (h64:ys.length < 64)
  (turn:∀y ∈ ys,∀H1,(∀ b o,H b=some o->H1 b=some o)->∀Q:VK,Q (.str y.2) H1->vc g [.ref y.1] H1 Q (fun _ _ _=>False))
  (h:∀H2 s2 zs,Inv X pins σ H2 s2->wU M H ys H2 a zs->P (.done (.ret .none)) s2):wpAny (model X.prog X.w) A (ksk_rest a (.ref g) false (aA ys).toArray e1 (.ref kS)) P E s:=by
 have hrl:(aA ys).length=ys.length:=by unfold aA;rw[Jb]
 have store:∀ {s1:Shared} {H1:Hp} {ks:List Str},Inv X pins σ H1 s1->H1 kS=some (.lst (ks.map V.str))->∃kA n,s1.heap.get? kS=some (seqObj "list" kA n)/\StrsAre kA.toList ks/\Vals (ks.map V.str) kA.toList:=fun I1 e=>by
  obtain⟨_,au,n,r,q⟩:=I1.aZ _ _ e;refine⟨au.toArray,n,q,?_,by simpa using r⟩
  have:∀ {ks:List Str} {au:List Value},Vals (ks.map V.str) au->StrsAre au ks:=by
   intro ks
   induction ks with
   | nil=>intro au r;cases r;exact .nil
   | cons x l ih=>intro au r;cases r with | cons h t=>obtain⟨tk,rfl⟩:=h;exact .cons x tk (ih t)
  simpa using this r
 unfold ksk_rest;refine IZ (Kn ?_)
 first
  | rw[List.forIn_toArray]
  | (rw[<-K9];simp only[List.toList_toArray])
  | rw[<-K9]
 refine IZ (ksk_fold (fun i s'=>∃H1,Inv X pins σ H1 s'/\pJ M H a kS H1/\s'.heap.get? a=some (seqObj "list" #[] e1)/\H1 kS=some (.lst (((ys.take i).map (·.2)).map V.str))/\H1 a=none) (aA ys) 0 s ⟨H',I,m,aa,hK,hA⟩ ?step ?done)
 case step=>
  rintro j x s' hx ⟨H1,I1,m1,a1,k1,n1⟩
  simp only[Kd]at k1 ⊢;have hj:j < ys.length:=by rw[<-hrl];exact(Ju.mp hx).1
  obtain⟨y,ey⟩:∃y,ys[j]?=some y:=⟨_,Je hj⟩
  have ex:x=.ref y.1:=by
   unfold aA at hx;rw[Jy,ey]at hx;exact(JE hx).symm
  subst ex
  have e0:wV X.prog X.w X.K X.mg X.base A X.stack s' H1:=by
   have:=I1.FZ;exact⟨hfr,this.mod,this.bs,this.B8,this.jj,this.Eh,this.aZ,this.bare⟩
  have hc:=F.run A X.stack s' H1 g [.ref y.1] [.ref y.1] (fun v H2=>v=.str y.2/\H2=H1) (fun _ _ _=>False) hr e0 (.cons rfl .nil) (turn y (Jg ey) H1 m1.old _ ⟨rfl,rfl⟩);refine IZ (Lj (wpAny_call (LM hc fun r s2 hq=>?_)));cases r with
  | error e=>exact False.elim hq
  | ok fl=>
   cases fl with
   | next=>exact False.elim hq
   | brk=>exact False.elim hq
   | cont=>exact False.elim hq
   | ret u=>
    have hq:CE X.stack X.prog X.w H1 s' (fun v H2=>v=.str y.2/\H2=H1) u s2:=hq;have un:=hq;obtain⟨_,H3,_,_,un,_,_,_,rfl⟩:=un;have a2:s2.heap.get? a=some (seqObj "list" #[] e1):=un.keep a _ a1 n1 (fa.DK I1) (by simp);obtain⟨v,H3,I2,ru,rfl,rfl⟩:=I1.after hq;obtain⟨tk,rfl⟩:=ru;obtain⟨kA,n,hk,hs,hv⟩:=store I2 k1;have ek:(ys.take (j + 1)).map (·.2)=(ys.take j).map (·.2)++[y.2]:=by rw[L1,ey];simp
    have lk:kA.size<=ys.length:=by
     have h1:=hs.length;rw[Jz,Jb,J7]at h1;omega
    have i3:=Inv.iF (t':=s2.toks) (ys:=((ys.take (j + 1)).map (·.2)).map V.str) (au:=kA.toList) (its':=kA.toList++[.str y.2 tk]) (f:=(·.push (.str y.2 tk))) I2 k1 (by simpa using hk) (by rw[<-Kw,L9,L9]) (by rw[ek,Jt];exact hv.append (.cons ⟨tk,rfl⟩ .nil))
     (by rw[Jb,Jb,J7,Jm];omega)
    show wpAny _ _ _ _ _ _;dsimp only;refine IZ (Ma hk rfl (Ja ⟨rfl,_,i3,m1.upd (.inr rfl),(JR _ _ m1.ne).trans a2,ae,by rw[af (J5 m1.ne)];exact n1⟩) (by rw[Jm];omega) (JB (Mn (NM ..)) (by rw[Jm];omega)))
 case done=>
  rintro s' ⟨H1,I1,m1,a1,k1,n1⟩
  rw[Kd,hrl,KD]at k1;obtain⟨kA,n,hk,hs,_⟩:=store I1 k1;have I2:=Inv.rR (o:=.lst []) I1 n1 fa ⟨JZ _,[],e1,.nil,a1⟩;refine IZ (listItems_at hk rfl ?_);exact BR (m1.upd (.inl rfl)) I2 hk a1 (by rw[af m1.ne];exact k1) ae hs h64 h
theorem FF {H:Hp} {s:Shared} (mo:ax X.K M) (I:Inv X pins σ H s) {b:Addr} (h:s.heap.objs.size<=b):M b=none:=by
 cases q:M b with
 | none=>rfl
 | some o=>
  obtain⟨ob,e⟩:=mo.look (a:=b) (by rw[q];exact fun z=>nomatch z);exact absurd (Jk (I.lU _ _ e)) (Mr.mpr h)
theorem zh {H:Hp} {s:Shared} {n:Nat} {P:PySem.Fin->Shared->Prop} {E:NT} {A:Around} (F:jS X.prog X.w X.K X.mg X.base k vc) (mo:ax X.K M) (hr:cO k A) (hfr:A.frames=some X.stack) (I:Inv X pins σ H s) (fa:Apart X pins a) (aM:M a=none)
  (aa:s.heap.get? a=some (seqObj "list" (aA ys).toArray n)) (hA:H a=none) (h64:ys.length < 64)
  (turn:∀y ∈ ys,∀H1,(∀ b o,H b=some o->H1 b=some o)->∀Q:VK,Q (.str y.2) H1->vc g [.ref y.1] H1 Q (fun _ _ _=>False))
  (h:∀H2 s2 zs,Inv X pins σ H2 s2->wU M H ys H2 a zs->P (.done (.ret .none)) s2):wpAny (model X.prog X.w) A (ksk_tree a (.ref g) false) P E s:=by
 have hrl:(aA ys).length=ys.length:=by unfold aA;rw[Jb]
 have ha:a < s.heap.objs.size:=Jk aa;obtain⟨e1,ho1⟩:∃e1,(s.heap.update a (Obj.mapSeq fun _=>(#[]:NW))).get? a=some (seqObj "list" #[] e1):=⟨_,get?_update_seq aa fun _=>#[]⟩
 -- a is told for the moment in which it is emptied
 have I1:=Inv.rR (o:=.lst (ys.map fun y=>.ref y.1)) I hA fa ⟨by rw[Jb,Jm];omega,aA ys,n,oa ys,aa⟩;have I2:=Inv.iF (t':=s.toks) (ys:=[]) (au:=aA ys) (its':=[]) (f:=fun _=>#[]) I1 ae aa rfl .nil (JZ _)
 have I3:Inv X pins σ H {s with heap:=s.heap.update a (Obj.mapSeq fun _=>(#[]:NW))}:=by
  have e:upd (upd H a (.lst (ys.map fun y=>.ref y.1))) a (.lst [])=upd H a (.lst []):=by
   funext b
   by_cases hb:b=a
   ·subst hb;rw[ae,ae]
   ·rw[af hb,af hb,af hb]
  rw[e]at I2;exact Inv.forget I2 hA fa
 have hkS:((s.heap.update a (Obj.mapSeq fun _=>(#[]:NW))).push (seqObj "tuple" (aA ys).toArray 0)).objs.size=s.heap.objs.size + 1:=by rw[size_push',NB]
 have nkS:s.heap.objs.size<=((s.heap.update a (Obj.mapSeq fun _=>(#[]:NW))).push (seqObj "tuple" (aA ys).toArray 0)).objs.size:=by rw[hkS];exact Kq _
 unfold ksk_tree;refine IZ (listItems_at aa rfl ?_);refine IZ (Ma aa rfl ?_ (by rw[Jp,hrl,Jm];omega) (JZ _));refine IZ (seqEpoch_at ho1 rfl ?_);refine IZ (wpAny_newTuple ?_ (by show(aA ys).length<=_;rw[hrl,Jm];omega));refine IZ (L_ ?_ (JZ _));refine JQ ?_;have I4:=Inv.kept (t':=s.toks) (h':=(s.heap.update a (Obj.mapSeq fun _=>(#[]:NW))).push (seqObj "tuple" (aA ys).toArray 0)) I3 fun b o e=>Jd _ e
 have I5:=Inv.laid (t':=s.toks) (a:=((s.heap.update a (Obj.mapSeq fun _=>(#[]:NW))).push (seqObj "tuple" (aA ys).toArray 0)).objs.size) (o:=.lst []) (h':=((s.heap.update a (Obj.mapSeq fun _=>(#[]:NW))).push (seqObj "tuple" (aA ys).toArray 0)).push (seqObj "list" #[] 0)) I4
  (fun b o e=>Jd _ e) (Jv _) ⟨JZ _,[],0,.nil,Jr _ rfl⟩
 have kH:H ((s.heap.update a (Obj.mapSeq fun _=>(#[]:NW))).push (seqObj "tuple" (aA ys).toArray 0)).objs.size=none:=I.aZ.fresh nkS;have kM:=FF mo I nkS
 refine zi (s:={s with heap:=((s.heap.update a (Obj.mapSeq fun _=>(#[]:NW))).push (seqObj "tuple" (aA ys).toArray 0)).push (seqObj "list" #[] 0)}) F hr hfr
  ⟨fun b o e=>by rw[af (ag e kH)];exact e,fun b hm e=>by rw[af (fun z=>hm (by rw[z];exact kM))];exact e,hA,kH,aM,kM,by rw[hkS];exact KG (JM ha)⟩ I5 fa
  (Jd _ (Jd _ ho1)) ae (by rw[af (by rw[hkS];exact Js (JM ha))];exact hA) h64 turn h
theorem sR {H:Hp} {s:Shared} {l:Addr} {Q:VK} {E:NT} (F:jS X.prog X.w X.K X.mg X.base k vc) (mo:ax X.K M) (hr:cO (k + 2) X.A) (I:Inv X pins σ H s) (hl:s.heap.IsList l (aA ys).toArray) (h64:ys.length < 64)
  (turn:∀y ∈ ys,∀H1,(∀ b o,H b=some o->H1 b=some o)->∀Q:VK,Q (.str y.2) H1->vc g [.ref y.1] H1 Q (fun _ _ _=>False))
  (h:∀H2 d zs,wU M H ys H2 d zs->Q (.ref d) H2):wpAny (model X.prog X.w) X.A (call (.builtin "sorted") [.ref l] [(Str.ofString "key",.ref g)]) (EP X pins σ Q) E s:=by
 have hrl:(aA ys).length=ys.length:=by unfold aA;rw[Jb]
 refine call_function_entry_kw kind_sorted plain_sorted entry_sorted (ksk_s1 _ _) ?_;unfold Builtin.«sorted»;refine IZ (m:=checkCount "sorted" 1 1 _) (Ja ?_);refine IZ (collect_list hl ?_ (by rw[hrl,Jm];omega));refine IZ (L_ ?_ (by rw[hrl,Jm];omega))
 have hsz:((s.heap.push (seqObj "list" #[] 0)).update s.heap.objs.size (Obj.mapSeq (·++(aA ys).toArray))).objs.size=s.heap.objs.size + 1:=by
  rw[NB,size_push']
 have hoL:(((s.heap.push (seqObj "list" #[] 0)).update s.heap.objs.size (Obj.mapSeq (·++(aA ys).toArray))).push (seqObj "list" (aA ys).toArray 0)).get? (s.heap.objs.size + 1)=some (seqObj "list" (aA ys).toArray 0):=by
  rw[<-hsz];exact Jr _ rfl
 have keep:∀b o,s.heap.get? b=some o->(((s.heap.push (seqObj "list" #[] 0)).update s.heap.objs.size (Obj.mapSeq (·++(aA ys).toArray))).push (seqObj "list" (aA ys).toArray 0)).get? b=some o:=fun b o q=>by
  have hlt:b < s.heap.objs.size:=Jk q;rw[Heap.get?_push_ne _ _ _ (by rw[hsz];exact Js (JM hlt)),Heap.get?_update_ne _ _ _ _ (Js hlt),Heap.get?_push_ne _ _ _ (Js hlt)];exact q
 show wpAny _ _ _ _ _ {s with heap:=((s.heap.push (seqObj "list" #[] 0)).update s.heap.objs.size (Obj.mapSeq (·++(aA ys).toArray))).push (seqObj "list" (aA ys).toArray 0)};rw[hsz];have I1:=Inv.kept (t':=s.toks) I keep;refine IZ (JQ (wpAny_call_entry_kw M3 ⟨_,hoL,rfl⟩ MM ?body (ksk_l1 _ _)))
 case body=>
  show wpAny (model X.prog X.w) X.A.in1.in1 (Builtin.«list.sort» ⟨[.ref (s.heap.objs.size + 1)],[(Str.ofString "key",.ref g)]⟩) _ _ _;rw[ksk_t1];refine zh (s:={s with heap:=((s.heap.push (seqObj "list" #[] 0)).update s.heap.objs.size (Obj.mapSeq (·++(aA ys).toArray))).push (seqObj "list" (aA ys).toArray 0)}) F mo hr.in1.in1 I.ok.frames I1 (Inv.apart I (Kq _)) (FF mo I (Kq _)) hoL (I.aZ.fresh (Kq _)) h64 turn fun H2 s2 zs I2 o=>⟨_,rfl,?_⟩;exact Ja ⟨_,rfl,.ref _,H2,I2,rfl,h H2 _ zs o⟩
end
open PySem.W (Frag keepIn ktsIn mroIn kitOne tabObj CodeHd codeHdIn codeHd_of_K kla_fn kla_obj kla_eval kla_makeFunction kla_makeFunctionHit kla_callFunE kla_codeExpr)
section
variable {X:Cx} {pins:NU} {σ:L2.St} {H:Hp} {s:Shared} {h':Heap} {P:Addr} {ps more:NW}
theorem Inv.grown {t':Nat} (I:Inv X pins σ H s) (hT:H P=some (.tbl ps)) (hx:Heap.ExtBut P s.heap h') (hP:h'.get? P=some (tabObj (ps++more))):
  Inv X pins σ (upd H P (.tbl (ps++more))) {s with heap:=h',toks:=t'}:=by
 have k:∀b o,b ≠ P->s.heap.get? b=some o->h'.get? b=some o:=fun b o hb e=>hx b o hb e;have np:∀b,H b=none->b ≠ P:=fun b n z=>by rw[z,hT]at n;cases n
 refine I.un (t':=t') (h':=h') (H':=upd H P (.tbl (ps++more))) ⟨fun b o e n _ _=>k b o (np b n) e,fun b o e n _ _=>⟨o.slots,k b o (np b n) e⟩,fun b o e n _=>by rw[af (np b n)];exact n,fun b o e _=>?_,fun b xs e=>?_,fun b o x e=>?_,fun b qs e=>?_⟩ (fun b o e=>?_)
 ·by_cases hb:b=P
  ·exact⟨_,by rw[hb];exact hP⟩
  ·exact⟨o,k b o hb e⟩
 ·rw[af (fun z=>by rw[z,hT]at e;cases e)];exact e
 ·rw[af (fun z=>by rw[z,hT]at e;cases e)];exact e
 ·by_cases hb:b=P
  ·subst hb;rw[hT]at e;cases e;exact⟨more,ae⟩
  ·exact⟨#[],by rw[af hb,e];simp⟩
 ·by_cases hb:b=P
  ·subst hb;rw[ae]at e;cases e;exact hP
  ·rw[af hb]at e;refine(I.aZ b o e).aq (fun c u hc q=>k c u ?_ q) (fun c q=>by rw[af (fun z=>by rw[z,hT]at q;cases q)];exact q) fun c xs q=>by rw[af (fun z=>by rw[z,hT]at q;cases q)];exact q
   rcases hc with rfl | hc
   ·exact hb
   ·exact fun z=>by rw[z,hT]at hc;cases hc
end
noncomputable def qM:Ex:=.idx (.idx (.var 0) (.con (.int 1))) (.con (.int 0))
structure Cj (X:Cx) (D:i4) (Ts:List Tb) (k:Nat):Prop where
 cc:∃cc,X.env.code=.ref cc/\codeHdIn X.K cc D.T=true
 B:X.base.BuiltinsAt X.mg D.T
 iq:X.env.qual++("<lambda>" :Str)=D.iq
 cl:closureFor D.scope X.env=pure []
 d0:defaultsOf D.args X.env=([],[])
 t0:(D.T,D.pos,D.iq) ∈ Ts
 t1:∀t ∈ Ts,t.1=D.T->t=(D.T,D.pos,D.iq)
 k4:5<=k
 S:aT [D.x] [D.x] D.scope
 hm:bE [D.x] qM D.body=D.body/\oE D.scope [D.x] qM D.body=true
 hb:∀ (pm ctv cd:Value) (us:List Value),us.length=1->bindArgs (kla_fn "<lambda>" D.iq D.args D.body D.scope [] pm cd ctv) ⟨us,[]⟩=pure ([D.x].zip us)
section
variable {X:Cx} {M:Mo} {pins:NU} {σ:L2.St} {H:Hp} {s:Shared} {D:i4} {Ts:List Tb} {k:Nat}
theorem ze (L:Cj X D Ts k) (mo:ax X.K M) (I:Inv X pins σ H s) (hTs:∀t ∈ Ts,TabAt H t) {E:NT} {Q:NT} (hcl:closureFor D.scope X.env=pure [])
  (q:∀ (g c':Addr) (pm ctv:Value) (H2:Hp) (s2:Shared),Inv X pins σ H2 s2->H2 g=some (.clo (kla_fn "<lambda>" D.iq D.args D.body D.scope [] pm (.ref c') ctv))->H2 c'=some (.cod D.iq)->(∀ t ∈ Ts,TabAt H2 t)->ff M H H2->H g=none->Q (.ref g) s2):
  wpAny (model X.prog X.w) X.A (eval D.le X.env) Q E s:=by
 obtain⟨cc,hcd,hhd⟩:=L.cc;have hns:s.heap.Ns mainGlobals X.mg:=I.mod.glob.keeps I.bk;have hBs:s.heap.BuiltinsAt X.mg D.T:=let ⟨bm,o,h1,h2,h3,h4,h5,r⟩:=L.B;⟨bm,o,h1,h2,h3,h4,I.bk _ _ h5,r⟩
 have CH:CodeHd s.heap cc D.T:=codeHd_of_K I.lU hhd;refine kla_eval L.d0 ?_;rw[L.iq];rcases hTs _ L.t0 with hP | ⟨c',hP,hc'⟩
 ·have hP:H D.T=some (.tbl #[]):=hP
  have hgT:mainGlobals ≠ D.T:=fun z=>by
   obtain⟨o,es,ep,e,_⟩:=I.mod.glob;have:=(I.bs _ _ e).2;rw[z,hP]at this;cases this
  refine kla_makeFunction (mg:=X.mg) hcl I.ok.glob hns hcd CH (I.aZ D.T _ hP) trivial rfl hgT hBs fun c' ctv h' tk hx hge hlt hrec htb=>?_;have I2:=Inv.grown (t':=tk) (more:=#[rawInt D.pos.line,rawInt D.pos.col,.ref c']) I hP hx htb;have hTlt:D.T < s.heap.objs.size:=I.aZ.lt hP
  have hcn:upd H D.T (.tbl (#[]++#[rawInt D.pos.line,rawInt D.pos.col,.ref c'])) c'=none:=by
   rw[af (KG (Jw hTlt hge))];exact I.aZ.fresh hge
  have I3:=Inv.rR (a:=c') (o:=.cod D.iq) I2 hcn (Inv.apart I hge) hrec
  have I4:=Inv.laid (a:=h'.objs.size) (t':=tk) (o:=.clo (kla_fn "<lambda>" D.iq D.args D.body D.scope [] ((X.mg "__name__").getD .none) (.ref c') ctv)) I3
   (h':=h'.push (kla_obj "<lambda>" D.iq D.args D.body D.scope [] ((X.mg "__name__").getD .none) c' ctv)) (fun b u e=>Jd _ e) (Jv _) (Jr _ rfl)
  have old:∀b o,H b=some o->b ≠ D.T->upd (upd (upd H D.T (.tbl (#[]++#[rawInt D.pos.line,rawInt D.pos.col,.ref c']))) c' (.cod D.iq)) h'.objs.size (.clo (kla_fn "<lambda>" D.iq D.args D.body D.scope [] ((X.mg "__name__").getD .none) (.ref c') ctv)) b=some o:=fun b o e ne=>by
   have hb:=I.aZ.lt e;rw[af (Js (MK (Jw hb hge) hlt)),af (Js (Jw hb hge)),af ne];exact e
  have hcc:upd (upd (upd H D.T (.tbl (#[]++#[rawInt D.pos.line,rawInt D.pos.col,.ref c']))) c' (.cod D.iq)) h'.objs.size (.clo (kla_fn "<lambda>" D.iq D.args D.body D.scope [] ((X.mg "__name__").getD .none) (.ref c') ctv)) c'=some (.cod D.iq):=by
   rw[af (Js hlt),ae]
  refine q h'.objs.size c' _ ctv _ _ I4 ae hcc (fun t ht=>?_) ⟨fun a o e n=>old a o e (fun z=>n #[] (by rw[z,hP]at e;exact(JE e).symm)),fun a ma e=>?_,fun a h z=>?_⟩ (I.aZ.fresh (JB hge (Lo hlt)))
  ·by_cases ht1:t.1=D.T
   ·have:=L.t1 t ht ht1;subst this;refine .inr ⟨c',?_,hcc⟩;show upd _ _ _ D.T=_;rw[af (Js (MK (Jw hTlt hge) hlt)),af (Js (Jw hTlt hge)),ae];rfl
   ·rcases hTs t ht with q | ⟨c2,q,q2⟩
    ·exact .inl (old _ _ q ht1)
    ·exact .inr ⟨c2,old _ _ q ht1,old _ _ q2 (fun z=>by rw[z,hP]at q2;cases q2)⟩
  ·obtain⟨ob,e2⟩:=mo.look ma;have hlt2:a < s.heap.objs.size:=Jk (I.lU _ _ e2);rw[af (Js (MK (Jw hlt2 hge) hlt)),af (Js (Jw hlt2 hge)),af (fun z=>by rw[z,hP]at e;cases e)];exact e
  ·by_cases ha:a=D.T
   ·rw[ha,af (Js (MK (Jw hTlt hge) hlt)),af (Js (Jw hTlt hge)),ae]at z;cases z
   ·cases q:H a with
    | none=>exact h q
    | some o=>rw[old a o q ha]at z;cases z
 ·have hP:H D.T=some (.tbl #[rawInt D.pos.line,rawInt D.pos.col,.ref c']):=hP;have hc':H c'=some (.cod D.iq):=hc';refine kla_makeFunctionHit (mg:=X.mg) (cv:=.ref c') hcl I.ok.glob hns hcd CH (I.aZ D.T _ hP) (by simp[TriplesOk,rawInt]) (by simp[codeAmong,rawInt]) hBs fun ctv h' tk hk hsz=>?_;have I2:=Inv.kept (t':=tk) I hk
  have I4:=Inv.laid (a:=h'.objs.size) (t':=tk) (o:=.clo (kla_fn "<lambda>" D.iq D.args D.body D.scope [] ((X.mg "__name__").getD .none) (.ref c') ctv)) I2
   (h':=h'.push (kla_obj "<lambda>" D.iq D.args D.body D.scope [] ((X.mg "__name__").getD .none) c' ctv)) (fun b u e=>Jd _ e) (Jv _) (Jr _ rfl)
  have old:∀b o,H b=some o->upd H h'.objs.size (.clo (kla_fn "<lambda>" D.iq D.args D.body D.scope [] ((X.mg "__name__").getD .none) (.ref c') ctv)) b=some o:=fun b o e=>by
   rw[af (Js (Jw (I.aZ.lt e) hsz))];exact e
  refine q h'.objs.size c' _ ctv _ _ I4 ae (old _ _ hc') (fun t ht=>?_) ⟨fun a o e n=>old a o e,fun a ma e=>?_,fun a h z=>?_⟩ (I.aZ.fresh hsz)
  ·rcases hTs t ht with q | ⟨c2,q,q2⟩
   ·exact .inl (old _ _ q)
   ·exact .inr ⟨c2,old _ _ q,old _ _ q2⟩
  ·obtain⟨ob,e2⟩:=mo.look ma;have hlt2:a < s.heap.objs.size:=Jk (I.lU _ _ e2);rw[af (Js (Jw hlt2 hsz))];exact e
  ·cases q:H a with
   | none=>exact h q
   | some o=>rw[old a o q]at z;cases z
end
noncomputable def Gz (D:i4) (H:Hp) (f:Addr):Prop:=∃ (c':Addr) (pm ctv:Value),H f=some (.clo (kla_fn "<lambda>" D.iq D.args D.body D.scope [] pm (.ref c') ctv))/\H c'=some (.cod D.iq)
noncomputable def Fh (D:i4):Addr->Sp:=fun f vs H Q _=>∃t k,vs=[.ref t]/\jL H (t,k)/\Gz D H f/\Q (.str k) H
section
variable {P:Program} {w:World} {K:Frag} {mg:Str->Option Value} {base:Heap} {Γ:bZ} {k:Nat}
theorem CY {D:i4} (g:cn P w K mg base Γ k) (S:aT [D.x] [D.x] D.scope) (hm:bE [D.x] qM D.body=D.body/\oE D.scope [D.x] qM D.body=true)
  (hb:∀ (pm ctv cd:Value) (us:List Value),us.length=1->bindArgs (kla_fn "<lambda>" D.iq D.args D.body D.scope [] pm cd ctv) ⟨us,[]⟩=pure ([D.x].zip us)):jS P w K mg base (k + 2) (Fh D):=by
 refine⟨fun A outer s H f us vs Q E hr e0 r hsp=>?_,fun s H f vs Q E _ aZ hsp=>?_⟩
 ·obtain⟨t,ky,rfl,⟨w0,q,xs,k1,k2⟩,⟨c',pm,ctv,hf,hcd⟩,hq⟩:=hsp;have hfo:s.heap.get? f=some {cls:=.type "function",data:=.func (kla_fn "<lambda>" D.iq D.args D.body D.scope [] pm (.ref c') ctv)}:=e0.aZ f _ hf;have hco:s.heap.CodeRec (.ref c') D.iq:=e0.aZ c' _ hcd;have lim:s.heap.NoLimit:=e0.mod.nolimit.keeps fun b o e=>(e0.bs b o e).1;have hl:us.length=1:=by rw[<-r.length];rfl
  have hkind:∀y ∈ [D.x].zip us,D.scope.names.lookup y.1=some .local\/(D.scope.names.lookup y.1=some .cell/\((cellsFrom (s.heap.objs.size + 1) D.scope.names []).lookup y.1).isSome=true):=fun⟨n,v⟩ hy=>by
   rcases S.par n (Ls hy).1 with q | q
   ·exact .inl q
   ·exact .inr ⟨q,My _ _ _ (.inl q)⟩
  refine kla_callFunE hr.depth hfo rfl S.co S.gen rfl hco ((BindsTo.of_eq (hb pm ctv (.ref c') us hl)) _ _ _ _ ?_);refine wpAny_newFunctionEnv_cells S.kind hkind fun env he s1 x=>?_;subst he;refine⟨lim.keeps x.toInCall.keep,kla_codeExpr ?_⟩;have I:Inv (jR (pK P w) P w K mg base [D.x] D.iq D.scope f (.ref c') A outer s H (fun _ _ _=>False)) [] (start [D.x] [.ref t]) H s1:=nI S hr.hd e0 rfl r x;have hr':cO (k + 1) (A.deeper (envOfC D.iq D.scope s.heap.objs.size f (.ref c'))):=hr.deeper _
  have C:Ctx (jR (pK P w) P w K mg base [D.x] D.iq D.scope f (.ref c') A outer s H (fun _ _ _=>False)) Γ D.scope k:=by
   refine⟨g,fun _=>hr',fun _=>rfl,hr'.units,fun x h=>?_,fun x h=>?_,fun y h=>h,⟨_,_,_,rfl,rfl,rfl⟩⟩
   ·unfold fq at h;unfold Cf;split at h<;>first | (rename_i e;first | exact .inl e | exact .inr (.inl e) | exact .inr (.inr e)) | cases h
   ·unfold cM at h;split at h<;>first | (rename_i e;exact e) | cases h
  have hw:wE Γ qM X0 (start [D.x] [.ref t]) H fun r H'=>r=.str ky/\H'=H:=by
   show cJ Γ.mod (.ref t) (.int 1) H fun v H1=>cJ Γ.mod v (.int 0) H1 fun r H'=>r=.str ky/\H'=H;have r1:rd Γ.mod H t=some (.tup [w0,.ref q]):=by unfold rd;rw[k1]
   have r2:rd Γ.mod H q=some (.lst (.str ky::xs)):=by unfold rd;rw[k2]
   unfold cJ;dsimp only;rw[r1];show cJ Γ.mod (.ref q) (.int 0) H fun r H'=>r=.str ky/\H'=H;unfold cJ;dsimp only;rw[r2]
   have e:lL (V.str ky::xs) 0=some (V.str ky):=by
    unfold lL oX;rw[Jc (Int.le_refl 0),Jc (by rw[JW];omega)];rfl
   dsimp only;rw[e];exact⟨rfl,rfl⟩
  refine KQ ((hm.1 ▸ sE Γ k qM C eF.no hm.2) [] s1 _ _ _ I hw) (fun u' s' hs=>?_) (fun e s' hs=>?_)
  ·obtain⟨r',H',J,rr,rfl,rfl⟩:=hs;exact⟨.str ky,H',J.os,J.bare,J.base,J.aZ,rr,hq⟩
  ·exact KQ hs (fun _ s'' z=>False.elim z) (fun e' s'' z=>False.elim z)
 ·obtain⟨_,_,_,_,⟨c',pm,ctv,hf,_⟩,_⟩:=hsp;exact⟨_,_,_,_,aZ f _ hf⟩
end
structure jT (X:Cx) (Γ:bZ) (sc:Scope) (k:Nat):Prop extends Ctx X Γ sc k where
 nd:X.N.Nodup
 loc:∀x,jE sc x=true->Loc X.env.scope x/\(X.fn x=true\/X.env.scope.names.lookup x=some .local)
 Iy:∀x,sc.names.lookup x=some .local->X.env.scope.names.lookup x=some .local
 EM:X.stack=X.env::X.outer/\X.env.frame=some X.env.locals
 lam:∀D Ts,Γ.lm=some (D,Ts)->Cj X D Ts k
section
variable {X:Cx} {Γ:bZ} {sc:Scope} {k:Nat}
theorem jT.sF (C:jT X Γ sc k):jT X.sF Γ sc k:=⟨⟨C.g,C.room,C.calm,C.un,C.GC,C.gl,C.cf,C.top⟩,C.nd,C.loc,C.Iy,C.EM,fun D Ts h=>let l:=C.lam D Ts h;⟨l.cc,l.B,l.iq,l.cl,l.d0,l.t0,l.t1,l.k4,l.S,l.hm,l.hb⟩⟩
theorem PS.sF {st:Stmt} {t:TS} (h:PS X.sF st t):PS X st t:=fun pins s σ H D I hw=>
 KQ (h pins s σ H D (I.mi _) hw) (fun _ _ q=>q.fh) fun _ _ z=>False.elim z
theorem iC {e:Expr} {t:Option Expr} {n:Nat} {env:Env} (h:oG e=true):swapsWith e t n env=pure false:=by
 cases e<;>first | rfl | cases h
theorem B0 {i:Nat} {tb:TS} {J:It} {xs:List V} {aq:Hp->Prop} {D:Ends} {σ:L2.St} {H:Hp} (sq:jK J xs aq) (h:o4 i tb aq xs D σ H):
  ∃W:Nat->Nat->L2.St->Hp->Prop,(∃ m,W 0 m σ H)/\∀n m σ H,W n m σ H->
   (J.stop n H/\D.nx σ H)\/(J.go n H/\∃N:L2.St->Hp->Prop,(∀ σ' H',N σ' H'->∃m',m' < m/\W (n + 1) m' σ' H')/\∀x H',J.pO n H x H'->lD i x σ H' fun σ2 H2=>tb {D with nx:=N,ct:=N,bk:=D.nx} σ2 H2):=by
 refine⟨fun n m σ H=>m=xs.length - n/\n<=xs.length/\o4 i tb aq (xs.drop n) D σ H,⟨xs.length,by simp,JZ _,by simpa using h⟩,?_⟩
 rintro n m σ H ⟨rfl,hn,hw⟩
 cases e:xs.drop n with
 | nil=>
  rw[e]at hw;have hle:xs.length<=n:=by simpa using e
  exact .inl ⟨sq.stop n H hw.1 hle,hw.2⟩
 | cons v r=>
  rw[e]at hw
  have hlt:n < xs.length:=by
   have:=congrArg List.length e;simp at this;omega
  have hvi:xs[n]?=some v:=by
   have:=congrArg (fun l=>l[0]?) e;simpa using this
  have hdr:xs.drop (n + 1)=r:=by
   have:=congrArg List.tail e;simpa[LJ]using this
  refine .inr ⟨sq.go n H hw.1 hlt,o4 i tb aq r D,fun σ' H' z=>⟨xs.length - (n + 1),by omega,rfl,hlt,by rw[hdr];exact z⟩,fun x H' y=>?_⟩;obtain⟨eH,ev⟩:=sq.pO n H x H' hlt y hw.1;subst eH;rw[hvi]at ev;obtain rfl:v=x:=JE ev;exact hw.2
end
section
variable {X:Cx} {Γ:bZ} {sc:Scope} {k:Nat} {M:Mo}
theorem AG (hu:X.A.units + 64 < cLine):Gu X (fun x k v H Q=>vo x k v H Q):=by
 intro pins s σ H o i v ov iv u Q I ro ri rv h;unfold vo at h;cases o with
 | ref p=>
  dsimp only at h;split at h
  ·rename_i xs e;cases i with
   | int j=>
    dsimp only at h;split at h
    ·rename_i n en;exact set_list pins s σ H _ _ v ov iv u Q I ro ri rv ⟨_,_,_,_,rfl,rfl,e,en,h⟩
    ·exact h.elim
   | _=>exact h.elim
  ·rename_i kvs e;split at h
   ·rename_i kk ek;cases (show ov=Value.ref p from ro)
    have ei:=zj ek;subst ei;exact wH (by omega) I (Cm.k e h.1) ri rv fun s' I'=>⟨_,I',h.2⟩
   ·exact h.elim
  ·exact h.elim
 | _=>exact h.elim
theorem Dm {o i value:Expr} {to ti tv:TE} {pos pos':Pos} (hu:X.A.units + 64 < cLine) (ho:PE X o to) (hi:PE X i ti) (hv:PE X value tv) (hs:swapsWith value (some (.Subscript o i pos')) pos.line X.env=pure false):
  PS X (.Assign [.Subscript o i pos'] value pos) (fun D σ H=>tv σ H fun v H1=>to σ H1 fun x H2=>ti σ H2 fun k H3=>vo x k v H3 (D.nx σ)):=by
 intro pins s σ H D I h;refine wpAny_Assign_Subscript (bW (hv pins s σ H _ I h) fun r s1 ⟨v,H1,I1,rv,q1⟩=>bW (ho pins s1 σ H1 _ I1 q1) fun u s2 ⟨x,H2,I2,rx,q2⟩=>bW (hi pins s2 σ H2 _ I2 q2) fun iv s3 ⟨y,H3,I3,ry,q3⟩=>?_) hs;exact bW (AG hu pins s3 σ H3 x y v u iv r _ I3 rx ry rv q3) fun _ s4 ⟨H4,I4,q4⟩=>⟨σ,H4,I4,q4⟩
theorem jh (C:jT X Γ sc k):∀ {is:List Nat} {ts:List Expr},oN sc X.N is=true->ED X (bN X.N is ts) (gS is)
 | [],_,_=>ur
 | i::is,_,h=>qo (iw C.nd (fj (a2 (a2 h).1).1) (C.loc _ (a2 (a2 h).1).2).1 (C.loc _ (a2 (a2 h).1).2).2) (jh C (a2 h).2) rfl
theorem A2 (mo:ax X.K M) (hc:X.calm=true) {is:List Nat} {ts:List Expr} {e:Expr} {te:TE} {kt} {pt pos:Pos} (hp:ED X ts (gS is)) (hn:(assignEach ts X.env).length=is.length) (hst:(assignEach ts X.env).findIdx? (·.1)=none) (he:PE X e te) (h1:oG e=true) (h2:yF e=true):
  PS X (.Assign [.Tuple ts kt pt] e pos) (fun D σ H=>te σ H fun x H1=>match x with | .ref p=>(match rd M H1 p with | some (.tup xs)=>xs.length=is.length/\D.nx (eO σ is xs) H1 | _=>False) | _=>False):=by
 intro pins s σ H D I h;refine wpAny_Assign_stores (bW (he pins s σ H _ I h) fun v s1 ⟨x,H1,I1,r1,q1⟩=>?_) (show swapsWith e (some (.Tuple ts kt pt)) pos.line X.env=pure false from iC h1) (by cases e<;>first | rfl | cases h2);cases x with
 | ref p=>
  dsimp only at q1;split at q1
  ·rename_i xs ex;exact bW (sA (k:=kt) hc hp hn hst pins s1 σ H1 (.ref p) v D.nx I1 r1 ⟨p,xs,rfl,bO mo ex,q1.1,eU q1.1 q1.2⟩) fun _ s2 q=>q
  ·exact q1.elim
 | _=>exact q1.elim
theorem zC (mo:ax X.K M) {is:List Nat} {tb:TS} {J:It} {xs:List V} {aq:Hp->Prop} {D:Ends} {σ:L2.St} {H:Hp} (sq:jK J xs aq) (h:gk M is tb aq xs D σ H):
  ∃W:Nat->Nat->L2.St->Hp->Prop,(∃ m,W 0 m σ H)/\∀n m σ H,W n m σ H->
   (J.stop n H/\D.nx σ H)\/(J.go n H/\∃N:L2.St->Hp->Prop,(∀ σ' H',N σ' H'->∃m',m' < m/\W (n + 1) m' σ' H')/\∀x H',J.pO n H x H'->Eg X.K is.length (gS is) x σ H' fun σ2 H2=>tb {D with nx:=N,ct:=N,bk:=D.nx} σ2 H2):=by
 refine⟨fun n m σ H=>m=xs.length - n/\n<=xs.length/\gk M is tb aq (xs.drop n) D σ H,⟨xs.length,by simp,JZ _,by simpa using h⟩,?_⟩
 rintro n m σ H ⟨rfl,hn,hw⟩
 cases e:xs.drop n with
 | nil=>
  rw[e]at hw;have hle:xs.length<=n:=by simpa using e
  exact .inl ⟨sq.stop n H hw.1 hle,hw.2⟩
 | cons v r=>
  rw[e]at hw
  have hlt:n < xs.length:=by
   have:=congrArg List.length e;simp at this;omega
  have hvi:xs[n]?=some v:=by
   have:=congrArg (fun l=>l[0]?) e;simpa using this
  have hdr:xs.drop (n + 1)=r:=by
   have:=congrArg List.tail e;simpa[LJ]using this
  refine .inr ⟨sq.go n H hw.1 hlt,gk M is tb aq r D,fun σ' H' z=>⟨xs.length - (n + 1),by omega,rfl,hlt,by rw[hdr];exact z⟩,fun x H' y=>?_⟩;obtain⟨eH,ev⟩:=sq.pO n H x H' hlt y hw.1;subst eH;rw[hvi]at ev;obtain rfl:v=x:=JE ev;obtain⟨_,hw⟩:=hw;cases v with
  | ref p=>
   dsimp only at hw;split at hw
   ·rename_i ys ex;exact⟨p,ys,rfl,bO mo ex,hw.1,eU hw.1 hw.2⟩
   ·exact hw.elim
  | _=>exact hw.elim
end
theorem lI {N:List Str} {e:Ex} {a:Expr} (h:(!gR e)=true):oG (bE N e a)=true:=by
 cases e<;>first | rfl | cases h
theorem E5 {N:List Str} {e:Ex} {a:Expr} (h:(!isTup e)=true):yF (bE N e a)=true:=by
 cases e<;>first | rfl | cases h
section
variable {X:Cx} {Γ:bZ} {sc:Scope} {k:Nat} {Ξ:XS}
theorem A4 {i:Nat} {x:Str} {fv:List (Str × Nat)} {it:Ix} {el:Ex} {ifs:lX} {tp pos:Pos} {a:Expr} (C:jT X Γ sc k) (xo:eF X Ξ) (h1:X.N[i]?=some (nx X.N i)) (h2:jE sc (nx X.N i)=true) (h3:rN sc (bF a) (nx X.N i) tp a.pos=true) (h:oE sc X.N (.comp x fv it el ifs) a=true):
  PS X (.Assign [.Name (nx X.N i) tp] (bE X.N (.comp x fv it el ifs) a) pos) (wS (.asg i (.comp x fv it el ifs)) Γ Ξ):=by
 obtain⟨k1,k0⟩:=a2 h3;obtain⟨k2,k3⟩:=a2 k0;have k1:=Kj k1;have k3:=(Mw _).mp k3;intro pins s σ H D I ⟨hc,q⟩
 refine A0 (te:=fun σ=>wE Γ el fun C d _ H'=>Ξ C d σ H') C.g.mod (C.calm hc) C.toCtx.top xo C.cf (a2 (a2 h).1).1 (sI _ _ it C.toCtx xo (a2 (a2 h).2).1)
   (fun σ X' c xc=>cN (P:=fun N=>PE X' (bE N el _) _) c.N (sE _ _ el (C.toCtx.comp c hc) xc (cN (P:=fun N=>oE _ N el _=true) c.N.symm (a2 (a2 (a2 h).2).2).1)))
   (fun X' c=>cN (P:=fun N=>Af X' (pN N ifs _) _) c.N (Ir _ _ ifs (C.toCtx.comp c hc) eF.no (cN (P:=fun N=>uv _ N ifs _=true) c.N.symm (a2 (a2 (a2 h).2).2).2) (Kj (a2 (a2 h).1).2)))
   (cV (fI it)) C.nd h1 (C.loc _ h2).1 (C.loc _ h2).2 ?_ pins s σ H D I q
 have e1:(X.env.kindOf (nx X.N i) == some .local)=true:=by
  have:=C.Iy _ k1;show(X.env.scope.names.lookup (nx X.N i) == some .local)=true;rw[this];rfl
 have e2:(X.env.blockKind == .function)=true:=by
  unfold Env.blockKind;rw[I.ok.kind];rfl
 show(pure (X.env.blockKind == .function && X.env.kindOf (nx X.N i) == some .local && tp.line == a.pos.line && !((bF a).names.any fun(n,k)=>n == nx X.N i && (k == .local || k == .cell))):Sem Bool)=_;rw[e1,e2,k2,k3];rfl
theorem A3 {i:Nat} {e:Ex} {tp pos:Pos} {a:Expr} (C:jT X Γ sc k) (xo:eF X Ξ) (hi:decide (i < X.N.length)=true) (hl:jE sc (nx X.N i)=true) (hu:(!gR e || (!uH e && rN sc (bF a) (nx X.N i) tp a.pos))=true) (he:oE sc X.N e a=true):
  PS X (.Assign [.Name (nx X.N i) tp] (bE X.N e a) pos) (wS (.asg i e) Γ Ξ):=by
 rcases Bool.or_eq_true_iff.mp hu with hu | hu
 ·exact x_ C.nd (fj hi) (C.loc _ hl).1 (sE _ _ e C.toCtx xo he) (iC (lI hu)) (C.loc _ hl).2
 ·obtain⟨hx,hu⟩:=a2 hu;cases hq:gR e with
  | false=>exact x_ C.nd (fj hi) (C.loc _ hl).1 (sE _ _ e C.toCtx xo he) (iC (lI (by rw[hq];rfl))) (C.loc _ hl).2
  | true=>cases e<;>first | exact A4 C xo (fj hi) hl (by assumption) he | (cases hx;done) | (cases hq;done)
theorem qY {M:Mo} {H H1 H2:Hp} {ys zs:List (Addr × Str)} {l:Addr} (x:ff M H H1) (o:wU M H1 ys H2 l zs):ff M H H2:=
 ⟨fun a u e n=>o.old a u (x.same a u e n),fun a m e=>o.off a m (x.off a m e),fun a h z=>by
  cases q:H1 a with
  | none=>exact x.GP a h q
  | some u=>rw[o.old a u q]at z;cases z⟩
theorem vn {H H':Hp} {t:Tb} (h:TabAt H t) (k:∀b o,H b=some o->H' b=some o):TabAt H' t:=by
 rcases h with q | ⟨c,q,q2⟩
 ·exact .inl (k _ _ q)
 ·exact .inr ⟨c,k _ _ q,k _ _ q2⟩
theorem wg {M:Mo} {H H':Hp} {y:Addr × Str} (h:jL H y) (x:ff M H H'):jL H' y:=by
 obtain⟨w,q,xs,h1,h2⟩:=h;exact⟨w,q,xs,x.same _ _ h1 (fun _ z=>nomatch z),x.same _ _ h2 (fun _ z=>nomatch z)⟩
theorem wc {H H':Hp} {y:Addr × Str} (h:jL H y) (k:∀b o,H b=some o->H' b=some o):jL H' y:=by
 obtain⟨w,q,xs,h1,h2⟩:=h;exact⟨w,q,xs,k _ _ h1,k _ _ h2⟩
theorem kr:∀ {ys:List (Addr × Str)} {au:List Value},Vals (ys.map fun y=>.ref y.1) au->au=aA ys
 | [],_,.nil=>rfl
 | _::_,_,.cons h t=>by cases h;rw[kr t];rfl
noncomputable def HL (Γ:bZ):bZ:={con:=fun _=>none,mod:=Γ.mod,has:=fun _=>false,fn:=fun _ _ _ _ _=>False}
theorem yc {e:Ex} {le ast:Expr} {p kp p2 pos:Pos} (C:jT X Γ sc k) (xo:eF X Ξ) (hg:cM sc "sorted" =true) (he:oE sc X.N e ast=true):
  PS X (.Return (some (.Call (.Name "sorted" p) [bE X.N e ast] [⟨some "key",le,kp⟩] p2)) pos) (wS (.retK e kp le) Γ Ξ):=by
 intro pins s σ H D I hw
 have hw:(match Γ.lm with
  | some (L,Ts)=>le=L.le/\Γ.cm=true/\wE Γ e Ξ σ H fun x H1=>(∀ t ∈ Ts,TabAt H1 t)/\∃ (p:Addr) (ys:List (Addr × Str)),x=.ref p/\H1 p=some (.lst (ys.map fun y=>.ref y.1))/\ys.length < 64/\(∀ y ∈ ys,jL H1 y)/\
   ∀ (H2:Hp) (l:Addr) (zs:List (Addr × Str)),ff Γ.mod H1 H2->(∀ t ∈ Ts,TabAt H2 t)->H1 l=none->Γ.mod l=none->H2 l=some (.lst (zs.map fun z=>.ref z.1))->zs.Perm ys->zs.Pairwise ER->D.rt (.ref l) H2
  | none=>False):=hw
 cases hl:Γ.lm with
 | none=>rw[hl]at hw;exact hw.elim
 | some z=>
  obtain⟨L,Ts⟩:=z;rw[hl]at hw;obtain⟨rfl,hcm,hw⟩:=hw;have lx:=C.lam L Ts hl;have hs:=aU (env:=X.env) (es:=[]) (show ba (bE X.N e ast)=true from aK e);refine wpAny_Return_some (J4 (cj I (C.gl _ hg) (C.g.no "sorted" (by decide +kernel)) boot_sorted ?_));have hs2:backTo p2 (starEach [bE X.N e ast] X.env)=(false,eval (bE X.N e ast) X.env)::backTo p2 (starEach [] X.env):=by rw[hs];rfl
  refine callWith_kw ?_ hs2 (by rw[hs2];rfl) rfl rfl;rw[hs2];refine JS (bW (sE Γ k e C.toCtx xo he pins s σ H _ I hw) fun v s1 ⟨x,H1,I1,r1,q1⟩=>Ka ?_);obtain⟨hT,q,ys,rfl,hq,h64,hk,q1⟩:=q1;cases r1
  refine kws_cons (ze lx C.g.mod I1 hT lx.cl fun g c' pm ctv H2 s2 I2 g1 g2 t2 x2 gn=>kws_nil ?_);have hr:=C.room hcm;have g0:cn X.prog X.w X.K X.mg X.base (HL Γ) 0:=⟨C.g.mod,fun x v h=>(nomatch h),fun f h=>(nomatch h),C.g.no,jS.none,fun x kvs h=>(nomatch h)⟩;have F:=CY (D:=L) g0 lx.S lx.hm lx.hb;have hq2:H2 q=some (.lst (ys.map fun y=>.ref y.1)):=x2.same _ _ hq (fun _ z=>nomatch z);obtain⟨_,au,n,rv,eo⟩:=I2.aZ _ _ hq2;have ei:au=aA ys:=kr rv;subst ei
  refine bW (sR F C.g.mod (hr.mono (JB (by decide) (Nn lx.k4))) I2 ⟨_,eo,rfl,_,rfl⟩ h64 (fun y hy H3 k3 Q hQ=>⟨y.1,y.2,rfl,wc (wg (hk y hy) x2) k3,⟨c',pm,ctv,k3 _ _ g1,k3 _ _ g2⟩,hQ⟩)
   fun H3 d zs o=>(show D.rt (.ref d) H3 from q1 H3 d zs (qY x2 o) (fun t ht=>vn (t2 t ht) o.old) ?_ o.mod o.at_ o.perm o.up)) fun v s3 ⟨x,H3,I3,r3,q3⟩=>⟨x,σ,H3,I3,r3,q3⟩
  cases z:H1 d with
  | none=>rfl
  | some u=>exact absurd o.new (x2.GP d (by rw[z];exact fun z=>nomatch z))
end
mutual
theorem sS:(st:Sx)->∀ {X:Cx} {Γ:bZ} {sc:Scope} {k:Nat} {Ξ:XS} {ast:Stmt},jT X Γ sc k->eF X Ξ->oS sc X.N st ast=true->PS X (bS X.N st ast) (wS st Γ Ξ)
 | .asg i e=>fun C xo h=>A3 C xo (a2 (a2 h).1).1 (a2 (a2 h).1).2 (a2 (a2 h).2).1 (a2 (a2 h).2).2
 | .exp e=>fun C xo h=>A1 (sE _ _ e C.toCtx xo (a2 h).2) (iC (lI (a2 h).1))
 | .ret e=>fun C xo h=>Dp (sE _ _ e C.toCtx xo h)
 | .retK e kp le=>fun C xo h=>yc C xo (a2 h).1 (a2 h).2
 | .iff c a b=>fun C xo h=>Fs (sT _ _ c C.toCtx xo (a2 h).1) (De a C xo (a2 (a2 h).2).1) (De b C xo (a2 (a2 h).2).2)
 | .whl c b=>fun C xo h=>PS.sF (x9 PassesOwn.never (sT _ _ c C.sF.toCtx eF.no (a2 h).1) (De b C.sF eF.no (a2 h).2))
 | .fr i it b=>fun C xo h pins s σ H D I q=>
  PS.sF (yd PassesOwn.never (C.calm q.1) (sI _ _ it C.sF.toCtx eF.no (a2 (a2 h).2).1) (iw C.nd (fj (a2 (a2 h).1).1) (C.loc _ (a2 (a2 h).1).2).1 (C.loc _ (a2 (a2 h).1).2).2) (De b C.sF eF.no (a2 (a2 h).2).2) (cV (fI it))) pins s σ H D I
   ⟨_,q.2,fun J xs aq H1 sq z=>B0 sq z⟩
 | .sto o i e=>fun C xo h=>Dm C.un (sE _ _ o C.toCtx xo (a2 (a2 h).1).2) (sE _ _ i C.toCtx xo (a2 (a2 h).2).1) (sE _ _ e C.toCtx xo (a2 (a2 h).2).2) (iC (lI (a2 (a2 h).1).1))
 | .asgT is e=>fun C xo h pins s σ H D I q=>A2 C.g.mod (C.calm q.1) (jh C (a2 (a2 h).1).2) tD pq (sE _ _ e C.toCtx xo (a2 h).2) (lI (a2 (a2 (a2 h).1).1).1) (E5 (a2 (a2 (a2 h).1).1).2) pins s σ H D I q.2
 | .frT is it b=>fun C xo h pins s σ H D I q=>
  PS.sF (yd PassesOwn.never (C.calm q.1) (sI _ _ it C.sF.toCtx eF.no (a2 (a2 h).2).1) (sA (X:=Cx.sF _) (C.calm q.1) (jh C.sF (a2 h).1) tD pq) (De b C.sF eF.no (a2 (a2 h).2).2) (cV (fI it))) pins s σ H D I
   ⟨_,q.2,fun J xs aq H1 sq z=>zC C.g.mod sq z⟩
theorem De:(ss:dm)->∀ {X:Cx} {Γ:bZ} {sc:Scope} {k:Nat} {Ξ:XS} {asts:List Stmt},jT X Γ sc k->eF X Ξ->CC sc X.N ss asts=true->An X (CP X.N ss asts) (wSs ss Γ Ξ)
 | .nil=>fun C xo h=>AZ
 | .cons s r=>fun C xo h=>xZ (sS s C xo (a2 h).1) (De r C xo (a2 h).2)
end
theorem sB {X:Cx} {Γ:bZ} {sc:Scope} {k:Nat} {Ξ:XS} {ss:dm} {asts:List Stmt} (C:jT X Γ sc k) (xo:eF X Ξ) (h:nF sc X.N ss asts):An X asts (wSs ss Γ Ξ):=h.1 ▸ De ss C xo h.2
noncomputable def eM (Γ:bZ) (N:List Str) (n:Nat) (body:dm):Sp:=fun vs H Q E=>vs.length=n/\wSs body Γ (fun C d _ H'=>E C d H') {nx:=fun _ H'=>Q .aD H',rt:=Q} (start N vs) H
section
variable {P:Program} {w:World} {K:Frag} {mg:Str->Option Value} {base:Heap} {Γ:bZ} {k:Nat}
theorem B1 {x qual:Str} {st:Stmt} {f:Addr} {fd:FuncData} {N ps:List Str} {body:dm} (F:ve K x qual st f fd) (S:aT N ps (aj st)) (g:cn P w K mg base Γ k) (hm:nF (aj st) N body (az st)) (hlm:Γ.lm=none:=by rfl):
  di P w K mg base (pK P w) (k + 2) f fd ps (eM Γ N ps.length body):=by
 obtain⟨oc,od,kV,doc,pm,an,cdv,ct,osl,rfl,lk,hcd⟩:=F.ex;refine CK lk hcd S (fun vs H Q E h=>h.1) fun A outer s H vs Q E hr hsp=>?_
 have C:jT (jR (pK P w) P w K mg base N qual (aj st) f cdv A outer s H E) Γ (aj st) k:=by
  refine⟨⟨g,fun _=>hr,fun _=>rfl,hr.units,fun x h=>?_,fun x h=>?_,fun y h=>h,⟨_,_,_,rfl,rfl,rfl⟩⟩,S.nd,fun x h=>⟨?_,.inl rfl⟩,fun x h=>h,⟨rfl,rfl⟩,fun D Ts e=>by rw[hlm]at e;cases e⟩
  ·unfold fq at h;unfold Cf;split at h<;>first | (rename_i e;first | exact .inl e | exact .inr (.inl e) | exact .inr (.inr e)) | cases h
  ·unfold cM at h;split at h<;>first | (rename_i e;exact e) | cases h
  ·unfold jE at h;unfold L2.Loc;split at h<;>first | (rename_i e;first | exact .inl e | exact .inr e) | cases h
 exact⟨_,sB C tN hm,hsp.2⟩
theorem zD {x qual:Str} {st:Stmt} {f:Addr} {fd:FuncData} {N ps:List Str} {body:dm} {D:i4} {Ts:List Tb} (F:ve K x qual st f fd) (S:aT N ps (aj st)) (g:cn P w K mg base Γ k) (hm:nF (aj st) N body (az st)) (hlm:Γ.lm=some (D,Ts))
  (hL:∀ (A:Around) (outer:List Env) (s:Shared) (H:Hp) (E:XK),Cj (jR (pK P w) P w K mg base N qual (aj st) f fd.code A outer s H E) D Ts k):
  di P w K mg base (pK P w) (k + 2) f fd ps (eM Γ N ps.length body):=by
 obtain⟨oc,od,kV,doc,pm,an,cdv,ct,osl,rfl,lk,hcd⟩:=F.ex;refine CK lk hcd S (fun vs H Q E h=>h.1) fun A outer s H vs Q E hr hsp=>?_
 have C:jT (jR (pK P w) P w K mg base N qual (aj st) f cdv A outer s H E) Γ (aj st) k:=by
  refine⟨⟨g,fun _=>hr,fun _=>rfl,hr.units,fun x h=>?_,fun x h=>?_,fun y h=>h,⟨_,_,_,rfl,rfl,rfl⟩⟩,S.nd,fun x h=>⟨?_,.inl rfl⟩,fun x h=>h,⟨rfl,rfl⟩,fun D' Ts' e=>by rw[hlm]at e;cases e;exact hL A outer s H E⟩
  ·unfold fq at h;unfold Cf;split at h<;>first | (rename_i e;first | exact .inl e | exact .inr (.inl e) | exact .inr (.inr e)) | cases h
  ·unfold cM at h;split at h<;>first | (rename_i e;exact e) | cases h
  ·unfold jE at h;unfold L2.Loc;split at h<;>first | (rename_i e;first | exact .inl e | exact .inr e) | cases h
 exact⟨_,sB C tN hm,hsp.2⟩
theorem cn.mono {j:Nat} (g:cn P w K mg base Γ j) (h:j<=k):cn P w K mg base Γ k:=
 ⟨g.mod,g.con,fun f hf=>let ⟨fa,fd,ps,h1,h2,h3,h4⟩:=g.fn f hf;⟨fa,fd,ps,h1,h2,h3.mono h,h4⟩,
  g.no,g.vc.mono h,g.gd⟩
noncomputable def Off (K:Frag) (H:Hp):Prop:=∀b o,K.lookup b=some o->H b=none
theorem di.off {CX:wW} {f:Addr} {fd:FuncData} {ps:List Str} {sp sp':Sp} (F:di P w K mg base CX k f fd ps sp) (len:∀vs H Q E,sp' vs H Q E->vs.length=ps.length) (h:∀vs H Q E,Off K H->sp' vs H Q E->sp vs H Q E):
  di P w K mg base CX k f fd ps sp':=
 ⟨len,fun A outer s H args us vs Q E hr he hb hv hs=>F.run A outer s H args us vs Q E hr he hb hv (h _ _ _ _ (fun b o e=>(he.bs b o (he.mod.FL b o e)).2) hs)⟩
end
noncomputable def Ci (K:Frag) (a:Addr) (xs:List V):Prop:=∃ (o:Obj) (au:NW) (n:Nat),K.lookup a=some o/\o.cls=.type "list" /\o.dict=none/\o.data=.seq au n/\au.size<=sizeLine/\Vals xs au.toList
noncomputable def HV (K:Frag) (a:Addr) (xs:List V):Prop:=∃ (o:Obj) (au:NW) (n:Nat),K.lookup a=some o/\o.cls=.type "tuple" /\o.data=.seq au n/\au.size<=sizeLine/\Vals xs au.toList
open Classical in
noncomputable def cg (K:Frag):Mo:=fun a=>if h:∃xs,Ci K a xs then some (.lst h.choose)else if h:∃xs,HV K a xs then some (.tup h.choose)else none
theorem ux (K:Frag):ax K (cg K):=by
 intro a o h;unfold cg at h;split at h
 ·rename_i z;cases h;exact z.choose_spec
 ·split at h
  ·rename_i z;cases h;exact z.choose_spec
  ·cases h
theorem yP {K:Frag} {a:Addr} {xs:List V} (h:Ci K a xs):cg K a=some (.lst xs):=by
 have z:∃xs,Ci K a xs:=⟨xs,h⟩;unfold cg;rw[dif_pos z];obtain⟨o,au,n,h1,h2,h3,h4,h5,h6⟩:=h;obtain⟨o',its',n',k1,k2,k3,k4,k5,k6⟩:=z.choose_spec;rw[h1]at k1;cases k1;rw[h4]at k4;cases k4;rw[Vals.inj k6 h6]
theorem vv {K:Frag} {H:Hp} {a:Addr} {xs:List V} (off:Off K H) (h:jv K H a xs):rd (cg K) H a=some (.lst xs):=by
 unfold rd;rcases h with (h | ⟨o,h⟩) | h
 ·rw[h]
 ·rw[h]
 ·have z:Ci K a xs:=h;obtain⟨o,_,_,h1,_⟩:=h;rw[off a o h1];exact yP z
open PySem.W (Frag keepIn)
noncomputable def bZ.wit (Γ:bZ) (l:List (Str × Sp)):bZ:={Γ with has:=fun x=>(l.lookup x).isSome || Γ.has x,fn:=fun x=>(l.lookup x).getD (Γ.fn x)}
section
variable {P:Program} {w:World} {K:Frag} {mg:Str->Option Value} {base:Heap} {Γ:bZ} {k:Nat}
theorem cn.GX (g:cn P w K mg base Γ k):cn P w K mg base (Γ.wit []) k:=⟨g.mod,g.con,g.fn,g.no,g.vc,g.gd⟩
theorem cn.gB {l:List (Str × Sp)} {f:Str} {fa:Addr} {fd:FuncData} {ps:List Str} {sp:Sp} {j:Nat} (g:cn P w K mg base (Γ.wit l) k) (hm:mg f=some (.ref fa)) (hk:keepIn K (.ref fa)=true) (F:di P w K mg base (pK P w) j fa fd ps sp) (hb:Binds K fd ps []) (h1:j<=k):
  cn P w K mg base (Γ.wit ((f,sp)::l)) k:=by
 refine⟨g.mod,g.con,fun x hx=>?_,g.no,g.vc,g.gd⟩
 have e:∀x,((f,sp)::l).lookup x=if x == f then some sp else l.lookup x:=fun x=>by
  rw[JJ];cases x == f<;>rfl
 have hx:((((f,sp)::l).lookup x).isSome || Γ.has x)=true:=hx;show ∃fa fd ps,_/\_/\di P w K mg base (pK P w) k fa fd ps ((((f,sp)::l).lookup x).getD (Γ.fn x))/\_;rw[e]at hx ⊢
 by_cases q:x=f
 ·subst q;rw[beq_self_eq_true,Jc rfl];exact⟨fa,fd,ps,hm,hk,F.mono h1,hb⟩
 ·have q':(x == f)=false:=by simpa using q
  rw[q']at hx ⊢;rw[I_ JC]at hx ⊢;exact g.fn x hx
end
section
variable {K:Frag} {x qual:Str} {st:Stmt} {f:Addr} {fd:FuncData}
noncomputable abbrev ki (x qual:Str) (st:Stmt) (ps:List Str) (us:List Value):Prop:=∀ (kV doc pm:Value) (an:Option Addr) (cdv ct:Value),bindArgs (PySem.W.fnOf x qual (aS st) (az st) (aj st) .none kV doc pm an cdv ct) ⟨us,[]⟩=pure (ps.zip us)
theorem len_one {α:Type}:∀ {us:List α},us.length=1->∃a,us=[a]
 | [a],_=>⟨a,rfl⟩
theorem BK {α:Type}:∀ {us:List α},us.length=2->∃a b,us=[a,b]
 | [a,b],_=>⟨a,b,rfl⟩
theorem vV {α:Type}:∀ {us:List α},us.length=3->∃a b c,us=[a,b,c]
 | [a,b,c],_=>⟨a,b,c,rfl⟩
theorem zd {α:Type}:∀ {us:List α},us.length=4->∃a b c d,us=[a,b,c,d]
 | [a,b,c,d],_=>⟨a,b,c,d,rfl⟩
theorem u7 {p:Str} (F:ve K x qual st f fd) (h:∀a,ki x qual st [p] [a]):Binds K fd [p] []:=F.binds fun kV doc pm an cdv ct us hl=>by
 obtain⟨a,rfl⟩:=len_one hl;exact h a kV doc pm an cdv ct
theorem eW {p q:Str} (F:ve K x qual st f fd) (h:∀a b,ki x qual st [p,q] [a,b]):Binds K fd [p,q] []:=F.binds fun kV doc pm an cdv ct us hl=>by
 obtain⟨a,b,rfl⟩:=BK hl;exact h a b kV doc pm an cdv ct
theorem kh {p q r:Str} (F:ve K x qual st f fd) (h:∀a b c,ki x qual st [p,q,r] [a,b,c]):Binds K fd [p,q,r] []:=F.binds fun kV doc pm an cdv ct us hl=>by
 obtain⟨a,b,c,rfl⟩:=vV hl;exact h a b c kV doc pm an cdv ct
theorem u6 {p q r t:Str} (F:ve K x qual st f fd) (h:∀a b c d,ki x qual st [p,q,r,t] [a,b,c,d]):Binds K fd [p,q,r,t] []:=F.binds fun kV doc pm an cdv ct us hl=>by
 obtain⟨a,b,c,d,rfl⟩:=zd hl;exact h a b c d kV doc pm an cdv ct
end
theorem b_ {i:Nat} {tb:TS} {aq:Hp->Prop} {D:Ends} {xs:List V} (Pv:Nat->L2.St->Hp->Prop) (st:∀n σ H,Pv n σ H->aq H)
  (step:∀n v σ H (D':Ends),xs[n]?=some v->Pv n σ H->(∀ σ' H',Pv (n + 1) σ' H'->D'.nx σ' H')->(∀ σ' H',Pv (n + 1) σ' H'->D'.ct σ' H')->D'.rt=D.rt->D'.bk=D.nx->tb D' (σ.set i (some v)) H)
  (fin:∀σ H,Pv xs.length σ H->D.nx σ H) {σ:L2.St} {H:Hp} (h0:Pv 0 σ H):o4 i tb aq xs D σ H:=by
 have go:∀ (r:List V) (n:Nat),xs.drop n=r->n<=xs.length->∀σ H,Pv n σ H->o4 i tb aq r D σ H:=by
  intro r
  induction r with
  | nil=>
   intro n e hn σ H p;have:xs.length<=n:=by simpa using e
   have hn':n=xs.length:=by omega
   subst hn';exact⟨st _ σ H p,fin σ H p⟩
  | cons v r ih=>
   intro n e hn σ H p
   have hlt:n < xs.length:=by
    have:=congrArg List.length e;simp at this;omega
   have hv:xs[n]?=some v:=by
    have:=congrArg (fun l=>l[0]?) e;simpa using this
   have hr:xs.drop (n + 1)=r:=by
    have:=congrArg List.tail e;simpa[LJ]using this
   exact⟨st _ σ H p,step n v σ H _ hv p (fun σ' H' q=>ih (n + 1) hr hlt σ' H' q) (fun σ' H' q=>ih (n + 1) hr hlt σ' H' q) rfl rfl⟩
 exact go xs 0 (by simp) (JZ _) σ H h0
structure Ext (M:Mo) (H H':Hp):Prop where
 same:∀a o,H a=some o->H' a=some o
 off:∀a,M a ≠ none->H a=none->H' a=none
theorem Ext.trans {M:Mo} {H H1 H2:Hp} (a:Ext M H H1) (b:Ext M H1 H2):Ext M H H2:=⟨fun c o h=>b.same c o (a.same c o h),fun c m h=>b.off c m (a.off c m h)⟩
theorem Ext.upd {M:Mo} {H:Hp} {p:Addr} {o:HO} (h:H p=none) (m:M p=none):Ext M H (upd H p o):=
 ⟨fun b u e=>by rw[af (ag e h)];exact e,fun b mb e=>by rw[af (fun z=>mb (by rw[z];exact m))];exact e⟩
theorem Ext.rd {M:Mo} {H H':Hp} {a:Addr} {u:HO} (s:Ext M H H') (e:rd M H a=some u):rd M H' a=some u:=by
 unfold Sw.rd at e ⊢;cases q:H a with
 | none=>
  rw[q]at e;rw[s.off a (by intro z;rw[z]at e;cases e) q];exact e
 | some o=>rw[s.same a o q];rw[q]at e;exact e
section
variable {M:Mo} {H:Hp} {Q:VK}
theorem v_add (i j:Int):jr M .Add (.int i) (.int j) H Q=Q (.int (i + j)) H:=rfl
theorem CZ (x y:Str):jr M .Add (.str x) (.str y) H Q=(x.length + y.length<=sizeLine/\Q (.str (x++y)) H):=rfl
theorem v_sub (i j:Int):jr M .Sub (.int i) (.int j) H Q=Q (.int (i - j)) H:=rfl
theorem v_mul (i j:Int):jr M .Mult (.int i) (.int j) H Q=((rL i || rL j)=true/\Q (.int (i * j)) H):=rfl
theorem v_div (i j:Int):jr M .FloorDiv (.int i) (.int j) H Q=(0 < j/\j < 1073741824/\Q (.int (i / j)) H):=rfl
theorem v_mod (i j:Int):jr M .Mod (.int i) (.int j) H Q=(0 < j/\Q (.int (i % j)) H):=rfl
theorem v_pow (i j:Int):jr M .Pow (.int i) (.int j) H Q=(EL i j/\Q (.int (i ^ j.toNat)) H):=rfl
theorem v_lt (i j:Int):cC M .Lt (.int i) (.int j) H Q=Q (.bl (decide (i < j))) H:=rfl
theorem Ay (i j:Int):cC M .Gt (.int i) (.int j) H Q=Q (.bl (decide (j < i))) H:=rfl
theorem E4 (x y:Str):cC M .In (.str x) (.str y) H Q=Q (.bl (!(Builtin.Str.occurrences y x 0 y.length 1).isEmpty)) H:=rfl
theorem jy (i j:Int):cC M .Eq (.int i) (.int j) H Q=Q (.bl (decide (i=j))) H:=by
 show Q (.bl (decide (V.int i=V.int j))) H=_;simp only[V.int.injEq]
theorem xj (i j:Int):cC M .NotEq (.int i) (.int j) H Q=Q (.bl (!decide (i=j))) H:=by
 show Q (.bl (!decide (V.int i=V.int j))) H=_;simp only[V.int.injEq]
theorem pW (x y:Str):cC M .Eq (.str x) (.str y) H Q=Q (.bl (decide (x=y))) H:=by
 show Q (.bl (decide (V.str x=V.str y))) H=_;simp only[V.str.injEq]
theorem tT (x y:Str):cC M .NotEq (.str x) (.str y) H Q=Q (.bl (!decide (x=y))) H:=by
 show Q (.bl (!decide (V.str x=V.str y))) H=_;simp only[V.str.injEq]
theorem Cp (x y:Bool):cC M .NotEq (.bl x) (.bl y) H Q=Q (.bl (!decide (x=y))) H:=by
 show Q (.bl (!decide (V.bl x=V.bl y))) H=_;simp only[V.bl.injEq]
theorem xl (x y:Bool):cC M .Eq (.bl x) (.bl y) H Q=Q (.bl (decide (x=y))) H:=by
 show Q (.bl (decide (V.bl x=V.bl y))) H=_;simp only[V.bl.injEq]
theorem AS (a b:Addr):gE (.ref a) (.ref b)=false:=rfl
theorem og (x:V):cC M .IsNot x .aD H Q=Q (.bl (!decide (x=.aD))) H:=by cases x<;>rfl
theorem Cq (a b:Addr):jr M .Add (.ref a) (.ref b) H Q=(match rd M H a,rd M H b with
  | some (.lst xs),some (.lst ys)=>xs.length + ys.length<=sizeLine/\∀p,H p=none->M p=none->Q (.ref p) (upd H p (.lst (xs++ys)))
  | some (.tup xs),some (.tup ys)=>xs ≠ []/\ys ≠ []/\xs.length + ys.length<=sizeLine/\∀p,H p=none->M p=none->Q (.ref p) (upd H p (.tup (xs++ys)))
  | _,_=>False):=rfl
theorem DU (x:Str) (p:Addr):dj M .join (.str x) [.ref p] H Q=(match rd M H p with | some (.lst xs)=>(match allM iW xs with | some ts=>JoinOk x ts=true/\Q (.str (Txt.join x ts)) H | none=>False) | _=>False):=rfl
theorem qD (p:Addr) (v:V):dj M .append (.ref p) [v] H Q=(match H p with | some (.lst xs)=>xs.length < sizeLine/\Q .aD (upd H p (.lst (xs++[v]))) | _=>False):=rfl
theorem pZ (b:Bool) {R:Bool->Prop}:cS M (.bl b) H R=R b:=rfl
theorem E9 {R:Bool->Prop}:cS M .aD H R=R false:=rfl
theorem E_ (i:Int) {R:Bool->Prop}:cS M (.int i) H R=R (i != 0):=rfl
theorem Ez (x:Str):eV M .len [.str x] H Q=(x.length<=sizeLine/\Q (.int x.length) H):=rfl
theorem pj (p:Addr):eV M .len [.ref p] H Q=(match rd M H p with | some (.lst xs)=>Q (.int xs.length) H | some (.tup xs)=>Q (.int xs.length) H | _=>False):=rfl
theorem CI (z:Str) (i:Int):cJ M (.str z) (.int i) H Q=(z.length<=sizeLine/\match lL z.cps.toList i with | some c=>Q (.str ⟨#[c]⟩) H | none=>False):=rfl
theorem jF (p:Addr) (i:Int):cJ M (.ref p) (.int i) H Q=(match rd M H p with | some (.lst xs)=>(match lL xs i with | some v=>Q v H | none=>False) | some (.tup xs)=>(match lL xs i with | some v=>Q v H | none=>False) | _=>False):=rfl
theorem Fi (z:Str) (lo hi:Option Int):xM M (.str z) lo hi H Q=(z.length<=sizeLine/\Q (.str (Txt.slice z lo hi)) H):=rfl
theorem t7 (p:Addr) (lo hi:Option Int):xM M (.ref p) lo hi H Q=(match rd M H p with
  | some (.lst xs)=>∀l,H l=none->M l=none->Q (.ref l) (upd H l (.lst (eB xs lo hi)))
  | some (.tup xs)=>¬ (HT.cz xs.length 0 lo=0/\HT.cz xs.length xs.length hi=xs.length)/\∀l,H l=none->M l=none->Q (.ref l) (upd H l (.tup (eB xs lo hi)))
  | _=>False):=rfl
end
noncomputable abbrev cps (x:Str):List Nat:=x.cps.toList
theorem seq {s:Sx} {r:dm} {Γ:bZ} {Ξ:XS} {D:Ends} {σ:L2.St} {H:Hp} (h:wS s Γ Ξ {D with nx:=wSs r Γ Ξ D} σ H):wSs (.cons s r) Γ Ξ D σ H:=by
 rw[wSs];exact h
theorem bD {Γ:bZ} {Ξ:XS} {D:Ends} {σ:L2.St} {H:Hp} (h:D.nx σ H):wSs .nil Γ Ξ D σ H:=by
 rw[wSs];exact h
theorem gM {α:Type} (a:α) (l:List α):(a::l)[0]?=some a:=rfl
theorem gL {α:Type} (a:α) (l:List α) (n:Nat):(a::l)[n + 1]?=l[n]?:=rfl
theorem gH {α:Type} (a b:α) (l:List α):(a::l).set 0 b=b::l:=rfl
theorem gG {α:Type} (a b:α) (l:List α) (n:Nat):(a::l).set (n + 1) b=a::l.set n b:=rfl
theorem gJ {α β:Type} (f:α->β):List.map f []=[]:=rfl
theorem gI {α β:Type} (f:α->β) (a:α) (l:List α):List.map f (a::l)=f a::List.map f l:=rfl
theorem gO {α:Type} (l:List α):[]++l=l:=rfl
theorem gN {α:Type} (a:α) (l m:List α):(a::l)++m=a::(l++m):=rfl
theorem jg {α:Type}:([]:List α).length=0:=rfl
theorem jf {α:Type} (a:α) (l:List α):(a::l).length=l.length + 1:=rfl
theorem je {α:Type} (a:α):List.replicate 0 a=[]:=rfl
theorem jd {α:Type} (a:α) (n:Nat):List.replicate (n + 1) a=a::List.replicate n a:=rfl
theorem gK {α:Type} (a:Option α):(some a).join=a:=rfl
end Sw
local macro_rules | `(tactic| walk_at "sw")=>`(tactic| dsimp only[Sw.wSs,Sw.wS,Sw.wE,Sw.wT,Sw.wEs,Sw.wTs,Sw.wI,Sw.wP,Sw.keyOf,Sw.vars,L2.start,Sw.gM,Sw.gL,Sw.gH,Sw.gG,Sw.gJ,Sw.gI,Sw.gO,Sw.gN,Sw.jg,Sw.jf,Sw.je,Sw.jd,Sw.gK,Nat.reduceAdd,Nat.reduceSub])
local macro_rules | `(tactic| walk_at "s1")=>`(tactic| dsimp only[Sw.wS,Sw.wE,Sw.wT,Sw.wEs,Sw.wTs,Sw.wI,Sw.wP,Sw.keyOf,Sw.vars,L2.start,Sw.gM,Sw.gL,Sw.gH,Sw.gG,Sw.gJ,Sw.gI,Sw.gO,Sw.gN,Sw.jg,Sw.jf,Sw.je,Sw.jd,Sw.gK,Nat.reduceAdd,Nat.reduceSub])
local macro_rules | `(tactic| walk_at "sv")=>`(tactic| simp (config:={maxSteps:=10000000,failIfUnchanged:=false}) only[Sw.v_add,Sw.CZ,Sw.v_sub,Sw.v_mul,Sw.v_div,Sw.v_mod,Sw.v_pow,Sw.v_lt,Sw.Ay,Sw.E4,Sw.jy,Sw.xj,Sw.pW,Sw.tT,Sw.Cp,Sw.xl,Sw.og,Sw.pZ,Sw.E9,Sw.E_,Sw.Ez,Sw.pj,Sw.CI,Sw.jF,Sw.Fi,Sw.t7])
namespace Gr
variable {α:Type} [DecidableEq α]
section reach
variable (mO:α->List α)
inductive Reach:α->α->Prop where
 | refl (a:α):Reach a a
 | head {a p b:α}:p ∈ mO a->Reach p b->Reach a b
variable {mO}
inductive Path (mO:α->List α):α->List α->α->Prop where
 | nil (a:α):Path mO a [] a
 | cons {a p b:α} {l:List α}:p ∈ mO a->Path mO p l b->Path mO a (p::l) b
end reach
structure EV (r:α->α->Prop):Prop where
 qO:∀a,¬r a a
 tr:∀a b c,r a b->r b c->r a c
 C3:∀a b,a ≠ b->r a b\/r b a
section order
variable {r:α->α->Prop} [DecidableRel r]
noncomputable def mn (r:α->α->Prop) [DecidableRel r] (a b:α):α:=if r b a then b else a
theorem EV.rB (T:EV r) {a b:α} (h:r a b) (k:r b a):False:=T.qO a (T.tr _ _ _ h k)
theorem EV.ext (T:EV r):∀ {l l':List α},l.Pairwise r->l'.Pairwise r->(∀ x,x ∈ l ↔ x ∈ l')->l=l'
 | [],[],_,_,_=>rfl
 | [],y::m,_,_,h=>by have:=(h y).mpr Jj;cases this
 | x::l,[],_,_,h=>by have:=(h x).mp Jj;cases this
 | x::l,y::m,p,q,h=>by
  rw[Kk]at p q
  have e:x=y:=by
   have h1:=(h x).mp Jj;have h2:=(h y).mpr Jj;rcases Jq.mp h1 with e | h1
   ·exact e
   ·rcases Jq.mp h2 with e | h2
    ·exact e.symm
    ·exact(T.rB (p.1 y h2) (q.1 x h1)).elim
  subst e;rw[T.ext p.2 q.2 fun z=>?_];constructor
  ·intro hz;rcases Jq.mp ((h z).mp (Ji _ hz))with e | k
   ·subst e;exact(T.qO _ (p.1 _ hz)).elim
   ·exact k
  ·intro hz;rcases Jq.mp ((h z).mpr (Ji _ hz))with e | k
   ·subst e;exact(T.qO _ (q.1 _ hz)).elim
   ·exact k
end order
section marks
variable (mO:α->List α) (r:α->α->Prop) [DecidableRel r]
variable {mO r}
end marks
section groups
variable {mO:α->List α} {r:α->α->Prop} [DecidableRel r]
end groups
section walk
variable {mO:α->List α}
end walk
section all
variable {mO:α->List α} {r:α->α->Prop} [DecidableRel r]
end all
end Gr
namespace Sw
open PySem PySem.Spec PyProof.Rows L2
theorem m5 {Γ Γ':bZ} {Ξ Ξ':XS} {D:Ends} {σ:L2.St} {H:Hp} (h:D.nx σ H):wSs .nil Γ Ξ {D with nx:=wSs .nil Γ' Ξ' D} σ H:=bD (bD (Γ:=Γ') (Ξ:=Ξ') h)
section
variable {M:Mo} {H H':Hp} {p l:Addr}
theorem ao {o:HO} (h:H p=some o) (nf:∀b u,o ≠ .frz b u):rd M H p=some o:=by
 unfold rd;rw[h];cases o<;>first | rfl | exact absurd rfl (nf _ _)
theorem ue {a:Addr} (h:H' a=H a):rd M H' a=rd M H a:=by
 unfold rd;rw[h]
theorem DL {a:Addr} {u:HO} (h:rd M H a=some u) (hl:H l=none) (ml:M l=none):a ≠ l:=by
 intro e;subst e;unfold rd at h;rw[hl,ml]at h;cases h
theorem BZ {kvs:List (Key × V)} {x:Str} {v:V} {Q:VK} (h:rd M H p=some (.dK kvs)) (hv:bR kvs (.inr x)=some v) (q:Q v H):qR M (.ref p) (.str x) H Q:=by
 show(match rd M H p with | some (.dK kvs)=>(match keyOf (V.str x)with | some k=>(match bR kvs k with | some v=>Q v H | none=>False) | none=>False) | _=>False);rw[h];show(match bR kvs (.inr x)with | some v=>Q v H | none=>False);rw[hv];exact q
theorem i_ {kvs:List (Key × V)} {x:Str} {v:V} {Q:Hp->Prop} (h:H p=some (.dK kvs)) (hl:kvs.length < sizeLine) (q:Q (upd H p (.dK (putK kvs (.inr x) v)))):vo (.ref p) (.str x) v H Q:=by
 show(match H p with
  | some (.lst xs)=>(match V.str x with | .int j=>(match oX xs.length j with | some n=>Q (upd H p (.lst (xs.set n v))) | none=>False) | _=>False)
  | some (.dK kvs)=>(match keyOf (V.str x)with | some kk=>kvs.length < sizeLine/\Q (upd H p (.dK (putK kvs kk v))) | none=>False)
  | _=>False)
 rw[h];exact⟨hl,q⟩
theorem Ee {kvs:List (Key × V)} {x:Str} {Q:VK} (h:rd M H p=some (.dK kvs)) (q:Q (.bl (!(bR kvs (.inr x)).isSome)) H):rq M .NotIn (.str x) (.ref p) H Q:=by
 show(match Ak M H (.ref p),keyOf (V.str x)with | some kvs,some k=>Q (.bl (!(bR kvs k).isSome)) H | _,_=>False)
 have e:Ak M H (.ref p)=some kvs:=by
  show(match rd M H p with | some (.dK kvs)=>some kvs | _=>none)=some kvs;rw[h]
 rw[e];exact q
theorem uI {kvs:List (Key × V)} {x:Str} {Q:VK} (h:rd M H p=some (.dK kvs)) (q:Q (.bl (bR kvs (.inr x)).isSome) H):rq M .In (.str x) (.ref p) H Q:=by
 show(match Ak M H (.ref p),keyOf (V.str x)with | some kvs,some k=>Q (.bl (bR kvs k).isSome) H | _,_=>False)
 have e:Ak M H (.ref p)=some kvs:=by
  show(match rd M H p with | some (.dK kvs)=>some kvs | _=>none)=some kvs;rw[h]
 rw[e];exact q
theorem qP (x:Str) (ns:List Str):qQ (.str x) (ns.map V.str)=decide (x ∈ ns):=by
 induction ns with
 | nil=>rfl
 | cons y r ih=>
  have e:qQ (.str x) ((y::r).map V.str)=(Aj (.str y) (.str x) || qQ (.str x) (r.map V.str)):=rfl;rw[e,ih]
  have e2:Aj (.str y) (.str x)=decide (y=x):=by
   show(y == x)=decide (y=x)
   by_cases z:y=x
   ·rw[z];simp
   ·simp[z]
  rw[e2]
  by_cases z:y=x
  ·subst z;simp
  ·have z2:x ≠ y:=fun q=>z q.symm;simp[z,z2]
theorem nM (ns:List Str):(ns.map V.str).all bb=true:=by
 rw[Lm];intro v hv;obtain⟨x,_,rfl⟩:=Jf.mp hv;rfl
theorem qr {ns:List Str} {x:Str} {Q:VK} (h:rd M H p=some (.lst (ns.map V.str))) (q:Q (.bl (!decide (x ∈ ns))) H):cC M .NotIn (.str x) (.ref p) H Q:=by
 show(match rd M H p with
  | some (.lst xs)=>bb (V.str x)=true/\xs.all bb=true/\Q (.bl (!qQ (.str x) xs)) H
  | some (.tup xs)=>bb (V.str x)=true/\xs.all bb=true/\Q (.bl (!qQ (.str x) xs)) H
  | _=>False)
 rw[h];exact⟨rfl,nM ns,by rw[qP];exact q⟩
end
end Sw
namespace Gw
open PySem PySem.Spec PyProof.Rows L2 Sw
noncomputable abbrev Row:=List (Str × Int)
noncomputable abbrev Ent:=Str × Addr × Row
noncomputable def dU (r:Row):List (Key × V):=r.map fun y=>(Sum.inr y.1,V.int y.2)
noncomputable def ib (E:List Ent):List (Key × V):=E.map fun e=>(Sum.inr e.1,V.ref e.2.1)
theorem qc (r:Row):(dU r).length=r.length:=Jb _
theorem xt (E:List Ent):(ib E).length=E.length:=Jb _
theorem hZ {β:Type} (f:β->V):∀ (l:List (Str × β)) (x:Str),bR (l.map fun y=>((Sum.inr y.1:Key),f y.2)) (.inr x)=(l.lookup x).map f
 | [],x=>rfl
 | y::r,x=>by
  obtain⟨n,b⟩:=y;rw[JA,JJ]
  by_cases e:n=x
  ·subst e;rw[h_ rfl];simp
  ·have e2:(x == n)=false:=by simp;exact fun z=>e z.symm
   rw[e2];have h:=hZ f r x;show bR (((Sum.inr n:Key),f b)::_) (.inr x)=_;unfold bR at h ⊢;rw[Lv];have e3:decide ((Sum.inr n:Key)=Sum.inr x)=false:=JK fun z=>e (M9 z);rw[e3];exact h
theorem lookup_mem {β:Type}:∀ {l:List (Str × β)} {x:Str} {b:β},(l.map (·.1)).Nodup->(x,b) ∈ l->l.lookup x=some b
 | y::r,x,b,nd,h=>by
  obtain⟨n,c⟩:=y;rw[JJ];rw[JA,JN]at nd;rcases Jq.mp h with e | h'
  ·cases e;simp
  ·have e:(x == n)=false:=by
    simp;intro z;subst z;exact nd.1 (Jf.mpr ⟨_,h',rfl⟩)
   rw[e];exact lookup_mem nd.2 h'
theorem lookup_none {β:Type}:∀ {l:List (Str × β)} {x:Str},x ∉ l.map (·.1)->l.lookup x=none
 | [],_,_=>rfl
 | y::r,x,h=>by
  obtain⟨n,c⟩:=y;rw[JA,Jq,not_or]at h;rw[JJ];have e:(x == n)=false:=by simp;exact h.1
  rw[e];exact lookup_none h.2
theorem lookup_some {β:Type}:∀ {l:List (Str × β)} {x:Str} {b:β},l.lookup x=some b->(x,b) ∈ l
 | y::r,x,b,h=>by
  obtain⟨n,c⟩:=y;rw[JJ]at h;cases e:(x == n)with
  | true=>rw[e]at h;cases h;rw[eq_of_beq e];exact Jj
  | false=>rw[e]at h;exact Ji _ (lookup_some h)
theorem j8 {β:Type} (f:β->V) (l:List (Str × β)) (x:Str) (b:β) (h:x ∉ l.map (·.1)):putK (l.map fun y=>((Sum.inr y.1:Key),f y.2)) (.inr x) (f b)=(l++[(x,b)]).map fun y=>((Sum.inr y.1:Key),f y.2):=by
 unfold putK;rw[I_]
 ·rw[Jt];rfl
 ·intro z;rw[List.any_eq_true]at z;obtain⟨y,hy,e⟩:=z;obtain⟨c,hc,rfl⟩:=Jf.mp hy;have e:=Kj e;have e':c.1=x:=M9 e;exact h (Jf.mpr ⟨c,hc,e'⟩)
theorem uh {β:Type} (f:β->V) (l:List (Str × β)) (x:Str) (b:β) (h:x ∈ l.map (·.1)):putK (l.map fun y=>((Sum.inr y.1:Key),f y.2)) (.inr x) (f b)=(l.map fun y=>if y.1=x then(y.1,b)else y).map fun y=>((Sum.inr y.1:Key),f y.2):=by
 unfold putK;rw[Jc]
 ·rw[JL,JL];refine Kv fun y _=>?_;show(if(Sum.inr y.1:Key)=Sum.inr x then((Sum.inr y.1:Key),f b)else(Sum.inr y.1,f y.2))=_
  by_cases e:y.1=x
  ·rw[Jc (by rw[e])];show _=((Sum.inr (if y.1=x then(y.1,b)else y).1:Key),f (if y.1=x then(y.1,b)else y).2);rw[Jc e]
  ·rw[I_ fun z=>e (M9 z)];show _=((Sum.inr (if y.1=x then(y.1,b)else y).1:Key),f (if y.1=x then(y.1,b)else y).2);rw[I_ e]
 ·rw[List.any_eq_true];obtain⟨c,hc,e⟩:=Jf.mp h;exact⟨_,Jf.mpr ⟨c,hc,rfl⟩,JP (by rw[<-e])⟩
theorem zP {β:Type} (f:β->V) (l:List (Str × β)) (x:Str):gq (l.map fun y=>((Sum.inr y.1:Key),f y.2)) (.inr x)=(l.filter fun y=>decide (y.1 ≠ x)).map fun y=>((Sum.inr y.1:Key),f y.2):=by
 unfold gq;rw[List.filter_map];refine congrArg _ (List.filter_congr fun y _=>?_);show decide ((Sum.inr y.1:Key) ≠ Sum.inr x)=decide (y.1 ≠ x)
 by_cases e:y.1=x
 ·simp[e]
 ·have:(Sum.inr y.1:Key) ≠ Sum.inr x:=fun z=>e (M9 z);simp[e,this]
structure bU (H:Hp) (w:Addr) (E:List Ent):Prop where
 top:H w=some (.dK (ib E))
 row:∀e ∈ E,H e.2.1=some (.dK (dU e.2.2))
 nd:(w::E.map (·.2.1)).Nodup
 keys:(E.map (·.1)).Nodup
 rk:∀e ∈ E,(e.2.2.map (·.1)).Nodup
 b7:E.length<=20
 mC:∀e ∈ E,e.2.2.length<=20
theorem take_snoc {α:Type} {l:List α} {n:Nat} {a:α} (h:l[n]?=some a):l.take (n + 1)=l.take n++[a]:=by
 rw[M5,h];rfl
noncomputable abbrev Gn:=List (Str × Row)
noncomputable def cont (E:List Ent):Gn:=E.map fun e=>(e.1,e.2.2)
theorem bJ (E:List Ent):(cont E).map (·.1)=E.map (·.1):=by
 unfold cont;rw[JL];rfl
noncomputable abbrev slt (a b:Str):Prop:=a.cps.toList < b.cps.toList
theorem b9:Gr.EV slt where
 qO:=fun a=>KS _
 tr:=fun a b c h k=>MC h k
 C3:=fun a b h=>by
  by_cases h1:a.cps.toList < b.cps.toList
  ·exact .inl h1
  ·by_cases h2:b.cps.toList < a.cps.toList
   ·exact .inr h2
   ·exfalso;have e:a.cps.toList=b.cps.toList:=NC (LH.mp h2) (LH.mp h1);apply h;obtain⟨x⟩:=a;obtain⟨y⟩:=b
    congr 1
    exact ND.mp e
theorem Cv:∀ {r:List Str} {p:Str},risingS p r=true->(p::r).Nodup->(p::r).Pairwise slt
 | [],p,_,_=>by simp
 | x::r,p,h,nd=>by
  unfold risingS at h;rw[ltCps_eq]at h;simp only[JU,Mw,LQ]at h;have nd':=JN.mp nd;have ih:=Cv h.2 nd'.2
  have px:slt p x:=by
   rcases b9.C3 p x (fun e=>nd'.1 (by rw[e];exact Jj))with q | q
   ·exact q
   ·exact absurd q h.1
  rw[Kk];refine⟨fun y hy=>?_,ih⟩;rcases Jq.mp hy with rfl | hy
  ·exact px
  ·exact b9.tr _ _ _ px ((Kk.mp ih).1 y hy)
theorem vx {l:List Str} (h:sortedS l=true) (nd:l.Nodup):l.Pairwise slt:=by
 cases l with
 | nil=>simp
 | cons x r=>exact Cv h nd
noncomputable def mO (E:List Ent) (x:Str):List Str:=match E.lookup x with
 | some y=>y.2.map (·.1)
 | none=>[]
theorem Ab {E:List Ent} {x:Str} {y:Addr × Row} (h:E.lookup x=some y):mO E x=y.2.map (·.1):=by
 unfold mO;rw[h]
theorem fW {E:List Ent} {x:Str} (h:x ∈ E.map (·.1)):∃y,E.lookup x=some y/\(x,y) ∈ E:=by
 cases e:E.lookup x with
 | some y=>exact⟨y,rfl,lookup_some e⟩
 | none=>
  exfalso
  induction E with
  | nil=>cases h
  | cons z r ih=>
   obtain⟨n,b⟩:=z;rw[JJ]at e;cases q:(x == n)with
   | true=>rw[q]at e;cases e
   | false=>
    rw[q]at e;rw[JA,Jq]at h;rcases h with h | h
    ·exact absurd h (by simpa using q)
    ·exact ih h e
theorem EB {M:Mo} {H:Hp} {p:Addr} {ws:List Str} {x:Str} {Q:VK} (h:H p=some (.lst (ws.map V.str))) (hl:ws.length < sizeLine) (q:Q .aD (upd H p (.lst ((ws++[x]).map V.str)))):dj M .append (.ref p) [.str x] H Q:=by
 rw[Sw.qD,h];dsimp only;refine⟨by rw[Jb];exact hl,?_⟩;rw[Jt]at q;exact q
theorem dY {M:Mo} {H:Hp} {p:Addr} {xs:List V} (h:H p=some (.lst xs)):(match V.ref p with | .ref p=>(match rd M H p with | some (.lst _)=>true | _=>false) | _=>false)=true:=by
 dsimp only;rw[ao h (by intro _ _ z;cases z)]
theorem zG {E:List Ent} {R:List Str} (nd:R.Nodup) (sub:∀x ∈ R,x ∈ E.map (·.1)):R.length<=E.length:=by
 have:=MU nd sub;rw[Jb]at this;exact this
noncomputable def iY (W:Gn) (x:Str):List Str:=match W.lookup x with
 | some r=>r.map (·.1)
 | none=>[]
theorem jC (x:Str):∀E:List Ent,(cont E).lookup x=(E.lookup x).map (·.2)
 | []=>rfl
 | e::r=>by
  obtain⟨n,a,row⟩:=e;show List.lookup x ((n,row)::cont r)=_;rw[JJ,JJ];cases (x == n)with
  | true=>rfl
  | false=>exact jC x r
theorem eE (E:List Ent):mO E=iY (cont E):=by
 funext x;unfold mO iY;rw[jC];cases E.lookup x<;>rfl
structure rC (W:Gn):Prop where
 keys:(W.map (·.1)).Nodup
 sy:∀a b,b ∈ iY W a->a ∈ iY W b
 cl:∀a b,b ∈ iY W a->b ∈ W.map (·.1)
theorem allM_map {α β:Type} {f:V->Option β} {g:α->V} {k:α->β}:∀ {l:List α},(∀ x ∈ l,f (g x)=some (k x))->allM f (l.map g)=some (l.map k)
 | [],_=>rfl
 | x::r,h=>by
  rw[JA,JA];unfold allM;rw[h x Jj,allM_map fun y hy=>h y (Ji _ hy)]
theorem iR {M:Mo} {H:Hp} (n:Nat) (x:Str):data M H n (.str x)=some (.str x):=by cases n<;>rfl
theorem ai {xs:List V}:∀b u,(HO.lst xs) ≠ .frz b u:=by intro _ _ z;cases z
theorem iB {kvs:List (Key × V)}:∀b u,(HO.dK kvs) ≠ .frz b u:=by intro _ _ z;cases z
end Gw
namespace Sw
open PySem PySem.Spec PyProof.Rows L2 Gw
theorem Ext.n_ {M:Mo} {H H':Hp} {w:Addr} {E:List Ent} (x:Ext M H H') (W:bU H w E):bU H' w E:=
 ⟨x.same _ _ W.top,fun e he=>x.same _ _ (W.row e he),W.nd,W.keys,W.rk,W.b7,W.mC⟩
theorem Ext.aD {M:Mo} {H H':Hp} {a:Addr} (x:Ext M H H') (h:H' a=none):H a=none:=by
 cases e:H a with
 | none=>rfl
 | some u=>rw[x.same a u e]at h;cases h
theorem Ext.b8 {M:Mo} {H H':Hp} {p:Addr} {o:HO} (x:Ext M H H') (h:H p=none) (m:M p=none):Ext M H (L2.upd H' p o):=
 ⟨fun b u e=>by rw[af (ag e h)];exact x.same b u e,fun b mb e=>by rw[af (fun z=>mb (by rw[z];exact m))];exact x.off b mb e⟩
end Sw
namespace Gw
open PySem PySem.Spec PyProof.Rows L2 Sw
theorem pY:∀E:List Ent,allM iW ((ib E).map fun y=>kV y.1)=some (E.map (·.1))
 | []=>rfl
 | e::r=>by
  have ih:=pY r;have q:((ib (e::r)).map fun y=>kV y.1)=V.str e.1::((ib r).map fun y=>kV y.1):=rfl;rw[q];unfold allM;rw[ih];rfl
theorem AH {M:Mo} {H:Hp} {p:Addr} {E:List Ent} {Q:VK} (h:H p=some (.dK (ib E))) (q:bp M (E.map (·.1)) H Q):eV M .dsorted [.ref p] H Q:=by
 show(match H p with | some (.dK kvs)=>(match allM iW (kvs.map fun y=>kV y.1)with | some ts=>bp M ts H Q | none=>False) | _=>False);rw[h];dsimp only;rw[pY];exact q
theorem bQ {M:Mo} {H:Hp} {p:Addr} {xs:List V} {k:List V->(Hp->Prop)->Prop} (h:rd M H p=some (.lst xs)) (q:k xs (fun H'=>rd M H' p=some (.lst xs))):lj M (.ref p) H k:=by
 show(match rd M H p with
  | some (.lst xs)=>k xs (fun H'=>rd M H' p=some (.lst xs))
  | some (.tup xs)=>k xs (fun H'=>rd M H' p=some (.tup xs))
  | _=>False)
 rw[h];exact q
theorem CW {H:Hp} {w:Addr} {E:List Ent} (W:bU H w E) {c:Str} {p:Addr} {row:Row} (hm:(c,p,row) ∈ E):p ≠ w:=by
 intro z;have:=W.nd;rw[JN]at this;exact this.1 (Jf.mpr ⟨_,hm,z⟩)
theorem pC {α:Type} {xs:List α} {i:Int} (h0:0<=i) (h1:i < xs.length):∃x,lL xs i=some x/\x ∈ xs:=by
 have hlt:i.toNat < xs.length:=by omega
 refine⟨xs[i.toNat],?_,K6 hlt⟩;unfold lL oX;rw[Jc h0,Jc h1,MG,Je hlt]
theorem iJ {M:Mo} {H:Hp} {p:Addr} {xs:List V} {i:Int} {v:V} {Q:VK} (h:rd M H p=some (.lst xs)) (e:lL xs i=some v) (q:Q v H):cJ M (.ref p) (.int i) H Q:=by
 rw[jF,h];dsimp only;rw[e];exact q
theorem oW {M:Mo} {H:Hp} {p:Addr} {ns:List Str} {i:Int} {Q:VK} (h:rd M H p=some (.lst (ns.map V.str))) (h0:0<=i) (h1:i < ns.length) (q:∀x ∈ ns,Q (.str x) H):cJ M (.ref p) (.int i) H Q:=by
 obtain⟨v,e,hv⟩:=pC (xs:=ns.map V.str) h0 (by rw[Jb];exact h1);obtain⟨x,hx,rfl⟩:=Jf.mp hv;exact iJ h e (q x hx)
theorem cZ {M:Mo} {H:Hp} {p:Addr} {xs:List V} {Q:VK} (h:rd M H p=some (.lst xs)) (q:Q (.int xs.length) H):eV M .len [.ref p] H Q:=by
 rw[Sw.pj,h];exact q
noncomputable def kD (M:Mo):Sp:=fun vs H Q _=>∃a i,∃ns:List Int,vs=[.ref a,.int i]/\0<=i/\rd M H a=some (.lst (ns.map V.int))/\∀c,Q (.int c) H
theorem lK {i:Int} (h0: -4294967296<=i) (h1:i<=4294967296):rL i=true:=by
 unfold rL;simp only[JU,KL];omega
theorem Ge {i j:Int} (h0: -4294967296<=j) (h1:j<=4294967296):(rL i || rL j)=true:=by rw[lK h0 h1,Bool.or_true]
theorem Gf {i j:Int} (h0: -4294967296<=i) (h1:i<=4294967296):(rL i || rL j)=true:=by rw[lK h0 h1,Bool.true_or]
theorem iK {α β:Type} {f:α->β}:∀ {l:List α},(l.map f).Nodup->∀ {a b:α},a ∈ l->b ∈ l->f a=f b->a=b
 | x::r,nd,a,b,ha,hb,e=>by
  rw[JA,JN]at nd;rcases Jq.mp ha with h1 | h1
  ·rcases Jq.mp hb with h2 | h2
   ·rw[h1,h2]
   ·exact(nd.1 (Jf.mpr ⟨b,h2,by rw[<-e,h1]⟩)).elim
  ·rcases Jq.mp hb with h2 | h2
   ·exact(nd.1 (Jf.mpr ⟨a,h1,by rw[e,h2]⟩)).elim
   ·exact iK nd.2 h1 h2 e
noncomputable def b0 (x:Str) (row':Row) (E:List Ent):List Ent:=E.map fun e=>if e.1=x then(e.1,e.2.1,row')else e
theorem aE (x:Str) (row':Row) (E:List Ent):(b0 x row' E).map (·.1)=E.map (·.1):=by
 unfold b0;rw[JL];refine Kv fun e _=>?_;show(if e.1=x then(e.1,e.2.1,row')else e).1=e.1;split<;>rfl
theorem cE (x:Str) (row':Row) (E:List Ent):(b0 x row' E).map (·.2.1)=E.map (·.2.1):=by
 unfold b0;rw[JL];refine Kv fun e _=>?_;show(if e.1=x then(e.1,e.2.1,row')else e).2.1=e.2.1;split<;>rfl
theorem r9 (x:Str) (row':Row) (E:List Ent):ib (b0 x row' E)=ib E:=by
 unfold ib b0;rw[JL];refine Kv fun e _=>?_;show((Sum.inr (if e.1=x then(e.1,e.2.1,row')else e).1:Key),V.ref (if e.1=x then(e.1,e.2.1,row')else e).2.1)=_;split<;>rfl
theorem gD {x:Str} {row':Row} {E:List Ent} {e:Ent} (h:e ∈ b0 x row' E):(e ∈ E/\e.1 ≠ x)\/(e.1=x/\e.2.2=row'/\∃r,(x,e.2.1,r) ∈ E):=by
 obtain⟨f,hf,q⟩:=Jf.mp h
 by_cases z:f.1=x
 ·rw[Jc z]at q;subst q;exact .inr ⟨z,rfl,f.2.2,by rw[<-z];exact hf⟩
 ·rw[I_ z]at q;subst q;exact .inl ⟨hf,z⟩
theorem ij {x:Str} {row':Row} {E:List Ent} {e:Ent} (h:e ∈ E) (hn:e.1 ≠ x):e ∈ b0 x row' E:=Jf.mpr ⟨_,h,I_ hn⟩
theorem gj (x:Str) (row':Row) (y:Str):∀E:List Ent,(b0 x row' E).lookup y=(E.lookup y).map fun b=>if y=x then(b.1,row')else b
 | []=>rfl
 | e::r=>by
  obtain⟨n,a,row⟩:=e;have ih:=gj x row' y r;have q:b0 x row' ((n,a,row)::r)=(if n=x then(n,a,row')else(n,a,row))::b0 x row' r:=rfl;rw[q]
  by_cases z:n=x
  ·rw[Jc z,JJ,JJ];cases w:(y == n)with
   | true=>
    show some (a,row')=some (if y=x then(a,row')else(a,row));rw[Jc ((eq_of_beq w).trans z)]
   | false=>exact ih
  ·rw[I_ z,JJ,JJ];cases w:(y == n)with
   | true=>
    show some (a,row)=some (if y=x then(a,row')else(a,row));rw[I_ (fun u=>z ((eq_of_beq w).symm.trans u))]
   | false=>exact ih
theorem eN {x:Str} {row':Row} {E:List Ent} (hx:x ∈ E.map (·.1)) (y:Str):iY (cont (b0 x row' E)) y=if y=x then row'.map (·.1)else iY (cont E) y:=by
 rw[<-eE,<-eE];unfold mO;rw[gj]
 by_cases q:y=x
 ·subst q;obtain⟨b,hb,_⟩:=fW hx;rw[hb,Jc rfl,K0,Jc rfl]
 ·rw[I_ q];cases E.lookup y with
  | none=>rfl
  | some b=>rw[K0,I_ q]
theorem bU.set {H:Hp} {w p:Addr} {E:List Ent} {x:Str} {row row':Row} (W:bU H w E) (h:(x,p,row) ∈ E) (rk:(row'.map (·.1)).Nodup) (b7:row'.length<=20):bU (upd H p (.dK (dU row'))) w (b0 x row' E):=by
 have pw:=CW W h
 have one:∀e ∈ E,e.2.1=p->e.1=x:=fun e he z=>by
  have nd:=(JN.mp W.nd).2;exact congrArg Prod.fst (iK nd he h z)
 refine⟨by rw[af pw.symm,r9];exact W.top,fun e he=>?_,by rw[cE];exact W.nd,by rw[aE];exact W.keys,fun e he=>?_,by unfold b0;rw[Jb];exact W.b7,fun e he=>?_⟩
 ·rcases gD he with ⟨h1,h2⟩ | ⟨h1,h2,r,h3⟩
  ·rw[af (fun z=>h2 (one e h1 z))];exact W.row e h1
  ·have e1:=lookup_mem W.keys h;have e2:=lookup_mem W.keys h3;rw[e1]at e2;have:p=e.2.1:=congrArg Prod.fst (JE e2);rw[<-this,ae,h2]
 ·rcases gD he with ⟨h1,h2⟩ | ⟨h1,h2,r,h3⟩
  ·exact W.rk e h1
  ·rw[h2];exact rk
 ·rcases gD he with ⟨h1,h2⟩ | ⟨h1,h2,r,h3⟩
  ·exact W.mC e h1
  ·rw[h2];exact b7
theorem fZ {M:Mo} {H:Hp} {w p:Addr} {E:List Ent} {x:Str} {row:Row} {Q:VK} (W:bU H w E) (h:(x,p,row) ∈ E) (q:Q (.ref p) H):qR M (.ref w) (.str x) H Q:=by
 refine BZ (x:=x) (v:=.ref p) (kvs:=ib E) (ao W.top iB) ?_ q;have z:=hZ (fun y:Addr × Row=>V.ref y.1) E x;rw[lookup_mem W.keys h]at z;exact z
theorem kL (row:Row) (x:Str):(bR (dU row) (.inr x)).isSome=decide (x ∈ row.map (·.1)):=by
 have z:=hZ (fun i=>V.int i) row x;show(bR (row.map fun y=>((Sum.inr y.1:Key),V.int y.2)) (.inr x)).isSome=_;rw[z]
 by_cases h:x ∈ row.map (·.1)
 ·obtain⟨y,hy,e⟩:=Jf.mp h;cases q:row.lookup x with
  | some b=>simp[h]
  | none=>
   exfalso;clear z
   induction row with
   | nil=>cases hy
   | cons u r ih=>
    obtain⟨n,b⟩:=u;rw[JJ]at q;cases w:(x == n)with
    | true=>rw[w]at q;cases q
    | false=>
     rw[w]at q;rcases Jq.mp hy with hy | hy
     ·subst hy;exact absurd e.symm (by simpa using w)
     ·exact ih (Jf.mpr ⟨y,hy,e⟩) hy q
 ·rw[lookup_none h];simp[h]
theorem uR {M:Mo} {H:Hp} {p:Addr} {row:Row} {x:Str} {Q:VK} (h:H p=some (.dK (dU row))) (hx:x ∈ row.map (·.1)) (q:∀v,Q v (upd H p (.dK (dU (row.filter fun y=>decide (y.1 ≠ x)))))):DN M .dpop (.ref p) H=true/\dj M .dpop (.ref p) [.str x] H Q:=by
 constructor
 ·show(match H p with | some (.dK _)=>true | _=>false)=true;rw[h]
 ·show(match H p with
   | some (.dK kvs)=>(match keyOf (V.str x)with | some k=>(match bR kvs k with | some v=>Q v (upd H p (.dK (gq kvs k))) | none=>False) | none=>False)
   | _=>False)
  rw[h];show(match bR (dU row) (.inr x)with | some v=>Q v (upd H p (.dK (gq (dU row) (.inr x)))) | none=>False);have z:=kL row x;rw[JP hx]at z;obtain⟨v,hv⟩:=LK.mp z;rw[hv];have d:gq (dU row) (.inr x)=dU (row.filter fun y=>decide (y.1 ≠ x)):=zP (fun i=>V.int i) row x;dsimp only;rw[d];exact q v
theorem js {E:List Ent} {x:Str} {p:Addr} {row:Row} (keys:(E.map (·.1)).Nodup) (h:(x,p,row) ∈ E):iY (cont E) x=row.map (·.1):=by
 rw[<-eE];exact Ab (lookup_mem keys h)
theorem nN (row:Row) (b y:Str):y ∈ (row.filter fun z=>decide (z.1 ≠ b)).map (·.1) ↔ y ∈ row.map (·.1)/\y ≠ b:=by
 constructor
 ·intro h;obtain⟨z,hz,e⟩:=Jf.mp h;obtain⟨h1,h2⟩:=KY.mp hz;exact⟨Jf.mpr ⟨z,h1,e⟩,by rw[<-e];simpa using h2⟩
 ·rintro⟨h1,h2⟩
  obtain⟨z,hz,e⟩:=Jf.mp h1;have e:z.1=y:=e;exact Jf.mpr ⟨z,KY.mpr ⟨hz,by rw[e];simpa using h2⟩,e⟩
theorem ub {W:Gn} {E:List Ent} {row:Row} (nd:(row.map (·.1)).Nodup) (sub:∀x ∈ row.map (·.1),x ∈ E.map (·.1)) (b7:E.length<=20):row.length<=20:=by
 have:=zG nd sub;rw[Jb]at this;omega
theorem lQ {x:Str} {l:Addr}:∀ {E:List Ent},(E.map (·.1)).Nodup->(E.map (·.2.1)).Nodup->l ∉ E.map (·.2.1)->(E.map fun e=>if e.1=x then l else e.2.1).Nodup
 | [],_,_,_=>by simp
 | e::r,k,n,h=>by
  rw[JA,JN]at k n ⊢;rw[JA,Jq,not_or]at h;refine⟨fun z=>?_,lQ k.2 n.2 h.2⟩;obtain⟨f,hf,q⟩:=Jf.mp z
  by_cases e1:e.1=x
  ·rw[Jc e1]at q
   by_cases f1:f.1=x
   ·exact k.1 (Jf.mpr ⟨f,hf,by rw[f1,e1]⟩)
   ·rw[I_ f1]at q;exact h.2 (Jf.mpr ⟨f,hf,q⟩)
  ·rw[I_ e1]at q
   by_cases f1:f.1=x
   ·rw[Jc f1]at q;exact h.1 q
   ·rw[I_ f1]at q;exact n.1 (Jf.mpr ⟨f,hf,q⟩)
theorem Ax {H:Hp} {w l:Addr} {E:List Ent} {x:Str} {ns:List Str} (W:bU H w E) (hl:H l=none) (emp:∀e ∈ E,e.2.2=[]) (sub:∀y ∈ E.map (·.1),y ∈ ns) (hx:x ∈ ns) (b7:ns.length<=20):
  ∃E',putK (ib E) (.inr x) (.ref l)=ib E'/\bU (upd (upd H l (.dK [])) w (.dK (ib E'))) w E'/\(∀ e ∈ E',e.2.2=[])/\(∀ e ∈ E',e.2.1=l\/∃e0 ∈ E,e0.2.1=e.2.1)/\∀y,y ∈ E'.map (·.1) ↔ y ∈ E.map (·.1)\/y=x:=by
 have wl:w ≠ l:=ag W.top hl
 have nl:l ∉ E.map (·.2.1):=fun z=>by
  obtain⟨e,he,q⟩:=Jf.mp z;have:=W.row e he;rw[q,hl]at this;cases this
 have nw:=(JN.mp W.nd).1
 by_cases h:x ∈ E.map (·.1)
 ·refine⟨E.map fun y:Ent=>if y.1=x then(y.1,(l,[]))else y,uh (fun y:Addr × Row=>V.ref y.1) E x (l,[]) h,?_⟩
  have ke:(E.map fun y:Ent=>if y.1=x then(y.1,((l,[]):Addr × Row))else y).map (·.1)=E.map (·.1):=by
   rw[JL];refine Kv fun e _=>?_;show(if e.1=x then(e.1,((l,[]):Addr × Row))else e).1=e.1;split<;>rfl
  have ad:(E.map fun y:Ent=>if y.1=x then(y.1,((l,[]):Addr × Row))else y).map (·.2.1)=E.map fun e=>if e.1=x then l else e.2.1:=by
   rw[JL];refine Kv fun e _=>?_;show(if e.1=x then(e.1,((l,[]):Addr × Row))else e).2.1=_;split<;>rfl
  have cs:∀e ∈ (E.map fun y:Ent=>if y.1=x then(y.1,((l,[]):Addr × Row))else y),(e.2.1=l/\e.2.2=[])\/e ∈ E:=fun e he=>by
   obtain⟨f,hf,q⟩:=Jf.mp he
   by_cases z:f.1=x
   ·rw[Jc z]at q;subst q;exact .inl ⟨rfl,rfl⟩
   ·rw[I_ z]at q;subst q;exact .inr hf
  refine⟨⟨ae,fun e he=>?_,?_,by rw[ke];exact W.keys,fun e he=>?_,by rw[Jb];exact W.b7,fun e he=>?_⟩,fun e he=>?_,fun e he=>?_,fun y=>?_⟩
  ·rcases cs e he with ⟨h1,h2⟩ | h1
   ·rw[h1,h2,af wl.symm,ae];rfl
   ·have n1:e.2.1 ≠ w:=fun z=>nw (Jf.mpr ⟨e,h1,z⟩);have n2:e.2.1 ≠ l:=fun z=>nl (Jf.mpr ⟨e,h1,z⟩);rw[af n1,af n2];exact W.row e h1
  ·rw[JN,ad];refine⟨fun z=>?_,lQ W.keys (JN.mp W.nd).2 nl⟩;obtain⟨f,hf,q⟩:=Jf.mp z
   by_cases f1:f.1=x
   ·rw[Jc f1]at q;exact wl q.symm
   ·rw[I_ f1]at q;exact nw (Jf.mpr ⟨f,hf,q⟩)
  ·rcases cs e he with ⟨h1,h2⟩ | h1
   ·rw[h2];simp
   ·exact W.rk e h1
  ·rcases cs e he with ⟨h1,h2⟩ | h1
   ·rw[h2];simp
   ·exact W.mC e h1
  ·rcases cs e he with ⟨h1,h2⟩ | h1
   ·exact h2
   ·exact emp e h1
  ·rcases cs e he with ⟨h1,h2⟩ | h1
   ·exact .inl h1
   ·exact .inr ⟨e,h1,rfl⟩
  ·rw[ke];constructor
   ·exact .inl
   ·rintro(z | z)
    ·exact z
    ·rw[z];exact h
 ·have ke:∀y,y ∈ (E++[((x,l,[]):Ent)]).map (·.1) ↔ y ∈ E.map (·.1)\/y=x:=fun y=>by
   rw[Jt,Jx];simp
  have nd:((E++[((x,l,[]):Ent)]).map (·.1)).Nodup:=by
   rw[Jt,JI];exact⟨W.keys,by simp,fun a ha b hb z=>h (by rw[<-(show b=x by simpa using hb),<-z];exact ha)⟩
  have ln:(E++[((x,l,[]):Ent)]).length<=20:=by
   have z:=MU nd (l₂:=ns) fun y hy=>((ke y).mp hy).elim (sub y) fun z=>by rw[z];exact hx
   rw[Jb]at z;omega
  refine⟨E++[((x,l,[]):Ent)],j8 (fun y:Addr × Row=>V.ref y.1) E x (l,[]) h,⟨ae,fun e he=>?_,?_,nd,fun e he=>?_,ln,fun e he=>?_⟩,fun e he=>?_,fun e he=>?_,ke⟩
  ·rcases Jx.mp he with h1 | h1
   ·have n1:e.2.1 ≠ w:=fun z=>nw (Jf.mpr ⟨e,h1,z⟩);have n2:e.2.1 ≠ l:=fun z=>nl (Jf.mpr ⟨e,h1,z⟩);rw[af n1,af n2];exact W.row e h1
   ·rw[Jo.mp h1];show upd _ w _ l=_;rw[af wl.symm,ae];rfl
  ·rw[Jt,<-List.cons_append,JI];refine⟨W.nd,by simp,fun a ha b hb z=>?_⟩;have hb':b=l:=by simpa using hb
   rcases Jq.mp ha with ha | ha
   ·exact wl (by rw[<-hb',<-z,ha])
   ·exact nl (by rw[<-hb',<-z];exact ha)
  ·rcases Jx.mp he with h1 | h1
   ·exact W.rk e h1
   ·rw[Jo.mp h1];simp
  ·rcases Jx.mp he with h1 | h1
   ·exact W.mC e h1
   ·rw[Jo.mp h1];simp
  ·rcases Jx.mp he with h1 | h1
   ·exact emp e h1
   ·rw[Jo.mp h1]
  ·rcases Jx.mp he with h1 | h1
   ·exact .inr ⟨e,h1,rfl⟩
   ·rw[Jo.mp h1];exact .inl rfl
structure Ad (H2:Hp) (w:Addr) (E0:List Ent) (H:Hp) (E:List Ent):Prop where
 n_:bU H w E
 ok:rC (cont E)
 keys:E.map (·.1)=E0.map (·.1)
 wR:E.map (·.2.1)=E0.map (·.2.1)
 rest:∀x,x ∉ E0.map (·.2.1)->H x=H2 x
theorem Ad.rd {M:Mo} {H2 H:Hp} {w q:Addr} {E0 E:List Ent} {xs:List V} (t:Ad H2 w E0 H E) (W:bU H2 w E0) (h:rd M H2 q=some (.lst xs)):rd M H q=some (.lst xs):=by
 rw[ue (t.rest q fun z=>?_)]
 ·exact h
 ·obtain⟨e,he,e1⟩:=Jf.mp z;rw[<-e1,ao (W.row e he) iB]at h;cases h
theorem Ad.ext {M:Mo} {H0 H2 H:Hp} {w:Addr} {E0 E:List Ent} (t:Ad H2 w E0 H E) (W:bU H2 w E0) (x:Ext M H0 H2) (fr:∀e ∈ E0,H0 e.2.1=none):Ext M H0 H:=by
 constructor
 ·intro a o e;rw[t.rest a fun z=>?_]
  ·exact x.same a o e
  ·obtain⟨f,hf,q⟩:=Jf.mp z;have:=fr f hf;rw[q,e]at this;cases this
 ·intro a m e;have e2:=x.off a m e;rw[t.rest a fun z=>?_]
  ·exact e2
  ·obtain⟨f,hf,q⟩:=Jf.mp z;have:=W.row f hf;rw[q,e2]at this;cases this
theorem cP {n k:Nat} {f:Nat->V} {v:V} (h:((List.range n).map f)[k]?=some v):k < n/\v=f k:=by
 rw[Jy]at h;obtain⟨k',hk,rfl⟩:=JF.mp h;obtain⟨hk1,hk2⟩:=Ju.mp hk;rw[List.getElem_range]at hk2;subst hk2;rw[KJ]at hk1;exact⟨hk1,rfl⟩
theorem AJ {M:Mo} {H:Hp} {a b:Str} {Q:VK} (q:Q (.str (Gr.mn slt a b)) H):eV M .smin [.str a,.str b] H Q:=q
theorem uZ {te:TE} {fvs:L2.St} {D:Addr} {aq:Hp->Prop} {H0:Hp} {k:Hp->Prop} (f:V->V):∀ (xs acc:List V),(∀ v ∈ xs,∀acc Q,Q (f v) (upd H0 D (.lst acc))->te (some v::fvs) (upd H0 D (.lst acc)) Q)->(∀ l,aq (upd H0 D (.lst l)))->acc.length + xs.length<=sizeLine->
  k (upd H0 D (.lst (acc++xs.map f)))->dB te (fun _ H Q=>Q true H) fvs D aq xs acc (upd H0 D (.lst acc)) k:=by
 intro xs
 induction xs with
 | nil=>
  intro acc h1 h2 h3 h4;exact⟨h2 _,ae,by simpa using h4⟩
 | cons v r ih=>
  intro acc h1 h2 h3 h4;refine⟨h2 _,?_⟩;show if true=true then _ else _
  rw[Jc rfl];refine h1 v Jj _ _ ⟨ae,by rw[JW]at h3;omega,?_⟩;rw[dq];refine ih (acc++[f v]) (fun v hv=>h1 v (Ji _ hv)) h2 (by rw[Jl];simp at h3 ⊢;omega) ?_;simpa using h4
theorem uz {M:Mo} {H:Hp} {p:Addr} {xs:List V} (h:H p=some (.lst xs)):known M H (.ref p)=true:=by
 show(match H p with | some (.lst _)=>true | some (.tup _)=>true | some (.dK _)=>true | some (.frz _ (.lst _))=>true | _=>false)=true;rw[h]
theorem zt {H:Hp} {p:Addr} {xs:List V} (h:H p=some (.lst xs)):lq .list H (.ref p)=true:=by
 show(match H p with | some (.lst _)=>decide (Ty.list=.list) | some (.frz _ (.lst _))=>decide (Ty.list=.list) | some (.tup _)=>decide (Ty.list=.tuple) | some (.dK _)=>decide (Ty.list=.dict) | _=>false)=true;rw[h];rfl
end Gw
namespace Gk
open PySem PySem.Spec PyProof.Rows L2 Sw Gw
abbrev g8:List Str:=["plan","mates","one","other"]
noncomputable def gW:dm:=(.cons (.asg 1 .dnew)
 (.cons (.frT [2,3] (.ex (.var 0)) (.cons (.sto (.var 1) (.var 2) (.var 3))
 (.cons (.sto (.var 1) (.var 3) (.var 2))
 .nil)))
 (.cons (.ret (.var 1))
 .nil)))
noncomputable abbrev Pr:=Addr × Str × Str
noncomputable def refs (P:List Pr):List V:=P.map fun x=>.ref x.1
noncomputable def ay (P:List Pr):NV:=P.map (·.2)
noncomputable def ends (L:NV):List Str:=(L.map fun x=>[x.1,x.2]).flatten
noncomputable def mt (L:NV):NV:=(L.map fun x=>[(x.1,x.2),(x.2,x.1)]).flatten
noncomputable def sK (l:NV):List (Key × V):=l.map fun y=>((Sum.inr y.1:Key),V.str y.2)
theorem aJ (P:List Pr):(refs P).length=P.length:=Jb _
theorem xR (l:NV):(sK l).length=l.length:=Jb _
theorem eQ:∀L:NV,(mt L).map (·.1)=ends L
 | []=>rfl
 | x::r=>congrArg (fun l=>x.1::x.2::l) (eQ r)
theorem BD (L:NV) (a b:Str):mt (L++[(a,b)])=mt L++[(a,b)]++[(b,a)]:=by
 unfold mt;rw[Jt,Ll];simp
theorem jm (L:NV) (a b:Str):ends (L++[(a,b)])=ends L++[a]++[b]:=by
 unfold ends;rw[Jt,Ll];simp
theorem bc:∀L:NV,(ends L).length=2 * L.length
 | []=>rfl
 | x::r=>by
  show(ends r).length + 1 + 1=2 * (r.length + 1);rw[bc r];omega
theorem yN (L:NV):(mt L).length=2 * L.length:=by
 have:=congrArg List.length (eQ L);rw[Jb,bc]at this;exact this
theorem wC {L:NV} {n:Nat} (h:(ends L).Nodup):(ends (L.take n)).Nodup:=by
 have e:ends L=ends (L.take n)++ends (L.drop n):=by
  unfold ends;rw[<-Ll,<-Jt,Kh]
 rw[e,JI]at h;exact h.1
noncomputable def aB (H:Hp) (P:List Pr):Prop:=∀x ∈ P,H x.1=some (.tup [.str x.2.1,.str x.2.2])
structure av (H:Hp) (p:Addr) (P:List Pr):Prop where
 at_:H p=some (.lst (refs P))
 cT:aB H P
theorem bG {xs:List V}:∀b u,(HO.tup xs) ≠ .frz b u:=by intro _ _ z;cases z
theorem Ext.cT {M:Mo} {H H':Hp} {P:List Pr} (x:Ext M H H') (h:aB H P):aB H' P:=fun y hy=>x.same _ _ (h y hy)
theorem Ext.bz {M:Mo} {H H':Hp} {p:Addr} {P:List Pr} (x:Ext M H H') (h:av H p P):av H' p P:=⟨x.same _ _ h.at_,Ext.cT x h.cT⟩
theorem wu {M:Mo} {i j:Nat} {tb:TS} {aq:Hp->Prop} {D:Ends} {P:List Pr} (Pv:Nat->L2.St->Hp->Prop) (st:∀n σ H,Pv n σ H->aq H/\aB H P)
  (step:∀n x σ H (D':Ends),P[n]?=some x->Pv n σ H->(∀ σ' H',Pv (n + 1) σ' H'->D'.nx σ' H')->tb D' ((σ.set i (some (.str x.2.1))).set j (some (.str x.2.2))) H)
  (fin:∀σ H,Pv P.length σ H->D.nx σ H) {σ:L2.St} {H:Hp} (h0:Pv 0 σ H):gk M [i,j] tb aq (refs P) D σ H:=by
 have go:∀ (r:List Pr) (n:Nat),P.drop n=r->n<=P.length->∀σ H,Pv n σ H->gk M [i,j] tb aq (refs r) D σ H:=by
  intro r
  induction r with
  | nil=>
   intro n e hn σ H p;have:P.length<=n:=by simpa using e
   have hn':n=P.length:=by omega
   subst hn';exact⟨(st _ σ H p).1,fin σ H p⟩
  | cons v r ih=>
   intro n e hn σ H p
   have hlt:n < P.length:=by
    have:=congrArg List.length e;simp at this;omega
   have hv:P[n]?=some v:=by
    have:=congrArg (fun l=>l[0]?) e;simpa using this
   have hr:P.drop (n + 1)=r:=by
    have:=congrArg List.tail e;simpa[LJ]using this
   obtain⟨s1,s2⟩:=st _ σ H p;refine⟨s1,?_⟩;show(match rd M H v.1 with | some (.tup xs)=>xs.length=[i,j].length/\tb _ (eO σ [i,j] xs) H | _=>False);rw[ao (s2 v (Jg hv)) bG];exact⟨rfl,step n v σ H _ hv p fun σ' H' q=>ih (n + 1) hr hlt σ' H' q⟩
 exact go P 0 (by simp) (JZ _) σ H h0
theorem xq {P:List Pr} {n:Nat} {x:Pr} (h:P[n]?=some x):ay (P.take (n + 1))=ay (P.take n)++[(x.2.1,x.2.2)]:=by
 unfold ay;rw[take_snoc h,Jt];rfl
theorem xQ {l:NV} {x:Str} (y:Str) (h:x ∉ l.map (·.1)):putK (sK l) (.inr x) (.str y)=sK (l++[(x,y)]):=j8 (fun s=>V.str s) l x y h
theorem vQ {P:List Pr} {n:Nat} {x:Pr} (nd:(ends (ay P)).Nodup) (h:P[n]?=some x):
  putK (sK (mt (ay (P.take n)))) (.inr x.2.1) (.str x.2.2)=sK (mt (ay (P.take n))++[(x.2.1,x.2.2)])/\putK (sK (mt (ay (P.take n))++[(x.2.1,x.2.2)])) (.inr x.2.2) (.str x.2.1)=sK (mt (ay (P.take (n + 1)))):=by
 have e:=xq h
 have nd1:(ends (ay (P.take (n + 1)))).Nodup:=by
  have:ay (P.take (n + 1))=(ay P).take (n + 1):=NS;rw[this];exact wC nd
 rw[e,jm,<-eQ]at nd1;rw[e,BD]
 have n1:x.2.1 ∉ (mt (ay (P.take n))).map (·.1):=fun z=>by
  have:=(JI.mp (JI.mp nd1).1).2.2 _ z x.2.1 (by simp);exact this rfl
 have n2:x.2.2 ∉ (mt (ay (P.take n))++[(x.2.1,x.2.2)]).map (·.1):=fun z=>by
  rw[Jt]at z;have:=(JI.mp nd1).2.2 _ z x.2.2 (by simp);exact this rfl
 exact⟨xQ _ n1,xQ _ n2⟩
theorem DO {P:List Pr} {n:Nat} (h:P.length<=20):(mt (ay (P.take n))).length<=40:=by
 rw[yN];unfold ay;rw[Jb,J7];omega
noncomputable def j4 (M:Mo):Sp:=fun vs H Q _=>∃ (p:Addr) (P:List Pr),vs=[.ref p]/\av H p P/\(ends (ay P)).Nodup/\P.length<=20/\∀l,H l=none->M l=none->Q (.ref l) (upd H l (.dK (sK (mt (ay P)))))
theorem yB {M:Mo} {Γ:bZ} (gm:Γ.mod=M) (gc:Γ.cm=true) (vs:List V) (H:Hp) (Q:VK) (E:XK) (h:j4 M vs H Q E):eM Γ g8 1 gW vs H Q E:=by
 obtain⟨p,P,rfl,hp,nd,b7,h⟩:=h;refine⟨rfl,?_⟩;obtain rfl:=gm;unfold gW;refine seq ?_;walk_at "s1";intro l hl ml;have pl:p ≠ l:=ag hp.at_ hl;have tl:∀x ∈ P,x.1 ≠ l:=fun x hx=>ag (hp.cT x hx) hl;have same:∀kvs,av (upd H l (.dK kvs)) p P:=fun kvs=>⟨by rw[af pl];exact hp.at_,fun x hx=>by rw[af (tl x hx)];exact hp.cT x hx⟩;refine seq ?_;walk_at "s1";refine⟨gc,bQ (ao (same _).at_ ai) ?_⟩;refine wu (fun n σ H'=>∃v2 v3,σ=[some (.ref p),some (.ref l),v2,v3]/\H'=upd H l (.dK (sK (mt (ay (P.take n)))))) (fun n σ H' z=>?_) (fun n x σ H' D' hx pv nx=>?_) (fun σ H' pv=>?_) ⟨none,none,rfl,rfl⟩
 ·obtain⟨_,_,_,rfl⟩:=z;exact⟨ao (same _).at_ ai,(same _).cT⟩
 ·obtain⟨v2,v3,rfl,rfl⟩:=pv;obtain⟨p1,p2⟩:=vQ nd hx;have fw:=DO (n:=n) b7;refine seq ?_;walk_at "s1";refine i_ (x:=x.2.1) ae (by rw[xR,Jm];omega) ?_;rw[p1,dq];refine seq ?_;walk_at "s1";refine i_ (x:=x.2.2) ae (by rw[xR,Jm,Jl];simp;omega) ?_;rw[p2,dq];exact bD (nx _ _ ⟨_,_,rfl,rfl⟩)
 ·obtain⟨v2,v3,rfl,rfl⟩:=pv;walk_at "sw";rw[KD];exact h l hl ml
theorem t9:∀l:NV,allM iW ((sK l).map fun y=>kV y.1)=some (l.map (·.1))
 | []=>rfl
 | y::r=>by
  have ih:=t9 r;have q:((sK (y::r)).map fun y=>kV y.1)=V.str y.1::((sK r).map fun y=>kV y.1):=rfl;rw[q];unfold allM;rw[ih];rfl
theorem Ff {M:Mo} {H:Hp} {p:Addr} {l:NV} {Q:VK} (h:H p=some (.dK (sK l))) (q:bp M (l.map (·.1)) H Q):eV M .dsorted [.ref p] H Q:=by
 show(match H p with
  | some (.dK kvs)=>(match allM iW (kvs.map fun y=>kV y.1)with
   | some ts=>bp M ts H Q
   | none=>False)
  | _=>False)
 rw[h];dsimp only;rw[t9];exact q
theorem fu {te:TE} {tt:TT} {fvs:L2.St} {D:Addr} {aq:Hp->Prop} {k:Hp->Prop} {xs:List V} (Pv:Nat->List V->Hp->Prop) (st:∀n acc H,Pv n acc H->aq H/\H D=some (.lst acc))
  (step:∀n v acc H (K:List V->Hp->Prop),xs[n]?=some v->Pv n acc H->(∀ acc' H',Pv (n + 1) acc' H'->K acc' H')->tt (some v::fvs) H fun ok H1=>if ok=true then te (some v::fvs) H1 fun y H2=>H2 D=some (.lst acc)/\acc.length < sizeLine/\K (acc++[y]) (upd H2 D (.lst (acc++[y])))else K acc H1)
  (fin:∀acc H,Pv xs.length acc H->k H) {acc:List V} {H:Hp} (h0:Pv 0 acc H):dB te tt fvs D aq xs acc H k:=by
 have go:∀ (r:List V) (n:Nat),xs.drop n=r->n<=xs.length->∀acc H,Pv n acc H->dB te tt fvs D aq r acc H k:=by
  intro r
  induction r with
  | nil=>
   intro n e hn acc H p;have:xs.length<=n:=by simpa using e
   have hn':n=xs.length:=by omega
   subst hn';exact⟨(st _ _ _ p).1,(st _ _ _ p).2,fin acc H p⟩
  | cons v r ih=>
   intro n e hn acc H p
   have hlt:n < xs.length:=by
    have:=congrArg List.length e;simp at this;omega
   have hv:xs[n]?=some v:=by
    have:=congrArg (fun l=>l[0]?) e;simpa using this
   have hr:xs.drop (n + 1)=r:=by
    have:=congrArg List.tail e;simpa[LJ]using this
   exact⟨(st _ _ _ p).1,step n v acc H (fun acc' H'=>dB te tt fvs D aq r acc' H' k) hv p fun acc' H' q=>ih (n + 1) hr hlt acc' H' q⟩
 exact go xs 0 (by simp) (JZ _) acc H h0
theorem j9 (x y:Str × Str):i5 x y=true ↔ slt x.1 y.1\/(x.1=y.1/\slt x.2 y.2):=by
 unfold i5
 by_cases e:x.1=y.1
 ·rw[Jc e];constructor
  ·intro h;exact .inr ⟨e,Kj h⟩
  ·rintro(h | ⟨_,h⟩)
   ·rw[e]at h;exact(b9.qO _ h).elim
   ·exact JP h
 ·rw[I_ e];constructor
  ·intro h;exact .inl (Kj h)
  ·rintro(h | ⟨h,_⟩)
   ·exact JP h
   ·exact(e h).elim
theorem E6:Gr.EV (fun x y:Str × Str=>i5 x y=true) where
 qO:=fun a h=>by
  rcases(j9 _ _).mp h with h | ⟨_,h⟩
  ·exact b9.qO _ h
  ·exact b9.qO _ h
 tr:=fun a b c h k=>by
  rw[j9]at h k ⊢;rcases h with h | ⟨e,h⟩
  ·rcases k with k | ⟨f,k⟩
   ·exact .inl (b9.tr _ _ _ h k)
   ·rw[<-f];exact .inl h
  ·rcases k with k | ⟨f,k⟩
   ·rw[e];exact .inl k
   ·exact .inr ⟨e.trans f,b9.tr _ _ _ h k⟩
 C3:=fun a b ne=>by
  rw[j9,j9]
  by_cases e:a.1=b.1
  ·rcases b9.C3 a.2 b.2 (fun z=>ne (Prod.ext e z))with k | k
   ·exact .inl (.inr ⟨e,k⟩)
   ·exact .inr (.inr ⟨e.symm,k⟩)
  ·rcases b9.C3 _ _ e with k | k
   ·exact .inl (.inl k)
   ·exact .inr (.inl k)
noncomputable def jw (L:NV):Prop:=L.Pairwise fun x y=>i5 x y=true
theorem m9:∀ {L:NV},L.Pairwise (fun x y=>i5 y x=false)->L.Nodup->jw L
 | [],_,_=>.nil
 | x::r,h,nd=>by
  rw[Kk]at h;rw[JN]at nd;refine Kk.mpr ⟨fun y hy=>?_,m9 h.2 nd.2⟩;rcases E6.C3 x y (fun z=>nd.1 (by rw[z];exact hy))with z | z
  ·exact z
  ·rw[h.1 y hy]at z;cases z
theorem qf {L L':NV} (h:jw L) (h':jw L') (m:∀x,x ∈ L ↔ x ∈ L'):L=L':=E6.ext h h' m
theorem eP {α β:Type} {f:α->β}:∀ {l:List α} {ws:List β},ws.Perm (l.map f)->∃l':List α,l'.Perm l/\ws=l'.map f
 | [],ws,h=>⟨[],.nil,by rw[List.map_nil]at h;rw[h.eq_nil];rfl⟩
 | x::r,ws,h=>by
  have hm:f x ∈ ws:=h.mem_iff.mpr (by simp);obtain⟨s,t,rfl⟩:=Mq hm
  have h2:(s++t).Perm (r.map f):=by
   have:=(LN (a:=f x) (l₁:=s) (l₂:=t)).symm.trans h;exact List.Perm.cons_inv this
  obtain⟨l',p,e⟩:=eP h2;obtain⟨A,B,rfl,e1,e2⟩:=List.map_eq_append_iff.mp e.symm;exact⟨A++x::B,LN.trans (p.cons x),by rw[Jt,JA,e1,e2]⟩
theorem iy {M:Mo} {H:Hp} {P:List Pr} (h:aB H P) {x:Pr} (hx:x ∈ P):bC M H (.ref x.1)=some x.2:=by
 show(match rd M H x.1 with
  | some (.tup [.str a,.str b])=>some (a,b)
  | _=>none)=_
 rw[ao (h x hx) bG]
theorem gC {M:Mo} {H:Hp} {p:Addr} {P:List Pr} {Q:VK} (hp:av H p P) (nd:(ay P).Nodup) (b7:P.length < 64)
  (h:∀P' q,P'.Perm P->jw (ay P')->H q=none->M q=none->Q (.ref q) (upd H q (.lst (refs P')))):EU M .sortT (.ref p) H Q:=by
 show(match rd M H p with
  | some (.lst xs)=>(xs.length < 64/\xs.all (fun x=>(bC M H x).isSome)=true)/\∀ws l,List.Perm ws xs->ws.Pairwise (fun x y=>∀a b,bC M H x=some a->bC M H y=some b->i5 b a=false)->H l=none->M l=none->Q (.ref l) (upd H l (.lst ws))
  | _=>False)
 rw[ao hp.at_ ai];refine⟨⟨by rw[aJ];exact b7,?_⟩,fun ws q pm pw hq mq=>?_⟩
 ·rw[Lm];intro v hv;obtain⟨x,hx,rfl⟩:=Jf.mp hv;rw[iy hp.cT hx];rfl
 ·obtain⟨P',p1,rfl⟩:=eP (f:=fun x:Pr=>V.ref x.1) pm;have sub:∀x ∈ P',x ∈ P:=fun x hx=>p1.mem_iff.mp hx;refine h P' q p1 (m9 ?_ ((p1.map _).nodup_iff.mpr nd)) hq mq;rw[KW]at pw;unfold ay;rw[KW];exact pw.imp_of_mem fun{x y} hx hy z=>z x.2 y.2 (iy hp.cT (sub x hx)) (iy hp.cT (sub y hy))
theorem E3 {M:Mo} {H:Hp} {Q:VK} (x y:Str):cC M .Lt (.str x) (.str y) H Q=Q (.bl (decide (slt x y))) H:=rfl
abbrev fN:List Str:=["_law_script","_law_k"]
noncomputable def fH:dm:=(.cons (.iff (.cmp .Lt (.var 1) (.blt .len (.cons (.var 0) .nil))) (.cons (.ret (.idx (.var 0) (.var 1)))
 .nil) .nil)
 (.cons (.ret (.con (.int 0)))
 .nil))
abbrev g_:List Str:=["_law_cell_here","_law_k","_law_number"]
noncomputable def gY:dm:=(.cons (.asg 2 (.bin .Mod (.bin .Add (.bin .Add (.bin .Mult (.bin .Mod (.var 0) (.con (.int 2147483629))) (.con (.int 48271))) (.bin .Mult (.con (.int 7919)) (.var 1))) (.con (.int 104729))) (.con (.int 2147483629))))
 (.cons (.asg 2 (.bin .Mod (.bin .Mult (.var 2) (.var 2)) (.con (.int 2147483629))))
 (.cons (.ret (.bin .Mod (.bin .Mult (.bin .Add (.var 2) (.var 1)) (.bin .Add (.var 2) (.var 1))) (.con (.int 2147483587))))
 .nil)))
abbrev fM:List Str:=["_law_web_here","_law_one","_law_other","_law_draw","_law_worth"]
noncomputable def fG:dm:=(.cons (.asg 4 (.bin .Add (.con (.int 1)) (.bin .Mod (.bin .Mult (.var 3) (.con (.int 982451653))) (.bin .Pow (.con (.int 10)) (.con (.int 12))))))
 (.cons (.sto (.idxD (.var 0) (.var 1)) (.var 2) (.var 4))
 (.cons (.sto (.idxD (.var 0) (.var 2)) (.var 1) (.var 4))
 .nil)))
theorem BA {M:Mo} {Γ:bZ} (hM:Γ.mod=M) (hc:Γ.cm=true) (vs:List V) (H:Hp) (Q:VK) (E:XK) (h:kD M vs H Q E):eM Γ fN 2 fH vs H Q E:=by
 subst hM;obtain⟨a,i,ns,rfl,h0,ha,h⟩:=h;refine⟨rfl,?_⟩;unfold fH;walk_at "sw";refine⟨hc,?_⟩;rw[Sw.pj,ha];dsimp only;rw[Sw.v_lt];refine⟨_,rfl,?_⟩
 by_cases q:i < (ns.map V.int).length
 ·rw[Jc (by simpa using q)];obtain⟨x,e1,e2⟩:=pC h0 q;obtain⟨n,_,rfl⟩:=Jf.mp e2;exact iJ ha e1 (h n)
 ·rw[I_ (by simpa using q)];exact h 0
noncomputable def vO (c k:Int):Int:=
 let n1:=(c % 2147483629 * 48271 + 7919 * k + 104729) % 2147483629
 let n2:=n1 * n1 % 2147483629
 (n2 + k) * (n2 + k) % 2147483587
noncomputable def jB:Sp:=fun vs H Q _=>∃c k,vs=[.int c,.int k]/\0<=k/\k<=1000/\∀z,z=vO c k->0<=z->z < 2147483587->Q (.int z) H
theorem DH {Γ:bZ} (vs:List V) (H:Hp) (Q:VK) (E:XK) (h:jB vs H Q E):eM Γ g_ 2 gY vs H Q E:=by
 obtain⟨c,k,rfl,h0,h1,h⟩:=h;refine⟨rfl,?_⟩;unfold gY;walk_at "sw";walk_at "sv";have r1:∀x:Int,0<=x % 2147483629/\x % 2147483629 < 2147483629:=fun x=>⟨Ki _ (by decide),Ke _ (by decide)⟩;have b1:∀x:Int,rL (x % 2147483629)=true:=fun x=>lK (by have:=r1 x;omega) (by have:=r1 x;omega);have b2:∀x:Int,rL (x % 2147483629 + k)=true:=fun x=>lK (by have:=r1 x;omega) (by have:=r1 x;omega);have bk:rL k=true:=lK (by omega) (by omega);refine⟨by decide,by rw[b1];simp,by rw[bk];simp,by decide,by rw[b1];simp,by decide,by rw[b2];simp,by decide,?_⟩;exact h _ (by unfold vO;rfl) (Ki _ (by decide)) (Ke _ (by decide))
noncomputable def kQ (r:Gw.Row) (b:Str) (v:Int):Gw.Row:=if b ∈ r.map (·.1)then r.map fun y=>if y.1=b then(y.1,v)else y else r++[(b,v)]
theorem xX (r:Gw.Row) (b:Str) (v:Int):putK (dU r) (.inr b) (.int v)=dU (kQ r b v):=by
 unfold kQ
 by_cases h:b ∈ r.map (·.1)
 ·rw[Jc h];exact uh (fun i=>V.int i) r b v h
 ·rw[I_ h];exact j8 (fun i=>V.int i) r b v h
theorem qj (r:Gw.Row) (b:Str) (v:Int):(r.map fun y=>if y.1=b then(y.1,v)else y).map (·.1)=r.map (·.1):=by
 rw[JL];refine Kv fun y _=>?_;show(if y.1=b then(y.1,v)else y).1=y.1;split<;>rfl
theorem fQ (r:Gw.Row) (b:Str) (v:Int) (x:Str):x ∈ (kQ r b v).map (·.1) ↔ x ∈ r.map (·.1)\/x=b:=by
 unfold kQ
 by_cases h:b ∈ r.map (·.1)
 ·rw[Jc h,qj];exact⟨.inl,fun z=>z.elim id fun e=>by rw[e];exact h⟩
 ·rw[I_ h,Jt,Jx];simp
theorem uk {r:Gw.Row} (b:Str) (v:Int) (nd:(r.map (·.1)).Nodup):((kQ r b v).map (·.1)).Nodup:=by
 unfold kQ
 by_cases h:b ∈ r.map (·.1)
 ·rw[Jc h,qj];exact nd
 ·rw[I_ h,Jt,JI];exact⟨nd,by simp,fun x hx y hy z=>h (by rw[<-(show y=b by simpa using hy),<-z];exact hx)⟩
structure pE (W:Gn):Prop where
 ok:rC W
 no:∀a,a ∉ iY W a
noncomputable def kC:Sp:=fun vs H Q _=>∃w E a b d,vs=[.ref w,.str a,.str b,.int d]/\bU H w E/\pE (cont E)/\a ≠ b/\a ∈ E.map (·.1)/\b ∈ E.map (·.1)/\
 ∀H' E',bU H' w E'->pE (cont E')->E'.map (·.1)=E.map (·.1)->E'.map (·.2.1)=E.map (·.2.1)->(∀ x,x ∉ E.map (·.2.1)->H' x=H x)->Q .aD H'
theorem Bz {M:Mo} {Γ:bZ} (gm:Γ.mod=M) (vs:List V) (H:Hp) (Q:VK) (X:XK) (h:kC vs H Q X):eM Γ fM 4 fG vs H Q X:=by
 obtain⟨w,E,a,b,d,rfl,W,ok,q,ha,hb,h⟩:=h;refine⟨rfl,?_⟩;obtain rfl:=gm;unfold fG;refine seq ?_;walk_at "s1";rw[Sw.v_mul];refine⟨Ge (by decide) (by decide),?_⟩;rw[Sw.v_pow];refine⟨⟨by decide,by decide,by decide⟩,?_⟩;rw[Sw.v_mod];refine⟨by decide,?_⟩;rw[Sw.v_add];generalize 1 + d * 982451653 % (10:Int) ^ (12:Int).toNat=v;obtain⟨⟨pa,ra⟩,_,ma⟩:=fW ha;obtain⟨⟨pb,rb⟩,_,mb⟩:=fW hb;have aa:=js W.keys ma;have ab:=js W.keys mb;have kka:∀x ∈ ra.map (·.1),x ∈ E.map (·.1):=fun x hx=>by rw[<-bJ];exact ok.ok.cl a x (by rw[aa];exact hx)
 have kkb:∀x ∈ rb.map (·.1),x ∈ E.map (·.1):=fun x hx=>by rw[<-bJ];exact ok.ok.cl b x (by rw[ab];exact hx)
 have b7:=W.b7;refine seq ?_;walk_at "s1";refine fZ W ma (i_ (x:=b) (W.row _ ma) (by rw[qc,Jm];have:=W.mC _ ma;dsimp only at this ⊢;omega) ?_);rw[xX];have n1:=uk b v (W.rk _ ma)
 have W1:=W.set ma (row':=kQ ra b v) n1 (ub (W:=cont E) n1 (fun x hx=>by
  rcases(fQ _ _ _ _).mp hx with hx | hx
  ·exact kka x hx
  ·rw[hx];exact hb) b7)
 have mb1:=ij (x:=a) (row':=kQ ra b v) mb (fun z=>q z.symm);refine seq ?_;walk_at "s1";refine fZ W1 mb1 (i_ (x:=a) (W1.row _ mb1) (by rw[qc,Jm];have:=W.mC _ mb;dsimp only at this ⊢;omega) ?_);dsimp only;rw[xX];have n2:=uk a v (W.rk _ mb)
 have W2:=W1.set mb1 (row':=kQ rb a v) n2 (ub (W:=cont E) n2 (fun x hx=>by
  rcases(fQ _ _ _ _).mp hx with hx | hx
  ·exact kkb x hx
  ·rw[hx];exact ha) b7)
 have ad:∀x y,y ∈ iY (cont (b0 b (kQ rb a v) (b0 a (kQ ra b v) E))) x ↔ y ∈ iY (cont E) x\/(x=a/\y=b)\/(x=b/\y=a):=fun x y=>by
  rw[eN (by rw[aE];exact hb),eN ha]
  by_cases z:x=b
  ·subst z;have:¬x=a:=fun u=>q u.symm;rw[Jc rfl,fQ,ab];simp[this]
  ·rw[I_ z]
   by_cases z2:x=a
   ·subst z2;rw[Jc rfl,fQ,aa];simp[z]
   ·rw[I_ z2];simp[z,z2]
 walk_at "sw";refine h _ _ W2 ⟨⟨by rw[bJ,aE,aE];exact W.keys,fun x y hy=>?_,fun x y hy=>?_⟩,fun x hx=>?_⟩ (by rw[aE,aE]) (by rw[cE,cE]) fun x hx=>?_
 ·rw[ad]at hy ⊢;rcases hy with hy | ⟨h1,h2⟩ | ⟨h1,h2⟩
  ·exact .inl (ok.ok.sy x y hy)
  ·exact .inr (.inr ⟨h2,h1⟩)
  ·exact .inr (.inl ⟨h2,h1⟩)
 ·rw[ad]at hy;rw[bJ,aE,aE];rcases hy with hy | ⟨h1,h2⟩ | ⟨h1,h2⟩
  ·rw[<-bJ];exact ok.ok.cl x y hy
  ·rw[h2];exact hb
  ·rw[h2];exact ha
 ·rw[ad]at hx;rcases hx with hy | ⟨h1,h2⟩ | ⟨h1,h2⟩
  ·exact ok.no x hy
  ·exact q (h1.symm.trans h2)
  ·exact q (h2.symm.trans h1)
 ·have na:x ≠ pa:=fun z=>hx (Jf.mpr ⟨_,ma,z.symm⟩);have nb:x ≠ pb:=fun z=>hx (Jf.mpr ⟨_,mb,z.symm⟩);rw[af nb,af na]
abbrev e7:List Str:=["_law_web_here","_law_found","_law_one"]
noncomputable def eX:dm:=(.cons (.asg 1 (.lst .nil))
 (.cons (.fr 2 (.ex (.blt .dsorted (.cons (.var 0) .nil))) (.cons (.exp (.mth .extend (.var 1) (.cons (.comp "_law_other" [("_law_one",2)] (.ex (.blt .dsorted (.cons (.idxD (.var 0) (.var 2)) .nil))) (.tup (.cons (.var 1) (.cons (.var 0) .nil))) (.cons (.cmp .Lt (.var 1) (.var 0)) .nil)) .nil)))
 .nil))
 (.cons (.ret (.var 1))
 .nil)))
theorem m8:∀r:Gw.Row,allM iW ((dU r).map fun y=>kV y.1)=some (r.map (·.1))
 | []=>rfl
 | y::r=>by
  have ih:=m8 r;have q:((dU (y::r)).map fun y=>kV y.1)=V.str y.1::((dU r).map fun y=>kV y.1):=rfl;rw[q];unfold allM;rw[ih];rfl
theorem AI {M:Mo} {H:Hp} {p:Addr} {r:Gw.Row} {Q:VK} (h:H p=some (.dK (dU r))) (q:bp M (r.map (·.1)) H Q):eV M .dsorted [.ref p] H Q:=by
 show(match H p with
  | some (.dK kvs)=>(match allM iW (kvs.map fun y=>kV y.1)with
   | some ts=>bp M ts H Q
   | none=>False)
  | _=>False)
 rw[h];dsimp only;rw[m8];exact q
theorem eA {M:Mo} {H:Hp} {p b:Addr} {xs ys:List V} {Q:VK} (h1:H p=some (.lst xs)) (h2:H b=some (.lst ys)) (hl:xs.length + ys.length<=sizeLine) (q:Q .aD (upd H p (.lst (xs++ys)))):dj M .extend (.ref p) [.ref b] H Q:=by
 show(match H p,H b with
  | some (.lst xs),some (.lst ys)=>xs.length + ys.length<=sizeLine/\Q .aD (upd H p (.lst (xs++ys)))
  | _,_=>False)
 rw[h1,h2];exact⟨hl,q⟩
theorem cp (P P':List Pr):refs P++refs P'=refs (P++P'):=(Jt).symm
theorem aB.app {H:Hp} {P P':List Pr} (h:aB H P) (h':aB H P'):aB H (P++P'):=fun x hx=>(Jx.mp hx).elim (h x) (h' x)
theorem aB.upd {H:Hp} {P:List Pr} {p:Addr} {xs:List V} {o:HO} (h:aB H P) (hp:H p=some (.lst xs)):aB (upd H p o) P:=fun x hx=>by
 rw[af (fun z=>by have:=h x hx;rw[z,hp]at this;cases this)];exact h x hx
theorem aB.new {H:Hp} {P:List Pr} {p:Addr} {o:HO} (h:aB H P) (hp:H p=none):aB (L2.upd H p o) P:=fun x hx=>by
 rw[af (ag (h x hx) hp)];exact h x hx
noncomputable def Good (E:List Ent) (P:List Pr):Prop:=∀x ∈ P,slt x.2.1 x.2.2/\x.2.2 ∈ mO E x.2.1
noncomputable def jZ (M:Mo):Sp:=fun vs H Q _=>∃w E,vs=[.ref w]/\bU H w E/\M w=none/\
 ∀H' q P,Ext M H H'->H q=none->M q=none->av H' q P->Good E P->P.length<=400->Q (.ref q) H'
theorem yz {M:Mo} {Γ:bZ} (gm:Γ.mod=M) (gc:Γ.cm=true) (vs:List V) (H:Hp) (Q:VK) (X:XK) (h:jZ M vs H Q X):eM Γ e7 1 eX vs H Q X:=by
 obtain⟨w,E,rfl,W,mw,h⟩:=h;refine⟨rfl,?_⟩;obtain rfl:=gm;unfold eX;refine seq ?_;walk_at "s1";refine⟨by rw[Jm];simp,fun q hq mq=>?_⟩;have x0:Ext Γ.mod H (upd H q (.lst [])):=Ext.upd hq mq;refine seq ?_;walk_at "s1";refine⟨gc,gc,AH (Ext.n_ x0 W).top ⟨by rw[Jb];have:=W.b7;omega,fun ss b pm so hb mb=>?_⟩⟩;have qb:q ≠ b:=fun z=>by subst z;rw[ae]at hb;cases hb
 have hb0:=x0.aD hb;have x1:Ext Γ.mod H (upd (upd H q (.lst [])) b (.lst (ss.map V.str))):=x0.b8 hb0 mb;have sl:ss.length<=20:=by rw[pm.length_eq,Jb];exact W.b7
 refine bQ (ao ae ai) ?_
 refine b_ (fun n σ Hn=>∃v2 P,σ=[some (.ref w),some (.ref q),v2]/\Ext Γ.mod H Hn/\Hn q=some (.lst (refs P))/\Hn b=some (.lst (ss.map V.str))/\aB Hn P/\Good E P/\P.length<=20 * n) (fun n σ Hn z=>?_) (fun n v σ Hn D' hv pv nx ct _ _=>?_) (fun σ Hn pv=>?_)
  ⟨none,[],rfl,x1,by rw[af qb];exact ae,ae,fun x hx=>by (cases hx),fun x hx=>by (cases hx),by simp⟩
 ·obtain⟨_,_,_,_,_,z,_⟩:=z;exact ao z ai
 ·obtain⟨v2,P,rfl,xn,zq,zb,pr,gd,b7⟩:=pv;rw[Jy]at hv;obtain⟨c,hc,rfl⟩:=JF.mp hv;obtain⟨hn,_⟩:=Ju.mp hc;have mc:c ∈ E.map (·.1):=pm.mem_iff.mp (Jg hc);obtain⟨⟨pc,rc⟩,lc,mc'⟩:=fW mc;have Wn:=Ext.n_ xn W;have ac:mO E c=rc.map (·.1):=Ab lc;refine seq ?_;dsimp only[Sw.wS,Sw.wE,Sw.wEs,Sw.wTs,Sw.wI,Sw.vars,Sw.gM,Sw.gL,Sw.gH,Sw.gG,Sw.gJ,Sw.gI,Sw.gO,Sw.gN,Sw.gK];refine⟨dY zq,gc,gc,fZ Wn mc' (AI (Wn.row _ mc') ⟨by rw[Jb];exact Mp (W.mC _ mc') (by decide),fun ts d pd sd hd md=>?_⟩)⟩;have xd:Ext Γ.mod Hn (upd Hn d (.lst (ts.map V.str))):=Ext.upd hd md;have tl:ts.length<=20:=by rw[pd.length_eq,Jb];exact W.mC _ mc'
  refine bQ (ao ae ai) fun D hD mD=>?_;have dD:d ≠ D:=fun z=>by subst z;rw[ae]at hD;cases hD
  have hD0:=xd.aD hD
  refine fu (fun m acc Hm=>∃P2:List Pr,acc=refs P2/\Hm D=some (.lst (refs P2))/\Hm d=some (.lst (ts.map V.str))/\aB Hm P2/\Ext Γ.mod Hn Hm/\Good E P2/\P2.length<=m) (fun m acc Hm z=>?_) (fun m v acc Hm K hv pv nx2=>?_) (fun acc Hm pv=>?_)
   ⟨[],rfl,ae,by rw[af dD];exact ae,fun x hx=>by (cases hx),xd.b8 hD0 mD,fun x hx=>by (cases hx),by simp⟩
  ·obtain⟨P2,rfl,z1,z2,_⟩:=z;exact⟨ao z2 ai,z1⟩
  ·obtain⟨P2,rfl,z1,z2,z3,z4,z5,z6⟩:=pv;rw[Jy]at hv;obtain⟨o,ho,rfl⟩:=JF.mp hv;obtain⟨hm,_⟩:=Ju.mp ho;walk_at "s1";rw[E3];refine⟨_,rfl,?_⟩
   by_cases lt:slt c o
   ·rw[Jc (JP lt)];refine⟨by rw[Jm];simp,fun t ht mt=>⟨?_,?_,nx2 _ _ ⟨P2++[(t,c,o)],?_,?_,?_,?_,?_,?_,?_⟩⟩⟩
    ·rw[af (ag z1 ht)];exact z1
    ·rw[aJ,Jm];omega
    ·rw[<-cp];rfl
    ·rw[ae,<-cp];rfl
    ·rw[af dD,af (ag z2 ht)];exact z2
    ·refine aB.upd (xs:=refs P2) (aB.app (aB.new z3 ht) fun x hx=>?_) (by rw[af (ag z1 ht)];exact z1);rw[Jo.mp hx];exact ae
    ·exact(z4.b8 (z4.aD ht) mt).b8 hD0 mD
    ·intro x hx;rcases Jx.mp hx with hx | hx
     ·exact z5 x hx
     ·rw[Jo.mp hx];exact⟨lt,by rw[ac];exact pd.mem_iff.mp (Jg ho)⟩
    ·rw[Jl];simp;omega
   ·rw[I_ (by rw[Kl];exact lt)];exact nx2 _ _ ⟨P2,rfl,z1,z2,z3,z4,z5,by omega⟩
  ·obtain⟨P2,rfl,z1,z2,z3,z4,z5,z6⟩:=pv;rw[Jb]at z6;have zq2:=z4.same _ _ zq;refine eA zq2 z1 (by rw[aJ,aJ,Jm];omega) ?_;rw[cp];refine bD (nx _ _ ⟨_,P++P2,rfl,((xn.trans z4).b8 hq mq),ae,by rw[af (fun z=>qb z.symm)];exact z4.same _ _ zb,aB.upd (aB.app (Ext.cT z4 pr) z3) zq2,fun x hx=>(Jx.mp hx).elim (gd x) (z5 x),by rw[Jl];omega⟩)
 ·obtain⟨v2,P,rfl,xn,zq,zb,pr,gd,b7⟩:=pv;rw[Jb]at b7;walk_at "sw";exact h Hn q P xn hq mq ⟨zq,pr⟩ gd (by omega)
abbrev fK:List Str:=["_law_web_here","_law_cell_here","_law_ahead","_law_digits","_law_pairs_here","_law_drawn","_law_pair","_law_found","_law_seen","_law_draw"]
noncomputable def oh:dm:=(.cons (.asg 7 (.blt .list (.cons (.var 2) .nil))) (.cons (.asg 8 (.lst .nil)) (.cons (.fr 6 (.ex (.var 2)) (.cons (.exp (.mth .extend (.var 8) (.cons (.blt .list (.cons (.var 6) .nil)) .nil))) .nil)) (.cons (.frT [9,6] (.ex (.var 5)) (.cons (.iff (.and (.cmp .Gt (.bin .Mod (.var 9) (.con (.int 8))) (.con (.int 0))) (.and (.cmp .NotIn (.idx (.var 6) (.con (.int 0))) (.var 8)) (.cmp .NotIn (.idx (.var 6) (.con (.int 1))) (.var 8)))) (.cons (.exp (.mth .append (.var 7) (.cons (.var 6) .nil))) (.cons (.exp (.mth .extend (.var 8) (.cons (.blt .list (.cons (.var 6) .nil)) .nil))) .nil)) .nil) .nil)) (.cons (.ret (.blt2 .sortT (.var 7))) .nil)))))
noncomputable def fB:dm:=(.cons (.asg 4 (.call "_law_pairs" (.cons (.var 0) .nil))) (.cons (.asg 5 (.blt2 .sortM (.comp "_law_k" [("_law_cell_here",1),("_law_pairs_here",4)] (.rng1 (.blt .len (.cons (.var 4) .nil))) (.tup (.cons (.call "_law_mix" (.cons (.var 1) (.cons (.bin .Add (.con (.int 500)) (.var 0)) .nil))) (.cons (.idx (.var 2) (.var 0)) .nil))) .nil))) (.cons (.iff (.cmp .Eq (.bin .Mod (.var 3) (.con (.int 2))) (.con (.int 1))) (.cons (.asg 5 (.lst .nil)) (.cons (.fr 6 (.ex (.var 4)) (.cons (.exp (.mth .append (.var 5) (.cons (.tup (.cons (.bin .Mod (.var 1) (.con (.int 2))) (.cons (.var 6) .nil))) .nil))) (.cons (.asg 1 (.bin .FloorDiv (.var 1) (.con (.int 2)))) .nil))) .nil)) .nil) oh)))
noncomputable abbrev Dr:=Addr × Int × Pr
noncomputable def pM (T:List Dr):List V:=T.map fun t=>.ref t.1
theorem uQ (T:List Dr):(pM T).length=T.length:=Jb _
theorem o5 (P P':List Dr):pM P++pM P'=pM (P++P'):=(Jt).symm
noncomputable def bB (H:Hp) (T:List Dr):Prop:=∀t ∈ T,H t.1=some (.tup [.int t.2.1,.ref t.2.2.1])
theorem bB.ext {M:Mo} {H H':Hp} {T:List Dr} (x:Ext M H H') (h:bB H T):bB H' T:=fun t ht=>x.same _ _ (h t ht)
theorem bB.upd {H:Hp} {P:List Dr} {p:Addr} {xs:List V} {o:HO} (h:bB H P) (hp:H p=some (.lst xs)):bB (upd H p o) P:=fun x hx=>by
 rw[af (fun z=>by have:=h x hx;rw[z,hp]at this;cases this)];exact h x hx
theorem bB.new {H:Hp} {P:List Dr} {p:Addr} {o:HO} (h:bB H P) (hp:H p=none):bB (L2.upd H p o) P:=fun x hx=>by
 rw[af (ag (h x hx) hp)];exact h x hx
theorem bB.snoc {H:Hp} {P:List Dr} {t:Dr} (h:bB H P) (ht:H t.1=some (.tup [.int t.2.1,.ref t.2.2.1])):bB H (P++[t]):=fun x hx=>(Jx.mp hx).elim (h x) fun z=>by rw[Jo.mp z];exact ht
theorem r6 {M:Mo} {H:Hp} {p:Addr} {T:List Dr} {P:List Pr} {Q:VK} (hp:H p=some (.lst (pM T))) (dr:bB H T) (pr:aB H P) (sub:∀t ∈ T,t.2.2 ∈ P)
  (h:∀T' q,T'.Perm T->H q=none->M q=none->Q (.ref q) (upd H q (.lst (pM T')))):EU M .sortM (.ref p) H Q:=by
 show(match rd M H p with
  | some (.lst xs)=>xs.all (qZ M H)=true/\∀ws l,List.Perm ws xs->H l=none->M l=none->Q (.ref l) (upd H l (.lst ws))
  | _=>False)
 rw[ao hp ai];refine⟨?_,fun ws q pm hq mq=>?_⟩
 ·rw[Lm];intro v hv;obtain⟨t,ht,rfl⟩:=Jf.mp hv
  show(match rd M H t.1 with
   | some (.tup [.int _,r])=>(bC M H r).isSome
   | _=>false)=true
  rw[ao (dr t ht) bG];dsimp only;rw[iy pr (sub t ht)];rfl
 ·obtain⟨T',p1,rfl⟩:=eP (f:=fun t:Dr=>V.ref t.1) pm;exact h T' q p1 hq mq
theorem wx {M:Mo} {i j:Nat} {tb:TS} {aq:Hp->Prop} {D:Ends} {T:List Dr} (Pv:Nat->L2.St->Hp->Prop) (st:∀n σ H,Pv n σ H->aq H/\bB H T)
  (step:∀n x σ H (D':Ends),T[n]?=some x->Pv n σ H->(∀ σ' H',Pv (n + 1) σ' H'->D'.nx σ' H')->tb D' ((σ.set i (some (.int x.2.1))).set j (some (.ref x.2.2.1))) H)
  (fin:∀σ H,Pv T.length σ H->D.nx σ H) {σ:L2.St} {H:Hp} (h0:Pv 0 σ H):gk M [i,j] tb aq (pM T) D σ H:=by
 have go:∀ (r:List Dr) (n:Nat),T.drop n=r->n<=T.length->∀σ H,Pv n σ H->gk M [i,j] tb aq (pM r) D σ H:=by
  intro r
  induction r with
  | nil=>
   intro n e hn σ H p;have:T.length<=n:=by simpa using e
   have hn':n=T.length:=by omega
   subst hn';exact⟨(st _ σ H p).1,fin σ H p⟩
  | cons v r ih=>
   intro n e hn σ H p
   have hlt:n < T.length:=by
    have:=congrArg List.length e;simp at this;omega
   have hv:T[n]?=some v:=by
    have:=congrArg (fun l=>l[0]?) e;simpa using this
   have hr:T.drop (n + 1)=r:=by
    have:=congrArg List.tail e;simpa[LJ]using this
   obtain⟨s1,s2⟩:=st _ σ H p;refine⟨s1,?_⟩;show(match rd M H v.1 with | some (.tup xs)=>xs.length=[i,j].length/\tb _ (eO σ [i,j] xs) H | _=>False);rw[ao (s2 v (Jg hv)) bG];exact⟨rfl,step n v σ H _ hv p fun σ' H' q=>ih (n + 1) hr hlt σ' H' q⟩
 exact go T 0 (by simp) (JZ _) σ H h0
theorem kZ {M:Mo} {H:Hp} {p:Addr} {xs:List V} {Q:VK} (h:H p=some (.lst xs)) (q:∀l,H l=none->M l=none->Q (.ref l) (upd H l (.lst xs))):eV M .list [.ref p] H Q:=by
 show(match rd M H p with
  | some (.lst xs)=>∀l,H l=none->M l=none->Q (.ref l) (upd H l (.lst xs))
  | some (.tup xs)=>∀l,H l=none->M l=none->Q (.ref l) (upd H l (.lst xs))
  | _=>False)
 rw[ao h ai];exact q
theorem y_ {M:Mo} {H:Hp} {p:Addr} {xs:List V} {Q:VK} (h:H p=some (.tup xs)) (q:∀l,H l=none->M l=none->Q (.ref l) (upd H l (.lst xs))):eV M .list [.ref p] H Q:=by
 show(match rd M H p with
  | some (.lst xs)=>∀l,H l=none->M l=none->Q (.ref l) (upd H l (.lst xs))
  | some (.tup xs)=>∀l,H l=none->M l=none->Q (.ref l) (upd H l (.lst xs))
  | _=>False)
 rw[ao h bG];exact q
theorem uC {M:Mo} {H:Hp} {p:Addr} {a b:Str} (h:H p=some (.tup [.str a,.str b])):(∀ {Q:VK},Q (.str a) H->cJ M (.ref p) (.int 0) H Q)/\∀ {Q:VK},Q (.str b) H->cJ M (.ref p) (.int 1) H Q:=by
 constructor
 ·intro Q q;rw[jF,ao h bG];exact q
 ·intro Q q;rw[jF,ao h bG];exact q
theorem append_at {M:Mo} {H:Hp} {p:Addr} {xs:List V} {v:V} {Q:VK} (h:H p=some (.lst xs)) (hl:xs.length < sizeLine) (q:Q .aD (upd H p (.lst (xs++[v])))):dj M .append (.ref p) [v] H Q:=by
 rw[Sw.qD,h];exact⟨hl,q⟩
structure IY (M:Mo) (H:Hp) (E:List Ent) (P0:List Pr) (f s d:Addr) (T:List Dr) (F:List Pr) (Hn:Hp):Prop where
 ext:Ext M H Hn
 fa:Hn f=some (.lst (refs F))
 sa:Hn s=some (.lst ((ends (ay F)).map V.str))
 da:Hn d=some (.lst (pM T))
 dr:bB Hn T
 pr:aB Hn P0
 Hj:aB Hn F
 gd:Good E F
 nd:(ends (ay F)).Nodup
noncomputable def oo (M:Mo):Sp:=fun vs H Q _=>∃w c ah dg E A,vs=[.ref w,.int c,.ref ah,.int dg]/\bU H w E/\rC (cont E)/\M w=none/\av H ah A/\Good E A/\(ends (ay A)).Nodup/\
 ∀H' q P,Ext M H H'->H q=none->M q=none->av H' q P->jw (ay P)->(ends (ay P)).Nodup->P.length<=10->Good E P->Q (.ref q) H'
theorem wD {L L':NV} (h:L.Perm L'):(ends L).Perm (ends L'):=by
 induction h with
 | nil=>exact .nil
 | cons x _ ih=>exact(ih.cons x.2).cons x.1
 | swap x y l=>exact List.perm_append_comm_assoc [y.1,y.2] [x.1,x.2] (ends l)
 | trans _ _ a b=>exact a.trans b
theorem zN {L:NV} {x:Str} (h:x ∈ ends L):∃y ∈ L,x=y.1\/x=y.2:=by
 unfold ends at h;obtain⟨l,hl,hx⟩:=Km.mp h;obtain⟨y,hy,rfl⟩:=Jf.mp hl;exact⟨y,hy,by simpa using hx⟩
theorem yQ {L:NV} {y:Str × Str} (h:y ∈ L):y.1 ∈ ends L/\y.2 ∈ ends L:=by
 unfold ends;constructor<;>exact Km.mpr ⟨_,Jf.mpr ⟨y,h,rfl⟩,by simp⟩
theorem fP:∀ {L:NV},(ends L).Nodup->L.Nodup
 | [],_=>.nil
 | x::r,h=>by
  have h:(x.1::x.2::ends r).Nodup:=h;rw[JN,JN]at h;exact JN.mpr ⟨fun z=>h.2.1 (yQ z).2,fP h.2.2⟩
theorem lC {E:List Ent} {F:List Pr} (ok:rC (cont E)) (b7:E.length<=20) (g:Good E F) (nd:(ends (ay F)).Nodup):F.length<=10:=by
 have:=zG (E:=E) nd fun x hx=>by
  obtain⟨y,hy,e⟩:=zN hx;obtain⟨z,hz,rfl⟩:=Jf.mp hy;have hb:z.2.2 ∈ E.map (·.1):=by rw[<-bJ];exact ok.cl z.2.1 z.2.2 (by rw[<-eE];exact(g z hz).2)
  have ha:z.2.1 ∈ E.map (·.1):=by rw[<-bJ];exact ok.cl z.2.2 z.2.1 (ok.sy _ _ (by rw[<-eE];exact(g z hz).2))
  rcases e with e | e
  ·rw[e];exact ha
  ·rw[e];exact hb
 rw[bc]at this;unfold ay at this;rw[Jb]at this;omega
theorem nv {Γ:bZ} {Ξ:XS} {D:Ends} {H Hn:Hp} {w ah q d:Addr} {E:List Ent} {P0 A:List Pr} {T:List Dr} {c dg:Int} {v6:Option V} (gc:Γ.cm=true) (x0:Ext Γ.mod H Hn) (hah:av Hn ah A) (gA:Good E A) (nA:(ends (ay A)).Nodup) (pr0:aB Hn P0) (gd:Good E P0) (ok:rC (cont E)) (b7:E.length<=20)
  (hd:Hn d=some (.lst (pM T))) (dr:bB Hn T) (sub:∀t ∈ T,t.2.2 ∈ P0)
  (h:∀H' q P,Ext Γ.mod H H'->H q=none->Γ.mod q=none->av H' q P->jw (ay P)->(ends (ay P)).Nodup->P.length<=10->Good E P->D.rt (.ref q) H'):
  wSs oh Γ Ξ D [some (.ref w),some (.int c),some (.ref ah),some (.int dg),some (.ref q),some (.ref d),v6,none,none,none] Hn:=by
 unfold oh;refine seq ?_;walk_at "s1";have fewA:A.length<=10:=lC ok b7 gA nA;refine⟨gc,kZ hah.at_ fun f hf mf=>?_⟩;have x1:Ext Γ.mod Hn (upd Hn f (.lst (refs A))):=Ext.upd hf mf;refine seq ?_;walk_at "s1";refine⟨by rw[Jm];simp,fun s hs ms=>?_⟩;have fs:f ≠ s:=fun z=>by subst z;rw[ae]at hs;cases hs
 have hs0:=x1.aD hs;have x2:Ext Γ.mod Hn (upd (upd Hn f (.lst (refs A))) s (.lst [])):=x1.b8 hs0 ms;have f2:upd (upd Hn f (.lst (refs A))) s (.lst []) f=some (.lst (refs A)):=by rw[af fs];exact ae
 have s2:upd (upd Hn f (.lst (refs A))) s (.lst []) s=some (.lst ((ends (ay (A.take 0))).map V.str)):=ae;generalize upd (upd Hn f (.lst (refs A))) s (.lst [])=H2 at x2 f2 s2;have fd:f ≠ d:=fun z=>by subst z;rw[hf]at hd;cases hd
 have sd:s ≠ d:=fun z=>by subst z;rw[hs0]at hd;cases hd
 refine seq ?_;walk_at "s1";refine⟨gc,bQ (ao (x2.same _ _ hah.at_) ai) ?_⟩;refine b_ (fun n σ Hk=>∃v6,σ=[some (.ref w),some (.int c),some (.ref ah),some (.int dg),some (.ref q),some (.ref d),v6,some (.ref f),some (.ref s),none]/\Ext Γ.mod Hn Hk/\Hk f=some (.lst (refs A))/\Hk s=some (.lst ((ends (ay (A.take n))).map V.str))) (fun n σ Hk z=>?_) (fun n v σ Hk D' hv pv nx ct _ _=>?_) (fun σ Hk pv=>?_) ⟨_,rfl,x2,f2,s2⟩
 ·obtain⟨_,_,z,_⟩:=z;exact ao (z.same _ _ hah.at_) ai
 ·obtain⟨v6,rfl,z1,z2,z3⟩:=pv;unfold refs at hv;rw[Jy]at hv;obtain⟨y,hy,rfl⟩:=JF.mp hv;have hyt:=z1.same _ _ (hah.cT y (Jg hy));have ln:=(Ju.mp hy).1;refine seq ?_;walk_at "s1";refine⟨dY z3,gc,y_ hyt fun u hu mu=>?_⟩;have us:u ≠ s:=fun e=>by subst e;rw[z3]at hu;cases hu
  have uf:u ≠ f:=fun e=>by subst e;rw[z2]at hu;cases hu
  refine eA (xs:=(ends (ay (A.take n))).map V.str) (ys:=[.str y.2.1,.str y.2.2]) (by rw[af us.symm];exact z3) ae (by rw[Jb,bc,Jm];unfold ay;rw[Jb,J7];simp;omega) ?_;refine bD (nx _ _ ⟨_,rfl,(z1.b8 (z1.aD hu) mu).b8 hs0 ms,by rw[af fs,af uf.symm];exact z2,?_⟩);rw[ae,L1,hy]
  have e2:ends (ay (A.take n++[y]))=ends (ay (A.take n))++[y.2.1]++[y.2.2]:=by
   unfold ay;rw[Jt];exact jm _ _ _
  show some (HO.lst _)=some (HO.lst ((ends (ay (A.take n++[y]))).map V.str));rw[e2,Jt,Jt,JD];rfl
 obtain⟨v6,rfl,x3,f3,s3⟩:=pv;rw[aJ,KD]at s3;refine seq ?_;walk_at "s1";refine⟨gc,bQ (ao (x3.same _ _ hd) ai) ?_⟩
 refine wx (fun n σ Hk=>∃v6 v9 F,σ=[some (.ref w),some (.int c),some (.ref ah),some (.int dg),some (.ref q),some (.ref d),v6,some (.ref f),some (.ref s),v9]/\IY Γ.mod H E P0 f s d T F Hk) (fun n σ Hk z=>?_) (fun n x σ Hk D' hx pv nx=>?_) (fun σ Hk pv=>?_)
  ⟨_,_,A,rfl,x0.trans x3,f3,s3,x3.same _ _ hd,bB.ext x3 dr,Ext.cT x3 pr0,Ext.cT x3 hah.cT,gA,nA⟩
 ·obtain⟨_,_,F,_,z⟩:=z;exact⟨ao z.da ai,z.dr⟩
 ·obtain⟨v6,v9,F,rfl,z⟩:=pv;have mx:x.2.2 ∈ P0:=sub x (Jg hx);obtain⟨t,i,y⟩:=x;have hy:=z.pr y mx;have gy:=gd y mx;have fewF:F.length<=10:=lC ok b7 z.gd z.nd;refine seq ?_;walk_at "s1";rw[Sw.v_mod];refine⟨by decide,?_⟩;rw[Sw.Ay];refine⟨_,rfl,?_⟩;have skip:=nx _ _ ⟨some (.ref y.1),some (.int i),F,rfl,z⟩
  by_cases g0:0 < i % 8
  ·rw[Jc (JP g0)];refine(uC hy).1 (qr (ao z.sa ai) ⟨_,rfl,?_⟩)
   by_cases g1:y.2.1 ∈ ends (ay F)
   ·rw[I_ (by simp[g1]),I_ (by decide)];exact m5 skip
   rw[Jc (by simp[g1])];refine(uC hy).2 (qr (ao z.sa ai) ⟨_,rfl,?_⟩)
   by_cases g2:y.2.2 ∈ ends (ay F)
   ·rw[I_ (by simp[g2])];exact m5 skip
   rw[Jc (by simp[g2])];refine seq ?_;walk_at "s1";refine⟨dY z.fa,append_at z.fa (by rw[aJ,Jm];omega) ?_⟩;have e1:refs F++[V.ref y.1]=refs (F++[y]):=cp F [y];rw[e1];have sa1:upd Hk f (.lst (refs (F++[y]))) s=some (.lst ((ends (ay F)).map V.str)):=by rw[af fs.symm];exact z.sa
   have hy1:upd Hk f (.lst (refs (F++[y]))) y.1=some (.tup [.str y.2.1,.str y.2.2]):=aB.upd z.pr z.fa y mx;refine seq ?_;walk_at "s1";refine⟨dY sa1,gc,y_ hy1 fun u hu mu=>?_⟩;have us:u ≠ s:=fun e=>by subst e;rw[sa1]at hu;cases hu
   have uf:u ≠ f:=fun e=>by subst e;rw[ae]at hu;cases hu
   have hu0:Hk u=none:=by rw[af uf]at hu;exact hu
   refine eA (xs:=(ends (ay F)).map V.str) (ys:=[.str y.2.1,.str y.2.2]) (by rw[af us.symm];exact sa1) ae (by rw[Jb,bc,Jm];unfold ay;rw[Jb];simp;omega) ?_
   have e2:ends (ay (F++[y]))=ends (ay F)++[y.2.1]++[y.2.2]:=by
    unfold ay;rw[Jt];exact jm _ _ _
   refine m5 (nx _ _ ⟨_,_,F++[y],rfl,?_,?_,?_,?_,?_,?_,?_,?_,?_⟩)
   ·exact((z.ext.b8 (x0.aD hf) mf).b8 (z.ext.aD hu0) mu).b8 (x0.aD hs0) ms
   ·rw[af fs,af uf.symm,ae]
   ·rw[ae,e2,Jt,Jt,JD];rfl
   ·rw[af sd.symm,af (fun e=>by subst e;rw[z.da]at hu0;cases hu0),af fd.symm];exact z.da
   ·exact bB.upd (bB.new (bB.upd z.dr z.fa) hu) (xs:=(ends (ay F)).map V.str) (by rw[af us.symm];exact sa1)
   ·exact aB.upd (aB.new (aB.upd z.pr z.fa) hu) (xs:=(ends (ay F)).map V.str) (by rw[af us.symm];exact sa1)
   ·refine aB.upd (aB.new (aB.upd (fun a ha=>?_) z.fa) hu) (xs:=(ends (ay F)).map V.str) (by rw[af us.symm];exact sa1);rcases Jx.mp ha with ha | ha
    ·exact z.Hj a ha
    ·rw[Jo.mp ha];exact hy
   ·intro a ha;rcases Jx.mp ha with ha | ha
    ·exact z.gd a ha
    ·rw[Jo.mp ha];exact gy
   ·rw[e2,JI,JI];refine⟨⟨z.nd,by simp,fun a ha b hb e=>g1 ?_⟩,by simp,fun a ha b hb e=>?_⟩
    ·rw[<-Jo.mp hb,<-e];exact ha
    ·rw[Jo.mp hb]at e;rcases Jx.mp ha with ha | ha
     ·exact g2 (by rw[<-e];exact ha)
     ·rw[Jo.mp ha]at e;have:=gy.1;rw[e]at this;exact b9.qO _ this
  ·rw[I_ (by rw[Kl];exact g0),I_ (by decide)];exact m5 skip
 ·obtain⟨v6,v9,F,rfl,z⟩:=pv;have gF:Good E F:=z.gd;have fewF:F.length<=10:=lC ok b7 gF z.nd;walk_at "sw";refine⟨gc,gC ⟨z.fa,z.Hj⟩ (fP z.nd) (by omega) fun P' g pm ris hg mg=>?_⟩;have g0:=z.ext.aD hg;refine h _ g P' (z.ext.b8 g0 mg) g0 mg ⟨ae,fun u hu=>?_⟩ ris ((wD (pm.map _)).nodup_iff.mpr z.nd) (by rw[pm.length_eq];omega) fun u hu=>gF u (pm.mem_iff.mp hu);have hu':=z.Hj u (pm.mem_iff.mp hu);rw[af (ag hu' hg)];exact hu'
theorem By {M:Mo} {Γ:bZ} (gm:Γ.mod=M) (gc:Γ.cm=true) (g1:Γ.has "_law_pairs" =true/\Γ.fn "_law_pairs" =jZ M) (g2:Γ.has "_law_mix" =true/\Γ.fn "_law_mix" =jB) (vs:List V) (H:Hp) (Q:VK) (X:XK) (h:oo M vs H Q X):eM Γ fK 4 fB vs H Q X:=by
 obtain⟨w,c,ah,dg,E,A,rfl,W,ok,mw,hah,gA,nA,h⟩:=h;refine⟨rfl,?_⟩;obtain rfl:=gm;unfold fB;refine seq ?_;walk_at "s1";refine⟨⟨gc,g1.1⟩,?_⟩;rw[g1.2];refine⟨w,E,rfl,W,mw,fun H1 q P0 x1 hq mq pa gd few0=>?_⟩;refine seq ?_;dsimp only[Sw.wS,Sw.wE,Sw.wEs,Sw.wTs,Sw.wI,Sw.vars,Sw.gM,Sw.gL,Sw.gH,Sw.gG,Sw.gJ,Sw.gI,Sw.gO,Sw.gN,Sw.gK,L2.start,Sw.jg,Sw.jf,Sw.je,Sw.jd,Nat.reduceAdd,Nat.reduceSub];refine⟨gc,gc,gc,cZ (ao pa.at_ ai) ?_⟩;dsimp only;rw[aJ];refine⟨by omega,by omega,fun D hD mD=>?_⟩;rw[show((P0.length:Int)).toNat=P0.length from rfl];have xD:Ext Γ.mod H1 (upd H1 D (.lst [])):=Ext.upd hD mD
 refine fu (fun m acc Hm=>∃T:List Dr,acc=pM T/\Hm D=some (.lst (pM T))/\bB Hm T/\Ext Γ.mod H1 Hm/\(∀ t ∈ T,t.2.2 ∈ P0)/\T.length<=m) (fun m acc Hm z=>?_) (fun m v acc Hm K hv pv nx2=>?_) (fun acc Hm pv=>?_)
  ⟨[],rfl,ae,fun x hx=>by (cases hx),xD,fun x hx=>by (cases hx),by simp⟩
 ·obtain⟨T,rfl,z1,_⟩:=z;exact⟨trivial,z1⟩
 ·obtain⟨T,rfl,z1,z2,z3,z4,z5⟩:=pv;obtain⟨k1,rfl⟩:=cP hv;walk_at "s1";rw[Jc rfl];refine⟨⟨gc,g2.1⟩,?_⟩;rw[Sw.v_add,g2.2];refine⟨c,_,rfl,by omega,by omega,fun z _ z0 z1'=>?_⟩;obtain⟨v,e1,e2⟩:=pC (xs:=refs P0) (i:=(m:Int)) (by omega) (by rw[aJ];omega);obtain⟨x,hx,rfl⟩:=Jf.mp e2;refine iJ (ao (z3.same _ _ pa.at_) ai) e1 ?_;refine⟨by rw[Jm];simp,fun t ht mt=>⟨?_,?_,nx2 _ _ ⟨T++[(t,z,x)],?_,?_,?_,?_,?_,?_⟩⟩⟩
  ·rw[af (ag z1 ht)];exact z1
  ·rw[uQ,Jm];omega
  ·rw[<-o5];rfl
  ·rw[ae,<-o5];rfl
  ·exact bB.upd (xs:=pM T) (bB.snoc (bB.new z2 ht) ae) (by rw[af (ag z1 ht)];exact z1)
  ·exact(z3.b8 (z3.aD ht) mt).b8 hD mD
  ·intro a ha;rcases Jx.mp ha with ha | ha
   ·exact z4 a ha
   ·rw[Jo.mp ha];exact hx
  ·rw[Jl];simp;omega
 ·obtain⟨T,rfl,z1,z2,z3,z4,z5⟩:=pv;refine r6 z1 z2 (Ext.cT z3 pa.cT) z4 fun T' b pm hb mb=>?_;have hb1:=z3.aD hb;have x2:=x1.trans (z3.b8 (o:=.lst (pM T')) hb1 mb);have xx:=z3.b8 (o:=.lst (pM T')) hb1 mb;refine seq ?_;walk_at "s1";rw[Sw.v_mod];refine⟨by decide,?_⟩;rw[Sw.jy];refine⟨_,rfl,?_⟩
  by_cases od:dg % 2=1
  ·rw[Jc (JP od)];refine seq ?_;walk_at "s1";refine⟨by rw[Jm];simp,fun d hd md=>?_⟩;have hd1:=xx.aD hd;have x3:=xx.b8 (o:=.lst []) hd1 md;refine seq ?_;walk_at "s1";refine⟨gc,bQ (ao (x3.same _ _ pa.at_) ai) ?_⟩
   refine b_ (fun n σ Hk=>∃v6 c' T,σ=[some (.ref w),some (.int c'),some (.ref ah),some (.int dg),some (.ref q),some (.ref d),v6,none,none,none]/\Ext Γ.mod H1 Hk/\Hk d=some (.lst (pM T))/\bB Hk T/\(∀ t ∈ T,t.2.2 ∈ P0)/\T.length<=n) (fun n σ Hk z=>?_) (fun n v σ Hk D' hv pv nx ct _ _=>?_) (fun σ Hk pv=>?_)
    ⟨none,c,[],rfl,x3,ae,fun x hx=>by (cases hx),fun x hx=>by (cases hx),by simp⟩
   ·obtain⟨_,_,_,_,z,_⟩:=z;exact ao (z.same _ _ pa.at_) ai
   ·obtain⟨v6,c',T,rfl,y1,y2,y3,y4,y5⟩:=pv;obtain⟨x,hx,rfl⟩:=Jf.mp (Jg hv);obtain⟨hn,_⟩:=Ju.mp hv;rw[aJ]at hn;refine seq ?_;walk_at "s1";refine⟨dY y2,?_⟩;rw[Sw.v_mod];refine⟨by decide,by rw[Jm];simp,fun t ht mt=>?_⟩;have y2':upd Hk t (.tup [.int (c' % 2),.ref x.1]) d=some (.lst (pM T)):=by rw[af (ag y2 ht)];exact y2
    refine append_at y2' (by rw[uQ,Jm];omega) ?_;refine seq ?_;walk_at "s1";rw[Sw.v_div];refine⟨by decide,by decide,?_⟩;refine bD (nx _ _ ⟨_,_,T++[(t,c' % 2,x)],rfl,(y1.b8 (y1.aD ht) mt).b8 hd1 md,?_,?_,?_,?_⟩)
    ·rw[ae,<-o5];rfl
    ·exact bB.upd (xs:=pM T) (bB.snoc (bB.new y3 ht) ae) y2'
    ·intro a ha;rcases Jx.mp ha with ha | ha
     ·exact y4 a ha
     ·rw[Jo.mp ha];exact hx
    ·rw[Jl];simp;omega
   ·obtain⟨v6,c',T,rfl,y1,y2,y3,y4,y5⟩:=pv;dsimp only;refine bD ?_;exact nv gc (x1.trans y1) (Ext.bz y1 (Ext.bz x1 hah)) gA nA (Ext.cT y1 pa.cT) gd ok W.b7 y2 y3 y4 h
  ·rw[I_ (by rw[Kl];exact od)];refine bD ?_;exact nv gc x2 (Ext.bz xx (Ext.bz x1 hah)) gA nA (Ext.cT xx pa.cT) gd ok W.b7 ae (fun t ht=>bB.new z2 hb t (pm.mem_iff.mp ht)) (fun t ht=>z4 t (pm.mem_iff.mp ht)) h
noncomputable def pd (x:Str × Str):PyData:=.tuple [.str x.1,.str x.2]
theorem zJ (x y:Str × Str):PyData.eqv (pd x) (pd y)=decide (x=y):=by
 unfold pd;simp only[PyData.eqv,PyData.eqvAll,Bool.and_true];obtain⟨a,b⟩:=x;obtain⟨c,d⟩:=y
 by_cases h1:a=c
 ·by_cases h2:b=d
  ·simp[h1,h2]
  ·simp[h1,h2]
 ·simp[h1]
theorem uN:∀L L':NV,PyData.eqvAll (L.map pd) (L'.map pd)=decide (L=L')
 | [],[]=>by simp[PyData.eqvAll]
 | x::r,[]=>by simp[PyData.eqvAll]
 | [],y::r'=>by simp[PyData.eqvAll]
 | x::r,y::r'=>by
  rw[JA,JA];simp only[PyData.eqvAll];rw[zJ,uN r r']
  by_cases h1:x=y
  ·by_cases h2:r=r'
   ·simp[h1,h2]
   ·simp[h1,h2]
  ·simp[h1]
theorem wB (L L':NV):PyData.eqv (.list (L.map pd)) (.list (L'.map pd))=decide (L=L'):=by
 simp only[PyData.eqv];exact uN L L'
open PySem
theorem uM:∀ (l acc:List Str),(l.foldl PySem.Sg.putIn acc).length<=acc.length + l.length
 | [],acc=>by simp
 | x::r,acc=>by
  rw[LS];have:=uM r (PySem.Sg.putIn acc x);have:=PySem.Sg.nq acc x;rw[JW];omega
theorem nL:∀ (l acc:List Str),acc.Nodup->((l.foldl PySem.Sg.putIn acc).length=acc.length + l.length ↔ (acc++l).Nodup)
 | [],acc,nd=>by simpa using nd
 | x::r,acc,nd=>by
  rw[LS]
  by_cases h:x ∈ acc
  ·have e:PySem.Sg.putIn acc x=acc:=by unfold PySem.Sg.putIn;rw[Jc h]
   rw[e];have:=uM r acc;constructor
   ·intro z;rw[JW]at z;omega
   ·intro z;rw[JI]at z;exact absurd rfl (z.2.2 x h x Jj)
  ·have e:PySem.Sg.putIn acc x=acc++[x]:=by unfold PySem.Sg.putIn;rw[I_ h]
   rw[e]
   have nd2:(acc++[x]).Nodup:=by
    rw[JI];exact⟨nd,by simp,fun a ha b hb z=>h (by rw[<-Jo.mp hb,<-z];exact ha)⟩
   have ih:=nL r (acc++[x]) nd2;rw[JD,List.singleton_append]at ih;rw[<-ih,Jl,JW];simp;omega
theorem BE (ts:List Str):(PySem.Sg.iE (fun i=>ts.getD i ⟨#[]⟩) ts.length).length=ts.length ↔ ts.Nodup:=by
 have e:(List.range ts.length).map (fun i=>ts.getD i ⟨#[]⟩)=ts:=by
  apply List.ext_getElem (by simp);intro i h1 h2;simp[Je h2]
 unfold PySem.Sg.iE;rw[e];have:=nL ts [] .nil;simpa using this
theorem BJ {M:Mo} {H:Hp} {p:Addr} {ts:List Str} {Q:VK} (h:H p=some (.lst (ts.map V.str))) (b7:ts.length + 1 < scanBound) (q:∀n:Int,(n=ts.length ↔ ts.Nodup)->Q (.int n) H):qI M (.ref p) H Q:=by
 show(match rd M H p with
  | some (.lst xs)=>(match allM iW xs with
   | some ts=>ts.length + 1 < scanBound/\Q (.int (PySem.Sg.iE (fun i=>ts.getD i ⟨#[]⟩) ts.length).length) H
   | none=>False)
  | _=>False)
 rw[ao h ai];dsimp only
 have e:allM iW (ts.map V.str)=some ts:=by
  have:=allM_map (f:=iW) (g:=V.str) (k:=id) (l:=ts) fun _ _=>rfl;rw[NO]at this;exact this
 rw[e];refine⟨b7,q _ ?_⟩;rw[<-BE ts];omega
theorem f_ {M:Mo} {H:Hp} {p:Addr} {P:List Pr} (h:av H p P) (n:Nat):data M H (n + 2) (.ref p)=some (.list ((ay P).map pd)):=by
 unfold Sw.data;rw[ao h.at_ ai];dsimp only;unfold refs;rw[allM_map (k:=fun x:Pr=>PyData.tuple [.str x.2.1,.str x.2.2]) fun x hx=>?_]
 ·unfold ay;rw[JL];rfl
 ·unfold Sw.data;rw[ao (h.cT x hx) bG];show(allM (Sw.data M H n) ([x.2.1,x.2.2].map V.str)).map PyData.tuple=_;rw[allM_map (k:=PyData.str) fun x _=>iR n x];rfl
theorem zK {M:Mo} {H:Hp} {p q:Addr} {P R:List Pr} {Q:VK} (a:av H p P) (b:av H q R) (h:Q (.bl (decide (ay P=ay R))) H):cC M .Eq (.ref p) (.ref q) H Q:=by
 show if gE (.ref p) (.ref q)=true then Q (.bl (decide (V.ref p=V.ref q))) H else(match data M H 16 (.ref p),data M H 16 (.ref q)with | some d,some e=>Q (.bl (PyData.eqv d e)) H | _,_=>False)
 rw[AS,I_ (by decide),f_ a 14,f_ b 14];dsimp only;rw[wB];exact h
theorem FO {M:Mo} {H:Hp} {p:Addr} {ns:List Str} {x:Str} {Q:VK} (h:rd M H p=some (.lst (ns.map V.str))) (q:Q (.bl (decide (x ∈ ns))) H):cC M .In (.str x) (.ref p) H Q:=by
 show(match rd M H p with
  | some (.lst xs)=>bb (V.str x)=true/\xs.all bb=true/\Q (.bl (qQ (.str x) xs)) H
  | some (.tup xs)=>bb (V.str x)=true/\xs.all bb=true/\Q (.bl (qQ (.str x) xs)) H
  | _=>False)
 rw[h];exact⟨rfl,nM ns,by rw[qP];exact q⟩
noncomputable def pL (a b:Str):Str × Str:=(Gr.mn slt a b,if slt a b then b else a)
theorem rT {a b:Str} (h:slt a b):pL a b=(a,b):=by
 unfold pL Gr.mn;rw[I_ (fun z=>b9.rB h z),Jc h]
theorem rV {a b:Str} (h:slt b a):pL a b=(b,a):=by
 unfold pL Gr.mn;rw[Jc h,I_ (fun z=>b9.rB h z)]
noncomputable def On (v:Str) (x:Str × Str):Prop:=v=x.1\/v=x.2
theorem oF {a b v:Str} (n:a ≠ b):On v (pL a b) ↔ v=a\/v=b:=by
 rcases b9.C3 a b n with h | h
 ·rw[rT h];exact Iff.rfl
 ·rw[rV h];exact or_comm
theorem AD {a b c d:Str} (n:a ≠ b) (m:c ≠ d) (e:pL a b=pL c d):(a=c/\b=d)\/(a=d/\b=c):=by
 have h1:=(oF m (v:=a)).mp (e ▸ (oF n).mpr (.inl rfl));have h2:=(oF m (v:=b)).mp (e ▸ (oF n).mpr (.inr rfl));rcases h1 with h1 | h1
 ·rcases h2 with h2 | h2
  ·exact absurd (h1.trans h2.symm) n
  ·exact .inl ⟨h1,h2⟩
 ·rcases h2 with h2 | h2
  ·exact .inr ⟨h1,h2⟩
  ·exact absurd (h1.trans h2.symm) n
noncomputable def ar (R:List Str):NV:=(R.zip R.tail).map fun p=>pL p.1 p.2
section
variable {E:List Ent} {L:NV} {R:List Str}
noncomputable def HR (R:List Str):NV:=ar R++[pL (R.getLastD ⟨#[]⟩) (R.headD ⟨#[]⟩)]
theorem BO (h:R ≠ []):R[R.length - 1]?=some (R.getLastD ⟨#[]⟩):=by
 rw[<-Mk];cases R with
 | nil=>exact absurd rfl h
 | cons x r=>rw[Nt];rfl
end
theorem o7 {M:Mo} {H:Hp} {t:Addr} {a b:Str} (h:H t=some (.tup [.str a,.str b])) (n:Nat):data M H (n + 1) (.ref t)=some (pd (a,b)):=by
 unfold Sw.data;rw[ao h bG];show(allM (Sw.data M H n) ([a,b].map V.str)).map PyData.tuple=_;rw[allM_map (k:=PyData.str) fun x _=>iR n x];rfl
theorem q_ {M:Mo} {H:Hp} {P:List Pr} (h:aB H P) (n:Nat):allM (data M H (n + 1)) (refs P)=some ((ay P).map pd):=by
 unfold refs ay;rw[JL];exact allM_map (k:=fun x:Pr=>pd x.2) fun x hx=>o7 (h x hx) n
theorem zZ (L:NV) (x:Str × Str):(L.map pd).any (fun e=>PyData.eqv e (pd x))=decide (x ∈ L):=by
 induction L with
 | nil=>rfl
 | cons y r ih=>
  rw[JA,Lz,ih,zJ]
  by_cases e:y=x
  ·subst e;simp
  ·have:x ≠ y:=fun z=>e z.symm;simp[e,this]
theorem GL {M:Mo} {H:Hp} {p t:Addr} {P:List Pr} {a b:Str} {Q:VK} (hp:av H p P) (ht:H t=some (.tup [.str a,.str b])) (q:Q (.bl (decide ((a,b) ∈ ay P))) H):jH M .In (.ref t) (.ref p) H Q:=by
 unfold jH;dsimp only;rw[ao hp.at_ ai];dsimp only;rw[o7 ht 7,q_ hp.cT 7];dsimp only;rw[zZ];exact q
theorem sG {M:Mo} {H:Hp} {p t:Addr} {P:List Pr} {a b:Str} {Q:VK} (hp:av H p P) (ht:H t=some (.tup [.str a,.str b])) (q:Q (.bl (!decide ((a,b) ∈ ay P))) H):jH M .NotIn (.ref t) (.ref p) H Q:=by
 unfold jH;dsimp only;rw[ao hp.at_ ai];dsimp only;rw[o7 ht 7,q_ hp.cT 7];dsimp only;rw[zZ];exact q
noncomputable def wQ (wd:Str) (R:List Str):NV:=if wd=Str.ofString "ring" then HR R else ar R
theorem HS (R:List Str):eB (R.map V.str) (some 1) none=R.tail.map V.str:=by
 unfold eB HT.cz;dsimp only;rw[I_ (by decide)];cases R with
 | nil=>rfl
 | cons x r=>
  simp;exact K4 (by simp)
theorem uD {M:Mo} {H:Hp} {c:Addr} {R:List Str} {Q:VK} (h:rd M H c=some (.lst (R.map V.str))) (ne:R ≠ []) (q:Q (.str (R.getLastD ⟨#[]⟩)) H):cJ M (.ref c) (.int (-1)) H Q:=by
 refine iJ h (v:=.str (R.getLastD ⟨#[]⟩)) ?_ q;have l:0 < R.length:=List.length_pos_iff.mpr ne;unfold lL oX;rw[I_ (by decide),Jc (by rw[Jb];omega),Jb];show(R.map V.str)[(-1 + (R.length:Int)).toNat]?=_;rw[show(-1 + (R.length:Int)).toNat=R.length - 1 by omega,Jy,BO ne];rfl
theorem j_ {M:Mo} {H:Hp} {c:Addr} {R:List Str} {Q:VK} (h:rd M H c=some (.lst (R.map V.str))) (ne:R ≠ []) (q:Q (.str (R.headD ⟨#[]⟩)) H):cJ M (.ref c) (.int 0) H Q:=by
 refine iJ h (v:=.str (R.headD ⟨#[]⟩)) ?_ q;cases R with
 | nil=>exact absurd rfl ne
 | cons x r=>
  unfold lL oX;simp
theorem Ao:∀ (R S:List Str) (m:Nat) (v:V × V),((R.map V.str).zip (S.map V.str))[m]?=some v->∃a b,(R.zip S)[m]?=some (a,b)/\v=(.str a,.str b):=fun R S m v h=>by
 rw[List.zip_map,Jy]at h;obtain⟨p,hp,rfl⟩:=JF.mp h;exact⟨p.1,p.2,hp,rfl⟩
theorem eC {te:TE} {tt:TT} {fvs:L2.St} {D:Addr} {aq:Hp->Prop} {k:Hp->Prop} {H0:Hp} {A:NV}:∀ (P:List Pr) (acc:List V),(∀ l,aq (upd H0 D (.lst l)))->
  (∀ x ∈ P,∀acc R,R (!decide (x.2 ∈ A)) (upd H0 D (.lst acc))->tt (some (.ref x.1)::fvs) (upd H0 D (.lst acc)) R)->(∀ x ∈ P,∀acc Q,Q (.ref x.1) (upd H0 D (.lst acc))->te (some (.ref x.1)::fvs) (upd H0 D (.lst acc)) Q)->acc.length + P.length<=1000->
  k (upd H0 D (.lst (acc++refs (P.filter fun x=>!decide (x.2 ∈ A)))))->dB te tt fvs D aq (refs P) acc (upd H0 D (.lst acc)) k
 | [],acc,st,_,_,_,q=>⟨st _,ae,by simpa[refs]using q⟩
 | x::P,acc,st,ht,he,hl,q=>by
  rw[JW]at hl;refine⟨st _,ht x Jj acc _ ?_⟩
  by_cases m:x.2 ∈ A
  ·rw[I_ (by simp[m])];refine eC P acc st (fun y hy=>ht y (Ji _ hy)) (fun y hy=>he y (Ji _ hy)) (by omega) ?_;rw[List.filter_cons_of_neg (by simp[m])]at q;exact q
  ·rw[Jc (by simp[m])];refine he x Jj acc _ ⟨ae,by rw[Jm];omega,?_⟩;rw[dq];refine eC P _ st (fun y hy=>ht y (Ji _ hy)) (fun y hy=>he y (Ji _ hy)) (by rw[Jl];simp;omega) ?_;rw[List.filter_cons_of_pos (by simp[m])]at q;rw[JD];exact q
theorem iN (P:List Pr) (A:NV):ay (P.filter fun x=>!decide (x.2 ∈ A))=(ay P).filter fun x=>!decide (x ∈ A):=by
 unfold ay;rw[List.filter_map];rfl
theorem vR {M:Mo} {H:Hp} {Q:VK} {R S:List Str} (k:∀H' l Z,Ext M H H'->H l=none->M l=none->av H' l Z->ay Z=R.zip S->Q (.ref l) H'):oC M ((R.map V.str).zip (S.map V.str)) H Q:=by
 intro H' l ts hl ht old off nl ml at_;rw[List.zip_map,Jb]at hl
 have e1:refs (ts.zip (R.zip S))=ts.map V.ref:=by
  unfold refs;have:(ts.zip (R.zip S)).map (fun x=>V.ref x.1)=((ts.zip (R.zip S)).map (·.1)).map V.ref:=by rw[JL];rfl
  rw[this,List.map_fst_zip (by omega)]
 refine k H' l (ts.zip (R.zip S)) ⟨old,off⟩ nl ml ⟨by rw[e1];exact at_,fun x hx=>?_⟩ ?_
 ·obtain⟨j,hj⟩:=L7.mp hx;obtain⟨t,a,b⟩:=x;obtain⟨h1,h2⟩:=Mj.mp hj;obtain⟨_,_,x,y,g1,g2⟩:=ht j t h1;obtain⟨a',b',g3,g4⟩:=Ao R S j (x,y) g1;rw[h2]at g3;cases g3
  cases g4
  exact g2
 ·unfold ay;exact List.map_snd_zip (by omega)
theorem xP (l:NV) (x:Str):bR (sK l) (.inr x)=(l.lookup x).map V.str:=hZ (fun s=>V.str s) l x
theorem jo {M:Mo} {H:Hp} {p:Addr} {ns:List Str} (h:rd M H p=some (.lst (ns.map V.str))) (n:Nat):data M H (n + 1) (.ref p)=some (.list (ns.map PyData.str)):=by
 unfold Sw.data;rw[h];dsimp only;rw[allM_map (k:=PyData.str) fun x _=>iR n x];rfl
end Gk
namespace Wk
variable {α:Type} [DecidableEq α]
structure rJ (f:α->Option α):Prop where
 sym:∀x y,f x=some y->f y=some x
 qO:∀x,f x ≠ some x
noncomputable def T (f g:α->Option α) (k:Nat):α->Option α:=if k % 2=0 then f else g
theorem dC {f g:α->Option α} (F:rJ f) (G:rJ g) (k:Nat):rJ (T f g k):=by
 unfold T;split<;>assumption
theorem jJ {f g:α->Option α} {i j:Nat} (h:i % 2=j % 2):T f g i=T f g j:=by unfold T;rw[h]
structure Row (f g:α->Option α) (c:List α):Prop where
 nd:c.Nodup
 go:∀ (k:Nat) (x y:α),c[k]?=some x->c[k + 1]?=some y->T f g k x=some y
theorem inj {c:List α} (h:c.Nodup) {i j:Nat} {x:α} (hi:c[i]?=some x) (hj:c[j]?=some x):i=j:=by
 obtain⟨h1,_⟩:=Ju.mp hi;exact(List.getElem?_inj h1 h).mp (hi.trans hj.symm)
theorem Bw {f g:α->Option α} (s:α):Row f g [s]:=⟨by simp,fun k x y h1 h2=>by cases k<;>simp at h2⟩
theorem Row.next {f g:α->Option α} {c:List α} {l y s:α} (F:rJ f) (G:rJ g) (R:Row f g c) {n:Nat} (hn:c.length=n + 1) (hl:c[n]?=some l) (h0:c[0]?=some s) (hy:T f g n l=some y) (ne:y ≠ s):y ∉ c:=by
 intro hm;obtain⟨i,hi,e⟩:=J0.mp hm;have ei:c[i]?=some y:=by rw[Je hi,e]
 have back:=(dC F G n).sym _ _ hy;cases i with
 | zero=>rw[h0]at ei;exact ne (JE ei).symm
 | succ i=>
  obtain⟨x,ex⟩:∃x,c[i]?=some x:=⟨_,Je (by omega)⟩;have l1:=R.go i x y ex ei
  by_cases p:n % 2=i % 2
  ·rw[jJ p,(dC F G i).sym _ _ l1]at back;cases back
   have:=inj R.nd ex hl;omega
  ·by_cases q:i + 1=n
   ·subst q;rw[ei]at hl;cases hl
    exact(dC F G _).qO _ hy
   ·obtain⟨z,ez⟩:∃z,c[i + 1 + 1]?=some z:=⟨_,Je (by omega)⟩;have l2:=R.go (i + 1) y z ei ez;rw[jJ (j:=i + 1) (by omega),l2]at back;cases back
    have:=inj R.nd ez hl;omega
theorem Row.snoc {f g:α->Option α} {c:List α} {l y:α} (R:Row f g c) {n:Nat} (hn:c.length=n + 1) (hl:c[n]?=some l) (hy:T f g n l=some y) (hc:y ∉ c):Row f g (c++[y]):=by
 refine⟨JI.mpr ⟨R.nd,by simp,fun a ha b hb=>?_⟩,fun k x z h1 h2=>?_⟩
 ·rw[Jo.mp hb];exact fun e=>hc (e ▸ ha)
 ·by_cases q:k + 1 < c.length
  ·rw[JH (by omega)]at h1 h2;exact R.go k x z h1 h2
  ·have hk:k + 1 < (c++[y]).length:=(Ju.mp h2).1;rw[Jl]at hk;have e:k=n:=by simp at hk;omega
   subst e;rw[JH (by omega),hl]at h1;cases h1
   rw[JY (by omega),hn]at h2;simp at h2;rw[<-h2];exact hy
structure Done (f g:α->Option α) (s:α) (c:List α):Prop extends Row f g c where
 ne:c ≠ []
 st:c[0]?=some s
 en:∀n l,c.length=n + 1->c[n]?=some l->T f g n l=none\/T f g n l=some s
theorem Done.len {f g:α->Option α} {s:α} {c:List α} (d:Done f g s c):∃n l,c.length=n + 1/\c[n]?=some l:=by
 cases h:c.length with
 | zero=>exact absurd (NL.mp h) d.ne
 | succ n=>exact⟨n,_,rfl,Je (by omega)⟩
theorem Done.row {f g:α->Option α} {s:α} {c:List α} (F:rJ f) (G:rJ g) (d:Done f g s c) (h:g s=none) {n:Nat} {l:α} (hn:c.length=n + 1) (hl:c[n]?=some l):T f g n l=none:=by
 rcases d.en n l hn hl with e | e
 ·exact e
 ·exfalso;have back:=(dC F G n).sym _ _ e
  by_cases p:n % 2=0
  ·rw[jJ (j:=0) p]at back;cases n with
   | zero=>
    rw[d.st]at hl;cases hl;exact(dC F G 0).qO _ e
   | succ n=>
    obtain⟨y,ey⟩:∃y,c[0 + 1]?=some y:=⟨_,Je (by omega)⟩;have:=d.go 0 s y d.st ey;rw[back]at this;cases this
    have:=inj d.nd ey hl;omega
  ·rw[jJ (j:=1) (by omega)]at back;unfold T at back;rw[I_ (by decide),h]at back;cases back
theorem Done.ring {f g:α->Option α} {s:α} {c:List α} (F:rJ f) (G:rJ g) (fg:∀x y,f x=some y->g x ≠ some y) (d:Done f g s c) {n:Nat} {l:α} (hn:c.length=n + 1) (hl:c[n]?=some l) (e:T f g n l=some s):n % 2=1/\3<=n/\g l=some s:=by
 have back:=(dC F G n).sym _ _ e
 have odd:n % 2=1:=by
  by_cases p:n % 2=0
  ·exfalso;rw[jJ (j:=0) p]at back;cases n with
   | zero=>
    rw[d.st]at hl;cases hl;exact(dC F G 0).qO _ e
   | succ n=>
    obtain⟨y,ey⟩:∃y,c[0 + 1]?=some y:=⟨_,Je (by omega)⟩;have:=d.go 0 s y d.st ey;rw[back]at this;cases this
    have:=inj d.nd ey hl;omega
  ·omega
 rw[jJ (j:=1) odd]at e back;unfold T at e back;rw[I_ (by decide)]at e back;refine⟨odd,?_,e⟩
 by_cases q:n=1
 ·subst q;have:=d.go 0 s l d.st hl;unfold T at this;rw[Jc rfl]at this;exact absurd back (fg _ _ this)
 ·omega
theorem Done.closed {f g:α->Option α} {s:α} {c:List α} (F:rJ f) (G:rJ g) (d:Done f g s c) (hs:g s=none\/∃n l,c.length=n + 1/\c[n]?=some l/\g l=some s/\n % 2=1) {x y:α} (hx:x ∈ c) (h:f x=some y\/g x=some y):y ∈ c:=by
 obtain⟨i,hi,e⟩:=J0.mp hx;have ei:c[i]?=some x:=by rw[Je hi,e]
 obtain⟨n,l,hn,hl⟩:=d.len
 -- one of the two links of the i-th
 have fwd:∀y,T f g i x=some y->y ∈ c:=fun y hy=>by
  by_cases q:i=n
  ·subst q;rcases d.en i x hn ei with z | z
   ·rw[z]at hy;cases hy
   ·rw[z]at hy;cases hy;exact Jg d.st
  ·obtain⟨z,ez⟩:∃z,c[i + 1]?=some z:=⟨_,Je (by omega)⟩;have:=d.go i x z ei ez;rw[this]at hy;cases hy;exact Jg ez
 have bwd:∀y,T f g (i + 1) x=some y->y ∈ c:=fun y hy=>by
  cases i with
  | zero=>
   rw[d.st]at ei;cases ei;unfold T at hy;rw[I_ (by decide)]at hy;rcases hs with z | ⟨n',l',h1,h2,z,_⟩
   ·rw[z]at hy;cases hy
   ·have:=G.sym _ _ z;rw[this]at hy;cases hy;exact Jg h2
  | succ i=>
   obtain⟨z,ez⟩:∃z,c[i]?=some z:=⟨_,Je (by omega)⟩;have:=(dC F G i).sym _ _ (d.go i z x ez ei);rw[jJ (j:=i) (by omega),this]at hy;cases hy
   exact Jg ez
 by_cases p:i % 2=0
 ·rcases h with h | h
  ·exact fwd y (by unfold T;rw[Jc p];exact h)
  ·exact bwd y (by unfold T;rw[I_ (by omega)];exact h)
 ·rcases h with h | h
  ·exact bwd y (by unfold T;rw[Jc (by omega)];exact h)
  ·exact fwd y (by unfold T;rw[I_ p];exact h)
variable {α:Type} [DecidableEq α]
structure tH (f g:α->Option α):Prop where
 F:rJ f
 G:rJ g
 fg:∀x y,f x=some y->g x ≠ some y
theorem tH.swap {f g:α->Option α} (t:tH f g):tH g f:=⟨t.G,t.F,fun x y h z=>t.fg x y z h⟩
structure lV (f g:α->Option α) (p:Bool × List α):Prop where
 row:∃s,(Done f g s p.2/\f s ≠ none)\/(p.1=false/\Done g f s p.2/\f s=none/\g s ≠ none)
 Ai:p.1=true->∃s n l,Done f g s p.2/\p.2.length=n + 1/\p.2[n]?=some l/\n % 2=1/\3<=n/\g l=some s
 GH:p.1=false->∃s,p.2[0]?=some s/\((Done f g s p.2/\f s ≠ none/\g s=none)\/(Done g f s p.2/\f s=none/\g s ≠ none))
structure fJ (f g:α->Option α) (P:List (Bool × List α)):Prop where
 ok:∀p ∈ P,lV f g p
 nd:((P.map (·.2)).flatten).Nodup
 cl:∀x ∈ (P.map (·.2)).flatten,∀y,f x=some y\/g x=some y->y ∈ (P.map (·.2)).flatten
theorem vq {f g:α->Option α}:fJ f g []:=⟨fun p h=>(nomatch h),by simp,fun x h=>(nomatch h)⟩
theorem Done.off {f g:α->Option α} {s:α} {c:List α} {U:List α} (t:tH f g) (d:Done f g s c) (cl:∀x ∈ U,∀y,f x=some y\/g x=some y->y ∈ U) (hs:s ∉ U):∀x ∈ c,x ∉ U:=by
 intro x hx hu;obtain⟨i,hi,e⟩:=J0.mp hx;have ei:c[i]?=some x:=by rw[Je hi,e]
 clear hx hi e
 induction i generalizing x with
 | zero=>rw[d.st]at ei;cases ei;exact hs hu
 | succ i ih=>
  obtain⟨z,ez⟩:∃z,c[i]?=some z:=⟨_,Je (by have:=(Ju.mp ei).1;omega)⟩;have l:=(dC t.F t.G i).sym _ _ (d.go i z x ez ei);refine ih z (cl x hu z ?_) ez;unfold T at l;split at l
  ·exact .inl l
  ·exact .inr l
theorem d_ (P:List (Bool × List α)) (p:Bool × List α):((P++[p]).map (·.2)).flatten=(P.map (·.2)).flatten++p.2:=by simp
theorem fJ.row {f g:α->Option α} {P:List (Bool × List α)} {s:α} {c:List α} (t:tH f g) (S:fJ f g P) (hs:s ∉ (P.map (·.2)).flatten) (h:(Done f g s c/\f s ≠ none/\g s=none)\/(Done g f s c/\f s=none/\g s ≠ none)):fJ f g (P++[(false,c)]):=by
 have st:c[0]?=some s:=h.elim (fun h=>h.1.st) (fun h=>h.1.st);have nd:c.Nodup:=h.elim (fun h=>h.1.nd) (fun h=>h.1.nd)
 have cl:∀x ∈ c,∀y,f x=some y\/g x=some y->y ∈ c:=by
  rcases h with h | h
  ·exact fun x hx y hy=>h.1.closed t.F t.G (.inl h.2.2) hx hy
  ·exact fun x hx y hy=>h.1.closed t.G t.F (.inl h.2.1) hx hy.symm
 have off:∀x ∈ c,x ∉ (P.map (·.2)).flatten:=by
  rcases h with h | h
  ·exact h.1.off t S.cl hs
  ·exact h.1.off t.swap (fun x hx y hy=>S.cl x hx y hy.symm) hs
 refine⟨fun p hp=>?_,?_,?_⟩
 ·rcases Jx.mp hp with hp | hp
  ·exact S.ok p hp
  ·rw[Jo.mp hp];refine⟨⟨s,?_⟩,fun z=>(nomatch z),fun _=>⟨s,st,h⟩⟩;rcases h with h | h
   ·exact .inl ⟨h.1,h.2.1⟩
   ·exact .inr ⟨rfl,h.1,h.2⟩
 ·rw[d_];exact JI.mpr ⟨S.nd,nd,fun a ha b hb e=>off b hb (e ▸ ha)⟩
 ·rw[d_];intro x hx y hy;rcases Jx.mp hx with hx | hx
  ·exact J_ _ (S.cl x hx y hy)
  ·exact JG _ (cl x hx y hy)
theorem fJ.ring {f g:α->Option α} {P:List (Bool × List α)} {s:α} {c:List α} (t:tH f g) (S:fJ f g P) (hs:s ∉ (P.map (·.2)).flatten) (he:∀x,((f x=none/\g x ≠ none)\/(f x ≠ none/\g x=none))->x ∈ (P.map (·.2)).flatten) (d:Done f g s c) (h:f s ≠ none):fJ f g (P++[(true,c)]):=by
 have off:=d.off t S.cl hs;obtain⟨n,l,hn,hl⟩:=d.len
 -- the last is no end
 have lm:l ∈ c:=Jg hl
 have HA:∀x ∈ c,(f x ≠ none\/g x ≠ none):=by
  intro x hx;obtain⟨i,hi,e⟩:=J0.mp hx;have ei:c[i]?=some x:=by rw[Je hi,e]
  cases i with
  | zero=>rw[d.st]at ei;cases ei;exact .inl h
  | succ i=>
   obtain⟨z,ez⟩:∃z,c[i]?=some z:=⟨_,Je (by omega)⟩;have l:=(dC t.F t.G i).sym _ _ (d.go i z x ez ei);unfold T at l;split at l
   ·exact .inl (by rw[l];exact fun z=>nomatch z)
   ·exact .inr (by rw[l];exact fun z=>nomatch z)
 have both:f l ≠ none/\g l ≠ none:=by
  by_cases a:f l=none
  ·have b:=(HA l lm).resolve_left (fun z=>z a);exact absurd (he l (.inl ⟨a,b⟩)) (off l lm)
  ·by_cases b:g l=none
   ·exact absurd (he l (.inr ⟨a,b⟩)) (off l lm)
   ·exact⟨a,b⟩
 have e:T f g n l=some s:=by
  rcases d.en n l hn hl with z | z
  ·unfold T at z;split at z
   ·exact absurd z both.1
   ·exact absurd z both.2
  ·exact z
 obtain⟨odd,n3,gl⟩:=d.ring t.F t.G t.fg hn hl e;refine⟨fun p hp=>?_,?_,?_⟩
 ·rcases Jx.mp hp with hp | hp
  ·exact S.ok p hp
  ·rw[Jo.mp hp];exact⟨⟨s,.inl ⟨d,h⟩⟩,fun _=>⟨s,n,l,d,hn,hl,odd,n3,gl⟩,fun z=>(nomatch z)⟩
 ·rw[d_];exact JI.mpr ⟨S.nd,d.nd,fun a ha b hb e=>off b hb (e ▸ ha)⟩
 ·rw[d_];intro x hx y hy;rcases Jx.mp hx with hx | hx
  ·exact J_ _ (S.cl x hx y hy)
  ·exact JG _ (d.closed t.F t.G (.inr ⟨n,l,hn,hl,gl,odd⟩) hx hy)
variable {α:Type} [DecidableEq α]
noncomputable def lk (p:Bool × List α):List (α × α):=p.2.zip p.2.tail++(match p.1,p.2.getLast?,p.2.head? with | true,some l,some s=>[(l,s)] | _,_,_=>[])
theorem i6 (c:List α) (k:Nat) (x y:α):(c.zip c.tail)[k]?=some (x,y) ↔ c[k]?=some x/\c[k + 1]?=some y:=by
 rw[Mj,List.getElem?_tail]
theorem fO (c:List α):(c.zip c.tail).length=c.length - 1:=by
 rw[MT,List.length_tail];omega
theorem lk_row (c:List α):lk (false,c)=c.zip c.tail:=by unfold lk;simp
theorem iH {c:List α} {s l:α} {n:Nat} (hs:c[0]?=some s) (hn:c.length=n + 1) (hl:c[n]?=some l):lk (true,c)=c.zip c.tail++[(l,s)]:=by
 unfold lk;have e1:c.getLast?=some l:=by rw[Mk,hn];exact hl
 have e2:c.head?=some s:=by rw[List.head?_eq_getElem?];exact hs
 simp only[e1,e2]
theorem Done.links {f g:α->Option α} {s:α} {c:List α} (d:Done f g s c) {k:Nat} {x y:α} (h:(c.zip c.tail)[k]?=some (x,y)):T f g k x=some y:=by
 obtain⟨h1,h2⟩:=(i6 c k x y).mp h;exact d.go k x y h1 h2
noncomputable def IX (f g:α->Option α) (p:Bool × List α) (f' g':α->Option α):Prop:=(∀ (k:Nat) (x y:α),(lk p)[k]?=some (x,y)->T f' g' k x=some y)/\((f'=f/\g'=g)\/(p.1=false/\f'=g/\g'=f))
theorem lV.fst {f g:α->Option α} {p:Bool × List α} (h:lV f g p):∃f' g',IX f g p f' g':=by
 obtain⟨b,c⟩:=p;cases b with
 | false=>
  obtain⟨s,st,h | h⟩:=h.GH rfl
  ·exact⟨f,g,fun k x y e=>h.1.links (by rw[lk_row]at e;exact e),.inl ⟨rfl,rfl⟩⟩
  ·exact⟨g,f,fun k x y e=>h.1.links (by rw[lk_row]at e;exact e),.inr ⟨rfl,rfl,rfl⟩⟩
 | true=>
  obtain⟨s,n,l,d,hn,hl,odd,n3,gl⟩:=h.Ai rfl;have hn:c.length=n + 1:=hn;have hl:c[n]?=some l:=hl;have d:Done f g s c:=d;refine⟨f,g,fun k x y e=>?_,.inl ⟨rfl,rfl⟩⟩;rw[iH d.st hn hl]at e;have zl:=fO c
  by_cases q:k < (c.zip c.tail).length
  ·rw[JH q]at e;exact d.links e
  ·have hk:=(Ju.mp e).1;rw[Jl,zl]at hk;have:k=n:=by simp at hk;omega
   subst this;rw[JY (by omega),zl,hn]at e;simp at e;obtain⟨rfl,rfl⟩:=e;unfold T;rw[I_ (by omega)];exact gl
theorem yY {p:Bool × List α} {x y:α} (h:(x,y) ∈ lk p):x ∈ p.2/\y ∈ p.2:=by
 obtain⟨b,c⟩:=p;unfold lk at h;rcases Jx.mp h with h | h
 ·obtain⟨h1,h2⟩:=Ls h;exact⟨h1,List.mem_of_mem_tail h2⟩
 ·split at h
  ·rename_i l s _ e1 e2;have:=Jo.mp h;cases this
   exact⟨List.mem_of_getLast? e1,List.mem_of_head? e2⟩
  ·cases h
theorem lV.all {f g:α->Option α} {p:Bool × List α} (t:tH f g) (h:lV f g p) {x y:α} (hx:x ∈ p.2) (e:f x=some y\/g x=some y):(x,y) ∈ lk p\/(y,x) ∈ lk p:=by
 have key:∀ {f g:α->Option α} {s:α} {c:List α} (b:Bool),tH f g->Done f g s c->(b=false->g s=none)->(b=true->∃n l,c.length=n + 1/\c[n]?=some l/\g l=some s/\n % 2=1)->∀ {x y:α},x ∈ c->(f x=some y\/g x=some y)->(x,y) ∈ lk (b,c)\/(y,x) ∈ lk (b,c):=by
  intro f g s c b t d h0 h1 x y hx e;obtain⟨i,hi,ex⟩:=J0.mp hx;have ei:c[i]?=some x:=by rw[Je hi,ex]
  obtain⟨n,l,hn,hl⟩:=d.len;have sub:∀z,z ∈ c.zip c.tail->z ∈ lk (b,c):=fun z hz=>by unfold lk;exact J_ _ hz
  have fwd:T f g i x=some y->(x,y) ∈ lk (b,c):=fun hy=>by
   by_cases q:i=n
   ·subst q;cases b with
    | false=>
     have:=d.row t.F t.G (h0 rfl) hn ei;rw[this]at hy;cases hy
    | true=>
     obtain⟨n',l',a1,a2,a3,a4⟩:=h1 rfl;have:n'=i:=by omega
     subst this;rw[ei]at a2;cases a2;unfold T at hy;rw[I_ (by omega),a3]at hy;cases hy;rw[iH d.st hn ei];simp
   ·obtain⟨z,ez⟩:∃z,c[i + 1]?=some z:=⟨_,Je (by omega)⟩;have:=d.go i x z ei ez;rw[this]at hy;cases hy;exact sub _ (Jg ((i6 c i x y).mpr ⟨ei,ez⟩))
  have bwd:T f g (i + 1) x=some y->(y,x) ∈ lk (b,c):=fun hy=>by
   cases i with
   | zero=>
    rw[d.st]at ei;cases ei;unfold T at hy;rw[I_ (by decide)]at hy;cases b with
    | false=>rw[h0 rfl]at hy;cases hy
    | true=>
     obtain⟨n',l',a1,a2,a3,a4⟩:=h1 rfl;have:=t.G.sym _ _ a3;rw[this]at hy;cases hy;rw[iH d.st a1 a2];simp
   | succ i=>
    obtain⟨z,ez⟩:∃z,c[i]?=some z:=⟨_,Je (by omega)⟩;have:=(dC t.F t.G i).sym _ _ (d.go i z x ez ei);rw[jJ (j:=i) (by omega),this]at hy;cases hy
    exact sub _ (Jg ((i6 c i y x).mpr ⟨ez,ei⟩))
  by_cases p:i % 2=0
  ·rcases e with e | e
   ·exact .inl (fwd (by unfold T;rw[Jc p];exact e))
   ·exact .inr (bwd (by unfold T;rw[I_ (by omega)];exact e))
  ·rcases e with e | e
   ·exact .inr (bwd (by unfold T;rw[Jc (by omega)];exact e))
   ·exact .inl (fwd (by unfold T;rw[I_ p];exact e))
 obtain⟨b,c⟩:=p;cases b with
 | false=>
  obtain⟨s,st,h | h⟩:=h.GH rfl
  ·exact key false t h.1 (fun _=>h.2.2) (fun z=>nomatch z) hx e
  ·exact key false t.swap h.1 (fun _=>h.2.1) (fun z=>nomatch z) hx e.symm
 | true=>
  obtain⟨s,n,l,d,hn,hl,odd,n3,gl⟩:=h.Ai rfl;exact key true t d (fun z=>nomatch z) (fun _=>⟨n,l,hn,hl,gl,odd⟩) hx e
noncomputable def Ip (a b:α × α):Prop:=a ≠ b/\a ≠ (b.2,b.1)
theorem lV.GQ {f g:α->Option α} {p:Bool × List α} (h:lV f g p):(lk p).Pairwise Ip:=by
 have rowp:∀ {c:List α},c.Nodup->(c.zip c.tail).Pairwise Ip:=fun{c} nd=>by
  rw[Ku];intro i j hi hj hij;obtain⟨a1,a2⟩:=(i6 c i _ _).mp (show(c.zip c.tail)[i]?=some ((c.zip c.tail)[i].1,(c.zip c.tail)[i].2)from Je hi);obtain⟨b1,b2⟩:=(i6 c j _ _).mp (show(c.zip c.tail)[j]?=some ((c.zip c.tail)[j].1,(c.zip c.tail)[j].2)from Je hj);constructor
  ·intro e;rw[e]at a1;have:=inj nd a1 b1;omega
  ·intro e;have e1:(c.zip c.tail)[i].1=(c.zip c.tail)[j].2:=by rw[e]
   rw[e1]at a1;have:=inj nd a1 b2;omega
 obtain⟨b,c⟩:=p;cases b with
 | false=>
  obtain⟨s,st,h | h⟩:=h.GH rfl
  ·rw[lk_row];exact rowp h.1.nd
  ·rw[lk_row];exact rowp h.1.nd
 | true=>
  obtain⟨s,n,l,d,hn,hl,odd,n3,gl⟩:=h.Ai rfl;have hn:c.length=n + 1:=hn;have hl:c[n]?=some l:=hl;have d:Done f g s c:=d;rw[iH d.st hn hl];refine MS.mpr ⟨rowp d.nd,by simp,fun a ha b hb=>?_⟩;rw[Jo.mp hb];obtain⟨i,hi,e⟩:=J0.mp ha;have ea:(c.zip c.tail)[i]?=some (a.1,a.2):=by rw[Je hi,e]
  obtain⟨a1,a2⟩:=(i6 c i _ _).mp ea;have zl:=fO c;constructor
  ·intro z;rw[z]at a1;have:=inj d.nd a1 hl;rw[zl]at hi;omega
  ·intro z;rw[z]at a1 a2;have h1:=inj d.nd a1 d.st;have h2:=inj d.nd a2 hl;omega
theorem fJ.GQ {f g:α->Option α}:∀ {P:List (Bool × List α)},(∀ p ∈ P,lV f g p)->((P.map (·.2)).flatten).Nodup->((P.map lk).flatten).Pairwise Ip
 | [],_,_=>by simp
 | p::r,h,nd=>by
  rw[JA,Lg]at nd ⊢;obtain⟨n1,n2,n3⟩:=JI.mp nd;refine MS.mpr ⟨(h p (by simp)).GQ,fJ.GQ (fun q hq=>h q (Ji _ hq)) n2,fun a ha b hb=>?_⟩;obtain⟨l,hl,hb⟩:=Km.mp hb;obtain⟨q,hq,rfl⟩:=Jf.mp hl;obtain⟨x,y⟩:=a;obtain⟨u,v⟩:=b;have m1:=yY ha;have m2:=yY hb;have inq:∀z,z ∈ q.2->z ∈ (r.map (·.2)).flatten:=fun z hz=>Km.mpr ⟨q.2,Jf.mpr ⟨q,hq,rfl⟩,hz⟩;exact⟨fun e=>by cases e;exact n3 _ m1.1 _ (inq _ m2.1) rfl,fun e=>by cases e;exact n3 _ m1.1 _ (inq _ m2.2) rfl⟩
end Wk
namespace Ik
open PySem PySem.Spec PyProof.Rows L2 Sw Gw Gk Wk
abbrev dN:List Str:=["plan","against"]
noncomputable def dI:dm:=(.cons (.ret (.call "mates_of" (.cons (.comp "swap" [("against",1)] (.ex (.var 0)) (.var 0) (.cons (.cmpI .NotIn (.var 0) (.var 1)) .nil)) .nil)))
 .nil)
abbrev tM:List Str:=["start","first","then","couples","couple","mates"]
noncomputable def tw:dm:=(.cons (.asg 3 (.lst (.cons (.var 0) .nil)))
 (.cons (.asg 4 (.mth .get (.var 1) (.cons (.var 0) .nil)))
 (.cons (.whl (.and (.cmp .IsNot (.var 4) (.con .aD)) (.cmp .NotEq (.var 4) (.var 0))) (.cons (.exp (.mth .append (.var 3) (.cons (.var 4) .nil)))
 (.cons (.asg 5 (.ite (.cmp .Eq (.bin .Mod (.blt .len (.cons (.var 3) .nil)) (.con (.int 2))) (.con (.int 1))) (.var 1) (.var 2)))
 (.cons (.asg 4 (.mth .get (.var 5) (.cons (.var 4) .nil)))
 .nil))))
 (.cons (.ret (.var 3))
 .nil))))
noncomputable def alone (A B:NV):NV:=A.filter fun x=>!decide (x ∈ B)
theorem jn (a:Str × Str) (L:NV):ends (a::L)=[a.1,a.2]++ends L:=rfl
theorem lG {L' L:NV} (h:L'.Sublist L):(ends L').Sublist (ends L):=by
 induction h with
 | slnil=>exact .refl _
 | cons a h ih=>rw[jn];exact ih.trans (List.sublist_append_right _ _)
 | cons_cons a h ih=>rw[jn,jn];exact List.Sublist.append (.refl _) ih
noncomputable def j6 (M:Mo):Sp:=fun vs H Q _=>∃p q P R,vs=[.ref p,.ref q]/\av H p P/\av H q R/\(ends (ay P)).Nodup/\P.length<=20/\
 ∀H' l,Ext M H H'->H l=none->M l=none->H' l=some (.dK (sK (mt (alone (ay P) (ay R)))))->Q (.ref l) H'
theorem yE {M:Mo} {Γ:bZ} (gm:Γ.mod=M) (gc:Γ.cm=true) (g1:Γ.has "mates_of" =true/\Γ.fn "mates_of" =j4 M) (vs:List V) (H:Hp) (Q:VK) (X:XK) (h:j6 M vs H Q X):eM Γ dN 2 dI vs H Q X:=by
 obtain⟨p,q,P,R,rfl,hp,hq,nd,b7,h⟩:=h;refine⟨rfl,?_⟩;obtain rfl:=gm;unfold dI;dsimp only[Sw.wSs,Sw.wS,Sw.wE,Sw.wT,Sw.wEs,Sw.wTs,Sw.wI,Sw.wP,Sw.vars,Sw.gM,Sw.gL,Sw.gH,Sw.gG,Sw.gJ,Sw.gI,Sw.gO,Sw.gN,Sw.gK,L2.start,Sw.jg,Sw.jf,Sw.je,Sw.jd,Nat.reduceAdd,Nat.reduceSub];refine⟨⟨gc,g1.1⟩,gc,bQ (ao hp.at_ ai) fun D hD mD=>?_⟩;have same:∀l,Ext Γ.mod H (upd H D (.lst l)):=fun l=>Ext.upd hD mD;refine eC (H0:=H) (A:=ay R) P [] (fun l=>ao (Ext.bz (same l) hp).at_ ai) (fun x hx acc R' q'=>?_) (fun x hx acc Q q=>?_) (by simp;omega) ?_
 ·exact sG (Ext.bz (same acc) hq) ((same acc).same _ _ (hp.cT x hx)) ⟨_,rfl,q'⟩
 ·exact q
 rw[Le,g1.2];refine⟨D,P.filter fun x=>!decide (x.2 ∈ ay R),rfl,⟨ae,aB.new (fun y hy=>hp.cT y (KY.mp hy).1) hD⟩,?_,JB (KN _ _) b7,fun l hl ml=>?_⟩
 ·rw[iN];exact nd.sublist (lG Me)
 ·refine h _ l ((same _).trans (Ext.upd hl ml)) ((same _).aD hl) ml ?_;rw[ae,iN];rfl
noncomputable def Bs:Option Str->V
 | none=>.aD
 | some x=>.str x
noncomputable def aI (l:NV) (x:Str):Option Str:=l.lookup x
theorem zz {M:Mo} {H:Hp} {p:Addr} {l:NV} {x:Str} {Q:VK} (h:H p=some (.dK (sK l))) (q:Q (Bs (aI l x)) H):dj M .get (.ref p) [.str x] H Q:=by
 show(match H p with | some (.dK kvs)=>(match keyOf (.str x)with | some k=>Q ((bR kvs k).getD .aD) H | none=>False) | _=>False);rw[h];show Q ((bR (sK l) (.inr x)).getD .aD) H;rw[xP];unfold aI at q;cases e:l.lookup x with
 | none=>rw[e]at q;exact q
 | some y=>rw[e]at q;exact q
theorem Hz {H:Hp} {p:Addr} {kvs:List (Key × V)} (h:H p=some (.dK kvs)):oZ (.ref p) H=true:=by
 unfold oZ;simp only[h]
noncomputable def om (M:Mo):Sp:=fun vs H Q _=>∃s a b la lb,∃U:List Str,vs=[.str s,.ref a,.ref b]/\H a=some (.dK (sK la))/\H b=some (.dK (sK lb))/\rJ (aI la)/\rJ (aI lb)/\U.length<=40/\s ∈ U/\(∀ x y,aI la x=some y\/aI lb x=some y->y ∈ U)/\
 ∀l c,H l=none->M l=none->Done (aI la) (aI lb) s c->(∀ x ∈ c,x ∈ U)->Q (.ref l) (upd H l (.lst (c.map V.str)))
theorem Bx {M:Mo} {Γ:bZ} (gm:Γ.mod=M) (gc:Γ.cm=true) (vs:List V) (H:Hp) (Q:VK) (X:XK) (h:om M vs H Q X):eM Γ tM 3 tw vs H Q X:=by
 obtain⟨s,a,b,la,lb,U,rfl,ha,hb,F,G,hU,sU,cU,h⟩:=h;refine⟨rfl,?_⟩;obtain rfl:=gm;unfold tw;refine seq ?_;walk_at "s1";refine⟨by rw[Jm];simp,fun l hl ml=>?_⟩;have na:a ≠ l:=ag ha hl;have nb:b ≠ l:=ag hb hl;have ha':∀c:List Str,upd H l (.lst (c.map V.str)) a=some (.dK (sK la)):=fun c=>by rw[af na];exact ha
 have hb':∀c:List Str,upd H l (.lst (c.map V.str)) b=some (.dK (sK lb)):=fun c=>by rw[af nb];exact hb
 refine seq ?_;walk_at "s1";refine⟨Hz (ha' [s]),zz (ha' [s]) ?_⟩;refine seq ?_;walk_at "s1";refine⟨fun m σ H'=>∃ (c:List Str) (n:Nat) (z:Str) (v5:Option V),σ=[some (.str s),some (.ref a),some (.ref b),some (.ref l),some (Bs (T (aI la) (aI lb) n z)),v5]/\H'=upd H l (.lst (c.map V.str))/\Row (aI la) (aI lb) c/\c[0]?=some s/\c.length=n + 1/\c[n]?=some z/\(∀ x ∈ c,x ∈ U)/\m + c.length=41,⟨40,[s],0,s,none,rfl,rfl,Bw s,rfl,rfl,rfl,fun x hx=>by rw[Jo.mp hx];exact sU,rfl⟩,?_⟩
 rintro m σ H' ⟨c,n,z,v5,rfl,rfl,R,st,hn,hz,sub,hm⟩
 have b7:c.length<=40:=JB (R.nd.length_le_of_subset sub) hU
 have fin:(T (aI la) (aI lb) n z=none\/T (aI la) (aI lb) n z=some s)->wSs (.cons (.ret (.var 3)) .nil) Γ (fun C d _ H'=>X C d H') {nx:=fun _ H'=>Q .aD H',rt:=Q} [some (.str s),some (.ref a),some (.ref b),some (.ref l),some (Bs (T (aI la) (aI lb) n z)),v5] (upd H l (.lst (c.map V.str))):=fun e=>by
  walk_at "sw";refine h l c hl ml ⟨R,(fun z=>by rw[z]at hn;exact absurd hn (by simp)),st,fun n' l' e1 e2=>?_⟩ sub;have:n'=n:=by omega
  subst this;rw[hz]at e2;cases e2
  exact e
 walk_at "s1";cases e:T (aI la) (aI lb) n z with
 | none=>
  have fin:=fin (.inl e);rw[e]at fin;show cC Γ.mod .IsNot .aD .aD _ _;rw[Sw.og];refine⟨_,rfl,?_⟩;rw[I_ (by decide),I_ (by decide)];exact fin
 | some y=>
  show cC Γ.mod .IsNot (.str y) .aD _ _;rw[Sw.og];refine⟨_,rfl,?_⟩;rw[Jc (by rfl)];show cC Γ.mod .NotEq (.str y) (.str s) _ _;rw[Sw.tT];refine⟨_,rfl,?_⟩
  by_cases q:y=s
  ·rw[I_ (by simp[q])];have fin:=fin (.inr (by rw[e,q]));rw[e]at fin;exact fin
  ·rw[Jc (by simpa using q)];have hy:=R.next F G hn hz st e q
   have yU:y ∈ U:=cU z y (by
    unfold T at e;split at e
    ·exact .inl e
    ·exact .inr e)
   refine⟨fun σ' H2=>∃v5,σ'=[some (.str s),some (.ref a),some (.ref b),some (.ref l),some (Bs (T (aI la) (aI lb) (n + 1) y)),v5]/\H2=upd H l (.lst ((c++[y]).map V.str)),fun σ' H2 ⟨v,e1,e2⟩=>⟨m - 1,by omega,c++[y],n + 1,y,v,e1,e2,R.snoc hn hz e hy,by rw[JH (by omega)];exact st,by rw[Jl,hn];rfl,by rw[JY (by omega),hn];simp,fun x hx=>(Jx.mp hx).elim (sub x) (fun hx=>by rw[Jo.mp hx];exact yU),by rw[Jl];simp;omega⟩,?_⟩;refine seq ?_;walk_at "s1";refine⟨dY ae,append_at ae (by rw[Jb,Jm];omega) ?_⟩;rw[dq];have em:c.map V.str++[V.str y]=(c++[y]).map V.str:=by rw[Jt];rfl
   show wSs _ _ _ _ _ (upd H l (.lst (c.map V.str++[V.str y])));rw[em];refine seq ?_;walk_at "s1";refine⟨gc,cZ (ao ae ai) ?_⟩;rw[Sw.v_mod];refine⟨by decide,?_⟩;rw[Sw.jy];refine⟨_,rfl,?_⟩;have ln:(((c++[y]).map V.str).length:Int)=(n:Int) + 2:=by rw[Jb,Jl,hn];simp;omega
   by_cases pr:n % 2=1
   ·rw[Jc (by rw[ln];simp;omega)];refine seq ?_;walk_at "s1";refine⟨Hz (ha' _),zz (ha' _) ?_⟩;refine bD ⟨some (.ref a),?_,rfl⟩;unfold T;rw[Jc (by omega)]
   ·rw[I_ (by rw[ln];simp;omega)];refine seq ?_;walk_at "s1";refine⟨Hz (hb' _),zz (hb' _) ?_⟩;refine bD ⟨some (.ref b),?_,rfl⟩;unfold T;rw[I_ (by omega)]
theorem iG:∀ {l:NV},(l.map (·.1)).Nodup->∀ {x y:Str},l.lookup x=some y ↔ (x,y) ∈ l
 | [],_,x,y=>by simp
 | (a, b) :: r, nd, x, y => by
  have nd:=JN.mp nd;rw[JJ];cases e:(x == a)with
  | true=>
   have e:x=a:=eq_of_beq e;subst e;constructor
   ·intro h;cases h;simp
   ·intro h;rcases Jq.mp h with h | h
    ·cases h;rfl
    ·exact absurd (Jf.mpr ⟨(x,y),h,rfl⟩) nd.1
  | false=>
   have ne:x ≠ a:=fun z=>by rw[z]at e;simp at e
   show r.lookup x=some y ↔ _;rw[iG nd.2];constructor
   ·exact Ji _
   ·intro h;rcases Jq.mp h with h | h
    ·cases h;exact absurd rfl ne
    ·exact h
theorem DR {L:NV} {x y:Str}:(x,y) ∈ mt L ↔ (x,y) ∈ L\/(y,x) ∈ L:=by
 unfold Gk.mt;rw[Km];constructor
 ·rintro⟨l,hl,h⟩
  obtain⟨z,hz,rfl⟩:=Jf.mp hl;rcases Jq.mp h with h | h
  ·cases h;exact .inl hz
  ·have:=Jo.mp h;cases this
   exact .inr hz
 ·rintro(h | h)
  ·exact⟨_,Jf.mpr ⟨_,h,rfl⟩,by simp⟩
  ·exact⟨_,Jf.mpr ⟨_,h,rfl⟩,by simp⟩
theorem cF {L:NV} (nd:(ends L).Nodup) {x y:Str}:aI (mt L) x=some y ↔ (x,y) ∈ L\/(y,x) ∈ L:=by
 unfold aI;rw[iG (by rw[eQ];exact nd),DR]
theorem uP {L:NV} (nd:(ends L).Nodup) {x y:Str} (h:(x,y) ∈ L):x ≠ y:=by
 obtain⟨l1,l2,rfl⟩:=Mq h;have:ends (l1++(x,y)::l2)=ends l1++([x,y]++ends l2):=by unfold ends;simp
 rw[this]at nd;have:=(JI.mp (JI.mp nd).2.1).1;intro e;simp[e]at this
theorem qC {L:NV} (nd:(ends L).Nodup):rJ (aI (mt L)) where
 sym:=fun x y h=>(cF nd).mpr ((cF nd).mp h).symm
 qO:=fun x h=>by
  rcases(cF nd).mp h with h | h
  ·exact uP nd h rfl
  ·exact uP nd h rfl
structure gw (A:NV):Prop where
 nd:(ends A).Nodup
 lt:∀x ∈ A,x.1.cps.toList < x.2.cps.toList
theorem gw.alone {A B:NV} (h:gw A):gw (alone A B):=⟨h.nd.sublist (lG Me),fun x hx=>h.lt x (KY.mp hx).1⟩
theorem oR {a b:List Nat} (h:a < b):¬b < a:=fun z=>KS _ (MC h z)
theorem bY {A B:NV} {x:Str × Str}:x ∈ alone A B ↔ x ∈ A/\x ∉ B:=by
 unfold Ik.alone;rw[KY];simp
theorem eK {A B:NV} (a:gw A) (b:gw B):tH (aI (mt (alone A B))) (aI (mt (alone B A))):=by
 refine⟨qC a.alone.nd,qC b.alone.nd,fun x y h z=>?_⟩;rcases(cF a.alone.nd).mp h with h | h<;>rcases(cF b.alone.nd).mp z with z | z
 ·exact(bY.mp h).2 (bY.mp z).1
 ·exact oR (a.alone.lt _ h) (b.alone.lt _ z)
 ·exact oR (a.alone.lt _ h) (b.alone.lt _ z)
 ·exact(bY.mp h).2 (bY.mp z).1
theorem cX {L:NV} (nd:(ends L).Nodup) {x:Str}:aI (mt L) x ≠ none ↔ x ∈ ends L:=by
 have e:=eQ L;unfold aI;constructor
 ·intro h;cases q:(mt L).lookup x with
  | none=>exact absurd q h
  | some y=>
   have:=(iG (by rw[e];exact nd)).mp q;rw[<-e];exact Jf.mpr ⟨(x,y),this,rfl⟩
 ·intro h z;rw[<-e]at h;obtain⟨⟨a,b⟩,hz,rfl⟩:=Jf.mp h;rw[(iG (by rw[e];exact nd)).mpr hz]at z;cases z
end Ik
namespace Wk
variable {α:Type} [DecidableEq α]
theorem Done.pre {f g:α->Option α} {s:α} {c c':List α} (d:Done f g s c) (d':Done f g s c'):∀ (k:Nat) (x:α),c[k]?=some x->c'[k]?=some x
 | 0,x,h=>by rw[d.st]at h;rw[d'.st];exact h
 | k + 1,x,h=>by
  obtain⟨z,ez⟩:∃z,c[k]?=some z:=⟨_,Je (by have:=(Ju.mp h).1;omega)⟩;have l:=d.go k z x ez h;have ih:=d.pre d' k z ez;cases e:c'[k + 1]? with
  | some y=>rw[d'.go k z y ih e]at l;rw[l]
  | none=>
   exfalso;have hk:=(Ju.mp ih).1
   have hl:c'.length=k + 1:=by
    have:=Mg.mp e;omega
   rcases d'.en k z hl ih with q | q
   ·rw[q]at l;cases l
   ·rw[q]at l;cases l;have:=inj d.nd h d.st;omega
theorem Done.uniq {f g:α->Option α} {s:α} {c c':List α} (d:Done f g s c) (d':Done f g s c'):c=c':=by
 refine List.ext_getElem? fun k=>?_;cases e:c[k]? with
 | some x=>exact(d.pre d' k x e).symm
 | none=>
  cases e':c'[k]? with
  | none=>rfl
  | some x=>rw[d'.pre d k x e']at e;cases e
end Wk
namespace Ik
open PySem PySem.Spec PyProof.Rows L2 Sw Gw Gk Wk
noncomputable def mJ (x y:Str):Prop:=x.cps.toList < y.cps.toList
noncomputable def flat (P:List (Bool × List Str)):List Str:=(P.map (·.2)).flatten
structure lT (f g:Str->Option Str) (ss ks:List Str):Prop where
 s:ss.Pairwise fun a b=>¬mJ b a
 k:ks.Pairwise fun a b=>¬mJ b a
 ns:ss.Nodup
 nk:ks.Nodup
 me:∀x,x ∈ ss ↔ (f x=none/\g x ≠ none)\/(f x ≠ none/\g x=none)
 mf:∀x,x ∈ ks ↔ f x ≠ none
noncomputable def EE (p:Bool × List Str):Prop:=∀s,p.2[0]?=some s->(p.1=false->∀n l,p.2.length=n + 1->p.2[n]?=some l->¬mJ l s)/\(p.1=true->∀x ∈ p.2,¬mJ x s)
inductive Run (f g:Str->Option Str) (S:List Str):Nat->List (Bool × List Str)->Prop where
 | nil:Run f g S 0 []
 | skip {n:Nat} {P:List (Bool × List Str)} {s:Str}:Run f g S n P->S[n]?=some s->s ∈ flat P->Run f g S (n + 1) P
 | row {n:Nat} {P:List (Bool × List Str)} {s:Str} {c:List Str}:Run f g S n P->S[n]?=some s->s ∉ flat P->((Done f g s c/\f s ≠ none/\g s=none)\/(Done g f s c/\f s=none/\g s ≠ none))->Run f g S (n + 1) (P++[(false,c)])
 | ring {n:Nat} {P:List (Bool × List Str)} {s:Str} {c:List Str}:Run f g S n P->S[n]?=some s->s ∉ flat P->Done f g s c->f s ≠ none->g s ≠ none->Run f g S (n + 1) (P++[(true,c)])
theorem Run.uniq {f g:Str->Option Str} {S:List Str}:∀ {n:Nat} {P P':List (Bool × List Str)},Run f g S n P->Run f g S n P'->P=P':=by
 intro n P P' h
 induction h generalizing P' with
 | nil=>intro h';cases h';rfl
 | skip r hs hm ih=>
  intro h';cases h' with
  | skip r' _ _=>exact ih r'
  | row r' hs' hm' _=>rw[hs]at hs';cases hs';rw[ih r']at hm;exact absurd hm hm'
  | ring r' hs' hm' _ _ _=>rw[hs]at hs';cases hs';rw[ih r']at hm;exact absurd hm hm'
 | row r hs hm d ih=>
  intro h';cases h' with
  | skip r' hs' hm'=>rw[hs]at hs';cases hs';rw[ih r']at hm;exact absurd hm' hm
  | row r' hs' hm' d'=>
   rw[hs]at hs';cases hs';rw[ih r'];rcases d with ⟨d,a,b⟩ | ⟨d,a,b⟩<;>rcases d' with ⟨d',a',b'⟩ | ⟨d',a',b'⟩
   ·rw[d.uniq d']
   ·exact absurd a' a
   ·exact absurd a a'
   ·rw[d.uniq d']
  | ring r' hs' hm' d' a' b'=>
   rw[hs]at hs';cases hs';rcases d with ⟨d,a,b⟩ | ⟨d,a,b⟩
   ·exact absurd b b'
   ·exact absurd a a'
 | ring r hs hm d a b ih=>
  intro h';cases h' with
  | skip r' hs' hm'=>rw[hs]at hs';cases hs';rw[ih r']at hm;exact absurd hm' hm
  | row r' hs' hm' d'=>
   rw[hs]at hs';cases hs';rcases d' with ⟨d',a',b'⟩ | ⟨d',a',b'⟩
   ·exact absurd b' b
   ·exact absurd a' a
  | ring r' hs' hm' d' a' b'=>
   rw[hs]at hs';cases hs';rw[ih r',d.uniq d']
structure de (f g:Str->Option Str) (S:List Str) (n:Nat) (P:List (Bool × List Str)):Prop where
 so:fJ f g P
 pl:∀i,i < n->∀x,S[i]?=some x->x ∈ flat P
 or:∀p ∈ P,EE p
 tr:Run f g S n P
theorem yX {f g:Str->Option Str} {S:List Str}:de f g S 0 []:=⟨vq,fun i h=>absurd h (Nat.not_lt_zero _),fun p h=>(nomatch h),.nil⟩
theorem de.skip {f g:Str->Option Str} {S:List Str} {n:Nat} {P:List (Bool × List Str)} {s:Str} (L:de f g S n P) (hs:S[n]?=some s) (h:s ∈ flat P):de f g S (n + 1) P:=by
 refine⟨L.so,fun i hi x hx=>?_,L.or,.skip L.tr hs h⟩
 by_cases q:i=n
 ·subst q;rw[hs]at hx;cases hx;exact h
 ·exact L.pl i (by omega) x hx
theorem iM (P:List (Bool × List Str)) (p:Bool × List Str):flat (P++[p])=flat P++p.2:=d_ P p
theorem yw {l:List Str} (h:l.Pairwise fun a b=>¬mJ b a) {n:Nat} {s x:Str} (hs:l[n]?=some s) (hx:x ∈ l) (no:∀i,i < n->l[i]? ≠ some x):¬mJ x s:=by
 obtain⟨j,hj,e⟩:=J0.mp hx;have ej:l[j]?=some x:=by rw[Je hj,e]
 by_cases q:j < n
 ·exact absurd ej (no j q)
 ·by_cases z:j=n
  ·subst z;rw[hs]at ej;cases ej;exact KS _
  ·obtain⟨hn,en⟩:=Ju.mp hs;have:=Ku.mp h n j hn hj (by omega);rw[e,en]at this;exact this
theorem head_mem {c:List Str} {s:Str} (h:c[0]?=some s):s ∈ c:=Jg h
theorem de.row {f g:Str->Option Str} {ss ks:List Str} {n:Nat} {P:List (Bool × List Str)} {s:Str} {c:List Str} (t:tH f g) (K:lT f g ss ks) (L:de f g (ss++ks) n P) (hn:ss[n]?=some s) (hs:s ∉ flat P)
  (h:(Done f g s c/\f s ≠ none/\g s=none)\/(Done g f s c/\f s=none/\g s ≠ none)):de f g (ss++ks) (n + 1) (P++[(false,c)]):=by
 have st:c[0]?=some s:=h.elim (fun h=>h.1.st) (fun h=>h.1.st);have lt:n < ss.length:=(Ju.mp hn).1;have hn':(ss++ks)[n]?=some s:=by rw[JH lt];exact hn
 have off:∀x ∈ c,x ∉ flat P:=by
  rcases h with h | h
  ·exact h.1.off t L.so.cl hs
  ·exact h.1.off t.swap (fun x hx y hy=>L.so.cl x hx y hy.symm) hs
 refine⟨L.so.row t hs h,fun i hi x hx=>?_,fun p hp=>?_,.row L.tr hn' hs h⟩
 ·rw[iM]
  by_cases q:i=n
  ·subst q;rw[hn']at hx;cases hx;exact JG _ (head_mem st)
  ·exact J_ _ (L.pl i (by omega) x hx)
 ·rcases Jx.mp hp with hp | hp
  ·exact L.or p hp
  ·rw[Jo.mp hp];intro s' e';have e':c[0]?=some s':=e';rw[st]at e';cases e'
   refine⟨fun _ m l hm hl=>?_,fun z=>(nomatch z)⟩;have hm:c.length=m + 1:=hm;have hl:c[m]?=some l:=hl
   -- the last is an end
   have le:l ∈ ss:=by
    have key:∀ {f g:Str->Option Str},tH f g->Done f g s c->f s ≠ none->g s=none->(f l=none/\g l ≠ none)\/(f l ≠ none/\g l=none):=by
     intro f g t d h1 h2;have e0:=d.row t.F t.G h2 hm hl;cases m with
     | zero=>
      rw[st]at hl;cases hl;unfold T at e0;rw[Jc rfl]at e0;exact absurd e0 h1
     | succ m=>
      obtain⟨z,ez⟩:∃z,c[m]?=some z:=⟨_,Je (by omega)⟩;have b:=(dC t.F t.G m).sym _ _ (d.go m z l ez hl);unfold T at e0 b
      by_cases p:m % 2=0
      ·rw[I_ (by omega)]at e0;rw[Jc p]at b;exact .inr ⟨by rw[b];exact fun z=>(nomatch z),e0⟩
      ·rw[Jc (by omega)]at e0;rw[I_ p]at b;exact .inl ⟨e0,by rw[b];exact fun z=>(nomatch z)⟩
    rw[K.me];rcases h with h | h
    ·exact key t h.1 h.2.1 h.2.2
    ·rcases key t.swap h.1 h.2.2 h.2.1 with q | q
     ·exact .inr ⟨q.2,q.1⟩
     ·exact .inl ⟨q.2,q.1⟩
   refine yw K.s hn le fun i hi e=>?_;exact off l (Jg hl) (L.pl i hi l (by rw[JH (by omega)];exact e))
theorem de.ring {f g:Str->Option Str} {ss ks:List Str} {n:Nat} {P:List (Bool × List Str)} {s:Str} {c:List Str} (t:tH f g) (K:lT f g ss ks) (L:de f g (ss++ks) (ss.length + n) P) (hn:ks[n]?=some s) (hs:s ∉ flat P) (d:Done f g s c):de f g (ss++ks) (ss.length + n + 1) (P++[(true,c)]):=by
 have fs:f s ≠ none:=(K.mf s).mp (Jg hn);have hn':(ss++ks)[ss.length + n]?=some s:=by rw[JY (by omega),Mt];exact hn
 have he:∀x,((f x=none/\g x ≠ none)\/(f x ≠ none/\g x=none))->x ∈ (P.map (·.2)).flatten:=fun x hx=>by
  obtain⟨i,hi,e⟩:=J0.mp ((K.me x).mpr hx);exact L.pl i (by omega) x (by rw[JH hi,Je hi,e])
 have off:=d.off t L.so.cl hs;have S':=L.so.ring t hs he d fs;refine⟨S',fun i hi x hx=>?_,fun p hp=>?_,.ring L.tr hn' hs d fs fun z=>hs (he s (.inr ⟨fs,z⟩))⟩
 ·rw[iM]
  by_cases q:i=ss.length + n
  ·subst q;rw[hn']at hx;cases hx;exact JG _ (head_mem d.st)
  ·exact J_ _ (L.pl i (by omega) x hx)
 ·rcases Jx.mp hp with hp | hp
  ·exact L.or p hp
  ·rw[Jo.mp hp];intro s' e';have e':c[0]?=some s':=e';rw[d.st]at e';cases e'
   refine⟨fun z=>(nomatch z),fun _ x hx=>?_⟩;have hx:x ∈ c:=hx
   -- a member has a link by f: else it were an end, and placed
   have fx:f x ≠ none:=fun a=>by
    have b:g x ≠ none:=fun b=>by
     obtain⟨i,hi,e⟩:=J0.mp hx;have ei:c[i]?=some x:=by rw[Je hi,e]
     cases i with
     | zero=>rw[d.st]at ei;cases ei;exact fs a
     | succ i=>
      obtain⟨z,ez⟩:∃z,c[i]?=some z:=⟨_,Je (by omega)⟩;have q:=(dC t.F t.G i).sym _ _ (d.go i z x ez ei);unfold T at q;split at q
      ·rw[a]at q;cases q
      ·rw[b]at q;cases q
    exact off x hx (he x (.inl ⟨a,b⟩))
   refine yw K.k hn ((K.mf x).mpr fx) fun i hi e=>?_;exact off x hx (L.pl (ss.length + i) (by omega) x (by rw[JY (by omega),Mt];exact e))
theorem de.all {f g:Str->Option Str} {ss ks:List Str} {P:List (Bool × List Str)} (K:lT f g ss ks) (L:de f g (ss++ks) (ss++ks).length P) {x:Str} (h:f x ≠ none\/g x ≠ none):x ∈ flat P:=by
 have:x ∈ ss++ks:=by
  by_cases a:f x=none
  ·exact J_ _ ((K.me x).mpr (.inl ⟨a,h.resolve_left (fun z=>z a)⟩))
  ·exact JG _ ((K.mf x).mpr a)
 obtain⟨i,hi,e⟩:=J0.mp this;exact L.pl i hi x (by rw[Je hi,e])
abbrev km:List Str:=["one","other","ones","others","ends","found","placed","start","couples","couple"]
noncomputable def Cr:dm:=(.cons (.fr 9 (.ex (.var 8)) (.cons (.sto (.var 6) (.var 9) (.con (.bl true))) .nil)) .nil)
noncomputable def xw:dm:=(.cons (.exp (.mth .append (.var 5) (.cons (.tup (.cons (.ite (.cmp .In (.var 7) (.var 4)) (.glob "ROW") (.glob "RING")) (.cons (.var 8) .nil))) .nil))) Cr)
noncomputable def ph (vY:Expr):dm:=(.cons (.asg 2 (.call "mates_alone" (.cons (.var 0) (.cons (.var 1) .nil)))) (.cons (.asg 3 (.call "mates_alone" (.cons (.var 1) (.cons (.var 0) .nil)))) (.cons (.asg 4 (.xors 2 3)) (.cons (.asg 5 (.lst .nil)) (.cons (.asg 6 .dnew) (.cons (.fr 7 (.ex (.bin .Add (.var 4) (.blt .dsorted (.cons (.var 2) .nil)))) (.cons (.iff (.cmpD .NotIn (.var 7) (.var 6)) (.cons (.asg 8 (.ite (.cmpD .In (.var 7) (.var 2)) (.call "walk" (.cons (.var 7) (.cons (.var 2) (.cons (.var 3) .nil)))) (.call "walk" (.cons (.var 7) (.cons (.var 3) (.cons (.var 2) .nil)))))) xw) .nil) .nil)) (.cons (.retK (.var 5) ⟨33,25,33,52⟩ vY) .nil)))))))
noncomputable def sx (U:List Str):List (Key × V):=(U.map fun x=>(x,true)).map fun y=>((Sum.inr y.1:Key),V.bl y.2)
theorem A8 (U:List Str):(sx U).length=U.length:=by unfold sx;rw[Jb,Jb]
theorem nG:∀ (U:List Str) (x:Str),((U.map fun x=>(x,true)).lookup x).isSome=decide (x ∈ U)
 | [],x=>rfl
 | a::r,x=>by
  rw[JA,JJ];cases e:(x == a)with
  | true=>have e:x=a:=eq_of_beq e;subst e;simp
  | false=>
   have ne:x ≠ a:=fun z=>by rw[z]at e;simp at e
   show((r.map fun x=>(x,true)).lookup x).isSome=_;rw[nG r x];simp[ne]
theorem A6 (U:List Str) (x:Str):(bR (sx U) (.inr x)).isSome=decide (x ∈ U):=by
 unfold sx;rw[hZ (fun b=>V.bl b) (U.map fun x=>(x,true)) x,LX,nG]
theorem A7 {U:List Str} {x:Str} (h:x ∉ U):putK (sx U) (.inr x) (.bl true)=sx (U++[x]):=by
 unfold sx;rw[j8 (fun b=>V.bl b) (U.map fun x=>(x,true)) x true (by rw[JL];simpa using h),Jt (l₁:=U) (l₂:=[x])];rfl
noncomputable abbrev Fp:=Addr × Addr × Bool × List Str
noncomputable def word (b:Bool):Str:=if b then "ring" else "row"
noncomputable def aV (F:List Fp):List (Bool × List Str):=F.map fun x=>(x.2.2.1,x.2.2.2)
noncomputable def a_ (F:List Fp):List V:=F.map fun x=>.ref x.1
noncomputable def vf (H:Hp) (F:List Fp):Prop:=∀x ∈ F,H x.1=some (.tup [.str (word x.2.2.1),.ref x.2.1])/\H x.2.1=some (.lst (x.2.2.2.map V.str))
theorem vf.ext {M:Mo} {H H':Hp} {F:List Fp} (h:vf H F) (x:Ext M H H'):vf H' F:=fun y hy=>⟨x.same _ _ (h y hy).1,x.same _ _ (h y hy).2⟩
theorem vA {Γ:bZ} {H:Hp} {c p:Addr} {C U:List Str} {D:Ends} {s0 s1 s2 s3 s4 s5 s7 s8 s9:Option V} (hc:H c=some (.lst (C.map V.str))) (hp:H p=some (.dK (sx U))) (nd:C.Nodup) (off:∀x ∈ C,x ∉ U) (b7:U.length + C.length<=100)
  (q:∀v,D.nx [s0,s1,s2,s3,s4,s5,some (.ref p),s7,s8,v] (upd H p (.dK (sx (U++C))))):
  o4 9 (wSs (.cons (.sto (.var 6) (.var 9) (.con (.bl true))) .nil) Γ X0) (fun H'=>rd Γ.mod H' c=some (.lst (C.map V.str))) (C.map V.str) D [s0,s1,s2,s3,s4,s5,some (.ref p),s7,s8,s9] H:=by
 have ne:c ≠ p:=fun z=>by rw[z,hp]at hc;cases hc
 refine b_ (fun n σ H'=>∃v,σ=[s0,s1,s2,s3,s4,s5,some (.ref p),s7,s8,v]/\H'=upd H p (.dK (sx (U++C.take n)))) (fun n σ H' z=>?_) (fun n v σ H' D' hv pv nx ct _ _=>?_) (fun σ H' pv=>?_) ⟨s9,rfl,?_⟩
 ·obtain⟨_,_,rfl⟩:=z;exact ao (by rw[af ne];exact hc) ai
 ·obtain⟨v9,rfl,rfl⟩:=pv;rw[Jy]at hv;obtain⟨x,hx,rfl⟩:=JF.mp hv;have hn:=(Ju.mp hx).1;walk_at "sw"
  have xn:x ∉ U++C.take n:=fun z=>by
   rcases Jx.mp z with z | z
   ·exact off x (Jg hx) z
   ·obtain⟨j,hj,e⟩:=J0.mp z;rw[J7]at hj;have:C[j]?=some x:=by rw[Je (by omega),<-e,List.getElem_take]
    have:=inj nd this hx;omega
  refine i_ ae (by rw[A8,Jl,J7,Jm];omega) ?_;rw[dq,A7 xn];refine nx _ _ ⟨_,rfl,?_⟩;rw[L1,hx,JD];rfl
 ·obtain⟨v9,rfl,rfl⟩:=pv;rw[Jb,KD];exact q v9
 ·funext b
  by_cases z:b=p
  ·subst z;rw[ae,NP,Ld];exact hp
  ·rw[af z]
noncomputable def dE (f g:Str->Option Str) (Ps:List (Bool × List Str)):Prop:=∃P0 ss ks,lT f g ss ks/\de f g (ss++ks) (ss++ks).length P0/\Ps.Perm P0/\Ps.Pairwise fun a b=>∀s t,a.2[0]?=some s->b.2[0]?=some t->¬mJ t s
noncomputable def jY (M:Mo) (Ts:List Tb):Sp:=fun vs H Q _=>∃p q P R,vs=[.ref p,.ref q]/\av H p P/\av H q R/\gw (ay P)/\gw (ay R)/\P.length<=10/\R.length<=10/\(∀ t ∈ Ts,TabAt H t)/\
 ∀H' l F,ff M H H'->(∀ t ∈ Ts,TabAt H' t)->H l=none->M l=none->H' l=some (.lst (a_ F))->vf H' F->dE (aI (mt (alone (ay P) (ay R)))) (aI (mt (alone (ay R) (ay P)))) (aV F)->Q (.ref l) H'
structure PG (Γ:bZ) (M:Mo) (L:i4) (Ts:List Tb):Prop where
 cm:Γ.cm=true
 mod:Γ.mod=M
 al:Γ.has "mates_alone" =true/\Γ.fn "mates_alone" =j6 M
 wk:Γ.has "walk" =true/\Γ.fn "walk" =om M
 ro:Γ.con "ROW" =some (.str "row")
 ri:Γ.con "RING" =some (.str "ring")
 lm:Γ.lm=some (L,Ts)
theorem qa (L:NV):(sK (mt L)).map (·.1)=(ends L).map Sum.inr:=by
 rw[<-eQ];unfold sK;rw[JL,JL];rfl
theorem gg (A B:NV):(alone A B).length<=A.length:=KN _ _
theorem cq (P:List Pr):(ay P).length=P.length:=Jb _
theorem rW {l:List Str} (h:sortedS l=true) (nd:l.Nodup):l.Pairwise fun a b=>¬mJ b a:=(vx h nd).imp fun h=>oR h
theorem B3 {M:Mo} {H H':Hp} (x:Ext M H H'):ff M H H':=⟨fun a o h _=>x.same a o h,x.off,fun a h z=>by
 cases q:H a with
 | none=>exact h q
 | some o=>rw[x.same a o q]at z;cases z⟩
theorem _root_.Sw.ff.C4 {M:Mo} {H H1 H2:Hp} (a:ff M H H1) (b:ff M H1 H2):ff M H H2:=⟨fun c o h n=>b.same c o (a.same c o h n) n,fun c m h=>b.off c m (a.off c m h),fun c h=>b.GP c (a.GP c h)⟩
theorem jX {M:Mo} {H H':Hp} {t:Tb} (x:Ext M H H') (h:TabAt H t):TabAt H' t:=by
 rcases h with q | ⟨c,q,q2⟩
 ·exact .inl (x.same _ _ q)
 ·exact .inr ⟨c,x.same _ _ q,x.same _ _ q2⟩
theorem qp {α β:Type} {φ:α->β}:∀ {zs:List β} {F:List α},zs.Perm (F.map φ)->∃F':List α,F'.Perm F/\F'.map φ=zs
 | [],F,h=>by
  have:=h.nil_eq;exact⟨F,.refl _,this.symm⟩
 | z::r,F,h=>by
  obtain⟨x,hx,rfl⟩:=Jf.mp (h.mem_iff.mp Jj);obtain⟨F1,F2,rfl⟩:=Mq hx;have h2:(φ x::r).Perm (φ x::(F1++F2).map φ):=h.trans (by rw[<-JA];exact LN.map φ);obtain⟨F',p,e⟩:=qp h2.cons_inv;exact⟨x::F',(p.cons x).trans LN.symm,by rw[JA,e]⟩
theorem vC {Γ:bZ} {L:i4} {Ts:List Tb} {D:Ends} {Hc:Hp} {e fl pd cl:Addr} {ss C U:List Str} {F:List Fp} {x:Str} {s0 s1 s2 s3 v9:Option V} (gp:PG Γ Γ.mod L Ts) (he:Hc e=some (.lst (ss.map V.str))) (hf:Hc fl=some (.lst (a_ F))) (hp:Hc pd=some (.dK (sx U))) (hc:Hc cl=some (.lst (C.map V.str))) (ncf:cl ≠ fl)
  (nd:C.Nodup) (off:∀y ∈ C,y ∉ U) (b7:U.length + C.length<=100) (fF:F.length<=100) (sl:ss.length<=100)
  (q:∀t v9,Hc t=none->Γ.mod t=none->D.nx [s0,s1,s2,s3,some (.ref e),some (.ref fl),some (.ref pd),some (.str x),some (.ref cl),v9] (upd (upd (upd Hc t (.tup [.str (word (!decide (x ∈ ss))),.ref cl])) fl (.lst (a_ (F++[(t,cl,!decide (x ∈ ss),C)])))) pd (.dK (sx (U++C))))):
  wSs xw Γ X0 D [s0,s1,s2,s3,some (.ref e),some (.ref fl),some (.ref pd),some (.str x),some (.ref cl),v9] Hc:=by
 refine seq ?_;walk_at "s1";refine⟨dY hf,FO (ao he ai) ⟨_,rfl,?_⟩⟩
 have fin:∀w:Str,w=word (!decide (x ∈ ss))->2<=sizeLine/\∀ (t:Addr),Hc t=none->Γ.mod t=none->dj Γ.mod .append (.ref fl) [.ref t] (upd Hc t (.tup [.str w,.ref cl])) fun _ H1=>wSs Cr Γ X0 D [s0,s1,s2,s3,some (.ref e),some (.ref fl),some (.ref pd),some (.str x),some (.ref cl),v9] H1:=fun w ew=>by
  subst ew;refine⟨by rw[Jm];omega,fun t ht mt=>?_⟩;have nf:=ag hf ht;have np:=ag hp ht;have nc:=ag hc ht;have pf:pd ≠ fl:=fun z=>by rw[z,hf]at hp;cases hp
  have pc:cl ≠ pd:=fun z=>by rw[z,hp]at hc;cases hc
  refine append_at (by rw[af nf];exact hf) (by unfold a_;rw[Jb,Jm];omega) ?_;have ef:a_ F++[V.ref t]=a_ (F++[(t,cl,!decide (x ∈ ss),C)]):=by unfold a_;rw[Jt];rfl
  rw[ef];refine seq ?_;walk_at "s1";refine⟨gp.cm,bQ (ao (by rw[af ncf,af nc];exact hc) ai) ?_⟩;refine vA (by rw[af ncf,af nc];exact hc) (by rw[af pf,af np];exact hp) nd off b7 fun v=>?_;exact q t v ht mt
 by_cases m:x ∈ ss
 ·rw[Jc (JP m),gp.ro];exact fin "row" (by rw[JP m];rfl)
 ·rw[I_ (by simpa using m),gp.ri];exact fin "ring" (by rw[JK m];rfl)
theorem yx {M:Mo} {Γ:bZ} {L:i4} {Ts:List Tb} (gp:PG Γ M L Ts) (vs:List V) (H:Hp) (Q:VK) (X:XK) (h:jY M Ts vs H Q X):eM Γ km 2 (ph L.le) vs H Q X:=by
 obtain⟨p,q,P,R,rfl,hp,hq,pp,pr,fp,fr,tb,h⟩:=h;refine⟨rfl,?_⟩;obtain rfl:=gp.mod;have gc:=gp.cm;have t2:=eK pp pr;unfold ph;refine seq ?_;walk_at "s1";refine⟨⟨gc,gp.al.1⟩,?_⟩;rw[gp.al.2];refine⟨p,q,P,R,rfl,hp,hq,pp.nd,by omega,fun H1 a x1 na ma ha=>?_⟩;refine seq ?_;walk_at "s1";refine⟨⟨gc,gp.al.1⟩,?_⟩;rw[gp.al.2];refine⟨q,p,R,P,rfl,Ext.bz x1 hq,Ext.bz x1 hp,pr.nd,by omega,fun H2 b x2 nb mb hb=>?_⟩;have ha2:=x2.same _ _ ha;have la:(alone (ay P) (ay R)).length<=10:=JB (gg _ _) (by rw[cq];exact fp);have lb:(alone (ay R) (ay P)).length<=10:=JB (gg _ _) (by rw[cq];exact fr);refine seq ?_;walk_at "s1";refine⟨gc,_,_,rfl,rfl,a,b,ends (alone (ay P) (ay R)),ends (alone (ay R) (ay P)),rfl,rfl,⟨_,ha2,qa _⟩,⟨_,hb,qa _⟩,by rw[bc];omega,by rw[bc];omega,fun ss e snd sme ssr he me=>?_⟩
 have ssl:ss.length<=40:=by
  have:=snd.length_le_of_subset (l₂:=ends (alone (ay P) (ay R))++ends (alone (ay R) (ay P))) fun z hz=>Jx.mpr (((sme z).mp hz).elim (fun h=>.inl h.1) (fun h=>.inr h.1));rw[Jl,bc,bc]at this;omega
 have x3:=Ext.upd (M:=Γ.mod) (H:=H2) (o:=.lst (ss.map V.str)) he me;refine seq ?_;walk_at "s1";refine⟨by rw[Jm];simp,fun fl hf mf=>?_⟩;refine seq ?_;walk_at "s1";intro pd hpd mpd;have x4:=x3.trans (Ext.upd (o:=.lst []) hf mf);have x5:=x4.trans (Ext.upd (o:=.dK []) hpd mpd);have e5:upd (upd (upd H2 e (.lst (ss.map V.str))) fl (.lst [])) pd (.dK []) e=some (.lst (ss.map V.str)):=(Ext.upd (M:=Γ.mod) hpd mpd).same _ _ ((Ext.upd (M:=Γ.mod) hf mf).same _ _ ae);have f5:upd (upd (upd H2 e (.lst (ss.map V.str))) fl (.lst [])) pd (.dK []) fl=some (.lst []):=(Ext.upd (M:=Γ.mod) hpd mpd).same _ _ ae;have d5:upd (upd (upd H2 e (.lst (ss.map V.str))) fl (.lst [])) pd (.dK []) pd=some (.dK (sx [])):=ae;have nf2:H2 fl=none:=x3.aD hf;have np2:H2 pd=none:=x4.aD hpd;have efl:e ≠ fl:=fun z=>by rw[<-z,ae]at hf;cases hf
 have npf:pd ≠ fl:=fun z=>by rw[z,ae]at hpd;cases hpd
 generalize upd (upd (upd H2 e (.lst (ss.map V.str))) fl (.lst [])) pd (.dK [])=H5 at x5 e5 f5 d5;have a5:=x5.same _ _ ha2;have b5:=x5.same _ _ hb;have x05:=(x1.trans x2).trans x5;refine seq ?_;walk_at "s1";refine⟨gc,gc,Ff a5 ⟨by rw[Jb,yN];omega,fun ks kl kpm ksr hk mk=>?_⟩⟩;rw[eQ]at kpm;have k6:=Ext.upd (M:=Γ.mod) (H:=H5) (o:=.lst (ks.map V.str)) hk mk;rw[Sw.Cq,ao (k6.same _ _ e5) ai,ao ae ai];refine⟨by rw[Jb,Jb,Jm,kpm.length_eq,bc];have:=ssl;omega,fun sl hsl msl=>?_⟩;have sfl:sl ≠ fl:=J5 (ag (k6.same _ _ f5) hsl);rw[<-Jt];have k7:=k6.trans (Ext.upd (M:=Γ.mod) (o:=.lst ((ss++ks).map V.str)) hsl msl)
 have K:lT (aI (mt (alone (ay P) (ay R)))) (aI (mt (alone (ay R) (ay P)))) ss ks:=by
  refine⟨rW ssr snd,rW ksr (kpm.nodup_iff.mpr pp.alone.nd),snd,kpm.nodup_iff.mpr pp.alone.nd,fun x=>?_,fun x=>?_⟩
  ·rw[sme,<-cX pp.alone.nd,<-cX pr.alone.nd];constructor
   ·rintro(⟨h1,h2⟩ | ⟨h1,h2⟩)
    ·exact .inr ⟨h1,Classical.not_not.mp h2⟩
    ·exact .inl ⟨Classical.not_not.mp h2,h1⟩
   ·rintro(⟨h1,h2⟩ | ⟨h1,h2⟩)
    ·exact .inr ⟨h2,fun z=>z h1⟩
    ·exact .inl ⟨h1,fun z=>z h2⟩
  ·rw[kpm.mem_iff,cX pp.alone.nd]
 generalize hG:upd (upd H5 kl (.lst (ks.map V.str))) sl (.lst ((ss++ks).map V.str))=H7 at k7 ⊢;have s7:H7 sl=some (.lst ((ss++ks).map V.str)):=by rw[<-hG];exact ae
 have x7:=x5.trans k7;refine bQ (ao s7 ai) ?_
 refine b_ (fun n σ Hn=>∃ (F:List Fp) (v7 v8 v9:Option V),σ=[some (.ref p),some (.ref q),some (.ref a),some (.ref b),some (.ref e),some (.ref fl),some (.ref pd),v7,v8,v9]/\Ext Γ.mod H2 Hn/\Hn e=some (.lst (ss.map V.str))/\Hn sl=some (.lst ((ss++ks).map V.str))/\Hn fl=some (.lst (a_ F))/\Hn pd=some (.dK (sx (flat (aV F))))/\vf Hn F/\(∀ x ∈ F,x.2.1 ≠ fl)/\de (aI (mt (alone (ay P) (ay R)))) (aI (mt (alone (ay R) (ay P)))) (ss++ks) n (aV F)/\F.length<=n/\∀y ∈ flat (aV F),y ∈ ends (alone (ay P) (ay R))++ends (alone (ay R) (ay P))) (fun n σ Hn z=>?_) (fun n v σ Hn D' hv pv nx ct _ _=>?_) (fun σ Hn pv=>?_)
  ⟨[],none,none,none,rfl,x7,k7.same _ _ e5,s7,k7.same _ _ f5,k7.same _ _ d5,fun x hx=>(nomatch hx),fun x hx=>(nomatch hx),yX,Jv _,fun y hy=>(nomatch hy)⟩
 ·obtain⟨_,_,_,_,_,_,_,z,_⟩:=z;exact ao z ai
 ·obtain⟨F,v7,v8,v9,rfl,y1,y2,y3,y4,y5,y6,y7,y8,y9,y10⟩:=pv;rw[Jy]at hv;obtain⟨x,hx,rfl⟩:=JF.mp hv;have nlt:=(Ju.mp hx).1;have skl:(ss++ks).length<=60:=by rw[Jl,kpm.length_eq,bc];omega
  have uul:(ends (alone (ay P) (ay R))++ends (alone (ay R) (ay P))).length<=40:=by rw[Jl,bc,bc];omega
  have go:∀ (c:Addr) (C:List Str),Hn c=none->Γ.mod c=none->de (aI (mt (alone (ay P) (ay R)))) (aI (mt (alone (ay R) (ay P)))) (ss++ks) (n + 1) (aV F++[(!decide (x ∈ ss),C)])->(∀ y ∈ C,y ∈ ends (alone (ay P) (ay R))++ends (alone (ay R) (ay P)))->
    wSs xw Γ X0 D' [some (.ref p),some (.ref q),some (.ref a),some (.ref b),some (.ref e),some (.ref fl),some (.ref pd),some (.str x),some (.ref c),v9] (upd Hn c (.lst (C.map V.str))):=by
   intro c C hc mc LI cu;have ndF:=LI.so.nd;have ec:flat (aV F++[(!decide (x ∈ ss),C)])=flat (aV F)++C:=iM _ _;have ndF:(flat (aV F)++C).Nodup:=by rw[<-ec];exact ndF
   obtain⟨n1,n2,n3⟩:=JI.mp ndF;have nfc:=ag y4 hc
   have b7:(flat (aV F)).length + C.length<=100:=by
    have:=n1.length_le_of_subset y10;have:=n2.length_le_of_subset cu;omega
   refine vC gp (by rw[af (ag y2 hc)];exact y2) (by rw[af nfc];exact y4) (by rw[af (ag y5 hc)];exact y5) ae (J5 nfc) n2 (fun y hy hu=>n3 y hu y hy rfl) b7 (by omega) (by omega) fun t v9' ht mt=>?_;have htn:Hn t=none:=(Ext.upd (M:=Γ.mod) hc mc).aD ht;have htc:t ≠ c:=fun z=>by rw[z,ae]at ht;cases ht
   have pf:pd ≠ fl:=fun z=>by rw[z,y4]at y5;cases y5
   have kc:∀ {w:Addr} {o:HO},Hn w=some o->w ≠ fl->w ≠ pd->upd (upd (upd (upd Hn c (.lst (C.map V.str))) t (.tup [.str (word (!decide (x ∈ ss))),.ref c])) fl (.lst (a_ (F++[(t,c,!decide (x ∈ ss),C)])))) pd (.dK (sx (flat (aV F)++C))) w=some o:=fun{w o} hw w1 w2=>by
    rw[af w2,af w1,af (ag hw htn),af (ag hw hc)];exact hw
   have nl:∀ {w:Addr} {xs:List V},Hn w=some (.tup xs)->w ≠ fl/\w ≠ pd:=fun{w xs} hw=>⟨(fun z=>by rw[z,y4]at hw;cases hw),(fun z=>by rw[z,y5]at hw;cases hw)⟩;have ef:=efl;have sf:=sfl;have np':∀ {w:Addr} {xs:List V},Hn w=some (.lst xs)->w ≠ pd:=fun{w xs} hw z=>by rw[z,y5]at hw;cases hw
   refine nx _ _ ⟨F++[(t,c,!decide (x ∈ ss),C)],_,_,_,rfl,(((y1.b8 (y1.aD hc) mc).b8 (y1.aD htn) mt).b8 nf2 mf).b8 np2 mpd,kc y2 ef (np' y2),kc y3 sf (np' y3),?_,?_,fun z hz=>?_,fun z hz=>?_,?_,by rw[Jl];simp;omega,fun y hy=>?_⟩
   ·rw[af (J5 pf),ae]
   ·rw[ae];have:flat (aV (F++[(t,c,!decide (x ∈ ss),C)]))=flat (aV F)++C:=by unfold aV;rw[Jt];exact ec
    rw[this]
   ·rcases Jx.mp hz with hz | hz
    ·obtain⟨z1,z2⟩:=y6 z hz;exact⟨kc z1 (nl z1).1 (nl z1).2,kc z2 (y7 z hz) (np' z2)⟩
    ·rw[Jo.mp hz];refine⟨?_,?_⟩
     ·rw[af (J5 (ag y5 htn)),af (J5 (ag y4 htn)),ae]
     ·rw[af (J5 (ag y5 hc)),af (J5 (ag y4 hc)),af (J5 htc),ae]
   ·rcases Jx.mp hz with hz | hz
    ·exact y7 z hz
    ·rw[Jo.mp hz];exact J5 nfc
   ·have:aV (F++[(t,c,!decide (x ∈ ss),C)])=aV F++[(!decide (x ∈ ss),C)]:=by unfold aV;rw[Jt];rfl
    rw[this];exact LI
   ·have:flat (aV (F++[(t,c,!decide (x ∈ ss),C)]))=flat (aV F)++C:=by unfold aV;rw[Jt];exact ec
    rw[this]at hy;exact(Jx.mp hy).elim (y10 y) (cu y)
  refine seq ?_;walk_at "s1";refine Ee (ao y5 iB) ⟨_,rfl,?_⟩;rw[A6]
  by_cases m:x ∈ flat (aV F)
  ·rw[I_ (by simp[m])];exact nx _ _ ⟨F,_,v8,v9,rfl,y1,y2,y3,y4,y5,y6,y7,y8.skip hx m,by omega,y10⟩
  ·rw[Jc (by simp[m])];refine seq ?_;walk_at "s1";refine uI (ao (y1.same _ _ ha2) iB) ⟨_,rfl,?_⟩;rw[xP,LX]
   have xk:((mt (alone (ay P) (ay R))).lookup x).isSome=decide (aI (mt (alone (ay P) (ay R))) x ≠ none):=by
    unfold aI;cases (mt (alone (ay P) (ay R))).lookup x<;>rfl
   rw[xk]
   have cU:∀u v,aI (mt (alone (ay P) (ay R))) u=some v\/aI (mt (alone (ay R) (ay P))) u=some v->v ∈ ends (alone (ay P) (ay R))++ends (alone (ay R) (ay P)):=fun u v hv=>by
    rcases hv with hv | hv
    ·exact J_ _ ((cX pp.alone.nd).mp (by rw[t2.F.sym _ _ hv];exact fun z=>(nomatch z)))
    ·exact JG _ ((cX pr.alone.nd).mp (by rw[t2.G.sym _ _ hv];exact fun z=>(nomatch z)))
   have xU:x ∈ ends (alone (ay P) (ay R))++ends (alone (ay R) (ay P)):=by
    rcases Jx.mp (Jg hx)with z | z
    ·exact Jx.mpr (((sme x).mp z).elim (fun h=>.inl h.1) (fun h=>.inr h.1))
    ·exact J_ _ (kpm.mem_iff.mp z)
   by_cases fx:aI (mt (alone (ay P) (ay R))) x=none
   ·rw[I_ (by simp[fx])];refine⟨⟨gc,gp.wk.1⟩,?_⟩;rw[gp.wk.2];refine⟨x,b,a,_,_,_,rfl,y1.same _ _ hb,y1.same _ _ ha2,t2.G,t2.F,uul,xU,fun u v hv=>cU u v hv.symm,fun c C hc mc d sub=>go c C hc mc ?_ sub⟩;have xs:x ∈ ss:=(Jx.mp (Jg hx)).resolve_right fun z=>(K.mf x).mp z fx
    have nl:n < ss.length:=Nat.lt_of_not_le fun z=>by
     rw[JY z]at hx;exact(K.mf x).mp (Jg hx) fx
    have hn:ss[n]?=some x:=by rw[JH nl]at hx;exact hx
    have gx:aI (mt (alone (ay R) (ay P))) x ≠ none:=((K.me x).mp xs).elim (fun h=>h.2) (fun h=>absurd fx h.1);have:=y8.row t2 K hn m (.inr ⟨d,fx,gx⟩);rw[JP xs];exact this
   ·rw[Jc (by simp[fx])];refine⟨⟨gc,gp.wk.1⟩,?_⟩;rw[gp.wk.2];refine⟨x,a,b,_,_,_,rfl,y1.same _ _ ha2,y1.same _ _ hb,t2.F,t2.G,uul,xU,cU,fun c C hc mc d sub=>go c C hc mc ?_ sub⟩
    by_cases nl:n < ss.length
    ·have hn:ss[n]?=some x:=by rw[JH nl]at hx;exact hx
     have xs:x ∈ ss:=Jg hn;have gx:aI (mt (alone (ay R) (ay P))) x=none:=((K.me x).mp xs).elim (fun h=>absurd h.1 fx) (fun h=>h.2);have:=y8.row t2 K hn m (.inl ⟨d,fx,gx⟩);rw[JP xs];exact this
    ·obtain⟨k,rfl⟩:∃k,n=ss.length + k:=⟨n - ss.length,by omega⟩;have hn:ks[k]?=some x:=by rw[JY (by omega),Mt]at hx;exact hx
     have xs:x ∉ ss:=fun z=>by
      obtain⟨i,hi,e⟩:=J0.mp z;exact m (y8.pl i (by omega) x (by rw[JH hi,Je hi,e]))
     have:=y8.ring t2 K hn m d;rw[JK xs];exact this
 ·obtain⟨F,v7,v8,v9,rfl,y1,y2,y3,y4,y5,y6,y7,y8,y9,y10⟩:=pv;rw[Jb]at y8 y9
  show(match Γ.lm with
   | some (L',Ts')=>L.le=L'.le/\Γ.cm=true/\((∀ t ∈ Ts',TabAt Hn t)/\∃ (p:Addr) (ys:List (Addr × Str)),V.ref fl=.ref p/\Hn p=some (.lst (ys.map fun y=>.ref y.1))/\ys.length < 64/\(∀ y ∈ ys,jL Hn y)/\
    ∀ (H2:Hp) (l:Addr) (zs:List (Addr × Str)),ff Γ.mod Hn H2->(∀ t ∈ Ts',TabAt H2 t)->Hn l=none->Γ.mod l=none->H2 l=some (.lst (zs.map fun z=>.ref z.1))->zs.Perm ys->zs.Pairwise ER->Q (.ref l) H2)
   | none=>False)
  rw[gp.lm];have xx:=(x1.trans x2).trans y1
  have ne:∀z ∈ F,∃u r,z.2.2.2=u::r:=fun z hz=>by
   obtain⟨s',h' | h'⟩:=(y8.so.ok (z.2.2.1,z.2.2.2) (Jf.mpr ⟨z,hz,rfl⟩)).row
   ·have:=h'.1.ne;cases q:z.2.2.2 with
    | nil=>exact absurd q this
    | cons u r=>exact⟨u,r,rfl⟩
   ·have:=h'.2.1.ne;cases q:z.2.2.2 with
    | nil=>exact absurd q this
    | cons u r=>exact⟨u,r,rfl⟩
  have skl:(ss++ks).length<=60:=by rw[Jl,kpm.length_eq,bc];omega
  refine⟨rfl,gc,fun t ht=>jX xx (tb t ht),fl,F.map fun z=>(z.1,z.2.2.2.headD Str.empty),rfl,?_,?_,fun y hy=>?_,fun H8 l zs x8 t8 nl ml hl pm up=>?_⟩
  ·rw[y4,JL];rfl
  ·rw[Jb];omega
  ·obtain⟨z,hz,rfl⟩:=Jf.mp hy;obtain⟨u,r,e'⟩:=ne z hz;obtain⟨z1,z2⟩:=y6 z hz;exact⟨_,_,r.map V.str,z1,by rw[z2,e'];rfl⟩
  ·obtain⟨F',pf,rfl⟩:=qp pm;refine h H8 l F' ((B3 xx).C4 x8) t8 (xx.aD nl) ml (by rw[hl,JL];rfl) (fun z hz=>?_) ⟨aV F,ss,ks,K,y8,pf.map _,?_⟩
   ·obtain⟨z1,z2⟩:=y6 z (pf.mem_iff.mp hz);exact⟨x8.same _ _ z1 (fun _ z=>(nomatch z)),x8.same _ _ z2 (fun _ z=>(nomatch z))⟩
   ·refine KW.mpr ((KW.mp up).imp_of_mem fun{c d} hc hd hl s' t' e1 e2=>?_);obtain⟨u,r,e3⟩:=ne c (pf.mem_iff.mp hc);obtain⟨w,r2,e4⟩:=ne d (pf.mem_iff.mp hd);have e1:c.2.2.2[0]?=some s':=e1;have e2:d.2.2.2[0]?=some t':=e2;rw[e3]at e1;rw[e4]at e2;cases e1
    cases e2
    have hl:ltCps (d.2.2.2.headD Str.empty).cps.toList (c.2.2.2.headD Str.empty).cps.toList=false:=hl;rw[e3,e4,ltCps_eq]at hl;exact(LW hl:¬_ < _)
abbrev e_:List Str:=["_law_word","_law_couples","_law_pairs_here"]
noncomputable def eZ:dm:=(.cons (.asg 2 (.lzip (.var 1) (.slc (.var 1) (.cons (.con (.int 1)) .nil) .nil)))
 (.cons (.iff (.cmp .Eq (.var 0) (.con (.str "ring"))) (.cons (.exp (.mth .append (.var 2) (.cons (.tup (.cons (.idx (.var 1) (.neg (.con (.int 1)))) (.cons (.idx (.var 1) (.con (.int 0))) .nil))) .nil)))
 .nil) .nil)
 (.cons (.ret (.compT ["_law_one","_law_other"] [] (.ex (.var 2)) (.tup (.cons (.blt .smin (.cons (.var 0) (.cons (.var 1) .nil))) (.cons (.smax (.var 0) (.var 1)) .nil)))))
 .nil)))
theorem nS {M:Mo} {te:TE} {fvs:L2.St} {D:Addr} {aq:Hp->Prop} {k:Hp->Prop} {H0:Hp} (hD:H0 D=none) (mD:M D=none) (f:Str × Str->Str × Str) (st:∀Hn,Ext M H0 Hn->aq Hn):∀ (P Z:List Pr) (Hn:Hp),
  Ext M H0 Hn->Hn D=some (.lst (refs Z))->aB Hn Z->aB H0 P->(∀ x ∈ P,∀Hn Q,(∀ t,Hn t=none->M t=none->Q (.ref t) (upd Hn t (.tup [.str (f x.2).1,.str (f x.2).2])))->te (some (.str x.2.1)::some (.str x.2.2)::fvs) Hn Q)->Z.length + P.length<=1000->
  (∀ Hf Z',Ext M H0 Hf->Hf D=some (.lst (refs (Z++Z')))->aB Hf (Z++Z')->ay Z'=(ay P).map f->k Hf)->cK (Cb M 2) te (fun _ H Q=>Q true H) fvs D aq (refs P) (refs Z) Hn k
 | [],Z,Hn,x0,d0,z0,hp,ht,hl,q=>⟨st _ x0,d0,q Hn [] x0 (by rw[Ld];exact d0) (by rw[Ld];exact z0) rfl⟩
 | x::P,Z,Hn,x0,d0,z0,hp,ht,hl,q=>by
  rw[JW]at hl;refine⟨st _ x0,?_⟩
  have e:Cb M 2 (.ref x.1) Hn=some [some (.str x.2.1),some (.str x.2.2)]:=by
   show(match rd M Hn x.1 with
    | some (.tup xs)=>if xs.length=2 then some (xs.map some)else none
    | _=>none)=_
   rw[ao (o:=.tup [.str x.2.1,.str x.2.2]) (x0.same _ _ (hp x Jj)) bG];rfl
  show(match Cb M 2 (.ref x.1) Hn with | some w=>_ | none=>False);rw[e];show if true=true then _ else _
  rw[Jc rfl];refine ht x Jj Hn _ fun t hT mT=>?_;have nd:D ≠ t:=ag d0 hT;refine⟨by rw[af nd];exact d0,by rw[aJ,Jm];omega,?_⟩;have er:refs Z++[V.ref t]=refs (Z++[(t,f x.2)]):=by rw[<-cp];rfl
  rw[er];have x1:Ext M H0 (upd (upd Hn t (.tup [.str (f x.2).1,.str (f x.2).2])) D (.lst (refs (Z++[(t,f x.2)])))):=(x0.b8 (x0.aD hT) mT).b8 hD mD;refine nS hD mD f st P (Z++[(t,f x.2)]) _ x1 ae (fun y hy=>?_) (fun y hy=>hp y (Ji _ hy)) (fun y hy=>ht y (Ji _ hy)) (by rw[Jl];simp;omega) fun Hf Z' xf df zf ez=>?_
  ·have k:∀ {w:Addr} {xs:List V},upd Hn t (.tup [.str (f x.2).1,.str (f x.2).2]) w=some (.tup xs)->upd (upd Hn t (.tup [.str (f x.2).1,.str (f x.2).2])) D (.lst (refs (Z++[(t,f x.2)]))) w=some (.tup xs):=fun{w xs} hw=>by
    rw[af (fun z=>by rw[z,af nd,d0]at hw;cases hw)];exact hw
   rcases Jx.mp hy with hy | hy
   ·exact k (by rw[af (ag (z0 y hy) hT)];exact z0 y hy)
   ·rw[Jo.mp hy];exact k ae
  ·refine q Hf ((t,f x.2)::Z') xf (by rw[JD]at df;exact df) (by rw[JD]at zf;exact zf) ?_;show f x.2::ay Z'=f x.2::(ay P).map f;rw[ez]
noncomputable def dS (M:Mo):Sp:=fun vs H Q _=>∃wd c R,vs=[.str wd,.ref c]/\rd M H c=some (.lst (R.map V.str))/\(wd=Str.ofString "ring" ->R ≠ [])/\R.length<=100/\
 ∀H' q Z,Ext M H H'->H q=none->M q=none->av H' q Z->ay Z=wQ wd R->Q (.ref q) H'
theorem lM {Γ:bZ} {Ξ:XS} {D:Ends} {H H2:Hp} {wd:Str} {c al:Addr} {Z:List Pr} (gc:Γ.cm=true) (x:Ext Γ.mod H H2) (hal:av H2 al Z) (b7:Z.length<=200)
  (q:∀H' r Z',Ext Γ.mod H H'->H r=none->Γ.mod r=none->av H' r Z'->ay Z'=(ay Z).map (fun p=>pL p.1 p.2)->D.rt (.ref r) H'):
  wSs (.cons (.ret (.compT ["_law_one","_law_other"] [] (.ex (.var 2)) (.tup (.cons (.blt .smin (.cons (.var 0) (.cons (.var 1) .nil))) (.cons (.smax (.var 0) (.var 1)) .nil))))) .nil) Γ Ξ D [some (.str wd),some (.ref c),some (.ref al)] H2:=by
 walk_at "sw";refine⟨gc,bQ (ao hal.at_ ai) fun d hd md=>?_⟩;refine nS (H0:=H2) hd md (fun p=>pL p.1 p.2) (fun Hn xn=>ao (xn.same _ _ hal.at_) ai) Z [] _ (Ext.upd hd md) ae (fun y hy=>(nomatch hy)) hal.cT (fun y hy Hn Q q=>?_) (by simp;omega) fun Hf Z' xf df zf ez=>?_
 ·refine⟨gc,AJ ⟨gc,?_⟩⟩;show 2<=sizeLine/\_;exact⟨by rw[Jm];omega,fun t ht mt=>q t ht mt⟩
 ·exact q Hf d Z' (x.trans xf) (x.aD hd) md ⟨by simpa using df,by simpa using zf⟩ ez
theorem vJ {M:Mo} {Γ:bZ} (gm:Γ.mod=M) (gc:Γ.cm=true) (vs:List V) (H:Hp) (Q:VK) (X:XK) (h:dS M vs H Q X):eM Γ e_ 2 eZ vs H Q X:=by
 obtain⟨wd,c,R,rfl,hc,rn,rf,h⟩:=h;refine⟨rfl,?_⟩;obtain rfl:=gm;unfold eZ;refine seq ?_;walk_at "s1";refine⟨gc,?_⟩;rw[Sw.t7,hc];intro l hl ml;rw[HS];have x1:Ext Γ.mod H (upd H l (.lst (R.tail.map V.str))):=Ext.upd hl ml;have hll:upd H l (.lst (R.tail.map V.str)) l=some (.lst (R.tail.map V.str)):=ae;generalize upd H l (.lst (R.tail.map V.str))=H1 at x1 hll;have pa1:=x1.rd hc;have rl:=ao (M:=Γ.mod) hll ai;unfold w8;dsimp only;rw[pa1,rl];dsimp only;refine vR fun H2 al Z x2 nal mal hal ez=>?_;have x12:=x1.trans x2;have pa2:=x2.rd pa1
 have lz:Z.length<=100:=by
  have q:=congrArg List.length ez;unfold ay at q;rw[Jb,MT]at q;omega
 refine seq ?_;walk_at "s1";rw[Sw.pW];refine⟨_,rfl,?_⟩
 by_cases w:wd=Str.ofString "ring"
 ·rw[Jc (JP w)];have ne:=rn w;refine seq ?_;walk_at "s1";refine⟨dY hal.at_,uD pa2 ne (j_ pa2 ne ⟨by rw[Jm];simp,fun t ht mt=>?_⟩)⟩;have x3:Ext Γ.mod H2 (upd H2 t (.tup [.str (R.getLastD ⟨#[]⟩),.str (R.headD ⟨#[]⟩)])):=Ext.upd ht mt;have htt:upd H2 t (.tup [.str (R.getLastD ⟨#[]⟩),.str (R.headD ⟨#[]⟩)]) t=some (.tup [.str (R.getLastD ⟨#[]⟩),.str (R.headD ⟨#[]⟩)]):=ae;generalize upd H2 t (.tup [.str (R.getLastD ⟨#[]⟩),.str (R.headD ⟨#[]⟩)])=H3 at x3 htt;have hal3:=Ext.bz x3 hal;refine append_at hal3.at_ (by rw[aJ,Jm];omega) ?_;have er:refs Z++[V.ref t]=refs (Z++[(t,R.getLastD ⟨#[]⟩,R.headD ⟨#[]⟩)]):=by rw[<-cp];rfl
  rw[er];refine bD ?_;have x4:Ext Γ.mod H (upd H3 al (.lst (refs (Z++[(t,R.getLastD ⟨#[]⟩,R.headD ⟨#[]⟩)])))):=x1.trans ((x2.trans x3).b8 nal mal);refine lM gc x4 ⟨ae,aB.upd (xs:=refs Z) (aB.app hal3.cT (fun y hy=>by rw[Jo.mp hy];exact htt)) hal3.at_⟩ (by rw[Jl];simp;omega) fun H' r Z' x' nr mr hz e=>h H' r Z' x' nr mr hz ?_;rw[e];unfold wQ HR ar;rw[Jc w,<-ez];unfold ay;rw[Jt,Jt];rfl
 ·rw[I_ (by rw[Kl];exact w)];refine bD ?_;refine lM gc x12 hal (by omega) fun H' r Z' x' nr mr hz e=>h H' r Z' x' nr mr hz ?_;rw[e];unfold wQ ar;rw[I_ w,<-ez]
abbrev dP:List Str:=["_law_plan_here","_law_cell_here"]
noncomputable def dM:dm:=(.cons (.iff (.cmp .Gt (.bin .Mod (.var 1) (.con (.int 3))) (.con (.int 0))) (.cons (.ret (.lst .nil))
 .nil) .nil)
 (.cons (.ret (.comp "_law_k" [("_law_plan_here",0),("_law_cell_here",1)] (.rng1 (.blt .len (.cons (.var 0) .nil))) (.idx (.var 1) (.var 0)) (.cons (.cmp .Gt (.bin .Mod (.call "_law_mix" (.cons (.var 2) (.cons (.bin .Add (.con (.int 900)) (.var 0)) .nil))) (.con (.int 3))) (.con (.int 0))) .nil)))
 .nil))
noncomputable def ie (M:Mo):Sp:=fun vs H Q _=>∃p c P,vs=[.ref p,.int c]/\av H p P/\P.length<=20/\∀H' q P',Ext M H H'->H q=none->M q=none->av H' q P'->P'.Sublist P->Q (.ref q) H'
theorem vK {M:Mo} {Γ:bZ} (gm:Γ.mod=M) (gc:Γ.cm=true) (g2:Γ.has "_law_mix" =true/\Γ.fn "_law_mix" =Gk.jB) (vs:List V) (H:Hp) (Q:VK) (X:XK) (h:ie M vs H Q X):eM Γ dP 2 dM vs H Q X:=by
 obtain⟨p,c,P,rfl,hp,b7,h⟩:=h;refine⟨rfl,?_⟩;obtain rfl:=gm;unfold dM;refine seq ?_;walk_at "s1";rw[Sw.v_mod];refine⟨by decide,?_⟩;rw[Sw.Ay];refine⟨_,rfl,?_⟩
 by_cases c3:c % 3 > 0
 ·rw[Jc (by simpa using c3)];walk_at "sw";exact⟨by rw[Jm];simp,fun q hq mq=>h _ q [] (Ext.upd hq mq) hq mq ⟨ae,fun y hy=>(nomatch hy)⟩ (List.nil_sublist _)⟩
 ·rw[I_ (by simpa using c3)];refine bD ?_;dsimp only[Sw.wSs,Sw.wS,Sw.wE,Sw.wT,Sw.wEs,Sw.wTs,Sw.wI,Sw.vars,Sw.gM,Sw.gL,Sw.gH,Sw.gG,Sw.gJ,Sw.gI,Sw.gO,Sw.gN,Sw.gK,L2.start,Sw.jg,Sw.jf,Sw.je,Sw.jd,Nat.reduceAdd,Nat.reduceSub];refine⟨gc,gc,cZ (ao hp.at_ ai) ?_⟩;dsimp only;rw[aJ];refine⟨by omega,by omega,fun D hD mD=>?_⟩;rw[show((P.length:Int)).toNat=P.length from rfl];have xD:∀l,Ext Γ.mod H (upd H D (.lst l)):=fun l=>Ext.upd hD mD;refine fu (fun m acc Hm=>∃T:List Pr,acc=refs T/\Hm=upd H D (.lst (refs T))/\T.Sublist (P.take m)) (fun m acc Hm z=>?_) (fun m v acc Hm K hv pv nx2=>?_) (fun acc Hm pv=>?_) ⟨[],rfl,rfl,List.nil_sublist _⟩
  ·obtain⟨T,rfl,rfl,_⟩:=z;exact⟨trivial,ae⟩
  ·obtain⟨T,rfl,rfl,z3⟩:=pv;obtain⟨k1,rfl⟩:=cP hv;obtain⟨x,ex⟩:∃x,P[m]?=some x:=⟨_,Je (by omega)⟩;have tk:P.take (m + 1)=P.take m++[x]:=by rw[L1,ex];rfl
   have tl:T.length<=20:=JB z3.length_le (by rw[J7];omega);walk_at "s1";refine⟨⟨gc,g2.1⟩,?_⟩;rw[Sw.v_add,g2.2];refine⟨c,_,rfl,by omega,by omega,fun z _ _ _=>?_⟩;dsimp only;rw[Sw.v_mod];refine⟨by decide,?_⟩;rw[Sw.Ay];refine⟨_,rfl,?_⟩
   by_cases z0:z % 3 > 0
   ·rw[Jc (by simpa using z0)];obtain⟨v,e1,e2⟩:=pC (xs:=refs P) (i:=(m:Int)) (by omega) (by rw[aJ];omega)
    have ev:v=.ref x.1:=by
     unfold lL oX at e1;rw[Jc (by omega),Jc (by rw[aJ];omega)]at e1;have e1:(refs P)[m]?=some v:=e1;unfold refs at e1;rw[Jy,ex]at e1;exact(JE e1).symm
    subst ev;refine iJ (ao ((xD _).same _ _ hp.at_) ai) e1 ?_;refine⟨ae,by rw[aJ,Jm];omega,nx2 _ _ ⟨T++[x],?_,?_,?_⟩⟩
    ·rw[<-cp];rfl
    ·rw[dq,<-cp];rfl
    ·rw[tk];exact z3.append (.refl _)
   ·rw[I_ (by simpa using z0)];exact nx2 _ _ ⟨T,rfl,rfl,by rw[tk];exact z3.trans (List.sublist_append_left _ _)⟩
  ·obtain⟨T,rfl,rfl,z3⟩:=pv;rw[Jb,KJ,KD]at z3;exact h _ D T (xD _) hD mD ⟨ae,fun y hy=>(xD _).same _ _ (hp.cT y (z3.subset hy))⟩ z3
theorem oQ {a b:Str} (h1:¬mJ a b) (h2:¬mJ b a):a=b:=by
 have:a.cps.toList=b.cps.toList:=NC (LH.mp h2) (LH.mp h1);obtain⟨⟨x⟩⟩:=a;obtain⟨⟨y⟩⟩:=b;have:x=y:=this;rw[this]
theorem iz:∀ {l l':List Str},(l.Pairwise fun a b=>¬mJ b a)->(l'.Pairwise fun a b=>¬mJ b a)->l.Nodup->l'.Nodup->(∀ x,x ∈ l ↔ x ∈ l')->l=l'
 | [],l',_,_,_,_,h=>by
  cases l' with
  | nil=>rfl
  | cons b r=>exact absurd ((h b).mpr Jj) (by simp)
 | a::r,l',o,o',n,n',h=>by
  cases l' with
  | nil=>exact absurd ((h a).mp Jj) (by simp)
  | cons b r'=>
   have o:=Kk.mp o;have o':=Kk.mp o';have n:=JN.mp n;have n':=JN.mp n'
   have e:a=b:=by
    rcases Jq.mp ((h a).mp Jj)with z | z
    ·exact z
    ·rcases Jq.mp ((h b).mpr Jj)with y | y
     ·exact y.symm
     ·exact oQ (o'.1 a z) (o.1 b y)
   subst e;rw[iz o.2 o'.2 n.2 n'.2 fun x=>?_];constructor
   ·intro hx;exact(Jq.mp ((h x).mp (Ji _ hx))).resolve_left fun z=>n.1 (z ▸ hx)
   ·intro hx;exact(Jq.mp ((h x).mpr (Ji _ hx))).resolve_left fun z=>n'.1 (z ▸ hx)
theorem sX {P Q:List (Bool × List Str)} (pm:P.Perm Q) (hd:∀p ∈ P,∃s,p.2[0]?=some s) (df:∀p ∈ P,∀q ∈ P,∀s,p.2[0]?=some s->q.2[0]?=some s->p=q)
  (o:P.Pairwise fun a b=>∀s t,a.2[0]?=some s->b.2[0]?=some t->¬mJ t s) (o':Q.Pairwise fun a b=>∀s t,a.2[0]?=some s->b.2[0]?=some t->¬mJ t s):P=Q:=by
 induction P generalizing Q with
 | nil=>exact pm.nil_eq
 | cons a r ih=>
  cases Q with
  | nil=>exact absurd pm.length_eq (by simp)
  | cons b t=>
   have o:=Kk.mp o;have o':=Kk.mp o'
   have e:a=b:=by
    rcases Jq.mp (pm.mem_iff.mp (Jj (a:=a) (l:=r)))with z | z
    ·exact z
    ·rcases Jq.mp (pm.mem_iff.mpr (Jj (a:=b) (l:=t)))with y | y
     ·exact y.symm
     ·obtain⟨s,hs⟩:=hd a Jj;obtain⟨u,hu⟩:=hd b (Ji _ y);have:=oQ (o'.1 a z u s hu hs) (o.1 b y s u hs hu);subst this;exact df a Jj b (Ji _ y) _ hs hu
   subst e;rw[ih pm.cons_inv (fun p hp=>hd p (Ji _ hp)) (fun p hp q hq=>df p (Ji _ hp) q (Ji _ hq)) o.2 o'.2]
theorem uJ {f g:Str->Option Str} {p:Bool × List Str} (h:lV f g p):∃s,p.2[0]?=some s:=by
 obtain⟨s,h | h⟩:=h.row
 ·exact⟨s,h.1.st⟩
 ·exact⟨s,h.2.1.st⟩
theorem qV:∀ {P:List (Bool × List Str)},(flat P).Nodup->∀p ∈ P,∀q ∈ P,∀x,x ∈ p.2->x ∈ q.2->p=q
 | [],_,p,hp,_,_,_,_,_=>(nomatch hp)
 | a::r,nd,p,hp,q,hq,x,h1,h2=>by
  have nd:(a.2++flat r).Nodup:=nd;obtain⟨n1,n2,n3⟩:=JI.mp nd;have inr:∀z ∈ r,∀y ∈ z.2,y ∈ flat r:=fun z hz y hy=>Km.mpr ⟨z.2,Jf.mpr ⟨z,hz,rfl⟩,hy⟩;rcases Jq.mp hp with e1 | e1<;>rcases Jq.mp hq with e2 | e2
  ·rw[e1,e2]
  ·rw[e1]at h1;exact absurd rfl (n3 x h1 x (inr q e2 x h2))
  ·rw[e2]at h2;exact absurd rfl (n3 x h2 x (inr p e1 x h1))
  ·exact qV n2 p e1 q e2 x h1 h2
theorem dE.uniq {f g:Str->Option Str} {P Q:List (Bool × List Str)} (a:dE f g P) (b:dE f g Q):P=Q:=by
 obtain⟨P0,ss,ks,K,L,pm,o⟩:=a;obtain⟨Q0,ss',ks',K',L',pm',o'⟩:=b;have e1:ss=ss':=iz K.s K'.s K.ns K'.ns fun x=>by rw[K.me,K'.me]
 have e2:ks=ks':=iz K.k K'.k K.nk K'.nk fun x=>by rw[K.mf,K'.mf]
 subst e1 e2;have e3:=L.tr.uniq L'.tr;subst e3;refine sX (pm.trans pm'.symm) (fun p hp=>uJ (L.so.ok p (pm.mem_iff.mp hp))) (fun p hp q hq s h1 h2=>?_) o o';exact qV L.so.nd p (pm.mem_iff.mp hp) q (pm.mem_iff.mp hq) s (Jg h1) (Jg h2)
noncomputable def xG (p:Str × Str):Str × Str:=pL p.1 p.2
theorem mV:(word true=Str.ofString "ring")/\¬ (word false=Str.ofString "ring"):=by
 constructor
 ·rfl
 ·decide
theorem qK {C:List Str} {n:Nat} {l:Str} (hn:C.length=n + 1) (hl:C[n]?=some l):C.getLastD ⟨#[]⟩=l:=by
 rw[Nt,Mk,hn];show(C[n]?).getD _=l;rw[hl];rfl
theorem lu {C:List Str} {s:Str} (h:C[0]?=some s):C.headD ⟨#[]⟩=s:=by
 cases C with
 | nil=>cases h
 | cons a r=>cases h;rfl
theorem u_ {f g:Str->Option Str} {p:Bool × List Str} (h:lV f g p):wQ (word p.1) p.2=(lk p).map xG:=by
 obtain⟨b,C⟩:=p;cases b with
 | false=>
  unfold wQ;rw[I_ mV.2,lk_row];rfl
 | true=>
  obtain⟨s,n,l,d,hn,hl,_⟩:=h.Ai rfl;have hn:C.length=n + 1:=hn;have hl:C[n]?=some l:=hl;have st:C[0]?=some s:=d.st;unfold wQ;rw[Jc mV.1,iH st hn hl,Jt];unfold HR ar;show _=_++[pL l s];rw[qK hn hl,lu st];rfl
theorem fV {A B:NV} (a:gw A) {x y:Str} (h:aI (mt (alone A B)) x=some y):pL x y ∈ A/\pL x y ∉ B:=by
 rcases(cF a.alone.nd).mp h with h | h
 ·have l:slt x y:=a.alone.lt _ h;rw[rT l];exact bY.mp h
 ·have l:slt y x:=a.alone.lt _ h;rw[rV l];exact bY.mp h
theorem Bq {A B:NV} (a:gw A) (b:gw B) {p:Bool × List Str} (h:lV (aI (mt (alone A B))) (aI (mt (alone B A))) p):
  ∃m:Bool,(p.1=true->m=true)/\∀ (k:Nat) (s:Str × Str),((lk p).map xG)[k]?=some s->decide (s ∈ A)=decide (m=decide (k % 2=0))/\decide (s ∈ B)=!decide (s ∈ A):=by
 obtain⟨f',g',lks,w⟩:=h.fst
 have go:∀ (k:Nat) (s:Str × Str),((lk p).map xG)[k]?=some s->∃x y,s=pL x y/\T f' g' k x=some y:=fun k s hs=>by
  rw[Jy]at hs;obtain⟨⟨x,y⟩,h1,h2⟩:=JF.mp hs;exact⟨x,y,h2.symm,lks k x y h1⟩
 rcases w with ⟨e1,e2⟩ | ⟨nr,e1,e2⟩
 ·refine⟨true,fun _=>rfl,fun k s hs=>?_⟩;obtain⟨x,y,rfl,ht⟩:=go k s hs;unfold T at ht
  by_cases q:k % 2=0
  ·rw[Jc q,e1]at ht;have:=fV a ht;simp[q,this.1,this.2]
  ·rw[I_ q,e2]at ht;have:=fV b ht;simp[q,this.1,this.2]
 ·refine⟨false,(fun z=>by rw[nr]at z;cases z),fun k s hs=>?_⟩;obtain⟨x,y,rfl,ht⟩:=go k s hs;unfold T at ht
  by_cases q:k % 2=0
  ·rw[Jc q,e1]at ht;have:=fV b ht;simp[q,this.1,this.2]
  ·rw[I_ q,e2]at ht;have:=fV a ht;simp[q,this.1,this.2]
theorem done_two {f g:Str->Option Str} {s:Str} {c:List Str} (F:rJ f) (d:Done f g s c) (h:f s ≠ none):2<=c.length:=by
 obtain⟨n,l,hn,hl⟩:=d.len;cases n with
 | succ n=>omega
 | zero=>
  have e:=d.st;rcases d.en 0 s hn e with z | z
  ·exact absurd z h
  ·exact absurd z (F.qO s)
theorem _root_.Wk.lV.two {f g:Str->Option Str} {p:Bool × List Str} (t:tH f g) (h:lV f g p):2<=p.2.length:=by
 obtain⟨b,C⟩:=p;cases b with
 | false=>
  obtain⟨s,st,h | h⟩:=h.GH rfl
  ·exact done_two t.F h.1 h.2.1
  ·exact done_two t.G h.1 h.2.2
 | true=>
  obtain⟨s,n,l,d,hn,hl,odd,n3,gl⟩:=h.Ai rfl;have hn:C.length=n + 1:=hn;show 2<=C.length;omega
theorem _root_.Wk.lV.four {f g:Str->Option Str} {C:List Str} (h:lV f g (true,C)):4<=C.length/\C.length % 2=0:=by
 obtain⟨s,n,l,d,hn,hl,odd,n3,gl⟩:=h.Ai rfl;have hn:C.length=n + 1:=hn;omega
theorem DX {C:List Str} (b:Bool) (h:2<=C.length):0 < (lk (b,C)).length:=by
 unfold lk;rw[Jl,fO];show 0 < C.length - 1 + _;omega
theorem sO {C:List Str} (b:Bool):(lk (b,C)).length<=C.length:=by
 unfold lk;rw[Jl,fO];cases b with
 | false=>show C.length - 1 + 0<=_;omega
 | true=>
  cases C with
  | nil=>exact Jv _
  | cons a r=>
   show(a::r).length - 1 + (match true,(a::r).getLast?,(a::r).head? with | true,some l,some s=>[(l,s)] | _,_,_=>[]).length<=_
   have:(match true,(a::r).getLast?,(a::r).head? with | true,some l,some s=>[(l,s)] | _,_,_=>([]:NV)).length<=1:=by
    split<;>simp
   simp at this ⊢;omega
abbrev fL:List Str:=["_law_part_here","_law_one","_law_other","_law_word","_law_couples","_law_along_here","_law_mine","_law_k"]
noncomputable def xy:dm:=(.cons (.asg 5 (.call "_law_along" (.cons (.var 3) (.cons (.var 4) .nil)))) (.cons (.asg 6 (.cmpI .In (.idx (.var 5) (.con (.int 0))) (.var 1))) (.cons (.iff (.and (.cmp .Eq (.var 3) (.con (.str "ring"))) (.not (.var 6))) (.cons (.ret (.con (.bl false))) .nil) .nil) (.cons (.fr 7 (.rng1 (.blt .len (.cons (.var 5) .nil))) (.cons (.iff (.or (.cmp .Eq (.cmpI .In (.idx (.var 5) (.var 7)) (.var 1)) (.cmpI .In (.idx (.var 5) (.var 7)) (.var 2))) (.cmp .NotEq (.cmpI .In (.idx (.var 5) (.var 7)) (.var 1)) (.cmp .Eq (.var 6) (.cmp .Eq (.bin .Mod (.var 7) (.con (.int 2))) (.con (.int 0)))))) (.cons (.ret (.con (.bl false))) .nil) .nil) .nil)) (.cons (.ret (.con (.bl true))) .nil)))))
noncomputable def xA:dm:=(.cons (.iff (.and (.cmp .Eq (.var 3) (.con (.str "ring"))) (.or (.cmp .Lt (.blt .len (.cons (.var 4) .nil)) (.con (.int 4))) (.or (.cmp .Eq (.bin .Mod (.blt .len (.cons (.var 4) .nil)) (.con (.int 2))) (.con (.int 1))) (.cmp .NotEq (.idx (.var 4) (.con (.int 0))) (.minL (.var 4)))))) (.cons (.ret (.con (.bl false))) .nil) .nil) xy)
noncomputable def xB:dm:=(.cons (.iff (.or (.cmp .Lt (.blt .len (.cons (.var 4) .nil)) (.con (.int 2))) (.and (.cmp .Eq (.var 3) (.con (.str "row"))) (.cmp .Gt (.idx (.var 4) (.con (.int 0))) (.idx (.var 4) (.neg (.con (.int 1))))))) (.cons (.ret (.con (.bl false))) .nil) .nil) xA)
noncomputable def fE:dm:=(.cons (.iff (.or (.not (.isin (.var 0) .tuple)) (.or (.cmp .NotEq (.blt .len (.cons (.var 0) .nil)) (.con (.int 2))) (.or (.cmp .NotIn (.idx (.var 0) (.con (.int 0))) (.tup (.cons (.con (.str "row")) (.cons (.con (.str "ring")) .nil)))) (.not (.isin (.idx (.var 0) (.con (.int 1))) .list))))) (.cons (.ret (.con (.bl false))) .nil) .nil) (.cons (.asgT [3,4] (.var 0)) xB))
theorem BP {M:Mo} {H:Hp} {p:Addr} {xs:List V} (h:H p=some (.tup xs)):known M H (.ref p)=true:=by
 show(match H p with | some (.lst _)=>true | some (.tup _)=>true | some (.dK _)=>true | some (.frz _ (.lst _))=>true | _=>false)=true;rw[h]
theorem Ea {H:Hp} {p:Addr} {xs:List V} (h:H p=some (.tup xs)):lq .tuple H (.ref p)=true:=by
 show(match H p with | some (.lst _)=>decide (Ty.tuple=.list) | some (.frz _ (.lst _))=>decide (Ty.tuple=.list) | some (.tup _)=>decide (Ty.tuple=.tuple) | some (.dK _)=>decide (Ty.tuple=.dict) | _=>false)=true;rw[h];rfl
theorem eS {M:Mo} {H:Hp} {p:Addr} {a b:V} (h:H p=some (.tup [a,b])):(∀ {Q:VK},Q a H->cJ M (.ref p) (.int 0) H Q)/\∀ {Q:VK},Q b H->cJ M (.ref p) (.int 1) H Q:=by
 constructor
 ·intro Q q;rw[jF,ao h bG];exact q
 ·intro Q q;rw[jF,ao h bG];exact q
theorem uB {M:Mo} {H:Hp} {p:Addr} {P:List Pr} {k:Nat} {x:Pr} {Q:VK} (h:av H p P) (e:P[k]?=some x) (q:Q (.ref x.1) H):cJ M (.ref p) (.int k) H Q:=by
 refine iJ (ao h.at_ ai) ?_ q;have hk:=(Ju.mp e).1;unfold lL oX;rw[Jc (by omega),Jc (by rw[aJ];omega)];show(refs P)[k]?=_;unfold refs;rw[Jy,e];rfl
noncomputable def j5 (M:Mo):Sp:=fun vs H Q _=>∃pt c p q b C P R,vs=[.ref pt,.ref p,.ref q]/\H pt=some (.tup [.str (word b),.ref c])/\H c=some (.lst (C.map V.str))/\av H p P/\av H q R/\gw (ay P)/\gw (ay R)/\
 lV (aI (mt (alone (ay P) (ay R)))) (aI (mt (alone (ay R) (ay P)))) (b,C)/\EE (b,C)/\C.length<=40/\∀H',Ext M H H'->Q (.bl true) H'
theorem vD {Γ:bZ} {D:Ends} {Ξ:XS} {H H1:Hp} {pt c p q:Addr} {b:Bool} {C:List Str} {P R:List Pr} (gc:Γ.cm=true) (ga:Γ.has "_law_along" =true/\Γ.fn "_law_along" =dS Γ.mod) (x1:Ext Γ.mod H H1)
  (hc:H1 c=some (.lst (C.map V.str))) (hp:av H1 p P) (hq:av H1 q R) (pp:gw (ay P)) (pr:gw (ay R)) (pt_:lV (aI (mt (alone (ay P) (ay R)))) (aI (mt (alone (ay R) (ay P)))) (b,C)) (b7:C.length<=40) (h:∀H',Ext Γ.mod H H'->D.rt (.bl true) H'):
  wSs xy Γ Ξ D [some (.ref pt),some (.ref p),some (.ref q),some (.str (word b)),some (.ref c),none,none,none] H1:=by
 have two:=pt_.two (eK pp pr);have two:2<=C.length:=two;unfold xy;refine seq ?_;walk_at "s1";refine⟨⟨gc,ga.1⟩,?_⟩;rw[ga.2];refine⟨_,c,C,rfl,ao hc ai,fun _ z=>by rw[z]at two;exact absurd two (by decide),by omega,fun H2 z Z x2 nz mz hz ez=>?_⟩;have ez:ay Z=(lk (b,C)).map xG:=ez.trans (u_ pt_);obtain⟨m,mr,lks⟩:=Bq pp pr pt_
 have zl:Z.length=(lk (b,C)).length:=by
  have:=congrArg List.length ez;rw[cq,Jb]at this;exact this
 have zf:Z.length<=40:=by rw[zl];exact JB (sO b) b7
 have z0:0 < Z.length:=by rw[zl];exact DX b two
 have at_:∀ {k:Nat} {y:Pr},Z[k]?=some y->decide (y.2 ∈ ay P)=decide (m=decide (k % 2=0))/\decide (y.2 ∈ ay R)=!decide (y.2 ∈ ay P):=fun{k y} hy=>lks k y.2 (by rw[<-ez];unfold ay;rw[Jy,hy];rfl);have hp2:=Ext.bz x2 hp;have hq2:=Ext.bz x2 hq;refine seq ?_;walk_at "s1";have e0:Z[0]?=some Z[0]:=Je z0;refine uB (k:=0) hz e0 (GL hp2 (hz.cT _ (Jg e0)) ?_)
 have m0:decide ((Z[0].2.1,Z[0].2.2) ∈ ay P)=m:=by
  have:=(at_ e0).1;rw[show decide ((Z[0].2.1,Z[0].2.2) ∈ ay P)=decide (Z[0].2 ∈ ay P)from rfl,this];cases m<;>rfl
 rw[m0]
 have fin:∀v6,wSs (.cons (.fr 7 (.rng1 (.blt .len (.cons (.var 5) .nil))) (.cons (.iff (.or (.cmp .Eq (.cmpI .In (.idx (.var 5) (.var 7)) (.var 1)) (.cmpI .In (.idx (.var 5) (.var 7)) (.var 2))) (.cmp .NotEq (.cmpI .In (.idx (.var 5) (.var 7)) (.var 1)) (.cmp .Eq (.var 6) (.cmp .Eq (.bin .Mod (.var 7) (.con (.int 2))) (.con (.int 0)))))) (.cons (.ret (.con (.bl false)))
  .nil) .nil)
 .nil))
 (.cons (.ret (.con (.bl true)))
 .nil)) Γ Ξ D [some (.ref pt),some (.ref p),some (.ref q),some (.str (word b)),some (.ref c),some (.ref z),some (.bl m),v6] H2:=fun v6=>by
  refine seq ?_;walk_at "s1";refine⟨gc,gc,cZ (ao hz.at_ ai) ?_⟩;dsimp only;rw[aJ];refine⟨by omega,by omega,?_⟩;rw[show((Z.length:Int)).toNat=Z.length from rfl];refine b_ (fun n σ Hk=>∃v,σ=[some (.ref pt),some (.ref p),some (.ref q),some (.str (word b)),some (.ref c),some (.ref z),some (.bl m),v]/\Hk=H2) (fun n σ Hk z=>trivial) (fun n v σ Hk D' hv pv nx ct _ _=>?_) (fun σ Hk pv=>?_) ⟨_,rfl,rfl⟩
  ·obtain⟨v7,rfl,rfl⟩:=pv;obtain⟨k1,rfl⟩:=cP hv;obtain⟨y,hy⟩:∃y,Z[n]?=some y:=⟨_,Je k1⟩;have hyt:=hz.cT y (Jg hy);obtain⟨a1,a2⟩:=at_ hy;refine seq ?_;walk_at "s1";refine uB (k:=n) hz hy (GL hp2 hyt (uB (k:=n) hz hy (GL hq2 hyt ?_)));rw[Sw.xl];refine⟨_,rfl,?_⟩;rw[show decide ((y.2.1,y.2.2) ∈ ay P)=decide (y.2 ∈ ay P)from rfl,show decide ((y.2.1,y.2.2) ∈ ay R)=decide (y.2 ∈ ay R)from rfl,a2,I_ (by cases decide (y.2 ∈ ay P)<;>decide)];refine uB (k:=n) hz hy (GL hp2 hyt ?_);rw[Sw.v_mod];refine⟨by decide,?_⟩;rw[Sw.jy,Sw.xl,Sw.Cp];refine⟨_,rfl,?_⟩
   have ek:decide ((n:Int) % 2=0)=decide (n % 2=0):=by
    by_cases q:n % 2=0
    ·rw[JP q,JP (by omega)]
    ·rw[JK q,JK (by omega)]
   rw[show decide ((y.2.1,y.2.2) ∈ ay P)=decide (y.2 ∈ ay P)from rfl,a1,ek,I_ (by simp)];exact m5 (nx _ _ ⟨_,rfl,rfl⟩)
  ·obtain⟨v7,rfl,rfl⟩:=pv;walk_at "sw";exact h _ (x1.trans x2)
 refine seq ?_;walk_at "s1";rw[Sw.pW];refine⟨_,rfl,?_⟩;cases b with
 | false=>
  rw[I_ (by decide),I_ (by decide)];exact bD (fin _)
 | true=>
  have em:=mr rfl;rw[Jc (by decide)];subst em
  try dsimp only
  rw[Sw.pZ,I_ (by decide)];exact bD (fin _)
theorem yC {M:Mo} {Γ:bZ} (gm:Γ.mod=M) (gc:Γ.cm=true) (ga:Γ.has "_law_along" =true/\Γ.fn "_law_along" =dS M) (vs:List V) (H:Hp) (Q:VK) (X:XK) (h:j5 M vs H Q X):eM Γ fL 3 fE vs H Q X:=by
 obtain⟨pt,c,p,q,b,C,P,R,rfl,hpt,hc,hp,hq,pp,pr,pt_,od,b7,h⟩:=h;refine⟨rfl,?_⟩;obtain rfl:=gm;have two:=pt_.two (eK pp pr);have two:2<=C.length:=two;have zW:C ≠ []:=fun z=>by rw[z]at two;exact absurd two (by decide)
 obtain⟨n,hn⟩:∃n,C.length=n + 1:=⟨C.length - 1,by omega⟩;obtain⟨s,hs⟩:∃s,C[0]?=some s:=⟨_,Je (by omega)⟩;obtain⟨l,hl⟩:∃l,C[n]?=some l:=⟨_,Je (by omega)⟩;have e1:=lu hs;have e2:=qK hn hl;have ods:=od s hs;unfold fE;refine seq ?_;walk_at "s1";refine⟨BP hpt,?_⟩;rw[Ea hpt,I_ (by decide)];refine⟨gc,?_⟩;rw[Sw.pj,ao hpt bG];show cC Γ.mod .NotEq (.int 2) (.int 2) H _;rw[Sw.xj];refine⟨_,rfl,?_⟩;rw[I_ (by decide)];refine(eS hpt).1 ⟨by rw[Jm];simp,fun t ht mt=>?_⟩;have x1:=Ext.upd (M:=Γ.mod) (H:=H) (o:=.tup [.str (Str.ofString "row"),.str (Str.ofString "ring")]) ht mt
 show(match rd Γ.mod (upd H t (.tup [.str (Str.ofString "row"),.str (Str.ofString "ring")])) t with
  | some (.lst xs)=>_
  | some (.tup xs)=>_
  | _=>False)
 rw[ao ae bG];refine⟨rfl,rfl,_,rfl,?_⟩;rw[I_ (by cases b<;>decide)];generalize upd H t (.tup [.str (Str.ofString "row"),.str (Str.ofString "ring")])=H1 at x1;have hpt1:=x1.same _ _ hpt;have hc1:=x1.same _ _ hc;have rest:=vD (D:={nx:=fun _ H'=>Q .aD H',rt:=Q}) (Ξ:=fun C d _ H'=>X C d H') (pt:=pt) gc ga x1 hc1 (Ext.bz x1 hp) (Ext.bz x1 hq) pp pr pt_ b7 h;refine(eS hpt1).2 ⟨uz hc1,?_⟩;rw[zt hc1,I_ (by decide)];refine bD ?_;refine seq ?_;walk_at "s1";refine⟨gc,?_⟩;rw[ao hpt1 bG];refine⟨rfl,?_⟩;show wSs xB Γ _ _ [some (.ref pt),some (.ref p),some (.ref q),some (.str (word b)),some (.ref c),none,none,none] H1;unfold xB;refine seq ?_;walk_at "s1";refine⟨gc,cZ (ao hc1 ai) ?_⟩;rw[Jb,Sw.v_lt];refine⟨_,rfl,?_⟩;rw[I_ (by rw[Kl];omega),Sw.pW];refine⟨_,rfl,?_⟩
 have rest4:wSs xA Γ (fun C d _ H'=>X C d H') {nx:=fun _ H'=>Q .aD H',rt:=Q} [some (.ref pt),some (.ref p),some (.ref q),some (.str (word b)),some (.ref c),none,none,none] H1:=by
  unfold xA;refine seq ?_;walk_at "s1";rw[Sw.pW];refine⟨_,rfl,?_⟩;cases b with
  | false=>
   rw[I_ (by decide),I_ (by decide)];exact bD rest
  | true=>
   have f4:=pt_.four;rw[Jc (by decide)];refine⟨gc,cZ (ao hc1 ai) ?_⟩;rw[Jb,Sw.v_lt];refine⟨_,rfl,?_⟩;rw[I_ (by rw[Kl];omega)];refine⟨gc,cZ (ao hc1 ai) ?_⟩;rw[Jb,Sw.v_mod];refine⟨by decide,?_⟩;rw[Sw.jy];refine⟨_,rfl,?_⟩;rw[I_ (by rw[Kl];omega)];refine j_ (ao hc1 ai) zW ⟨gc,c,C,rfl,ao hc1 ai,by omega,fun m hm mn=>?_⟩
   try dsimp only
   rw[Sw.tT,e1];refine⟨_,rfl,?_⟩;have:s=m:=oQ (mn s (Jg hs)) (ods.2 rfl m hm);rw[I_ (by simp[this])];exact bD rest
 cases b with
 | true=>
  rw[I_ (by decide),I_ (by decide)];exact bD rest4
 | false=>
  rw[Jc (by decide)];refine j_ (ao hc1 ai) zW (uD (ao hc1 ai) zW ?_);rw[e1,e2];show ∃k,V.bl (decide (l.cps.toList < s.cps.toList))=.bl k/\_;refine⟨_,rfl,?_⟩;rw[I_ (by rw[Kl];exact ods.1 rfl n l hn hl)];exact bD rest4
theorem uS {f g:Str->Option Str} {s:Str} {c:List Str} (t:tH f g) (d:Done f g s c) (h:f s ≠ none) {x:Str} (hx:x ∈ c):f x ≠ none\/g x ≠ none:=by
 obtain⟨i,hi,e⟩:=J0.mp hx;have ei:c[i]?=some x:=by rw[Je hi,e]
 cases i with
 | zero=>rw[d.st]at ei;cases ei;exact .inl h
 | succ i=>
  obtain⟨z,ez⟩:∃z,c[i]?=some z:=⟨_,Je (by omega)⟩;have l:=(dC t.F t.G i).sym _ _ (d.go i z x ez ei);unfold T at l;split at l
  ·exact .inl (by rw[l];exact fun z=>nomatch z)
  ·exact .inr (by rw[l];exact fun z=>nomatch z)
theorem _root_.Wk.lV.HA {f g:Str->Option Str} {p:Bool × List Str} (t:tH f g) (h:lV f g p) {x:Str} (hx:x ∈ p.2):f x ≠ none\/g x ≠ none:=by
 obtain⟨s,h | h⟩:=h.row
 ·exact uS t h.1 h.2 hx
 ·exact(uS t.swap h.2.1 h.2.2.2 hx).symm
noncomputable def Aa (P:List (Bool × List Str)):NV:=(P.map fun p=>(lk p).map xG).flatten
theorem Cd (P:List (Bool × List Str)) (p:Bool × List Str):Aa (P++[p])=Aa P++(lk p).map xG:=by
 unfold Aa;rw[Jt,Ll];show _++(_++[])=_;rw[Ld]
theorem pD:∀P:List (Bool × List Str),(Aa P).length<=(flat P).length
 | []=>Jv _
 | p::r=>by
  show((lk p).map xG++Aa r).length<=(p.2++flat r).length;rw[Jl,Jl,Jb];have:=pD r;have:(lk p).length<=p.2.length:=sO (C:=p.2) p.1;omega
theorem z_ (P:List (Bool × List Str)):Aa P=((P.map lk).flatten).map xG:=by
 unfold Aa;rw[List.map_flatten,JL];rfl
structure tI (A B:NV) (P:List (Bool × List Str)):Prop where
 ok:∀p ∈ P,lV (aI (mt (alone A B))) (aI (mt (alone B A))) p
 od:∀p ∈ P,EE p
 nd:(flat P).Nodup
 b7:(flat P).length<=40
 so:P.Pairwise fun a b=>∀s t,a.2[0]?=some s->b.2[0]?=some t->¬mJ t s
 al:∀x,(aI (mt (alone A B)) x ≠ none\/aI (mt (alone B A)) x ≠ none)->x ∈ flat P
theorem su {A B:NV} {P:List (Bool × List Str)} (a:gw A) (b:gw B) (la:A.length<=10) (lb:B.length<=10) (h:dE (aI (mt (alone A B))) (aI (mt (alone B A))) P):tI A B P:=by
 obtain⟨P0,ss,ks,K,L,pm,o⟩:=h;have pf:(flat P).Perm (flat P0):=(pm.map _).flatten;have ok:∀p ∈ P,lV (aI (mt (alone A B))) (aI (mt (alone B A))) p:=fun p hp=>L.so.ok p (pm.mem_iff.mp hp);have nd:(flat P).Nodup:=pf.nodup_iff.mpr L.so.nd;refine⟨ok,fun p hp=>L.or p (pm.mem_iff.mp hp),nd,?_,o,fun x hx=>pf.mem_iff.mpr (L.all K hx)⟩
 have:=nd.length_le_of_subset (l₂:=ends (alone A B)++ends (alone B A)) fun x hx=>by
  obtain⟨l,hl,hx⟩:=Km.mp hx;obtain⟨p,hp,rfl⟩:=Jf.mp hl;rcases(ok p hp).HA (eK a b) hx with z | z
  ·exact J_ _ ((cX a.alone.nd).mp z)
  ·exact JG _ ((cX b.alone.nd).mp z)
 rw[Jl,bc,bc]at this;have:=gg A B;have:=gg B A;omega
theorem uy {f g:Str->Option Str} {p:Bool × List Str} (h:lV f g p) {x y:Str} (m:(x,y) ∈ lk p):f x=some y\/g x=some y:=by
 obtain⟨f',g',l,w⟩:=h.fst;obtain⟨k,hk⟩:=L7.mp m;have:=l k x y hk;unfold T at this;rcases w with ⟨rfl,rfl⟩ | ⟨_,rfl,rfl⟩
 ·split at this
  ·exact .inl this
  ·exact .inr this
 ·split at this
  ·exact .inr this
  ·exact .inl this
theorem tI.links {A B:NV} {P:List (Bool × List Str)} (a:gw A) (b:gw B) (h:tI A B P) (s:Str × Str):s ∈ Aa P ↔ s ∈ alone A B++alone B A:=by
 have t:=eK a b;rw[z_,Jx];constructor
 ·intro hs;obtain⟨⟨x,y⟩,hx,rfl⟩:=Jf.mp hs;obtain⟨l,hl,hx⟩:=Km.mp hx;obtain⟨p,hp,rfl⟩:=Jf.mp hl;show pL x y ∈ _\/pL x y ∈ _;rcases uy (h.ok p hp) hx with z | z
  ·exact .inl (bY.mpr (fV a z))
  ·exact .inr (bY.mpr (fV b z))
 ·intro hs;obtain⟨x,y⟩:=s;have lt:slt x y:=hs.elim (fun z=>a.alone.lt _ z) (fun z=>b.alone.lt _ z);have lnk:aI (mt (alone A B)) x=some y\/aI (mt (alone B A)) x=some y:=hs.imp (fun z=>(cF a.alone.nd).mpr (.inl z)) (fun z=>(cF b.alone.nd).mpr (.inl z));have xf:x ∈ flat P:=h.al x (lnk.imp (fun z=>by rw[z];exact fun q=>nomatch q) (fun z=>by rw[z];exact fun q=>nomatch q));obtain⟨l,hl,hx⟩:=Km.mp xf;obtain⟨p,hp,rfl⟩:=Jf.mp hl;have out:∀z ∈ lk p,xG z=(x,y)->(x,y) ∈ ((P.map lk).flatten).map xG:=fun z hz e=>Jf.mpr ⟨z,Km.mpr ⟨lk p,Jf.mpr ⟨p,hp,rfl⟩,hz⟩,e⟩;rcases(h.ok p hp).all t hx lnk with z | z
  ·exact out _ z (rT lt)
  ·exact out _ z (rV lt)
theorem tI.IQ {A B:NV} {P:List (Bool × List Str)} (a:gw A) (b:gw B) (h:tI A B P):(Aa P).Nodup:=by
 have t:=eK a b;rw[z_];refine KW.mpr ((fJ.GQ h.ok h.nd).imp_of_mem fun{u v} hu hv ap e=>?_)
 have ne:∀w ∈ (P.map lk).flatten,w.1 ≠ w.2:=fun w hw q=>by
  obtain⟨l,hl,hx⟩:=Km.mp hw;obtain⟨p,hp,rfl⟩:=Jf.mp hl;obtain⟨x,y⟩:=w;have q:x=y:=q;subst q;exact(uy (h.ok p hp) hx).elim (t.F.qO x) (t.G.qO x)
 obtain⟨x,y⟩:=u;obtain⟨z,w⟩:=v;rcases AD (ne _ hu) (ne _ hv) e with ⟨e1,e2⟩ | ⟨e1,e2⟩
 ·exact ap.1 (by have e1:x=z:=e1;have e2:y=w:=e2;rw[e1,e2])
 ·exact ap.2 (by have e1:x=w:=e1;have e2:y=z:=e2;rw[e1,e2])
theorem En {A B:NV} (a:gw A) (b:gw B):(alone A B++alone B A).Nodup:=JI.mpr ⟨fP a.alone.nd,fP b.alone.nd,fun x hx y hy e=>(bY.mp hx).2 (e ▸ (bY.mp hy).1)⟩
theorem tI.head {A B:NV} {P:List (Bool × List Str)} (h:tI A B P):∀p ∈ P,∃s,p.2[0]?=some s:=fun p hp=>uJ (h.ok p hp)
theorem tI.Ei {A B:NV} {P:List (Bool × List Str)} (h:tI A B P):((P.map fun p=>p.2.headD ⟨#[]⟩).Pairwise fun a b=>¬mJ b a)/\(P.map fun p=>p.2.headD ⟨#[]⟩).Nodup:=by
 have hd:∀p ∈ P,p.2[0]?=some (p.2.headD ⟨#[]⟩):=fun p hp=>by
  obtain⟨s,e⟩:=h.head p hp;rw[lu e];exact e
 constructor
 ·exact KW.mpr (h.so.imp_of_mem fun{p q} hp hq z=>z _ _ (hd p hp) (hd q hq))
 ·have key:∀ (Q:List (Bool × List Str)),(flat Q).Nodup->(∀ p ∈ Q,p.2[0]?=some (p.2.headD ⟨#[]⟩))->(Q.map fun p=>p.2.headD ⟨#[]⟩).Nodup:=by
   intro Q
   induction Q with
   | nil=>intro _ _;exact List.nodup_nil
   | cons p r ih=>
    intro nd hd;have nd:(p.2++flat r).Nodup:=nd;obtain⟨n1,n2,n3⟩:=JI.mp nd;refine JN.mpr ⟨fun z=>?_,ih n2 fun q hq=>hd q (Ji _ hq)⟩;obtain⟨q,hq,e⟩:=Jf.mp z;have e:q.2.headD ⟨#[]⟩=p.2.headD ⟨#[]⟩:=e;exact n3 _ (Jg (hd p Jj)) _ (Km.mpr ⟨q.2,Jf.mpr ⟨q,hq,rfl⟩,Jg (hd q (Ji _ hq))⟩) e.symm
  exact key P h.nd hd
theorem qW:∀ {P:List (Bool × List Str)},(∀ p ∈ P,p.2 ≠ [])->P.length<=(flat P).length
 | [],_=>Jv _
 | p::r,h=>by
  show r.length + 1<=(p.2++flat r).length;rw[Jl];have:=qW (P:=r) fun q hq=>h q (Ji _ hq);have:=List.length_pos_iff.mpr (h p Jj);omega
theorem tI.len {A B:NV} {P:List (Bool × List Str)} (h:tI A B P):P.length<=40:=JB (qW fun p hp z=>by
 obtain⟨s,e⟩:=h.head p hp;rw[z]at e;cases e) h.b7
theorem tI.part {A B:NV} {P:List (Bool × List Str)} (h:tI A B P) {p:Bool × List Str} (hp:p ∈ P):p.2.length<=40:=by
 refine JB ?_ h.b7;obtain⟨l1,l2,rfl⟩:=Mq hp;show _<=(((l1++p::l2).map (·.2)).flatten).length;rw[Jt,Ll,JA,Lg,Jl,Jl];omega
theorem wy {P:List (Bool × List Str)} (n:Nat):(flat (P.take n)).length<=(flat P).length:=by
 conv=>rhs;rw[<-Kh n P]
 show _<=(((P.take n++P.drop n).map (·.2)).flatten).length;rw[Jt,Ll,Jl];exact Nat.le_add_right _ _
abbrev dO:List Str:=["_law_found","_law_one","_law_other","_law_couples","_law_swaps","_law_part_here","_law_begins","_law_due"]
noncomputable def xu:dm:=(.cons (.asg 6 (.comp "_law_part_here" [] (.ex (.var 0)) (.idx (.idx (.var 0) (.con (.int 1))) (.con (.int 0))) .nil)) (.cons (.iff (.or (.cmp .NotEq (.iF (.var 3)) (.blt .len (.cons (.var 3) .nil))) (.cmp .NotEq (.var 6) (.blt .sorted (.cons (.var 6) .nil)))) (.cons (.ret (.con (.bl false))) .nil) .nil) (.cons (.asg 7 (.bin .Add (.comp "_law_pair" [("_law_other",2)] (.ex (.var 1)) (.var 0) (.cons (.cmpI .NotIn (.var 0) (.var 1)) .nil)) (.comp "_law_pair" [("_law_one",1)] (.ex (.var 2)) (.var 0) (.cons (.cmpI .NotIn (.var 0) (.var 1)) .nil)))) (.cons (.ret (.cmp .Eq (.blt2 .sortT (.var 4)) (.blt2 .sortT (.var 7)))) .nil))))
noncomputable def dJ:dm:=(.cons (.asg 3 (.lst .nil)) (.cons (.asg 4 (.lst .nil)) (.cons (.fr 5 (.ex (.var 0)) (.cons (.iff (.not (.call "_law_part" (.cons (.var 5) (.cons (.var 1) (.cons (.var 2) .nil))))) (.cons (.ret (.con (.bl false))) .nil) .nil) (.cons (.exp (.mth .extend (.var 3) (.cons (.idx (.var 5) (.con (.int 1))) .nil))) (.cons (.exp (.mth .extend (.var 4) (.cons (.call "_law_along" (.cons (.idx (.var 5) (.con (.int 0))) (.cons (.idx (.var 5) (.con (.int 1))) .nil))) .nil))) .nil)))) xu)))
theorem Fg {M:Mo} {H:Hp} {p:Addr} {ts:List Str} {Q:VK} (h:H p=some (.lst (ts.map V.str))) (q:bp M ts H Q):eV M .sorted [.ref p] H Q:=by
 show(match rd M H p with
  | some (.lst xs)=>(match allM iW xs with
   | some ts=>bp M ts H Q
   | none=>_)
  | _=>False)
 rw[ao h ai];dsimp only
 have e:allM iW (ts.map V.str)=some ts:=by
  have:=allM_map (f:=iW) (g:=V.str) (k:=id) (l:=ts) fun _ _=>rfl;rw[NO]at this;exact this
 rw[e];exact q
theorem yJ {M:Mo} {H:Hp} {p q:Addr} {ns:List Str} {Q:VK} (a:rd M H p=some (.lst (ns.map V.str))) (b:rd M H q=some (.lst (ns.map V.str))) (h:Q (.bl false) H):cC M .NotEq (.ref p) (.ref q) H Q:=by
 show if gE (.ref p) (.ref q)=true then Q (.bl (!decide (V.ref p=V.ref q))) H else(match data M H 16 (.ref p),data M H 16 (.ref q)with | some d,some e=>Q (.bl (!PyData.eqv d e)) H | _,_=>False)
 rw[AS,I_ (by decide),jo a 15,jo b 15];dsimp only
 have e:PyData.eqv (.list (ns.map PyData.str)) (.list (ns.map PyData.str))=true:=by
  simp only[PyData.eqv];refine dz fun d hd=>?_;obtain⟨x,_,rfl⟩:=Jf.mp hd;simp[PyData.eqv]
 rw[e];exact h
theorem Er {M:Mo} {H:Hp} {q r:Addr} {P R:List Pr} {Q:VK} (h:av H q P) (g:av H r R) (f:P.length + R.length<=1000) (k:∀l,H l=none->M l=none->av (upd H l (.lst (refs (P++R)))) l (P++R)->Q (.ref l) (upd H l (.lst (refs (P++R))))):jr M .Add (.ref q) (.ref r) H Q:=by
 rw[Sw.Cq,ao h.at_ ai,ao g.at_ ai];refine⟨by rw[aJ,aJ,Jm];omega,fun l hl ml=>?_⟩;rw[cp];exact k l hl ml ⟨ae,aB.new (aB.app h.cT g.cT) hl⟩
noncomputable def ic (M:Mo):Sp:=fun vs H Q _=>∃l p q F P R,vs=[.ref l,.ref p,.ref q]/\H l=some (.lst (a_ F))/\vf H F/\av H p P/\av H q R/\gw (ay P)/\gw (ay R)/\tI (ay P) (ay R) (aV F)/\P.length<=10/\R.length<=10/\∀H',Ext M H H'->Q (.bl true) H'
theorem kR {F:List Fp} {n:Nat} {x:Fp} (h:F[n]?=some x):(aV F)[n]?=some (x.2.2.1,x.2.2.2):=by
 unfold aV;rw[Jy,h];rfl
theorem fR {F:List Fp} {n:Nat} {x:Fp} (h:F[n]?=some x):(aV F).take (n + 1)=(aV F).take n++[(x.2.2.1,x.2.2.2)]:=by
 rw[L1,kR h];rfl
theorem iu (F:List Fp):(aV F).length=F.length:=Jb _
theorem rM {Γ:bZ} {D:Ends} {Ξ:XS} {H H1:Hp} {l p q cl sw:Addr} {v5:Option V} {F:List Fp} {P R Z:List Pr} (gc:Γ.cm=true) (x1:Ext Γ.mod H H1) (hl:H1 l=some (.lst (a_ F))) (fa:vf H1 F) (hp:av H1 p P) (hq:av H1 q R) (pp:gw (ay P)) (pr:gw (ay R)) (pt:tI (ay P) (ay R) (aV F)) (fp:P.length<=10) (fr:R.length<=10)
  (hc:H1 cl=some (.lst ((flat (aV F)).map V.str))) (hz:av H1 sw Z) (ez:ay Z=Aa (aV F)) (h:∀H',Ext Γ.mod H H'->D.rt (.bl true) H'):
  wSs xu Γ Ξ D [some (.ref l),some (.ref p),some (.ref q),some (.ref cl),some (.ref sw),v5,none,none] H1:=by
 have fl:=pt.len;rw[iu]at fl;unfold xu;refine seq ?_;walk_at "s1";refine⟨gc,bQ (ao hl ai) fun d hd md=>?_⟩;have xd:∀o,Ext Γ.mod H1 (upd H1 d o):=fun o=>Ext.upd hd md;refine fu (fun m acc Hm=>acc=(((aV F).take m).map fun p=>p.2.headD ⟨#[]⟩).map V.str/\Hm=upd H1 d (.lst acc)) (fun m acc Hm z=>?_) (fun m v acc Hm K hv pv nx2=>?_) (fun acc Hm pv=>?_) ⟨rfl,rfl⟩
 ·obtain⟨rfl,rfl⟩:=z;exact⟨ao ((xd _).same _ _ hl) ai,ae⟩
 ·obtain⟨rfl,rfl⟩:=pv;unfold a_ at hv;rw[Jy]at hv;obtain⟨x,hx,rfl⟩:=JF.mp hv;obtain⟨f1,f2⟩:=fa x (Jg hx);have hm:=(Ju.mp hx).1
  have ne:x.2.2.2 ≠ []:=fun z=>by
   obtain⟨s,e⟩:=pt.head _ (Jg (kR hx));have e:x.2.2.2[0]?=some s:=e;rw[z]at e;cases e
  walk_at "s1";rw[Jc rfl];refine(eS ((xd _).same _ _ f1)).2 (j_ (ao ((xd _).same _ _ f2) ai) ne ⟨ae,?_,nx2 _ _ ⟨?_,?_⟩⟩)
  ·rw[Jb,Jb,J7,Jm,iu];omega
  ·rw[fR hx,Jt,Jt];rfl
  ·rw[dq]
 ·obtain⟨rfl,rfl⟩:=pv;have el:(a_ F).length=(aV F).length:=by unfold a_ aV;rw[Jb,Jb]
  rw[el,KD];obtain⟨o1,o2⟩:=pt.Ei;have bl:((aV F).map fun p=>p.2.headD ⟨#[]⟩).length<=40:=by rw[Jb,iu];exact fl
  generalize ((aV F).map fun p=>p.2.headD ⟨#[]⟩)=bs at o1 o2 bl;have x2:=xd (.lst (bs.map V.str));have hb:upd H1 d (.lst (bs.map V.str)) d=some (.lst (bs.map V.str)):=ae;generalize upd H1 d (.lst (bs.map V.str))=H2 at x2 hb;have x12:=x1.trans x2;refine seq ?_;walk_at "s1";refine⟨gc,BJ (x2.same _ _ hc) (by have:=pt.b7;exact Mp (Ny this) (by decide)) fun n hn=>?_⟩;have hn:=hn.mpr pt.nd;subst hn;refine⟨gc,cZ (ao (x2.same _ _ hc) ai) ?_⟩;rw[Jb,Sw.xj];refine⟨_,rfl,?_⟩;rw[I_ (by simp)];refine⟨gc,Fg hb ⟨by omega,fun ss e pm sr he me=>?_⟩⟩;have es:ss=bs:=iz (rW sr (pm.nodup_iff.mpr o2)) o1 (pm.nodup_iff.mpr o2) o2 fun x=>pm.mem_iff;subst es;have x3:=Ext.upd (M:=Γ.mod) (H:=H2) (o:=.lst (ss.map V.str)) he me;refine yJ (ao (x3.same _ _ hb) ai) (ao ae ai) ⟨_,rfl,?_⟩;rw[I_ (by decide)];generalize upd H2 e (.lst (ss.map V.str))=H3 at x3;have x13:=x2.trans x3;have hp3:=Ext.bz x13 hp;have hq3:=Ext.bz x13 hq;refine bD ?_;refine seq ?_;dsimp only[Sw.wS,Sw.wE,Sw.wT,Sw.wEs,Sw.wTs,Sw.wI,Sw.wP,Sw.vars,Sw.gM,Sw.gL,Sw.gH,Sw.gG,Sw.gJ,Sw.gI,Sw.gO,Sw.gN,Sw.gK,L2.start,Sw.jg,Sw.jf,Sw.je,Sw.jd,Nat.reduceAdd,Nat.reduceSub];refine⟨gc,bQ (ao hp3.at_ ai) fun D1 h1 m1=>?_⟩;have s1:∀o,Ext Γ.mod H3 (upd H3 D1 (.lst o)):=fun o=>Ext.upd h1 m1;refine eC (H0:=H3) (A:=ay R) P [] (fun o=>ao (Ext.bz (s1 o) hp3).at_ ai) (fun x hx acc R' q'=>?_) (fun x hx acc Q q=>q) (by simp;omega) ?_
  ·exact sG (Ext.bz (s1 acc) hq3) ((s1 acc).same _ _ (hp3.cT x hx)) ⟨_,rfl,q'⟩
  rw[Le];have pa:av (upd H3 D1 (.lst (refs (P.filter fun x=>!decide (x.2 ∈ ay R))))) D1 (P.filter fun x=>!decide (x.2 ∈ ay R)):=⟨ae,aB.new (fun y hy=>hp3.cT y (KY.mp hy).1) h1⟩;have x4:=s1 (refs (P.filter fun x=>!decide (x.2 ∈ ay R)));have ea:=iN P (ay R);have la:=KN (fun x:Pr=>!decide (x.2 ∈ ay R)) P;generalize (P.filter fun x=>!decide (x.2 ∈ ay R))=PA at pa x4 ea la;generalize upd H3 D1 (.lst (refs PA))=H4 at pa x4;have hq4:=Ext.bz x4 hq3;have hp4:=Ext.bz x4 hp3;refine⟨gc,bQ (ao hq4.at_ ai) fun D2 h2 m2=>?_⟩;have s2:∀o,Ext Γ.mod H4 (upd H4 D2 (.lst o)):=fun o=>Ext.upd h2 m2;refine eC (H0:=H4) (A:=ay P) R [] (fun o=>ao (Ext.bz (s2 o) hq4).at_ ai) (fun x hx acc R' q'=>?_) (fun x hx acc Q q=>q) (by simp;omega) ?_
  ·exact sG (Ext.bz (s2 acc) hp4) ((s2 acc).same _ _ (hq4.cT x hx)) ⟨_,rfl,q'⟩
  rw[Le];have pb:av (upd H4 D2 (.lst (refs (R.filter fun x=>!decide (x.2 ∈ ay P))))) D2 (R.filter fun x=>!decide (x.2 ∈ ay P)):=⟨ae,aB.new (fun y hy=>hq4.cT y (KY.mp hy).1) h2⟩;have x5:=s2 (refs (R.filter fun x=>!decide (x.2 ∈ ay P)));have eb:=iN R (ay P);have lb:=KN (fun x:Pr=>!decide (x.2 ∈ ay P)) R;generalize (R.filter fun x=>!decide (x.2 ∈ ay P))=PB at pb x5 eb lb;generalize upd H4 D2 (.lst (refs PB))=H5 at pb x5;refine Er (Ext.bz x5 pa) pb (by omega) fun du hdu mdu pd_=>?_;have x6:=Ext.upd (M:=Γ.mod) (H:=H5) (o:=.lst (refs (PA++PB))) hdu mdu;generalize upd H5 du (.lst (refs (PA++PB)))=H6 at pd_ x6;have x16:=((x13.trans x4).trans x5).trans x6
  have ed:ay (PA++PB)=alone (ay P) (ay R)++alone (ay R) (ay P):=by
   unfold ay at ea eb ⊢;rw[Jt,ea,eb];rfl
  have zl:Z.length<=40:=by
   have:=congrArg List.length ez;rw[cq]at this;rw[this];exact JB (pD _) pt.b7
  walk_at "sw";refine⟨gc,gC (Ext.bz x16 hz) (by rw[ez];exact pt.IQ pp pr) (by omega) fun Z' z1 pm1 rs1 hz1 mz1=>?_⟩;have x7:=Ext.upd (M:=Γ.mod) (H:=H6) (o:=.lst (refs Z')) hz1 mz1;have hz7:av (upd H6 z1 (.lst (refs Z'))) z1 Z':=⟨ae,aB.new (fun y hy=>(Ext.bz x16 hz).cT y (pm1.mem_iff.mp hy)) hz1⟩;generalize upd H6 z1 (.lst (refs Z'))=H7 at x7 hz7;refine⟨gc,gC (Ext.bz x7 pd_) (by rw[ed];exact En pp pr) (by rw[Jl];omega) fun Y' y1 pm2 rs2 hy1 my1=>?_⟩;have x8:=Ext.upd (M:=Γ.mod) (H:=H7) (o:=.lst (refs Y')) hy1 my1;have hy8:av (upd H7 y1 (.lst (refs Y'))) y1 Y':=⟨ae,aB.new (fun y hy=>(Ext.bz x7 pd_).cT y (pm2.mem_iff.mp hy)) hy1⟩;refine zK (Ext.bz x8 hz7) hy8 ?_
  have e:ay Z'=ay Y':=qf rs1 rs2 fun x=>by
   have k1:x ∈ ay Z' ↔ x ∈ ay Z:=(pm1.map (·.2)).mem_iff;have k2:x ∈ ay Y' ↔ x ∈ ay (PA++PB):=(pm2.map (·.2)).mem_iff;rw[k1,k2,ez,ed];exact pt.links pp pr x
  rw[JP e];exact h _ (x1.trans (x16.trans (x7.trans x8)))
theorem vI {M:Mo} {Γ:bZ} (gm:Γ.mod=M) (gc:Γ.cm=true) (ga:Γ.has "_law_along" =true/\Γ.fn "_law_along" =dS M) (gp:Γ.has "_law_part" =true/\Γ.fn "_law_part" =j5 M) (vs:List V) (H:Hp) (Q:VK) (X:XK) (h:ic M vs H Q X):eM Γ dO 3 dJ vs H Q X:=by
 obtain⟨l,p,q,F,P,R,rfl,hl,fa,hp,hq,pp,pr,pt,fp,fr,h⟩:=h;refine⟨rfl,?_⟩;obtain rfl:=gm;unfold dJ;refine seq ?_;walk_at "s1";refine⟨by rw[Jm];simp,fun cl hcl mcl=>?_⟩;refine seq ?_;walk_at "s1";refine⟨by rw[Jm];simp,fun sw hsw msw=>?_⟩;have x1:=Ext.upd (M:=Γ.mod) (H:=H) (o:=.lst []) hcl mcl;have hsw0:=x1.aD hsw;have x2:=x1.trans (Ext.upd (M:=Γ.mod) (o:=.lst []) hsw msw);have ncs:cl ≠ sw:=fun z=>by rw[<-z,ae]at hsw;cases hsw
 have c2:upd (upd H cl (.lst [])) sw (.lst []) cl=some (.lst []):=by rw[af ncs];exact ae
 have s2:upd (upd H cl (.lst [])) sw (.lst []) sw=some (.lst []):=ae;generalize upd (upd H cl (.lst [])) sw (.lst [])=H2 at x2 c2 s2;refine seq ?_;walk_at "s1";refine⟨gc,bQ (ao (x2.same _ _ hl) ai) ?_⟩
 refine b_ (fun n σ Hk=>∃ (v5:Option V) (Z:List Pr),σ=[some (.ref l),some (.ref p),some (.ref q),some (.ref cl),some (.ref sw),v5,none,none]/\Ext Γ.mod H Hk/\Hk cl=some (.lst ((flat ((aV F).take n)).map V.str))/\av Hk sw Z/\ay Z=Aa ((aV F).take n)) (fun n σ Hk z=>?_) (fun n v σ Hk D' hv pv nx ct _ _=>?_) (fun σ Hk pv=>?_)
  ⟨none,[],rfl,x2,c2,⟨s2,fun y hy=>(nomatch hy)⟩,rfl⟩
 ·obtain⟨_,_,_,z,_⟩:=z;exact ao (z.same _ _ hl) ai
 ·obtain⟨v5,Z,rfl,y1,y2,y3,y4⟩:=pv;unfold a_ at hv;rw[Jy]at hv;obtain⟨x,hx,rfl⟩:=JF.mp hv;have hxp:(x.2.2.1,x.2.2.2) ∈ aV F:=Jg (kR hx);obtain⟨f1,f2⟩:=fa x (Jg hx);have b7:(flat ((aV F).take n)).length<=40:=JB (wy n) pt.b7
  have zl:Z.length<=40:=by
   have:=congrArg List.length y4;rw[cq]at this;rw[this];exact JB (pD _) b7
  have cf:x.2.2.2.length<=40:=pt.part hxp;refine seq ?_;walk_at "s1";refine⟨⟨gc,gp.1⟩,?_⟩;rw[gp.2];refine⟨x.1,x.2.1,p,q,x.2.2.1,x.2.2.2,P,R,rfl,y1.same _ _ f1,y1.same _ _ f2,Ext.bz y1 hp,Ext.bz y1 hq,pp,pr,pt.ok _ hxp,pt.od _ hxp,cf,fun H3 x3=>?_⟩
  try dsimp only
  rw[Sw.pZ,I_ (by decide)];have y3':=y1.trans x3;refine bD ?_;refine seq ?_;walk_at "s1";have nf:x.2.1 ≠ cl:=ag f2 hcl;refine⟨dY (x3.same _ _ y2),(eS (y3'.same _ _ f1)).2 (eA (x3.same _ _ y2) (y3'.same _ _ f2) (by rw[Jb,Jb,Jm];omega) ?_)⟩;have x4:=y3'.b8 (o:=.lst ((flat ((aV F).take n)).map V.str++x.2.2.2.map V.str)) hcl mcl
  have c4:upd H3 cl (.lst ((flat ((aV F).take n)).map V.str++x.2.2.2.map V.str)) cl=some (.lst ((flat ((aV F).take (n + 1))).map V.str)):=by
   rw[ae,fR hx,iM,Jt]
  have s4:av (upd H3 cl (.lst ((flat ((aV F).take n)).map V.str++x.2.2.2.map V.str))) sw Z:=⟨by rw[af (J5 ncs)];exact x3.same _ _ y3.at_,aB.upd (Ext.cT x3 y3.cT) (x3.same _ _ y2)⟩;generalize upd H3 cl (.lst ((flat ((aV F).take n)).map V.str++x.2.2.2.map V.str))=H4 at x4 c4 s4;refine seq ?_;walk_at "s1";refine⟨dY s4.at_,⟨gc,ga.1⟩,(eS (x4.same _ _ f1)).1 ((eS (x4.same _ _ f1)).2 ?_)⟩;rw[ga.2];have pk:=pt.ok _ hxp;refine⟨_,x.2.1,x.2.2.2,rfl,ao (x4.same _ _ f2) ai,fun _ z=>?_,by omega,fun H5 u U x5 nu mu hu eu=>?_⟩
  ·have:=pk.two (eK pp pr);have this:2<=x.2.2.2.length:=this;rw[z]at this;exact absurd this (by decide)
  have eu:ay U=(lk (x.2.2.1,x.2.2.2)).map xG:=eu.trans (u_ pk)
  have ul:U.length<=40:=by
   have:=congrArg List.length eu;rw[cq,Jb]at this;rw[this];exact JB (sO _) cf
  have s5:=Ext.bz x5 s4;refine eA s5.at_ hu.at_ (by rw[aJ,aJ,Jm];omega) ?_;have er:refs Z++refs U=refs (Z++U):=cp Z U;rw[er];refine bD (nx _ _ ⟨_,Z++U,rfl,(x4.trans x5).b8 hsw0 msw,?_,⟨ae,aB.upd (aB.app s5.cT hu.cT) s5.at_⟩,?_⟩)
  ·rw[af ncs];exact x5.same _ _ c4
  ·rw[fR hx,Cd];unfold ay at y4 eu ⊢;rw[Jt,y4,eu]
 ·obtain⟨v5,Z,rfl,y1,y2,y3,y4⟩:=pv;have el:(a_ F).length=(aV F).length:=by unfold a_ aV;rw[Jb,Jb]
  rw[el,KD]at y2 y4;exact rM gc y1 (y1.same _ _ hl) (fa.ext y1) (Ext.bz y1 hp) (Ext.bz y1 hq) pp pr pt fp fr y2 y3 y4 h
end Ik
namespace Gk
open PySem PySem.Spec PyProof.Rows L2 Sw Gw
noncomputable def zk (g:List Nat):List Str->List Nat
 | []=>[]
 | x::r=>cps x++(r.map fun p=>g++cps p).flatten
theorem nK (g:Array Nat):∀ (ps:List Str) (acc:Array Nat),(ps.foldl (fun acc p=>acc++g++p.cps) acc).toList=acc.toList++(ps.map fun p=>g.toList++cps p).flatten
 | [],acc=>by simp
 | p::r,acc=>by
  rw[LS,nK g r];simp[cps]
theorem zV (sep:Str) (l:List Str):cps (Txt.join sep l)=zk (cps sep) l:=by
 cases l with
 | nil=>rfl
 | cons x r=>
  show((r.foldl (fun acc p=>acc++sep.cps++p.cps) x.cps)).toList=_;rw[nK];rfl
theorem wj:∀l:List Str,zk [] l=(l.map cps).flatten
 | []=>rfl
 | x::r=>by simp[zk]
theorem qT (n B:Nat):∀ (l:List Str) (a:Nat),(∀ x ∈ l,x.length<=B)->l.foldl (fun a (x:Str)=>a + x.length + n) a<=a + l.length * (B + n)
 | [],a,h=>by simp
 | x::r,a,h=>by
  rw[LS];refine JB (qT n B r _ fun y hy=>h y (Ji _ hy)) ?_;have:=h x Jj;rw[JW,Nat.succ_mul];omega
theorem D7 (sep:Str) (l:List Str) (B:Nat) (h:∀x ∈ l,x.length<=B) (hb:l.length * (B + sep.length)<=16777216):JoinOk sep l=true:=by
 unfold JoinOk Builtin.Str.tooLong;have z:=qT sep.length B l 0 h;rw[List.foldl_toArray];simp only[Mw,LQ,gt_iff_lt,Mr];rw[Jm];omega
theorem join_one (cs:List Nat) (h:cs.length<=8):JoinOk (Str.ofString "") (cs.map fun c=>(⟨#[c]⟩:Str))=true/\(Txt.join (Str.ofString "") (cs.map fun c=>(⟨#[c]⟩:Str))).cps.toList=cs:=by
 refine⟨D7 _ _ 1 (fun x hx=>?_) ?_,?_⟩
 ·obtain⟨c,_,rfl⟩:=Jf.mp hx;exact Jv 1
 ·rw[Jb,show(Str.ofString "").length=0 from rfl];omega
 ·have e:=zV (Str.ofString "") (cs.map fun c=>(⟨#[c]⟩:Str));rw[show cps (Str.ofString "")=[]from rfl,wj,JL]at e
  have e2:∀l:List Nat,(l.map (cps ∘ fun c=>(⟨#[c]⟩:Str))).flatten=l:=fun l=>by
   induction l with
   | nil=>rfl
   | cons c r ih=>
    rw[JA,Lg,ih];rfl
  rw[e2]at e;exact e
noncomputable def lc (i:Int):Nat:=97 + i.toNat
noncomputable def p0 (c:Int) (j:Nat):Int:=vO c (10 + j) % 26
noncomputable def tE (c:Int):Int:=vO c 7 % 8
structure Nm (c:Int) (k:Nat) (x:Str) (L:List Int):Prop where
 tx:x.cps.toList=L.map lc
 fst:c % 3 < 2->L[(tE c).toNat]?=some ((p0 c (tE c).toNat + k) % 26)
 snd:¬c % 3 < 2->L.length=(1 + (tE c + k) % 8).toNat/\L[0]?=some ((p0 c 0 + k / 8) % 26)
theorem Nm.ne {c:Int} {k k':Nat} {x:Str} {L L':List Int} (n:Nm c k x L) (n':Nm c k' x L') (h:k < 20) (h':k' < 20):k=k':=by
 have e:L.map lc=L'.map lc:=n.tx.symm.trans n'.tx
 have ix:∀ (i:Nat) (a b:Int),0<=a->0<=b->L[i]?=some a->L'[i]?=some b->a=b:=fun i a b ha hb h1 h2=>by
  have:=congrArg (fun l=>l[i]?) e;simp only[Jy,h1,h2,K0]at this;have z:=JE this;unfold lc at z;omega
 by_cases q:c % 3 < 2
 ·have:=ix _ _ _ (by omega) (by omega) (n.fst q) (n'.fst q);omega
 ·obtain⟨l1,f1⟩:=n.snd q;obtain⟨l2,f2⟩:=n'.snd q;have:=ix _ _ _ (by omega) (by omega) f1 f2;have ll:L.length=L'.length:=by simpa using congrArg List.length e
  rw[l1,l2]at ll;omega
noncomputable def EW (c:Int) (ns:List Str):Prop:=∀i x,ns[i]?=some x->∃L,Nm c i x L
theorem EW.nodup {c:Int} {ns:List Str} (h:EW c ns) (b7:ns.length<=20):ns.Nodup:=by
 refine Ku.mpr fun i j hi hj lt e=>?_;obtain⟨L,n⟩:=h i _ (Je hi);obtain⟨L',n'⟩:=h j _ (Je hj);rw[<-e]at n';have:=n.ne n' (by omega) (by omega);omega
theorem EW.snoc {c:Int} {ns:List Str} {x:Str} {L:List Int} (h:EW c ns) (n:Nm c ns.length x L):EW c (ns++[x]):=fun i y e=>by
 by_cases hi:i < ns.length
 ·rw[JH hi]at e;exact h i y e
 ·rw[JY (by omega)]at e
  have:i - ns.length=0:=by
   cases q:i - ns.length with
   | zero=>rfl
   | succ m=>rw[q]at e;simp at e
  rw[this]at e;have ei:i=ns.length:=by omega
  subst ei;cases (show some x=some y from e)
  exact⟨L,n⟩
theorem Ce {i:Int} {M:Mo} {H:Hp} {Q:VK} (h0:0<=i) (h1:i < 26) (q:Q (.str ⟨#[lc i]⟩) H):cJ M (.str (Str.ofString "abcdefghijklmnopqrstuvwxyz")) (.int i) H Q:=by
 rw[CI];have e:(Str.ofString "abcdefghijklmnopqrstuvwxyz").cps.toList=(List.range 26).map (97 + ·):=by decide +kernel
 refine⟨by rw[Jm];decide +kernel,?_⟩;rw[e];unfold lL oX;rw[Jc h0,Jc (by simp;omega),MG,Jy,MX (by omega)];exact q
theorem Cs {H:Hp} {p:Addr} {xs:List Int} {j:Int} {v:Int} {Q:Hp->Prop} (h:H p=some (.lst (xs.map V.int))) (h0:0<=j) (h1:j < xs.length) (q:Q (upd H p (.lst ((xs.set j.toNat v).map V.int)))):vo (.ref p) (.int j) (.int v) H Q:=by
 show(match H p with
  | some (.lst xs)=>(match V.int j with | .int j=>(match oX xs.length j with | some n=>Q (upd H p (.lst (xs.set n (.int v)))) | none=>False) | _=>False)
  | some (.dK kvs)=>(match keyOf (V.int j)with | some kk=>kvs.length < sizeLine/\Q (upd H p (.dK (putK kvs kk (.int v)))) | none=>False)
  | _=>False)
 rw[h];dsimp only
 have e:oX (xs.map V.int).length j=some j.toNat:=by
  unfold oX;rw[Jc h0,Jc (by rw[Jb];exact h1)]
 rw[e];dsimp only;rw[<-List.map_set];exact q
theorem zo {M:Mo} {H:Hp} {p:Addr} {xs:List Int} {j:Int} {v:Int} {Q:VK} (h:rd M H p=some (.lst (xs.map V.int))) (h0:0<=j) (h1:xs[j.toNat]?=some v) (q:Q (.int v) H):cJ M (.ref p) (.int j) H Q:=by
 refine iJ h ?_ q;unfold lL oX;obtain⟨hj,_⟩:=Ju.mp h1;rw[Jc h0,Jc (by rw[Jb];omega),MG,Jy,h1];rfl
theorem Ep (xs:List Int) (n:Int) (h0:0<=n):eB (xs.map V.int) none (some n)=(xs.take n.toNat).map V.int:=by
 unfold eB HT.cz;dsimp only;rw[List.drop_zero,I_ (by omega),NA,NS,Jb]
 by_cases h:n.toNat<=xs.length
 ·rw[Nat.min_eq_left h]
 ·rw[Nat.min_eq_right (by omega),K4 (by simp),K4 (by simp;omega)]
abbrev e8:List Str:=["_law_cell_here","_law_many","_law_letters","_law_at","_law_names_here","_law_k","_law_places","_law_size"]
noncomputable def eY:dm:=(.cons (.asg 2 (.con (.str "abcdefghijklmnopqrstuvwxyz")))
 (.cons (.asg 3 (.bin .Mod (.call "_law_mix" (.cons (.var 0) (.cons (.con (.int 7)) .nil))) (.con (.int 8))))
 (.cons (.asg 4 (.lst .nil))
 (.cons (.fr 5 (.rng1 (.var 1)) (.cons (.asg 6 (.comp "_law_j" [("_law_cell_here",0)] (.rng1 (.con (.int 8))) (.bin .Mod (.call "_law_mix" (.cons (.var 1) (.cons (.bin .Add (.con (.int 10)) (.var 0)) .nil))) (.con (.int 26))) .nil))
 (.cons (.asg 7 (.bin .Add (.bin .Add (.var 3) (.con (.int 1))) (.bin .Mod (.bin .FloorDiv (.var 0) (.con (.int 3))) (.bin .Sub (.con (.int 8)) (.var 3)))))
 (.cons (.iff (.cmp .Eq (.bin .Mod (.var 0) (.con (.int 3))) (.con (.int 1))) (.cons (.asg 7 (.bin .Add (.bin .Add (.var 3) (.con (.int 1))) (.bin .Mod (.call "_law_mix" (.cons (.var 0) (.cons (.bin .Add (.con (.int 30)) (.var 5)) .nil))) (.bin .Sub (.con (.int 8)) (.var 3)))))
  .nil) .nil)
 (.cons (.iff (.cmp .Lt (.bin .Mod (.var 0) (.con (.int 3))) (.con (.int 2))) (.cons (.sto (.var 6) (.var 3) (.bin .Mod (.bin .Add (.idx (.var 6) (.var 3)) (.var 5)) (.con (.int 26))))
  .nil) (.cons (.sto (.var 6) (.con (.int 0)) (.bin .Mod (.bin .Add (.idx (.var 6) (.con (.int 0))) (.bin .FloorDiv (.var 5) (.con (.int 8)))) (.con (.int 26))))
  (.cons (.asg 7 (.bin .Add (.con (.int 1)) (.bin .Mod (.bin .Add (.var 3) (.var 5)) (.con (.int 8)))))
  .nil)))
 (.cons (.exp (.mth .append (.var 4) (.cons (.mth .join (.con (.str "")) (.cons (.comp "_law_place" [("_law_letters",2)] (.ex (.slc (.var 6) .nil (.cons (.var 7) .nil))) (.idx (.var 1) (.var 0)) .nil) .nil)) .nil)))
 .nil))))))
 (.cons (.ret (.var 4))
 .nil)))))
noncomputable def Iz:V->V
 | .int i=>.str ⟨#[lc i]⟩
 | v=>v
theorem BM (L:List Int):(L.map V.int).map Iz=((L.map lc).map fun c=>(⟨#[c]⟩:Str)).map V.str:=by
 rw[JL,JL,JL];rfl
theorem xH (ns:List Str):allM iW (ns.map V.str)=some ns:=by
 have:=allM_map (f:=iW) (g:=V.str) (k:=id) (l:=ns) fun _ _=>rfl;rw[NO]at this;exact this
theorem BU {M:Mo} {H:Hp} {p:Addr} {cs:List Nat} {Q:VK} (h:H p=some (.lst ((cs.map fun c=>(⟨#[c]⟩:Str)).map V.str))) (hl:cs.length<=8) (q:∀x:Str,x.cps.toList=cs->Q (.str x) H):dj M .join (.str (Str.ofString "")) [.ref p] H Q:=by
 rw[Sw.DU,ao h ai];dsimp only;rw[xH];obtain⟨a,b⟩:=join_one cs hl;exact⟨a,q _ b⟩
theorem yK {Γ:bZ} {Ξ:XS} {D':Ends} {H Hk:Hp} {q d:Addr} {L0:List Int} {ns:List Str} {c n at_ sz:Int} {k:Nat} (gc:Γ.cm=true) (x:Ext Γ.mod H Hk) (q0:H q=none) (mq:Γ.mod q=none) (hq:Hk q=some (.lst (ns.map V.str))) (nl:ns.length<=20) (hd:Hk d=some (.lst (L0.map V.int))) (r:∀i ∈ L0,0<=i/\i < 26) (l8:L0.length<=8) (s0:0<=sz)
  (h:∀H' y,Ext Γ.mod H H'->H' q=some (.lst ((ns++[y]).map V.str))->y.cps.toList=(L0.take sz.toNat).map lc->D'.nx [some (.int c),some (.int n),some (.str (Str.ofString "abcdefghijklmnopqrstuvwxyz")),some (.int at_),some (.ref q),some (.int k),some (.ref d),some (.int sz)] H'):
  wSs (.cons (.exp (.mth .append (.var 4) (.cons (.mth .join (.con (.str "")) (.cons (.comp "_law_place" [("_law_letters",2)] (.ex (.slc (.var 6) .nil (.cons (.var 7) .nil))) (.idx (.var 1) (.var 0)) .nil) .nil)) .nil))) .nil) Γ Ξ D' [some (.int c),some (.int n),some (.str (Str.ofString "abcdefghijklmnopqrstuvwxyz")),some (.int at_),some (.ref q),some (.int k),some (.ref d),some (.int sz)] Hk:=by
 refine seq ?_;walk_at "s1";refine⟨dY hq,rfl,gc,?_⟩;rw[Sw.t7,ao hd ai];dsimp only;intro l hl ml;rw[Ep _ _ s0];have x1:Ext Γ.mod Hk (upd Hk l (.lst ((L0.take sz.toNat).map V.int))):=Ext.upd hl ml;have hl1:upd Hk l (.lst ((L0.take sz.toNat).map V.int)) l=some (.lst ((L0.take sz.toNat).map V.int)):=ae;generalize upd Hk l (.lst ((L0.take sz.toNat).map V.int))=H1 at x1 hl1;refine bQ (ao hl1 ai) fun e he me=>?_;have x2:∀o,Ext Γ.mod H1 (upd H1 e o):=fun o=>Ext.upd he me;have tl:(L0.take sz.toNat).length<=8:=by rw[J7];omega
 refine uZ Iz _ [] (fun v hv acc Q' q'=>?_) (fun o=>ao ((x2 _).same _ _ hl1) ai) (by rw[Jb,Jm];simp;omega) ?_
 ·obtain⟨i,hi,rfl⟩:=Jf.mp hv;obtain⟨i0,i1⟩:=r i (LD hi);walk_at "s1";exact Ce i0 i1 q'
 ·rw[Le,BM];refine BU ae (by rw[Jb];exact tl) fun y hy=>?_;have hq2:=(x1.trans (x2 (.lst (((List.map lc (L0.take sz.toNat)).map fun c=>(⟨#[c]⟩:Str)).map V.str)))).same _ _ hq;refine EB (x:=y) (ws:=ns) hq2 (by rw[Jm];omega) ?_;exact bD (h _ y (((x.trans x1).trans (x2 _)).b8 q0 mq) ae hy)
noncomputable def j3 (M:Mo):Sp:=fun vs H Q _=>∃c n,vs=[.int c,.int n]/\0<=n/\n<=20/\∀H' l (ns:List Str),Ext M H H'->H l=none->M l=none->H' l=some (.lst (ns.map V.str))->ns.Nodup->(ns.length:Int)=n->Q (.ref l) H'
noncomputable def wX (c:Int):List Int:=(List.range 8).map (p0 c)
theorem yf {c:Int} {j:Nat} (h:j < 8):(wX c)[j]?=some (p0 c j):=by
 unfold wX;rw[Jy,MX h];rfl
theorem Hl (c:Int) (j:Nat):0<=p0 c j/\p0 c j < 26:=⟨Ki _ (by decide),Ke _ (by decide)⟩
theorem Cz {c:Int}:∀i ∈ wX c,0<=i/\i < 26:=fun i hi=>by
 obtain⟨j,_,rfl⟩:=Jf.mp hi;exact Hl c j
theorem Cu {L:List Int} {n:Nat} {v:Int} (r:∀i ∈ L,0<=i/\i < 26) (hv:0<=v/\v < 26):∀i ∈ L.set n v,0<=i/\i < 26:=fun i hi=>by
 rcases List.mem_or_eq_of_mem_set hi with z | z
 ·exact r i z
 ·rw[z];exact hv
theorem yA {M:Mo} {Γ:bZ} (gm:Γ.mod=M) (gc:Γ.cm=true) (g2:Γ.has "_law_mix" =true/\Γ.fn "_law_mix" =jB) (vs:List V) (H:Hp) (Q:VK) (E:XK) (h:j3 M vs H Q E):eM Γ e8 2 eY vs H Q E:=by
 obtain⟨c,n,rfl,n0,n1,h⟩:=h;refine⟨rfl,?_⟩;obtain rfl:=gm;unfold eY;refine seq ?_;walk_at "s1";refine seq ?_;walk_at "s1";refine⟨⟨gc,g2.1⟩,?_⟩;rw[g2.2];refine⟨c,7,rfl,by omega,by omega,fun z ez z0 z1=>?_⟩;dsimp only;rw[Sw.v_mod];refine⟨by decide,?_⟩;have ea:z % 8=tE c:=by unfold tE;rw[ez]
 rw[ea];have a0:0<=tE c:=by rw[<-ea];exact Ki _ (by decide)
 have a1:tE c < 8:=by rw[<-ea];exact Ke _ (by decide)
 refine seq ?_;walk_at "s1";refine⟨by rw[Jm];simp,fun q hq mq=>?_⟩;refine seq ?_;walk_at "s1";refine⟨gc,by omega,by omega,?_⟩
 refine b_ (fun k σ H'=>∃ (v5 v6 v7:Option V) (ns:List Str),σ=[some (.int c),some (.int n),some (.str (Str.ofString "abcdefghijklmnopqrstuvwxyz")),some (.int (tE c)),some (.ref q),v5,v6,v7]/\Ext Γ.mod H H'/\H' q=some (.lst (ns.map V.str))/\ns.length=k/\EW c ns) (fun n σ H' z=>trivial) (fun k v σ Hn D' hv pv nx ct _ _=>?_) (fun σ Hn pv=>?_)
  ⟨none,none,none,[],rfl,Ext.upd hq mq,ae,rfl,fun i x e=>by simp at e⟩
 ·obtain⟨v5,v6,v7,ns,rfl,x,hqn,len,nm⟩:=pv;obtain⟨hk,rfl⟩:=cP hv;have k20:k < 20:=by omega
  refine seq ?_;walk_at "s1";refine⟨gc,by omega,by omega,fun d hd md=>?_⟩;have xd:∀o,Ext Γ.mod Hn (upd Hn d o):=fun o=>Ext.upd hd md;refine uZ (fun v=>match v with | .int i=>.int (vO c (10 + i) % 26) | v=>v) _ [] (fun v hv acc Q' q'=>?_) (fun _=>trivial) (by rw[Jm];simp) ?_
  ·obtain⟨i,hi,rfl⟩:=Jf.mp hv;have hi:=MY.mp hi;have hi:i < 8:=hi;walk_at "s1";refine⟨⟨gc,g2.1⟩,?_⟩;rw[Sw.v_add,g2.2];refine⟨c,_,rfl,by omega,by omega,fun z ez z0 z1=>?_⟩;dsimp only;rw[Sw.v_mod,ez];exact⟨by decide,q'⟩
  have ep:([]:List V)++((List.range (8:Int).toNat).map fun i:Nat=>V.int i).map (fun v=>match v with | .int i=>.int (vO c (10 + i) % 26) | v=>v)=(wX c).map V.int:=by
   rw[Le,JL];unfold wX;rw[JL];rfl
  rw[ep];have x1:=x.trans (xd (.lst ((wX c).map V.int)));have hd1:upd Hn d (.lst ((wX c).map V.int)) d=some (.lst ((wX c).map V.int)):=ae;have hq1:=(xd (.lst ((wX c).map V.int))).same _ _ hqn;generalize upd Hn d (.lst ((wX c).map V.int))=H1 at x1 hd1 hq1;have qd:q ≠ d:=ag hqn hd;have d0:=x.aD hd
  have tail:∀ (sz:Int) (L:List Int) (H2:Hp),Ext Γ.mod H H2->H2 q=some (.lst (ns.map V.str))->H2 d=some (.lst (L.map V.int))->(∀ i ∈ L,0<=i/\i < 26)->L.length=8->0<=sz->(∀ y:Str,y.cps.toList=(L.take sz.toNat).map lc->∃L',Nm c k y L')->
    wSs (.cons (.exp (.mth .append (.var 4) (.cons (.mth .join (.con (.str "")) (.cons (.comp "_law_place" [("_law_letters",2)] (.ex (.slc (.var 6) .nil (.cons (.var 7) .nil))) (.idx (.var 1) (.var 0)) .nil) .nil)) .nil))) .nil) Γ X0 D' [some (.int c),some (.int n),some (.str (Str.ofString "abcdefghijklmnopqrstuvwxyz")),some (.int (tE c)),some (.ref q),some (.int k),some (.ref d),some (.int sz)] H2:=by
   intro sz L H2 y1 y2 y3 y4 y5 y6 y7;refine yK gc y1 hq mq y2 (by omega) y3 y4 (by omega) y6 fun H' y z1 z2 z3=>?_;obtain⟨L',nm'⟩:=y7 y z3;exact nx _ _ ⟨_,_,_,ns++[y],rfl,z1,z2,by rw[Jl,len];rfl,nm.snoc (by rw[len];exact nm')⟩
  have l8:(wX c).length=8:=by unfold wX;simp
  -- the size
  have rest:∀sz:Int,tE c + 1<=sz->wSs (.cons (.iff (.cmp .Lt (.bin .Mod (.var 0) (.con (.int 3))) (.con (.int 2))) (.cons (.sto (.var 6) (.var 3) (.bin .Mod (.bin .Add (.idx (.var 6) (.var 3)) (.var 5)) (.con (.int 26))))
  .nil) (.cons (.sto (.var 6) (.con (.int 0)) (.bin .Mod (.bin .Add (.idx (.var 6) (.con (.int 0))) (.bin .FloorDiv (.var 5) (.con (.int 8)))) (.con (.int 26))))
  (.cons (.asg 7 (.bin .Add (.con (.int 1)) (.bin .Mod (.bin .Add (.var 3) (.var 5)) (.con (.int 8)))))
  .nil)))
 (.cons (.exp (.mth .append (.var 4) (.cons (.mth .join (.con (.str "")) (.cons (.comp "_law_place" [("_law_letters",2)] (.ex (.slc (.var 6) .nil (.cons (.var 7) .nil))) (.idx (.var 1) (.var 0)) .nil) .nil)) .nil)))
 .nil)) Γ X0 D' [some (.int c),some (.int n),some (.str (Str.ofString "abcdefghijklmnopqrstuvwxyz")),some (.int (tE c)),some (.ref q),some (.int k),some (.ref d),some (.int sz)] H1:=by
   intro sz hsz;refine seq ?_;walk_at "s1";rw[Sw.v_mod];refine⟨by decide,?_⟩;rw[Sw.v_lt];refine⟨_,rfl,?_⟩
   by_cases q3:c % 3 < 2
   ·rw[Jc (JP q3)];refine seq ?_;walk_at "s1";refine zo (ao hd1 ai) a0 (yf (by omega)) ?_;rw[Sw.v_add,Sw.v_mod];refine⟨by decide,Cs hd1 a0 (by rw[l8];omega) ?_⟩;refine bD ?_;refine tail sz _ _ (x1.b8 d0 md) (by rw[af qd];exact hq1) ae (Cu Cz ⟨Ki _ (by decide),Ke _ (by decide)⟩) (by rw[Mh];exact l8) (by omega) fun y hy=>⟨_,hy,fun _=>?_,fun z=>absurd q3 z⟩;rw[List.getElem?_take,Jc (by omega),K3 (by rw[l8];omega)]
   ·rw[I_ (by rw[Kl];exact q3)];refine seq ?_;walk_at "s1";refine zo (ao hd1 ai) (by decide) (yf (c:=c) (j:=0) (by decide)) ?_;rw[Sw.v_div];refine⟨by decide,by decide,?_⟩;rw[Sw.v_add,Sw.v_mod];refine⟨by decide,Cs hd1 (by decide) (by rw[l8];decide) ?_⟩;refine seq ?_;walk_at "s1";rw[Sw.v_add,Sw.v_mod];refine⟨by decide,?_⟩;rw[Sw.v_add];refine bD ?_;have m0:=Ki (tE c + (k:Int)) (show(8:Int) ≠ 0 by decide);have m1:=Ke (tE c + (k:Int)) (show(0:Int) < 8 by decide);refine tail _ _ _ (x1.b8 d0 md) (by rw[af qd];exact hq1) ae (Cu Cz ⟨Ki _ (by decide),Ke _ (by decide)⟩) (by rw[Mh];exact l8) (by omega) fun y hy=>⟨_,hy,fun z=>absurd z q3,fun _=>⟨?_,?_⟩⟩
    ·rw[J7,Mh,l8];omega
    ·rw[List.getElem?_take,Jc (by omega),show((0:Int).toNat)=0 from rfl,K3 (by rw[l8];decide)]
  refine seq ?_;walk_at "s1";rw[Sw.v_add,Sw.v_div];refine⟨by decide,by decide,?_⟩;rw[Sw.v_sub,Sw.v_mod];refine⟨by omega,?_⟩;rw[Sw.v_add];have e0:=Ki (c / 3) (show 8 - tE c ≠ 0 by omega);refine seq ?_;walk_at "s1";rw[Sw.v_mod];refine⟨by decide,?_⟩;rw[Sw.jy];refine⟨_,rfl,?_⟩
  by_cases q1:c % 3=1
  ·rw[Jc (JP q1)];refine seq ?_;walk_at "s1";rw[Sw.v_add];refine⟨⟨gc,g2.1⟩,?_⟩;rw[Sw.v_add,g2.2];refine⟨c,_,rfl,by omega,by omega,fun z ez z0 z1=>?_⟩;dsimp only;rw[Sw.v_sub,Sw.v_mod];refine⟨by omega,?_⟩;rw[Sw.v_add];have e1:=Ki z (show 8 - tE c ≠ 0 by omega);exact bD (rest _ (by omega))
  ·rw[I_ (by rw[Kl];exact q1)];exact bD (rest _ (by omega))
 ·obtain⟨v5,v6,v7,ns,rfl,x,hqn,len,nm⟩:=pv;rw[Jb,KJ]at len;walk_at "sw";exact h Hn q ns x hq mq hqn (nm.nodup (by omega)) (by omega)
abbrev g9:List Str:=["_law_script","_law_names_here","_law_start","_law_web_here","_law_name","_law_cell_here","_law_number","_law_digits","_law_k","_law_j","_law_draw","_law_one","_law_other"]
noncomputable def rS:dm:=(.cons (.fr 5 (.ex (.slc (.var 0) (.cons (.var 2) .nil) (.cons (.con (.int 64)) .nil))) (.cons (.asg 11 (.idx (.var 1) (.bin .Mod (.var 5) (.blt .len (.cons (.var 1) .nil))))) (.cons (.asg 12 (.idx (.var 1) (.bin .Mod (.bin .FloorDiv (.var 5) (.con (.int 20))) (.blt .len (.cons (.var 1) .nil))))) (.cons (.iff (.cmpD .In (.var 12) (.idxD (.var 3) (.var 11))) (.cons (.exp (.mth .dpop (.idxD (.var 3) (.var 11)) (.cons (.var 12) .nil))) (.cons (.exp (.mth .dpop (.idxD (.var 3) (.var 12)) (.cons (.var 11) .nil))) .nil)) (.cons (.iff (.cmp .NotEq (.var 11) (.var 12)) (.cons (.exp (.call "_law_join" (.cons (.var 3) (.cons (.var 11) (.cons (.var 12) (.cons (.call "_law_mix" (.cons (.var 5) (.cons (.con (.int 3)) .nil))) .nil)))))) .nil) .nil) .nil)) .nil)))) (.cons (.ret (.var 3)) .nil))
noncomputable def gX:dm:=(.cons (.asg 3 .dnew) (.cons (.fr 4 (.ex (.var 1)) (.cons (.sto (.var 3) (.var 4) .dnew) .nil)) (.cons (.asg 5 (.call "_law_cell" (.cons (.var 0) (.cons (.con (.int 1)) .nil)))) (.cons (.asg 6 (.var 5)) (.cons (.asg 7 (.cmp .Eq (.bin .Mod (.bin .FloorDiv (.call "_law_cell" (.cons (.var 0) (.cons (.con (.int 2)) .nil))) (.con (.int 1000))) (.con (.int 2))) (.con (.int 1)))) (.cons (.fr 8 (.rng1 (.blt .len (.cons (.var 1) .nil))) (.cons (.fr 9 (.rng1 (.var 8)) (.cons (.asg 10 (.call "_law_mix" (.cons (.var 5) (.cons (.bin .Add (.bin .Add (.con (.int 60)) (.bin .Mult (.con (.int 20)) (.var 8))) (.var 9)) .nil)))) (.cons (.iff (.or (.and (.var 7) (.cmp .Eq (.bin .Mod (.var 6) (.con (.int 2))) (.con (.int 1)))) (.and (.not (.var 7)) (.cmp .Lt (.bin .Mod (.var 10) (.con (.int 16))) (.bin .Sub (.bin .Mod (.bin .Add (.var 5) (.con (.int 5))) (.con (.int 12))) (.con (.int 2)))))) (.cons (.exp (.call "_law_join" (.cons (.var 3) (.cons (.idx (.var 1) (.var 8)) (.cons (.idx (.var 1) (.var 9)) (.cons (.bin .FloorDiv (.var 10) (.con (.int 16))) .nil)))))) .nil) .nil) (.cons (.asg 6 (.bin .FloorDiv (.var 6) (.con (.int 2)))) .nil)))) .nil)) rS))))))
theorem zm {M:Mo} {H:Hp} {p:Addr} {ns:List Str} {i:Nat} {Q:VK} (h:rd M H p=some (.lst (ns.map V.str))) (hi:i < ns.length) (q:Q (.str ns[i]) H):cJ M (.ref p) (.int i) H Q:=by
 refine iJ h ?_ q;unfold lL oX;rw[Jc (by omega),Jc (by rw[Jb];omega),MG];show(ns.map V.str)[i]?=_;rw[Jy,Je hi];rfl
theorem B6 {xs:List V} {lo hi:Option Int} {v:V} (h:v ∈ eB xs lo hi):v ∈ xs:=by
 unfold eB at h
 first
 | exact MP (LD h)
 | exact LD (MP h)
theorem ye {H:Hp} {w pa pb:Addr} {E:List Ent} {a b:Str} {ra rb:Gw.Row} (W:bU H w E) (ok:pE (cont E)) (q:a ≠ b) (ma:(a,pa,ra) ∈ E) (mb:(b,pb,rb) ∈ E):
  ∃E1 E2,bU (upd H pa (.dK (dU (ra.filter fun y=>decide (y.1 ≠ b))))) w E1/\(b,pb,rb) ∈ E1/\bU (upd (upd H pa (.dK (dU (ra.filter fun y=>decide (y.1 ≠ b))))) pb (.dK (dU (rb.filter fun y=>decide (y.1 ≠ a))))) w E2/\pE (cont E2)/\E2.map (·.1)=E.map (·.1)/\E2.map (·.2.1)=E.map (·.2.1):=by
 have aa:=js W.keys ma;have ab:=js W.keys mb;have ha:a ∈ E.map (·.1):=Jf.mpr ⟨_,ma,rfl⟩;have hb:b ∈ E.map (·.1):=Jf.mpr ⟨_,mb,rfl⟩;have n1:((ra.filter fun y=>decide (y.1 ≠ b)).map (·.1)).Nodup:=(Me.map _).nodup (W.rk _ ma);have W1:=W.set ma (row':=ra.filter fun y=>decide (y.1 ≠ b)) n1 (JB (KN _ _) (W.mC _ ma));have mb1:=ij (x:=a) (row':=ra.filter fun y=>decide (y.1 ≠ b)) mb (fun z=>q z.symm);have n2:((rb.filter fun y=>decide (y.1 ≠ a)).map (·.1)).Nodup:=(Me.map _).nodup (W.rk _ mb);have W2:=W1.set mb1 (row':=rb.filter fun y=>decide (y.1 ≠ a)) n2 (JB (KN _ _) (W.mC _ mb))
 have ad:∀x y,y ∈ iY (cont (b0 b (rb.filter fun y=>decide (y.1 ≠ a)) (b0 a (ra.filter fun y=>decide (y.1 ≠ b)) E))) x ↔ y ∈ iY (cont E) x/\¬ (x=a/\y=b)/\¬ (x=b/\y=a):=fun x y=>by
  rw[eN (by rw[aE];exact hb),eN ha]
  by_cases z:x=b
  ·subst z;rw[Jc rfl,nN,ab];have:¬x=a:=fun u=>q u.symm;simp[this]
  ·rw[I_ z]
   by_cases z2:x=a
   ·subst z2;rw[Jc rfl,nN,aa];simp[z]
   ·rw[I_ z2];simp[z,z2]
 refine⟨_,_,W1,mb1,W2,⟨⟨by rw[bJ,aE,aE];exact W.keys,fun x y hy=>?_,fun x y hy=>?_⟩,fun x hx=>?_⟩,by rw[aE,aE],by rw[cE,cE]⟩
 ·rw[ad]at hy ⊢;exact⟨ok.ok.sy x y hy.1,fun z=>hy.2.2 ⟨z.2,z.1⟩,fun z=>hy.2.1 ⟨z.2,z.1⟩⟩
 ·rw[ad]at hy;rw[bJ,aE,aE,<-bJ];exact ok.ok.cl x y hy.1
 ·rw[ad]at hx;exact ok.no x hx.1
structure gu (H2:Hp) (w:Addr) (E0:List Ent) (H:Hp) (E:List Ent):Prop where
 n_:bU H w E
 ok:pE (cont E)
 keys:E.map (·.1)=E0.map (·.1)
 wR:E.map (·.2.1)=E0.map (·.2.1)
 rest:∀x,x ∉ E0.map (·.2.1)->H x=H2 x
theorem gu.xF {H2 H:Hp} {w:Addr} {E0 E:List Ent} (t:gu H2 w E0 H E):Ad H2 w E0 H E:=⟨t.n_,t.ok.ok,t.keys,t.wR,t.rest⟩
theorem gu.step {H2 H H':Hp} {w:Addr} {E0 E E':List Ent} (T:gu H2 w E0 H E) (W':bU H' w E') (ok':pE (cont E')) (k':E'.map (·.1)=E.map (·.1)) (a':E'.map (·.2.1)=E.map (·.2.1)) (r':∀x,x ∉ E.map (·.2.1)->H' x=H x):gu H2 w E0 H' E':=
 ⟨W',ok',by rw[k',T.keys],by rw[a',T.wR],fun y hy=>by rw[r' y (by rw[T.wR];exact hy)];exact T.rest y hy⟩
theorem BC {E:List Ent} {a b:Str} {pa pb x:Addr} {ra rb:Gw.Row} {H:Hp} {o o':HO} (ma:(a,pa,ra) ∈ E) (mb:(b,pb,rb) ∈ E) (hx:x ∉ E.map (·.2.1)):upd (upd H pa o) pb o' x=H x:=by
 rw[af (fun z=>hx (Jf.mpr ⟨_,mb,z.symm⟩)),af (fun z=>hx (Jf.mpr ⟨_,ma,z.symm⟩))]
noncomputable def tX (M:Mo):Sp:=fun vs H Q _=>∃ (s nm:Addr) (st:Int) (is:List Int) (ns:List Str),vs=[.ref s,.ref nm,.int st]/\rd M H s=some (.lst (is.map V.int))/\rd M H nm=some (.lst (ns.map V.str))/\ns.Nodup/\0 < ns.length/\ns.length<=20/\
 ∀H' w E,Ext M H H'->H w=none->M w=none->(∀ e ∈ E,H e.2.1=none)->bU H' w E->pE (cont E)->(∀ x,x ∈ E.map (·.1) ↔ x ∈ ns)->Q (.ref w) H'
theorem xb {Γ:bZ} {Ξ:XS} {D:Ends} {H Hn:Hp} {s nm w:Addr} {st:Int} {is:List Int} {ns:List Str} {E:List Ent} {v4 v5 v6 v7 v8 v9 v10:Option V} (gc:Γ.cm=true) (g2:Γ.has "_law_mix" =true/\Γ.fn "_law_mix" =jB) (g3:Γ.has "_law_join" =true/\Γ.fn "_law_join" =kC)
  (x:Ext Γ.mod H Hn) (hs:rd Γ.mod H s=some (.lst (is.map V.int))) (hn:rd Γ.mod H nm=some (.lst (ns.map V.str))) (n0:0 < ns.length) (n1:ns.length<=20) (fr:∀e ∈ E,H e.2.1=none) (W:bU Hn w E) (ok:pE (cont E)) (ks:∀x,x ∈ E.map (·.1) ↔ x ∈ ns)
  (h:∀H' E',Ext Γ.mod H H'->(∀ e ∈ E',H e.2.1=none)->bU H' w E'->pE (cont E')->(∀ x,x ∈ E'.map (·.1) ↔ x ∈ ns)->D.rt (.ref w) H'):
  wSs rS Γ Ξ D [some (.ref s),some (.ref nm),some (.int st),some (.ref w),v4,v5,v6,v7,v8,v9,v10,none,none] Hn:=by
 unfold rS;refine seq ?_;walk_at "s1";refine⟨gc,?_⟩;rw[Sw.t7,x.rd hs];dsimp only;intro l hl ml;have x1:Ext Γ.mod Hn (upd Hn l (.lst (eB (is.map V.int) (some st) (some 64)))):=Ext.upd hl ml;have x2:=x.trans x1;have hl2:upd Hn l (.lst (eB (is.map V.int) (some st) (some 64))) l=some (.lst (eB (is.map V.int) (some st) (some 64))):=ae;have W2:=Ext.n_ x1 W;generalize upd Hn l (.lst (eB (is.map V.int) (some st) (some 64)))=H2 at x1 x2 hl2 W2;have hn2:=x2.rd hn;refine bQ (ao hl2 ai) ?_
 refine b_ (fun n σ Hk=>∃v5 v11 v12 E',σ=[some (.ref s),some (.ref nm),some (.int st),some (.ref w),v4,v5,v6,v7,v8,v9,v10,v11,v12]/\gu H2 w E Hk E') (fun n σ Hk z=>?_) (fun n v σ Hk D' hv pv nx ct _ _=>?_) (fun σ Hk pv=>?_)
  ⟨_,_,_,E,rfl,W2,ok,rfl,rfl,fun _ _=>rfl⟩
 ·obtain⟨_,_,_,E',_,T⟩:=z;exact T.xF.rd W2 (ao hl2 ai)
 ·obtain⟨v5,v11,v12,E',rfl,T⟩:=pv;obtain⟨i,_,rfl⟩:=Jf.mp (B6 (Jg hv));have hnk:=T.xF.rd W2 hn2;have key:∀y ∈ ns,y ∈ E'.map (·.1):=fun y hy=>by rw[T.keys];exact(ks y).mpr hy
  refine seq ?_;walk_at "s1";refine⟨gc,cZ hnk ?_⟩;rw[Sw.v_mod,Jb];refine⟨by omega,oW hnk (Ki _ (by omega)) (Ke _ (by omega)) fun a ha=>?_⟩;refine seq ?_;walk_at "s1";rw[Sw.v_div];refine⟨by decide,by decide,gc,cZ hnk ?_⟩;rw[Sw.v_mod,Jb];refine⟨by omega,oW hnk (Ki _ (by omega)) (Ke _ (by omega)) fun b hb=>?_⟩;obtain⟨⟨pa,ra⟩,_,ma⟩:=fW (key a ha);obtain⟨⟨pb,rb⟩,_,mb⟩:=fW (key b hb);have aa:=js T.n_.keys ma;have ab:=js T.n_.keys mb;refine seq ?_;walk_at "s1";refine fZ T.n_ ma ?_;refine uI (x:=b) (kvs:=dU ra) (ao (T.n_.row _ ma) iB) ⟨_,rfl,?_⟩;rw[kL]
  by_cases jP:b ∈ ra.map (·.1)
  ·rw[Jc (JP jP)];have q:a ≠ b:=fun z=>T.ok.no a (by rw[aa];rw[<-z]at jP;exact jP);have hba:a ∈ rb.map (·.1):=by rw[<-ab];exact T.ok.ok.sy a b (by rw[aa];exact jP)
   obtain⟨E1,E2,W1,mb1,W3,ok3,k3,a3⟩:=ye T.n_ T.ok q ma mb;refine seq ?_;walk_at "s1";refine fZ T.n_ ma (uR (x:=b) (T.n_.row _ ma) jP fun _=>?_);refine seq ?_;walk_at "s1";refine fZ W1 mb1 (uR (x:=a) (W1.row _ mb1) hba fun _=>?_);exact m5 (nx _ _ ⟨_,_,_,E2,rfl,T.step W3 ok3 k3 a3 fun y hy=>BC ma mb hy⟩)
  ·rw[I_ (by simpa using jP)];refine seq ?_;walk_at "s1";rw[Sw.tT];refine⟨_,rfl,?_⟩
   by_cases q:a=b
   ·rw[I_ (by simp[q])];exact bD (bD (Γ:=Γ) (Ξ:=X0) (bD (Γ:=Γ) (Ξ:=X0) (nx _ _ ⟨_,_,_,E',rfl,T⟩)))
   ·rw[Jc (by simp[q])];refine seq ?_;walk_at "s1";refine⟨⟨gc,g3.1⟩,⟨gc,g2.1⟩,?_⟩;rw[g2.2];refine⟨i,3,rfl,by omega,by omega,fun z _ z0 z1=>?_⟩;rw[g3.2];refine⟨w,E',a,b,z,rfl,T.n_,T.ok,q,key a ha,key b hb,fun H' E2 W' ok' k' a' r'=>?_⟩;exact bD (bD (Γ:=Γ) (Ξ:=X0) (bD (Γ:=Γ) (Ξ:=X0) (nx _ _ ⟨_,_,_,E2,rfl,T.step W' ok' k' a' r'⟩)))
 ·obtain⟨v5,v11,v12,E',rfl,T⟩:=pv;walk_at "sw";refine h Hk E' (T.xF.ext W2 x2 fr) (fun e he=>?_) T.n_ T.ok fun y=>by rw[T.keys];exact ks y
  have z:e.2.1 ∈ E.map (·.2.1):=by rw[<-T.wR];exact Jf.mpr ⟨e,he,rfl⟩
  obtain⟨e0,he0,q⟩:=Jf.mp z;rw[<-q];exact fr e0 he0
theorem DG {M:Mo} {Γ:bZ} (gm:Γ.mod=M) (gc:Γ.cm=true) (g1:Γ.has "_law_cell" =true/\Γ.fn "_law_cell" =kD M) (g2:Γ.has "_law_mix" =true/\Γ.fn "_law_mix" =jB) (g3:Γ.has "_law_join" =true/\Γ.fn "_law_join" =kC)
  (vs:List V) (H:Hp) (Q:VK) (X:XK) (h:tX M vs H Q X):eM Γ g9 3 gX vs H Q X:=by
 obtain⟨s,nm,st,is,ns,rfl,hs,hn,nd,n0,b7,h⟩:=h;refine⟨rfl,?_⟩;obtain rfl:=gm;unfold gX;refine seq ?_;walk_at "s1";intro w hw mw;have nw:nm ≠ w:=DL hn hw mw;refine seq ?_;walk_at "s1";refine⟨gc,?_⟩;have hn1:rd Γ.mod (upd H w (.dK [])) nm=some (.lst (ns.map V.str)):=by rw[ue (af nw)];exact hn
 refine bQ hn1 ?_
 refine b_ (fun n σ Hn=>∃v4 E,σ=[some (.ref s),some (.ref nm),some (.int st),some (.ref w),v4,none,none,none,none,none,none,none,none]/\bU Hn w E/\(∀ e ∈ E,e.2.2=[])/\(∀ e ∈ E,H e.2.1=none)/\Ext Γ.mod H Hn/\∀x,x ∈ E.map (·.1) ↔ x ∈ ns.take n) (fun n σ Hn z=>?_) ?_ ?_
  ⟨none,[],rfl,⟨ae,fun e he=>by (cases he),by simp,by simp,fun e he=>by (cases he),by simp,fun e he=>by (cases he)⟩,fun e he=>by (cases he),fun e he=>by (cases he),Ext.upd hw mw,fun x=>by simp⟩
 ·obtain⟨_,_,_,_,_,_,x,_⟩:=z;exact x.rd hn
 ·intro n v σ Hn D' hv pv nx ct _ _;obtain⟨v4,E,rfl,W,em,fr,x,ks⟩:=pv;rw[Jy]at hv;obtain⟨c,hc,rfl⟩:=JF.mp hv;have tk:=take_snoc hc;refine seq ?_;walk_at "s1";intro l hl ml;have wl:w ≠ l:=ag W.top hl;obtain⟨E',e1,W',em',ad',ks'⟩:=Ax W hl em (fun y hy=>LD ((ks y).mp hy)) (Jg hc) b7;refine i_ (x:=c) (kvs:=ib E) (by rw[af wl];exact W.top) (by rw[xt,Jm];have:=W.b7;omega) ?_;rw[e1];refine bD (nx _ _ ⟨_,E',rfl,W',em',fun e he=>?_,(x.b8 (x.aD hl) ml).b8 hw mw,fun y=>?_⟩)
  ·rcases ad' e he with z | ⟨e0,he0,z⟩
   ·rw[z];exact x.aD hl
   ·rw[<-z];exact fr e0 he0
  ·rw[ks',ks,tk,Jx];simp
 ·intro σ H2 pv;obtain⟨v4,E0,rfl,W0,em,fr,x2,ks⟩:=pv;have tl:ns.take (ns.map V.str).length=ns:=by rw[Jb];exact KD
  rw[tl]at ks;have hn2:=x2.rd hn;have hs2:=x2.rd hs;refine seq ?_;walk_at "s1";refine⟨⟨gc,g1.1⟩,?_⟩;rw[g1.2];refine⟨s,1,is,rfl,by decide,hs2,fun ch=>?_⟩;refine seq ?_;walk_at "s1";refine seq ?_;walk_at "s1";refine⟨⟨gc,g1.1⟩,?_⟩;rw[g1.2];refine⟨s,2,is,rfl,by decide,hs2,fun c2=>?_⟩;dsimp only;rw[Sw.v_div];refine⟨by decide,by decide,?_⟩;rw[Sw.v_mod];refine⟨by decide,?_⟩;rw[Sw.jy];generalize decide (c2 / 1000 % 2=1)=dg;refine seq ?_;walk_at "s1";refine⟨gc,gc,cZ hn2 ?_⟩;rw[Jb];refine⟨by omega,by omega,?_⟩
  have adj0:∀a,iY (cont E0) a=[]:=fun a=>by
   rw[<-eE];unfold mO;cases q:E0.lookup a with
   | none=>rfl
   | some b=>
    dsimp only;rw[show b.2=[]from em _ (lookup_some q)];rfl
  have T0:gu H2 w E0 H2 E0:=⟨W0,⟨⟨by rw[bJ];exact W0.keys,fun a b z=>by (rw[adj0]at z;cases z),fun a b z=>by (rw[adj0]at z;cases z)⟩,fun a z=>by (rw[adj0]at z;cases z)⟩,rfl,rfl,fun _ _=>rfl⟩;refine b_ (fun n σ Hn=>∃ (nu:Int) (v8 v9 v10:Option V) (E:List Ent),σ=[some (.ref s),some (.ref nm),some (.int st),some (.ref w),v4,some (.int ch),some (.int nu),some (.bl dg),v8,v9,v10,none,none]/\gu H2 w E0 Hn E) (fun n σ Hn z=>trivial) ?_ ?_ ⟨ch,_,_,_,E0,rfl,T0⟩
  ·intro i v σ Hn D' hv pv nx ct _ _;obtain⟨nu,v8,v9,v10,E,rfl,T⟩:=pv;obtain⟨i1,rfl⟩:=cP hv;have i1:i < ns.length:=i1;refine seq ?_;walk_at "s1";refine⟨gc,by omega,by omega,?_⟩;refine b_ (fun n σ Hn=>∃ (nu:Int) (v9 v10:Option V) (E:List Ent),σ=[some (.ref s),some (.ref nm),some (.int st),some (.ref w),v4,some (.int ch),some (.int nu),some (.bl dg),some (.int i),v9,v10,none,none]/\gu H2 w E0 Hn E) (fun n σ Hn z=>trivial) ?_ ?_ ⟨nu,_,_,E,rfl,T⟩
   ·intro j v σ Hn D2 hv2 pv2 nx2 ct2 _ _;obtain⟨nu,v9,v10,E,rfl,T⟩:=pv2;obtain⟨j1,rfl⟩:=cP hv2;have j1:j < i:=by omega
    refine seq ?_;walk_at "s1";refine⟨⟨gc,g2.1⟩,?_⟩;rw[Sw.v_mul];refine⟨Gf (by decide) (by decide),?_⟩;rw[Sw.v_add,Sw.v_add,g2.2];refine⟨ch,_,rfl,by omega,by omega,fun dr _ dr0 dr1=>?_⟩;have hnk:=T.xF.rd W0 hn2
    have last:∀H' E',gu H2 w E0 H' E'->wSs (.cons (.asg 6 (.bin .FloorDiv (.var 6) (.con (.int 2)))) .nil) Γ X0 D2 [some (.ref s),some (.ref nm),some (.int st),some (.ref w),v4,some (.int ch),some (.int nu),some (.bl dg),some (.int i),some (.int j),some (.int dr),none,none] H':=by
     intro H' E' T';refine seq ?_;walk_at "s1";rw[Sw.v_div];exact⟨by decide,by decide,bD (nx2 _ _ ⟨_,_,_,E',rfl,T'⟩)⟩
    refine seq ?_
    have go:∀k:Bool,if k=true then wSs (.cons (.exp (.call "_law_join" (.cons (.var 3) (.cons (.idx (.var 1) (.var 8)) (.cons (.idx (.var 1) (.var 9)) (.cons (.bin .FloorDiv (.var 10) (.con (.int 16))) .nil)))))) .nil) Γ X0 {D2 with nx:=wSs (.cons (.asg 6 (.bin .FloorDiv (.var 6) (.con (.int 2)))) .nil) Γ X0 D2} [some (.ref s),some (.ref nm),some (.int st),some (.ref w),v4,some (.int ch),some (.int nu),some (.bl dg),some (.int i),some (.int j),some (.int dr),none,none] Hn
      else wSs .nil Γ X0 {D2 with nx:=wSs (.cons (.asg 6 (.bin .FloorDiv (.var 6) (.con (.int 2)))) .nil) Γ X0 D2} [some (.ref s),some (.ref nm),some (.int st),some (.ref w),v4,some (.int ch),some (.int nu),some (.bl dg),some (.int i),some (.int j),some (.int dr),none,none] Hn:=by
     intro k;cases k with
     | false=>
      rw[I_ (by decide)];exact bD (last Hn E T)
     | true=>
      rw[Jc rfl];refine seq ?_;walk_at "s1";refine⟨⟨gc,g3.1⟩,zm hnk i1 (zm hnk (by omega) ?_)⟩;rw[Sw.v_div];refine⟨by decide,by decide,?_⟩;rw[g3.2];have key:∀y ∈ ns,y ∈ E.map (·.1):=fun y hy=>by rw[T.keys];exact(ks y).mpr hy
      refine⟨w,E,_,_,_,rfl,T.n_,T.ok,fun e=>?_,key _ (K6 _),key _ (K6 _),fun H' E2 W' ok' k' a' r'=>?_⟩
      ·exact Ku.mp nd j i (by omega) i1 j1 e.symm
      ·exact bD (last H' E2 (T.step W' ok' k' a' r'))
    walk_at "s1";rw[Sw.pZ];cases dg with
    | true=>
     rw[Jc rfl,Sw.v_mod];refine⟨by decide,?_⟩;rw[Sw.jy];refine⟨_,rfl,?_⟩
     by_cases od:nu % 2=1
     ·rw[Jc (JP od)];exact go true
     ·rw[I_ (by rw[Kl];exact od),Sw.pZ];rw[I_ (by decide)];exact go false
    | false=>
     rw[I_ (by decide),I_ (by decide),Sw.pZ,Jc (by decide),Sw.v_mod];refine⟨by decide,?_⟩;rw[Sw.v_add,Sw.v_mod];refine⟨by decide,?_⟩;rw[Sw.v_sub,Sw.v_lt];exact⟨_,rfl,go _⟩
   ·intro σ Hn pv2;obtain⟨nu,v9,v10,E,rfl,T⟩:=pv2;exact bD (Γ:=Γ) (Ξ:=X0) (nx _ _ ⟨_,_,_,_,E,rfl,T⟩)
  ·intro σ Hn pv;obtain⟨nu,v8,v9,v10,E,rfl,T⟩:=pv;refine xb gc g2 g3 (T.xF.ext W0 x2 fr) hs hn n0 b7 (fun e he=>?_) T.n_ T.ok (fun x=>by rw[T.keys];exact ks x) fun H' E' x' fr' W' ok' ks'=>h H' w E' x' hw mw fr' W' ok' ks';have z:e.2.1 ∈ E0.map (·.2.1):=by rw[<-T.wR];exact Jf.mpr ⟨e,he,rfl⟩
   obtain⟨e0,he0,q⟩:=Jf.mp z;rw[<-q];exact fr e0 he0
end Gk
namespace Ik
open PySem PySem.Spec PyProof.Rows L2 Sw Gw Gk Wk
abbrev Ag:List Str:=["_law_script","_law_names_here","_law_web_here","_law_one","_law_common_here","_law_digits","_law_cell_here","_law_other","_law_handed","_law_found","_law_kept","_law_part_here"]
noncomputable def xC:dm:=(.cons (.iff (.or (.cmp .NotEq (.call "parts" (.cons (.idx (.var 8) (.con (.int 0))) (.cons (.blt .list (.cons (.var 3) .nil)) .nil))) (.lst .nil)) (.not (.call "_law_walked" (.cons (.call "parts" (.cons (.idx (.var 8) (.con (.int 1))) (.cons (.idx (.var 8) (.con (.int 0))) .nil))) (.cons (.var 7) (.cons (.var 3) .nil)))))) (.cons (.ret (.con (.bl false))) .nil) .nil) (.cons (.ret (.cmp .Eq (.call "parts" (.cons (.idx (.var 8) (.con (.int 0))) (.cons (.idx (.var 8) (.con (.int 1))) .nil))) (.var 10))) .nil))
noncomputable def E7:dm:=(.cons (.fr 11 (.ex (.var 9)) (.cons (.exp (.mth .clear (.idx (.var 11) (.con (.int 1))) .nil)) .nil)) (.cons (.exp (.mth .clear (.var 9) .nil)) xC))
noncomputable def xE:dm:=(.cons (.asg 10 (.comp "_law_part_here" [] (.ex (.var 9)) (.tup (.cons (.idx (.var 0) (.con (.int 0))) (.cons (.blt .list (.cons (.idx (.var 0) (.con (.int 1))) .nil)) .nil))) .nil)) E7)
noncomputable def E8:dm:=(.cons (.iff (.or (.not (.isin (.var 9) .list)) (.or (.not (.call "_law_walked" (.cons (.var 9) (.cons (.var 3) (.cons (.var 7) .nil))))) (.cmp .NotEq (.var 8) (.lst (.cons (.var 3) (.cons (.var 7) .nil)))))) (.cons (.ret (.con (.bl false))) .nil) .nil) xE)
noncomputable def AA:dm:=(.cons (.asg 8 (.lst (.cons (.blt .list (.cons (.var 3) .nil)) (.cons (.blt .list (.cons (.var 7) .nil)) .nil)))) (.cons (.asg 9 (.call "parts" (.cons (.idx (.var 8) (.con (.int 0))) (.cons (.idx (.var 8) (.con (.int 1))) .nil)))) E8))
noncomputable def zY:dm:=(.cons (.asg 1 (.call "_law_names" (.cons (.call "_law_cell" (.cons (.var 0) (.cons (.con (.int 0)) .nil))) (.cons (.bin .Add (.con (.int 1)) (.bin .Mod (.call "_law_cell" (.cons (.var 0) (.cons (.con (.int 2)) .nil))) (.con (.int 20)))) .nil)))) (.cons (.asg 2 (.call "_law_web" (.cons (.var 0) (.cons (.var 1) (.cons (.con (.int 4)) .nil))))) (.cons (.asg 3 (.call "_law_plan" (.cons (.var 2) (.cons (.call "_law_cell" (.cons (.var 0) (.cons (.con (.int 3)) .nil))) (.cons (.lst .nil) (.cons (.bin .FloorDiv (.call "_law_cell" (.cons (.var 0) (.cons (.con (.int 2)) .nil))) (.con (.int 4000))) .nil)))))) (.cons (.asg 4 (.call "_law_common" (.cons (.var 3) (.cons (.call "_law_cell" (.cons (.var 0) (.cons (.con (.int 3)) .nil))) .nil)))) (.cons (.asg 5 (.bin .Mod (.bin .FloorDiv (.call "_law_cell" (.cons (.var 0) (.cons (.con (.int 2)) .nil))) (.con (.int 4000))) (.con (.int 2)))) (.cons (.asg 6 (.idx (.lst (.cons (.call "_law_cell" (.cons (.var 0) (.cons (.con (.int 2)) .nil))) (.cons (.bin .FloorDiv (.call "_law_cell" (.cons (.var 0) (.cons (.con (.int 2)) .nil))) (.con (.int 8000))) .nil))) (.var 5))) (.cons (.asg 7 (.call "_law_plan" (.cons (.var 2) (.cons (.var 6) (.cons (.var 4) (.cons (.var 5) .nil)))))) AA)))))))
structure Ck (M:Mo) (Γ:bZ) (Ts:List Tb):Prop where
 gm:Γ.mod=M
 gc:Γ.cm=true
 ce:Γ.has "_law_cell" =true/\Γ.fn "_law_cell" =kD M
 na:Γ.has "_law_names" =true/\Γ.fn "_law_names" =Gk.j3 M
 we:Γ.has "_law_web" =true/\Γ.fn "_law_web" =Gk.tX M
 pl:Γ.has "_law_plan" =true/\Γ.fn "_law_plan" =oo M
 co:Γ.has "_law_common" =true/\Γ.fn "_law_common" =ie M
 pa:Γ.has "parts" =true/\Γ.fn "parts" =jY M Ts
 wa:Γ.has "_law_walked" =true/\Γ.fn "_law_walked" =ic M
theorem _root_.Sw.ff.um {M:Mo} {H H':Hp} {p:Addr} {P:List Pr} (x:ff M H H') (h:av H p P):av H' p P:=⟨x.same _ _ h.at_ (fun _ z=>nomatch z),fun y hy=>x.same _ _ (h.cT y hy) (fun _ z=>nomatch z)⟩
theorem _root_.Sw.ff.Ej {M:Mo} {H H':Hp} {F:List Fp} (x:ff M H H') (h:vf H F):vf H' F:=fun y hy=>⟨x.same _ _ (h y hy).1 (fun _ z=>nomatch z),x.same _ _ (h y hy).2 (fun _ z=>nomatch z)⟩
theorem iI {M:Mo} {H:Hp} {p:Addr} {a b:V} (h:H p=some (.lst [a,b])):(∀ {Q:VK},Q a H->cJ M (.ref p) (.int 0) H Q)/\∀ {Q:VK},Q b H->cJ M (.ref p) (.int 1) H Q:=by
 constructor
 ·intro Q q;rw[jF,ao h ai];exact q
 ·intro Q q;rw[jF,ao h ai];exact q
noncomputable def Iv (p:Bool × List Str):PyData:=.tuple [.str (word p.1),.list (p.2.map PyData.str)]
theorem lH {M:Mo} {H:Hp} {l:Addr} {F:List Fp} (h:H l=some (.lst (a_ F))) (fa:vf H F):data M H 16 (.ref l)=some (.list ((aV F).map Iv)):=by
 unfold Sw.data;rw[ao h ai];dsimp only;unfold a_ aV;rw[allM_map (k:=fun z:Fp=>Iv (z.2.2.1,z.2.2.2)) fun z hz=>?_]
 ·rw[JL];rfl
 ·obtain⟨f1,f2⟩:=fa z hz;unfold Sw.data;rw[ao f1 bG];dsimp only;unfold Sw.allM;rw[iR];unfold Sw.allM;rw[jo (ao f2 ai) 13];rfl
theorem uX {M:Mo} {H:Hp} {l m:Addr} {d:PyData} {Q:VK} (a:data M H 16 (.ref l)=some d) (b:data M H 16 (.ref m)=some d):(Q (.bl false) H->cC M .NotEq (.ref l) (.ref m) H Q)/\(Q (.bl true) H->cC M .Eq (.ref l) (.ref m) H Q):=by
 have e:=nQ _ _ _ a;constructor
 ·intro k;show if gE (.ref l) (.ref m)=true then Q (.bl (!decide (V.ref l=V.ref m))) H else(match data M H 16 (.ref l),data M H 16 (.ref m)with | some d,some e=>Q (.bl (!PyData.eqv d e)) H | _,_=>False)
  rw[AS,I_ (by decide),a,b];dsimp only;rw[e];exact k
 ·intro k;show if gE (.ref l) (.ref m)=true then Q (.bl (decide (V.ref l=V.ref m))) H else(match data M H 16 (.ref l),data M H 16 (.ref m)with | some d,some e=>Q (.bl (PyData.eqv d e)) H | _,_=>False)
  rw[AS,I_ (by decide),a,b];dsimp only;rw[e];exact k
theorem q9 {M:Mo} {H:Hp} {l p q:Addr} {P R:List Pr} (h:H l=some (.lst [.ref p,.ref q])) (a:av H p P) (b:av H q R):data M H 16 (.ref l)=some (.list [.list ((ay P).map pd),.list ((ay R).map pd)]):=by
 unfold Sw.data;rw[ao h ai];dsimp only;unfold Sw.allM;rw[f_ a 13];unfold Sw.allM;rw[f_ b 13];rfl
structure Am (H:Hp) (Ts:List Tb) (p1 p2 h a b:Addr) (P R:List Pr):Prop where
 one:av H p1 P
 two:av H p2 R
 hd:H h=some (.lst [.ref a,.ref b])
 ha:av H a P
 hb:av H b R
 tb:∀t ∈ Ts,TabAt H t
theorem Am.ext {M:Mo} {H H':Hp} {Ts:List Tb} {p1 p2 h a b:Addr} {P R:List Pr} (s:Am H Ts p1 p2 h a b P R) (x:Ext M H H'):Am H' Ts p1 p2 h a b P R:=
 ⟨Ext.bz x s.one,Ext.bz x s.two,x.same _ _ s.hd,Ext.bz x s.ha,Ext.bz x s.hb,fun t ht=>jX x (s.tb t ht)⟩
theorem Am.Ek {M:Mo} {H H':Hp} {Ts:List Tb} {p1 p2 h a b:Addr} {P R:List Pr} (s:Am H Ts p1 p2 h a b P R) (x:ff M H H') (tb:∀t ∈ Ts,TabAt H' t):Am H' Ts p1 p2 h a b P R:=
 ⟨x.um s.one,x.um s.two,x.same _ _ s.hd (fun _ z=>nomatch z),x.um s.ha,x.um s.hb,tb⟩
theorem tF (A:NV):alone A A=[]:=by
 unfold Ik.alone;rw[List.filter_eq_nil_iff];intro x hx;simp[hx]
theorem none_of {A:NV} {P:List (Bool × List Str)} (h:dE (aI (mt (alone A A))) (aI (mt (alone A A))) P):P=[]:=by
 rw[tF]at h;obtain⟨P0,ss,ks,K,L,pm,_⟩:=h;cases P with
 | nil=>rfl
 | cons p r=>
  obtain⟨s,q | q⟩:=(L.so.ok p (pm.mem_iff.mp Jj)).row
  ·exact absurd rfl q.2
  ·exact absurd rfl q.2.2.2
theorem Em {Γ:bZ} {D:Ends} {Ξ:XS} {H:Hp} {Ts:List Tb} {p1 p2 h a b k:Addr} {P R:List Pr} {G:List Fp} {s0 s1 s2 s4 s5 s6 s9 s11:Option V} (K:Ck Γ.mod Γ Ts) (s:Am H Ts p1 p2 h a b P R) (pp:gw (ay P)) (pr:gw (ay R)) (fp:P.length<=10) (fr:R.length<=10)
  (hk:H k=some (.lst (a_ G))) (fa:vf H G) (pg:dE (aI (mt (alone (ay P) (ay R)))) (aI (mt (alone (ay R) (ay P)))) (aV G)) (fin:∀H',D.rt (.bl true) H'):
  wSs xC Γ Ξ D [s0,s1,s2,some (.ref p1),s4,s5,s6,some (.ref p2),some (.ref h),s9,some (.ref k),s11] H:=by
 obtain⟨_,gc,ce,na,we,pl,co,pa,wa⟩:=K;unfold xC;refine seq ?_;walk_at "s1";refine⟨⟨gc,pa.1⟩,(iI s.hd).1 ⟨gc,kZ s.one.at_ fun o ho mo=>?_⟩⟩;have x1:=Ext.upd (M:=Γ.mod) (H:=H) (o:=.lst (refs P)) ho mo;have ho1:av (upd H o (.lst (refs P))) o P:=⟨ae,aB.new s.one.cT ho⟩;generalize upd H o (.lst (refs P))=H1 at x1 ho1;have s1':=s.ext x1;rw[pa.2];refine⟨a,o,P,P,rfl,s1'.ha,ho1,pp,pp,fp,fp,s1'.tb,fun H2 l2 F2 x2 t2 n2 m2 hl2 fa2 po2=>?_⟩;have e2:=none_of po2;have e2:F2=[]:=List.map_eq_nil_iff.mp e2;subst e2;have s2':=s1'.Ek x2 t2;have hk2:=x2.same _ _ (x1.same _ _ hk) (fun _ z=>nomatch z);have fk2:=x2.Ej (fa.ext x1);refine⟨by rw[Jm];simp,fun e he me=>?_⟩;have x3:=Ext.upd (M:=Γ.mod) (H:=H2) (o:=.lst []) he me;refine yJ (ns:=[]) (ao (x3.same _ _ hl2) ai) (ao ae ai) ⟨_,rfl,?_⟩;rw[I_ (by decide)];generalize upd H2 e (.lst [])=H3 at x3;have s3':=s2'.ext x3;refine⟨⟨gc,wa.1⟩,⟨gc,pa.1⟩,(iI s3'.hd).2 ((iI s3'.hd).1 ?_)⟩
 try rw[pa.2]
 refine⟨b,a,R,P,rfl,s3'.hb,s3'.ha,pr,pp,fr,fp,s3'.tb,fun H4 l4 F4 x4 t4 n4 m4 hl4 fa4 po4=>?_⟩;have s4':=s3'.Ek x4 t4
 try dsimp only
 try rw[wa.2]
 refine⟨l4,p2,p1,F4,R,P,rfl,hl4,fa4,s4'.two,s4'.one,pr,pp,su pr pp (by rw[cq];exact fr) (by rw[cq];exact fp) po4,fr,fp,fun H5 x5=>?_⟩
 try dsimp only
 rw[Sw.pZ,I_ (by decide)];have s5':=s4'.ext x5;have hk5:=x5.same _ _ (x4.same _ _ (x3.same _ _ hk2) (fun _ z=>nomatch z));have fk5:=(x4.Ej (fk2.ext x3)).ext x5;refine bD ?_;walk_at "sw";refine⟨⟨gc,pa.1⟩,(iI s5'.hd).1 ((iI s5'.hd).2 ?_)⟩
 try rw[pa.2]
 refine⟨a,b,P,R,rfl,s5'.ha,s5'.hb,pp,pr,fp,fr,s5'.tb,fun H6 l6 F6 x6 t6 n6 m6 hl6 fa6 po6=>?_⟩;have e6:=po6.uniq pg;have d6:=lH (M:=Γ.mod) hl6 fa6;rw[e6]at d6;exact(uX d6 (lH (x6.same _ _ hk5 (fun _ z=>nomatch z)) (x6.Ej fk5))).2 (fin _)
theorem u5 {M:Mo} {H:Hp} {p:Addr} {xs:List V} {Q:VK} (h:H p=some (.lst xs)) (q:Q .aD (upd H p (.lst []))):dj M .clear (.ref p) [] H Q:=by
 show(match H p with
  | some (.lst _)=>Q .aD (upd H p (.lst []))
  | _=>False)
 rw[h];exact q
theorem fU {H:Hp} {F:List Fp} {y:Addr} {xs:List V} (fa:vf H F) (ne:∀x ∈ F,x.2.2.2 ≠ []) (hy:H y=some (.lst xs)) (nx:∀s r,xs ≠ .str s::r):∀x ∈ F,y ≠ x.2.1:=fun x hx z=>by
 have:=(fa x hx).2;rw[<-z,hy]at this;have:=JE this;have e:xs=x.2.2.2.map V.str:=by injection this
 cases q:x.2.2.2 with
 | nil=>exact ne x hx q
 | cons s r=>rw[q]at e;exact nx _ _ e
theorem j7 (P:List Pr):∀s r,refs P ≠ .str s::r:=fun s r z=>by
 cases P with
 | nil=>cases z
 | cons a t=>cases z
theorem BS {Γ:bZ} {D:Ends} {Ξ:XS} {H:Hp} {Ts:List Tb} {p1 p2 h a b f:Addr} {P R:List Pr} {F:List Fp} {s0 s1 s2 s4 s5 s6:Option V} (K:Ck Γ.mod Γ Ts) (s:Am H Ts p1 p2 h a b P R) (pp:gw (ay P)) (pr:gw (ay R)) (fp:P.length<=10) (fr:R.length<=10)
  (hf:H f=some (.lst (a_ F))) (fa:vf H F) (pf:dE (aI (mt (alone (ay P) (ay R)))) (aI (mt (alone (ay R) (ay P)))) (aV F)) (fn:p1 ≠ f/\p2 ≠ f/\h ≠ f/\a ≠ f/\b ≠ f) (fin:∀H',D.rt (.bl true) H'):
  wSs xE Γ Ξ D [s0,s1,s2,some (.ref p1),s4,s5,s6,some (.ref p2),some (.ref h),some (.ref f),none,none] H:=by
 have K':=K;obtain⟨_,gc,ce,na,we,pl,co,pa,wa⟩:=K;have pt:=su pp pr (by rw[cq];exact fp) (by rw[cq];exact fr) pf
 have ne:∀x ∈ F,x.2.2.2 ≠ []:=fun x hx z=>by
  obtain⟨s,e⟩:=pt.head (x.2.2.1,x.2.2.2) (Jf.mpr ⟨x,hx,rfl⟩);have e:x.2.2.2[0]?=some s:=e;rw[z]at e;cases e
 have fl:=pt.len;rw[iu]at fl;unfold xE;refine seq ?_;walk_at "s1";refine⟨gc,bQ (ao hf ai) fun k hk mk=>?_⟩;have xk:=Ext.upd (M:=Γ.mod) (H:=H) (o:=.lst []) hk mk
 refine fu (fun m acc Hm=>∃G:List Fp,acc=a_ G/\Hm k=some (.lst (a_ G))/\vf Hm G/\Ext Γ.mod H Hm/\aV G=(aV F).take m/\(∀ x ∈ G,H x.2.1=none/\x.2.1 ≠ k)/\G.length<=m) (fun m acc Hm z=>?_) (fun m v acc Hm K2 hv pv nx2=>?_) (fun acc Hm pv=>?_)
  ⟨[],rfl,ae,fun x hx=>(nomatch hx),xk,rfl,fun x hx=>(nomatch hx),Jv _⟩
 ·obtain⟨G,rfl,z1,z2,z3,_⟩:=z;exact⟨ao (z3.same _ _ hf) ai,z1⟩
 ·obtain⟨G,rfl,z1,z2,z3,z4,z5,z6⟩:=pv;unfold a_ at hv;rw[Jy]at hv;obtain⟨x,hx,rfl⟩:=JF.mp hv;obtain⟨f1,f2⟩:=fa x (Jg hx);have hm:=(Ju.mp hx).1;walk_at "s1";rw[Jc rfl];refine(eS (z3.same _ _ f1)).1 ⟨gc,(eS (z3.same _ _ f1)).2 (kZ (z3.same _ _ f2) fun c hc mc=>⟨by rw[Jm];simp,fun t ht mt=>?_⟩)⟩;have nkc:=ag z1 hc;have y1:=Ext.upd (M:=Γ.mod) (H:=Hm) (o:=.lst (x.2.2.2.map V.str)) hc mc;have ht0:=y1.aD ht;have nct:c ≠ t:=fun z=>by rw[<-z,ae]at ht;cases ht
  have nkt:=ag z1 ht0;have kt:upd (upd Hm c (.lst (x.2.2.2.map V.str))) t (.tup [.str (word x.2.2.1),.ref c]) k=some (.lst (a_ G)):=by rw[af nkt,af nkc];exact z1
  have ge:a_ G++[V.ref t]=a_ (G++[(t,c,x.2.2.1,x.2.2.2)]):=by unfold a_;rw[Jt];rfl
  refine⟨kt,by unfold a_;rw[Jb,Jm];omega,nx2 _ _ ⟨G++[(t,c,x.2.2.1,x.2.2.2)],ge,?_,fun y hy=>?_,?_,?_,fun y hy=>?_,?_⟩⟩
  ·rw[ae,ge]
  ·rcases Jx.mp hy with hy | hy
   ·obtain⟨g1,g2⟩:=z2 y hy;refine⟨?_,?_⟩
    ·rw[af (fun z=>by rw[z,z1]at g1;cases g1),af (ag g1 ht0),af (ag g1 hc)];exact g1
    ·rw[af (z5 y hy).2,af (ag g2 ht0),af (ag g2 hc)];exact g2
   ·rw[Jo.mp hy];refine⟨?_,?_⟩
    ·rw[af (J5 nkt),ae]
    ·rw[af (J5 nkc),af nct,ae]
  ·exact((z3.b8 (z3.aD hc) mc).b8 (z3.aD ht0) mt).b8 hk mk
  ·have:aV (G++[(t,c,x.2.2.1,x.2.2.2)])=aV G++[(x.2.2.1,x.2.2.2)]:=by unfold aV;rw[Jt];rfl
   rw[this,z4,fR hx]
  ·rcases Jx.mp hy with hy | hy
   ·exact z5 y hy
   ·rw[Jo.mp hy];exact⟨z3.aD hc,J5 nkc⟩
  ·rw[Jl];simp;omega
 ·obtain⟨G,rfl,z1,z2,z3,z4,z5,z6⟩:=pv;have el:(a_ F).length=(aV F).length:=by unfold a_ aV;rw[Jb,Jb]
  rw[el,KD]at z4;have sm:=s.ext z3;have hfm:=z3.same _ _ hf;have fam:=fa.ext z3
  have frefs_no:∀ (A:List Fp) s r,a_ A ≠ .str s::r:=fun A s r z=>by
   cases A with
   | nil=>cases z
   | cons a t=>cases z
  have nf:=fU fam ne hfm (frefs_no F);have n1:=fU fam ne sm.one.at_ (j7 P);have n2:=fU fam ne sm.two.at_ (j7 R);have n3:=fU fam ne sm.hd (fun s r z=>by cases z);have n4:=fU fam ne sm.ha.at_ (j7 P);have n5:=fU fam ne sm.hb.at_ (j7 R);have n6:∀x ∈ F,k ≠ x.2.1:=fun x hx=>J5 (ag (fa x hx).2 hk);refine seq ?_;walk_at "s1";refine⟨gc,bQ (ao hfm ai) ?_⟩
  refine b_ (fun n σ Hn=>∃v11,σ=[s0,s1,s2,some (.ref p1),s4,s5,s6,some (.ref p2),some (.ref h),some (.ref f),some (.ref k),v11]/\(∀ y,(∀ x ∈ F,y ≠ x.2.1)->Hn y=Hm y)/\∀x ∈ F,∃xs,Hn x.2.1=some (.lst xs)) (fun n σ Hn z=>?_) (fun n v σ Hn D' hv pv nx ct _ _=>?_) (fun σ Hn pv=>?_)
   ⟨_,rfl,fun _ _=>rfl,fun x hx=>⟨_,(fam x hx).2⟩⟩
  ·obtain⟨_,_,z,_⟩:=z;exact ao (by rw[z f nf];exact hfm) ai
  ·obtain⟨v11,rfl,y1,y2⟩:=pv;unfold a_ at hv;rw[Jy]at hv;obtain⟨x,hx,rfl⟩:=JF.mp hv;have mx:=Jg hx;obtain⟨f1,f2⟩:=fam x mx
   have tn:∀z ∈ F,x.1 ≠ z.2.1:=fun z hz e=>by
    have:=(fam z hz).2;rw[<-e,f1]at this;cases this
   obtain⟨xs,hxs⟩:=y2 x mx;refine seq ?_;walk_at "s1";refine(eS (by rw[y1 _ tn];exact f1)).2 ?_
   try dsimp only
   refine⟨dY hxs,u5 hxs (bD (nx _ _ ⟨_,rfl,fun y hy=>?_,fun z hz=>?_⟩))⟩
   ·rw[af (hy x mx)];exact y1 y hy
   ·by_cases e:z.2.1=x.2.1
    ·rw[e];exact⟨_,ae⟩
    ·obtain⟨ys,hys⟩:=y2 z hz;exact⟨ys,by rw[af e];exact hys⟩
  ·obtain⟨v11,rfl,y1,_⟩:=pv;refine seq ?_;walk_at "s1";have hfn:Hn f=some (.lst (a_ F)):=by rw[y1 f nf];exact hfm
   refine⟨dY hfn,u5 hfn ?_⟩
   -- what was there and is none of these
   have keep:∀ {y:Addr} {o:HO},Hm y=some o->(∀ x ∈ F,y ≠ x.2.1)->y ≠ f->upd Hn f (.lst []) y=some o:=fun{y o} hy hn hf=>by rw[af hf,y1 y hn];exact hy
   have other:∀ {y:Addr} {o:HO},Hm y=some o->(∀ xs,o ≠ .lst xs)->upd Hn f (.lst []) y=some o:=fun{y o} hy ho=>keep hy (fun x hx z=>by
    have:=(fam x hx).2;rw[<-z,hy]at this;exact ho _ (JE this)) fun z=>by rw[z,hfm]at hy;exact ho _ (JE hy).symm
   have s14:Am (upd Hn f (.lst [])) Ts p1 p2 h a b P R:=by
    have pl:∀ {p:Addr} {P:List Pr},av Hm p P->(∀ x ∈ F,p ≠ x.2.1)->p ≠ f->av (upd Hn f (.lst [])) p P:=fun hp n e=>⟨keep hp.at_ n e,fun y hy=>other (hp.cT y hy) fun xs z=>nomatch z⟩;refine⟨pl sm.one n1 fn.1,pl sm.two n2 fn.2.1,keep sm.hd n3 fn.2.2.1,pl sm.ha n4 fn.2.2.2.1,pl sm.hb n5 fn.2.2.2.2,fun t ht=>?_⟩;rcases sm.tb t ht with q | ⟨c,q,q2⟩
    ·exact .inl (other q fun xs z=>nomatch z)
    ·exact .inr ⟨c,other q (fun xs z=>nomatch z),other q2 fun xs z=>nomatch z⟩
   refine Em K' s14 pp pr fp fr (k:=k) (G:=G) (keep z1 n6 (J5 (ag hf hk))) (fun y hy=>?_) (by rw[z4];exact pf) fin;obtain⟨g1,g2⟩:=z2 y hy;exact⟨other g1 (fun xs z=>nomatch z),keep g2 (fun x hx=>J5 (ag (fa x hx).2 (z5 y hy).1)) (J5 (ag hf (z5 y hy).1))⟩
theorem EA {Γ:bZ} {D:Ends} {Ξ:XS} {H:Hp} {Ts:List Tb} {p1 p2:Addr} {P R:List Pr} {s0 s1 s2 s4 s5 s6:Option V} (K:Ck Γ.mod Γ Ts) (h1:av H p1 P) (h2:av H p2 R) (tb:∀t ∈ Ts,TabAt H t) (pp:gw (ay P)) (pr:gw (ay R)) (fp:P.length<=10) (fr:R.length<=10) (fin:∀H',D.rt (.bl true) H'):
  wSs AA Γ Ξ D [s0,s1,s2,some (.ref p1),s4,s5,s6,some (.ref p2),none,none,none,none] H:=by
 have K':=K;obtain⟨_,gc,ce,na,we,pl,co,pa,wa⟩:=K;unfold AA;refine seq ?_;walk_at "s1";refine⟨gc,kZ h1.at_ fun a ha ma=>?_⟩;have x1:=Ext.upd (M:=Γ.mod) (H:=H) (o:=.lst (refs P)) ha ma;have a1:av (upd H a (.lst (refs P))) a P:=⟨ae,aB.new h1.cT ha⟩;generalize upd H a (.lst (refs P))=H1 at x1 a1;refine⟨gc,kZ (Ext.bz x1 h2).at_ fun b hb mb=>?_⟩;have x2:=Ext.upd (M:=Γ.mod) (H:=H1) (o:=.lst (refs R)) hb mb;have b2:av (upd H1 b (.lst (refs R))) b R:=⟨ae,aB.new (Ext.bz x1 h2).cT hb⟩;generalize upd H1 b (.lst (refs R))=H2 at x2 b2;refine⟨by rw[Jm];simp,fun h hh mh=>?_⟩;have x3:=Ext.upd (M:=Γ.mod) (H:=H2) (o:=.lst [.ref a,.ref b]) hh mh;have h3:upd H2 h (.lst [.ref a,.ref b]) h=some (.lst [.ref a,.ref b]):=ae;generalize upd H2 h (.lst [.ref a,.ref b])=H3 at x3 h3;have x13:=(x1.trans x2).trans x3;have s3:Am H3 Ts p1 p2 h a b P R:=⟨Ext.bz x13 h1,Ext.bz x13 h2,h3,Ext.bz (x2.trans x3) a1,Ext.bz x3 b2,fun t ht=>jX x13 (tb t ht)⟩;refine seq ?_;walk_at "s1";refine⟨⟨gc,pa.1⟩,(iI h3).1 ((iI h3).2 ?_)⟩;rw[pa.2];refine⟨a,b,P,R,rfl,s3.ha,s3.hb,pp,pr,fp,fr,s3.tb,fun H4 f F x4 t4 n4 m4 hf fa pf=>?_⟩;have s4:=s3.Ek x4 t4;have pt:=su pp pr (by rw[cq];exact fp) (by rw[cq];exact fr) pf;refine seq ?_;walk_at "s1";refine⟨uz hf,?_⟩;rw[zt hf,I_ (by decide)];refine⟨⟨gc,wa.1⟩,?_⟩;rw[wa.2];refine⟨f,p1,p2,F,P,R,rfl,hf,fa,s4.one,s4.two,pp,pr,pt,fp,fr,fun H5 x5=>?_⟩
 try dsimp only
 rw[Sw.pZ,I_ (by decide)];have s5:=s4.ext x5;refine⟨by rw[Jm];simp,fun e he me=>?_⟩;have x6:=Ext.upd (M:=Γ.mod) (H:=H5) (o:=.lst [.ref p1,.ref p2]) he me;have h6:upd H5 e (.lst [.ref p1,.ref p2]) e=some (.lst [.ref p1,.ref p2]):=ae;generalize upd H5 e (.lst [.ref p1,.ref p2])=H6 at x6 h6;have s6:=s5.ext x6;refine(uX (q9 s6.hd s6.ha s6.hb) (q9 h6 s6.one s6.two)).1 ⟨_,rfl,?_⟩;rw[I_ (by decide)];have x56:=x5.trans x6;refine bD ?_;exact BS K' s6 pp pr fp fr (x56.same _ _ hf) (fa.ext x56) pf ⟨ag s3.one.at_ n4,ag s3.two.at_ n4,ag h3 n4,ag s3.ha.at_ n4,ag s3.hb.at_ n4⟩ fin
noncomputable def tY (M:Mo) (Ts:List Tb):Sp:=fun vs H Q _=>∃ (a:Addr) (ns:List Int),vs=[.ref a]/\ns.length<=63/\rd M H a=some (.lst (ns.map V.int))/\g7 M H/\(∀ t ∈ Ts,TabAt H t)/\∀H',Q (.bl true) H'
theorem yD {M:Mo} {Γ:bZ} {Ts:List Tb} (K:Ck M Γ Ts) (vs:List V) (H:Hp) (Q:VK) (X:XK) (h:tY M Ts vs H Q X):eM Γ Ag 1 zY vs H Q X:=by
 obtain⟨s,is,rfl,hl,hs,off,tb,h⟩:=h;refine⟨rfl,?_⟩;have K':=K;obtain⟨rfl,gc,ce,na,we,pl,co,pa,wa⟩:=K
 have cell:∀ {H':Hp} (i:Int) (Q:VK) (X:XK),rd Γ.mod H' s=some (.lst (is.map V.int))->0<=i->(∀ c,Q (.int c) H')->Γ.fn "_law_cell" [.ref s,.int i] H' Q X:=fun{H'} i Q X hs h0 q=>by
  rw[ce.2];exact⟨s,i,is,rfl,h0,hs,q⟩
 unfold zY;refine seq ?_;walk_at "s1";refine⟨⟨gc,na.1⟩,⟨gc,ce.1⟩,cell _ _ _ hs (by decide) fun c0=>?_⟩
 try dsimp only
 refine⟨⟨gc,ce.1⟩,cell _ _ _ hs (by decide) fun c2=>?_⟩
 try dsimp only
 rw[Sw.v_mod];refine⟨by decide,?_⟩;rw[Sw.v_add,na.2];have m0:=Ki c2 (show(20:Int) ≠ 0 by decide);have m1:=Ke c2 (show(0:Int) < 20 by decide);refine⟨c0,_,rfl,by omega,by omega,fun H1 nm ns x1 nm0 mnm hn nd ln=>?_⟩;refine seq ?_;walk_at "s1";refine⟨⟨gc,we.1⟩,?_⟩;rw[we.2];refine⟨s,nm,4,is,ns,rfl,x1.rd hs,ao hn ai,nd,by omega,by omega,fun H2 w E x2 w0 mw fr W ok ks=>?_⟩;have x02:=x1.trans x2;refine seq ?_;walk_at "s1";refine⟨⟨gc,pl.1⟩,⟨gc,ce.1⟩,cell _ _ _ (x02.rd hs) (by decide) fun c3=>?_⟩
 try dsimp only
 refine⟨by rw[Jm];simp,fun ah ah0 mah=>⟨⟨gc,ce.1⟩,?_⟩⟩;have xa:Ext Γ.mod H2 (upd H2 ah (.lst [])):=Ext.upd ah0 mah;have hah:av (upd H2 ah (.lst [])) ah []:=⟨ae,fun y hy=>(nomatch hy)⟩;generalize upd H2 ah (.lst [])=Ha at xa hah;refine cell _ _ _ ((x02.trans xa).rd hs) (by decide) fun c2b=>?_
 try dsimp only
 rw[Sw.v_div];refine⟨by decide,by decide,?_⟩;rw[pl.2];refine⟨w,c3,ah,_,E,[],rfl,Ext.n_ xa W,ok.ok,mw,hah,(fun y hy=>(nomatch hy)),.nil,fun H3 p1 P x3 p10 mp1 a1 r1 d1 f1 g1=>?_⟩;have x23:=xa.trans x3;have x03:=x02.trans x23;refine seq ?_;walk_at "s1";refine⟨⟨gc,co.1⟩,⟨gc,ce.1⟩,cell _ _ _ (x03.rd hs) (by decide) fun c3b=>?_⟩
 try dsimp only
 rw[co.2];refine⟨p1,c3b,P,rfl,a1,by omega,fun H4 cm C x4 c0' mc hc sub=>?_⟩;have x04:=x03.trans x4;refine seq ?_;walk_at "s1";refine⟨⟨gc,ce.1⟩,cell _ _ _ (x04.rd hs) (by decide) fun c2c=>?_⟩
 try dsimp only
 rw[Sw.v_div];refine⟨by decide,by decide,?_⟩;rw[Sw.v_mod];refine⟨by decide,?_⟩;have q0:=Ki (c2c / 4000) (show(2:Int) ≠ 0 by decide);have q1:=Ke (c2c / 4000) (show(0:Int) < 2 by decide);generalize c2c / 4000 % 2=dg at q0 q1;refine seq ?_;walk_at "s1";refine⟨⟨gc,ce.1⟩,cell _ _ _ (x04.rd hs) (by decide) fun c2d=>?_⟩
 try dsimp only
 refine⟨⟨gc,ce.1⟩,cell _ _ _ (x04.rd hs) (by decide) fun c2e=>?_⟩
 try dsimp only
 rw[Sw.v_div];refine⟨by decide,by decide,by rw[Jm];simp,fun l hll ml=>?_⟩;have x5:=Ext.upd (M:=Γ.mod) (H:=H4) (o:=.lst [.int c2d,.int (c2e / 8000)]) hll ml
 have go:∀c6:Int,wSs (.cons (.asg 7 (.call "_law_plan" (.cons (.var 2) (.cons (.var 6) (.cons (.var 4) (.cons (.var 5) .nil)))))) AA) Γ (fun C d _ H'=>X C d H') {nx:=fun _ H'=>Q .aD H',rt:=Q} [some (.ref s),some (.ref nm),some (.ref w),some (.ref p1),some (.ref cm),some (.int dg),some (.int c6),none,none,none,none,none] (upd H4 l (.lst [.int c2d,.int (c2e / 8000)])):=fun c6=>by
  generalize upd H4 l (.lst [.int c2d,.int (c2e / 8000)])=H5 at x5;have x45:=x4.trans x5;refine seq ?_;walk_at "s1";refine⟨⟨gc,pl.1⟩,?_⟩;rw[pl.2];refine⟨w,c6,cm,dg,E,C,rfl,Ext.n_ (x23.trans x45) W,ok.ok,mw,Ext.bz x5 hc,fun y hy=>g1 y (sub.subset hy),d1.sublist (lG (sub.map _)),fun H6 p2 R x6 p20 mp2 a2 r2 d2 f2 g2=>?_⟩;have x36:=x45.trans x6
  exact EA K' (Ext.bz x36 a1) a2 (fun t ht=>jX (x03.trans x36) (tb t ht)) ⟨d1,fun x hx=>by
   obtain⟨y,hy,rfl⟩:=Jf.mp hx;exact(g1 y hy).1⟩ ⟨d2,fun x hx=>by
   obtain⟨y,hy,rfl⟩:=Jf.mp hx;exact(g2 y hy).1⟩ f1 f2 h
 rcases(show dg=0\/dg=1 by omega)with e | e
 ·subst e;exact(iI ae).1 (go _)
 ·subst e;exact(iI ae).2 (go _)
end Ik
namespace Sw
open PySem PySem.Spec PyProof.Rows L2
open PySem.W (Frag tabObj CodeHd codeHdIn codeHd_of_K noTabs mem_of_lookupK)
theorem vX {P:Program} {w:World} {K:Frag} {mg mb:Str->Option Value} {CX:wW} {k:Nat} {fa a:Addr} {fd:FuncData} {x:Str} {sp:Sp} {s₁:Shared} {vs:List Value} {ns:List Int} (ts:List Addr)
  (KX:K.In s₁.heap) (hT:∀T ∈ ts,s₁.heap.get? T=some (tabObj #[])) (hcd:∀T ∈ ts,isCodeTable s₁.heap T) (hno:noTabs K=true)
  (hns:s₁.heap.Ns mainGlobals mg) (hb:s₁.heap.Ns builtinsNs mb) (hbb:∀x:Str,x ≠ "__name__" ->mb x=bootBuiltins x) (hlim:s₁.heap.NoLimit) (hg:s₁.gens=#[])
  (hbm:∃bm ob,mg "__builtins__" =some (.ref bm)/\bm ≠ builtinsNs/\s₁.heap.get? bm=some ob/\ob.cls=.type "module" /\ob.dict=some builtinsNs/\ob.data=.plain)
  (ha:s₁.heap.get? a=some {cls:=.type "list",data:=.seq vs.toArray}) (hi:IntsAre vs ns) (hl:ns.length<=sizeLine) (hr:cO k callerA)
  (F:∀base:Heap,K.In base->base.Ns mainGlobals mg->(∀ T ∈ ts,base.BuiltinsAt mg T)->di P w K mg base CX k fa fd [x] sp) (hbind:∀ (s:Shared) (u:Value),BindsTo s fd ⟨[u],[]⟩ [(x,u)])
  (hsp:∀H:Hp,(∀ T ∈ ts,H T=some (.tbl #[]))->jv K H a (ns.map V.int)->sp [.ref a] H (fun v _=>v=.bl true) fun _ _ _=>False)
  (hCX:∀H e s',CX [] H s₁ (fun _ _ _=>False) e s'->False):
  codeAny (model P w) callerA (.call (.ref fa) ⟨[.ref a],[]⟩) (fun r s'=>r=.ok (.ret (.bool true))/\OldK s₁.heap s'.heap/\s'.os=s₁.os/\AllBare s'.gens) s₁:=by
 have rv:=mX hi;have lenV:=hi.length
 have haT:a ∉ ts:=fun z=>by
  have:=hT a z;rw[ha]at this;cases this
 have hKT:∀T ∈ ts,K.lookup T=none:=fun T hm=>by
  cases q:K.lookup T with
  | none=>rfl
  | some o=>
   have e:=KX _ _ q;rw[hT T hm]at e;cases e
   have h2:=Lm.mp hno (T,tabObj #[]) (mem_of_lookupK q);exact absurd (show false=true from h2) JC
 have core:∀H:Hp,(∀ T ∈ ts,H T=some (.tbl #[]))->jv K H a (ns.map V.int)->hE P w H s₁.heap->(∀ b,H b ≠ none->b ∉ ts->b=a/\∃o xs,H b=some (.frz o (.lst xs)))->(H a ≠ none->K.lookup a=none)->
   codeAny (model P w) callerA (.call (.ref fa) ⟨[.ref a],[]⟩) (fun r s'=>r=.ok (.ret (.bool true))/\OldK s₁.heap s'.heap/\s'.os=s₁.os/\AllBare s'.gens) s₁:=by
  intro H hTs hS aZ hA hK;have gb:∀ {b:Addr} {o:Obj},s₁.heap.get? b=some o->H b=none->(mL s₁.heap H).get? b=some o:=fun e n=>zx e n
  have noB:∀ {b:Addr} {o:Obj},s₁.heap.get? b=some o->(∀ v n,o.data ≠ .seq v n)->(∀ v,o.data ≠ .fields v)->H b=none:=fun{b o} e d1 d2=>by
   cases q:H b with
   | none=>rfl
   | some u=>
    by_cases hb:b ∈ ts
    ·have:=hT b hb;rw[e]at this;cases this;exact absurd rfl (d2 _)
    ·obtain⟨e',_⟩:=hA b (by rw[q];exact fun z=>nomatch z) hb;subst e';rw[ha]at e;cases e;exact absurd rfl (d1 _ _)
  have nsK:∀ {b:Addr} {m:Str->Option Value},s₁.heap.Ns b m->(mL s₁.heap H).Ns b m:=fun{b m} ⟨o,es,ep,e,d,r⟩=>⟨o,es,ep,gb e (noB e (fun v n z=>by rw[d]at z;cases z) fun v z=>by rw[d]at z;cases z),d,r⟩
  have hKb:K.In (mL s₁.heap H):=fun b o e=>gb (KX b o e) (by
   cases q:H b with
   | none=>rfl
   | some u=>
    by_cases hb:b ∈ ts
    ·rw[hKT b hb]at e;cases e
    ·obtain⟨e',_⟩:=hA b (by rw[q];exact fun z=>nomatch z) hb;subst e';rw[hK (by rw[q];exact fun z=>nomatch z)]at e;cases e)
  have hM:Mod K mg (mL s₁.heap H):=⟨hKb,nsK hns,⟨mb,nsK hb,hbb⟩,let ⟨mc,h1,h2⟩:=hlim;⟨mc,nsK h1,h2⟩⟩
  have hBu:∀T ∈ ts,(mL s₁.heap H).BuiltinsAt mg T:=fun T hm=>by
   obtain⟨bm,ob,b1,b2,b3,b4,b5,b6⟩:=hbm;have n0:H bm=none:=noB b3 (fun v n z=>by rw[b6]at z;cases z) fun v z=>by rw[b6]at z;cases z
   refine⟨bm,ob,b1,b2,fun z=>?_,fun z=>?_,gb b3 n0,b4,b5,b6⟩
   ·obtain⟨o,es,ep,e,d,_⟩:=hns;rw[z,e]at b3;cases b3;rw[d]at b6;cases b6
   ·rw[z,hTs T hm]at n0;cases n0
  have e0:wV P w K mg (mL s₁.heap H) callerA [] s₁ H:=⟨rfl,hM,fun b o e=>BB e,Mn (wq _ _),trivial,fun b hb=>absurd (show b ∈ ([]:List Addr)from hb) (by simp),aZ,.of_eq hg⟩;refine LM ((F _ hKb (nsK hns) hBu).run callerA [] s₁ H ⟨[.ref a],[]⟩ [.ref a] [.ref a] _ _ hr e0 (hbind s₁ (.ref a)) (.cons rfl .nil) (hsp H hTs hS)) fun r s' h=>?_;cases r with
  | error e=>exact(hCX H e s' h).elim
  | ok fl=>
   cases fl with
   | next=>exact False.elim h
   | brk=>exact False.elim h
   | cont=>exact False.elim h
   | ret u=>
    obtain⟨v,H',os,bare,un,hok',r',q⟩:=h;have q':v=.bl true:=q;subst q';obtain rfl:u=Value.bool true:=r'
    have same:∀b o,b ∉ ts->s₁.heap.get? b=some o->s'.heap.get? b=some o:=fun b o hb e=>by
     cases q:H b with
     | none=>exact un.keep b o e q (by intro z;exact absurd (show b ∈ ([]:List Addr)from z) (by simp)) (by simp)
     | some u=>
      obtain⟨_,ob,xs,z⟩:=hA b (by rw[q];exact fun z=>nomatch z) hb;have z2:=un.jQ b ob _ z;obtain⟨e1,_⟩:=aZ b _ z;obtain⟨e2,_⟩:=hok' b _ z2;rw[e]at e1;cases e1;exact e2
    have grew:∀T ∈ ts,∃ps,s'.heap.get? T=some (tabObj ps):=fun T hm=>by
     obtain⟨more,z⟩:=un.jN T _ (hTs T hm);exact⟨_,hok' T _ z⟩
    refine⟨rfl,⟨fun b o e=>?_,fun b o e=>?_⟩,os,bare⟩
    ·by_cases hb:b ∈ ts
     ·obtain⟨ps,z⟩:=grew b hb;have:=hT b hb;rw[e]at this;cases this;exact .inr (.inl ⟨hcd b hb,rfl,#[],ps,rfl,by rw[Array.empty_append];exact z⟩)
     ·exact .inl (same b o hb e)
    ·by_cases hb:b ∈ ts
     ·obtain⟨ps,z⟩:=grew b hb;exact⟨_,z⟩
     ·exact⟨o,same b o hb e⟩
 cases hk:K.lookup a with
 | some o=>
  have e:=KX a o hk;rw[ha]at e;cases e
  refine core (fun b=>if b ∈ ts then some (.tbl #[])else none) (fun T hm=>Jc hm) (.inr ⟨_,vs.toArray,_,hk,rfl,rfl,rfl,by rw[Jp,lenV];exact hl,by simpa using rv⟩) (fun b u z=>?_) (fun b z hb=>absurd (I_ hb) z) fun z=>absurd (I_ haT) z
  by_cases hb:b ∈ ts
  ·have z':=(Jc hb).symm.trans z;cases z'
   exact hT b hb
  ·have z':=(I_ hb).symm.trans z;cases z'
 | none=>
  refine core (fun b=>if b ∈ ts then some (.tbl #[])else if b=a then some (.frz {cls:=.type "list",data:=.seq vs.toArray} (.lst (ns.map V.int)))else none) (fun T hm=>Jc hm) (.inl (.inr ⟨{cls:=.type "list",data:=.seq vs.toArray},(I_ haT).trans (Jc rfl)⟩)) (fun b u z=>?_) (fun b z hb=>?_) fun _=>hk
  ·by_cases hb:b ∈ ts
   ·have z':=(Jc hb).symm.trans z;cases z'
    exact hT b hb
   ·by_cases hb2:b=a
    ·have z':=((I_ hb).trans (Jc hb2)).symm.trans z;cases z'
     subst hb2;exact⟨ha,by rw[Jb];exact hl,vs,_,rv,ha⟩
    ·have z':=((I_ hb).trans (I_ hb2)).symm.trans z;cases z'
  ·by_cases hb2:b=a
   ·exact⟨hb2,_,_,(I_ hb).trans (Jc hb2)⟩
   ·exact absurd ((I_ hb).trans (I_ hb2)) z
theorem xg {l:PySem.W.OpenLaw} {n k:Nat} {q:Program} {loose:List Str} {XP:(Str->Option Value)->Heap->Prop} {YP:World->Heap->Prop} {d:DefRec} {K:Params->Frag} {CX:World->wW} {sp:World->Sp} {x:Str} (ts:List Addr)
  (hn:l.most=some n) (hn2:n<=sizeLine) (hdf:d.params.defaults=[]) (hr:cO k callerA)
  (hY:∀ (w:World) (h:Heap),YP w h->(K w.params).In h/\∀T ∈ ts,h.get? T=some (tabObj #[]))
  (hno:∀w:World,noTabs (K w.params)=true) (hcd:∀w:World,∀T ∈ ts,∃c,codeHdIn (K w.params) c T=true)
  (F:∀ (w:World) (mg:Str->Option Value) (fa:Addr) (h:Heap),(K w.params).In h->h.Ns mainGlobals mg->mg d.name=some (.ref fa)->
   ∃fd:FuncData,(∀ (s:Shared) (u:Value),BindsTo s fd ⟨[u],[]⟩ [(x,u)])/\
    ∀base:Heap,(K w.params).In base->base.Ns mainGlobals mg->(∀ T ∈ ts,base.BuiltinsAt mg T)->di l.prog w (K w.params) mg base (CX w) k fa fd [x] (sp w))
  (hsp:∀ (w:World) (H:Hp) (a:Addr) (ns:List Int),ns.length<=n->(∀ T ∈ ts,H T=some (.tbl #[]))->jv (K w.params) H a (ns.map V.int)->sp w [.ref a] H (fun v _=>v=.bl true) fun _ _ _=>False)
  (hCX:∀ (w:World) (H:Hp) (s:Shared) (e:Value) (s':Shared),CX w [] H s (fun _ _ _=>False) e s'->False):
  PySem.W.WalkO q loose XP YP l.row.toRowW d [] (fun f vs=>PySem.call f vs):=by
 refine Att.rA hn hdf fun w s₀ s₁ mg mb fa o pm cd doc a vs ns G Y ho hd hcd' hmg hobj hints hlen hg=>?_;obtain⟨KX,hT⟩:=hY w _ Y;obtain⟨fd,hb,hF⟩:=F w mg fa _ KX G.T.g hmg;refine vX ts KX hT (fun T hm=>?_) (hno w) G.T.g G.T.b G.T.builtins G.T.nolimit hg G.T.bmain hobj hints (JB hlen hn2) hr hF hb (fun H hO hS=>hsp w H a ns hlen hO hS) fun H e s'=>hCX w H s₁ e s';obtain⟨c,hc⟩:=hcd w T hm;exact((codeHd_of_K KX hc).tab (hT T hm)).isCodeTable
end Sw
namespace K13
open PySem PySem.Spec PyProof.Rows L2 Sw
open PySem.W (Frag keepIn ktsIn mroIn kitOne nsIn findIn typeIn takerIn hasDictIn codeIn codeHdIn fnOf mg_of mg_none_of)
noncomputable def top (i:Nat):Stmt:=PySem.Challenge.pw_swapward_k13_parts_walked.main.body.getD i (.Pass ⟨0,0,0,0⟩)
noncomputable abbrev bK:Stmt:=top 1
abbrev tJ:List Str:=["plan"]
theorem sJ:nF (aj bK) Gk.g8 Gk.gW (az bK):=⟨by kernel_rfl,by kernel_rfl⟩
theorem p8:aT Gk.g8 tJ (aj bK):=⟨rfl,rfl,rfl,by decide +kernel,rfl,by decide +kernel,by decide +kernel⟩
noncomputable abbrev aW:Stmt:=top 5
abbrev mQ:List Str:=["plan","against"]
theorem mG:nF (aj aW) Ik.dN Ik.dI (az aW):=⟨by kernel_rfl,by kernel_rfl⟩
theorem kI:aT Ik.dN mQ (aj aW):=⟨rfl,rfl,rfl,by decide +kernel,rfl,by decide +kernel,by decide +kernel⟩
noncomputable abbrev dt:Stmt:=top 6
abbrev EC:List Str:=["start","first","then"]
theorem DT:nF (aj dt) Ik.tM Ik.tw (az dt):=⟨by kernel_rfl,by kernel_rfl⟩
theorem AR:aT Ik.tM EC (aj dt):=⟨rfl,rfl,rfl,by decide +kernel,rfl,by decide +kernel,by decide +kernel⟩
noncomputable abbrev bT:Stmt:=top 7
abbrev Cg:List Str:=["one","other"]
noncomputable def Hx:Stmt->Expr
 | .Return (some (.Call _ _ [⟨_,le,_⟩] _)) _=>le
 | _=>default
noncomputable def vY:Expr:=Hx ((az bT).getD 6 (.Pass ⟨0,0,0,0⟩))
noncomputable def lA:Expr->Arguments
 | .Lambda a _ _ _=>a
 | _=>aS bT
noncomputable def lB:Expr->Expr
 | .Lambda _ b _ _=>b
 | e=>e
noncomputable def lS:Expr->Scope
 | .Lambda _ _ s _=>s
 | _=>aj bT
noncomputable def D0:i4:=⟨35,vY.pos,"parts.<locals>.<lambda>","part",lA vY,lB vY,lS vY⟩
noncomputable def CS:List Tb:=[(35,D0.pos,D0.iq)]
theorem BF:nF (aj bT) Ik.km (Ik.ph D0.le) (az bT):=⟨by kernel_rfl,by kernel_rfl⟩
theorem xO:aT Ik.km Cg (aj bT):=⟨rfl,rfl,rfl,by decide +kernel,rfl,by decide +kernel,by decide +kernel⟩
noncomputable abbrev bx:Stmt:=top 9
abbrev rH:List Str:=["_law_script","_law_k"]
theorem qH:nF (aj bx) Gk.fN Gk.fH (az bx):=⟨by kernel_rfl,by kernel_rfl⟩
theorem oy:aT Gk.fN rH (aj bx):=⟨rfl,rfl,rfl,by decide +kernel,rfl,by decide +kernel,by decide +kernel⟩
noncomputable abbrev bM:Stmt:=top 10
abbrev tL:List Str:=["_law_cell_here","_law_k"]
theorem sM:nF (aj bM) Gk.g_ Gk.gY (az bM):=⟨by kernel_rfl,by kernel_rfl⟩
theorem p_:aT Gk.g_ tL (aj bM):=⟨rfl,rfl,rfl,by decide +kernel,rfl,by decide +kernel,by decide +kernel⟩
noncomputable abbrev bh:Stmt:=top 11
abbrev pG:List Str:=["_law_cell_here","_law_many"]
theorem oO:nF (aj bh) Gk.e8 Gk.eY (az bh):=⟨by kernel_rfl,by kernel_rfl⟩
theorem my:aT Gk.e8 pG (aj bh):=⟨rfl,rfl,rfl,by decide +kernel,rfl,by decide +kernel,by decide +kernel⟩
noncomputable abbrev bu:Stmt:=top 12
abbrev rG:List Str:=["_law_web_here","_law_one","_law_other","_law_draw"]
theorem qG:nF (aj bu) Gk.fM Gk.fG (az bu):=⟨by kernel_rfl,by kernel_rfl⟩
theorem ox:aT Gk.fM rG (aj bu):=⟨rfl,rfl,rfl,by decide +kernel,rfl,by decide +kernel,by decide +kernel⟩
noncomputable abbrev bL:Stmt:=top 13
abbrev tK:List Str:=["_law_script","_law_names_here","_law_start"]
theorem sL:nF (aj bL) Gk.g9 Gk.gX (az bL):=⟨by kernel_rfl,by kernel_rfl⟩
theorem p9:aT Gk.g9 tK (aj bL):=⟨rfl,rfl,rfl,by decide +kernel,rfl,by decide +kernel,by decide +kernel⟩
noncomputable abbrev bg:Stmt:=top 14
abbrev pF:List Str:=["_law_web_here"]
theorem oM:nF (aj bg) Gk.e7 Gk.eX (az bg):=⟨by kernel_rfl,by kernel_rfl⟩
theorem mv:aT Gk.e7 pF (aj bg):=⟨rfl,rfl,rfl,by decide +kernel,rfl,by decide +kernel,by decide +kernel⟩
noncomputable abbrev bq:Stmt:=top 15
abbrev rE:List Str:=["_law_web_here","_law_cell_here","_law_ahead","_law_digits"]
theorem qE:nF (aj bq) Gk.fK Gk.fB (az bq):=⟨by kernel_rfl,by kernel_rfl⟩
theorem ou:aT Gk.fK rE (aj bq):=⟨rfl,rfl,rfl,by decide +kernel,rfl,by decide +kernel,by decide +kernel⟩
noncomputable abbrev aY:Stmt:=top 16
abbrev mS:List Str:=["_law_plan_here","_law_cell_here"]
theorem mI:nF (aj aY) Ik.dP Ik.dM (az aY):=⟨by kernel_rfl,by kernel_rfl⟩
theorem kK:aT Ik.dP mS (aj aY):=⟨rfl,rfl,rfl,by decide +kernel,rfl,by decide +kernel,by decide +kernel⟩
noncomputable abbrev bj:Stmt:=top 17
abbrev pH:List Str:=["_law_word","_law_couples"]
theorem oP:nF (aj bj) Ik.e_ Ik.eZ (az bj):=⟨by kernel_rfl,by kernel_rfl⟩
theorem mB:aT Ik.e_ pH (aj bj):=⟨rfl,rfl,rfl,by decide +kernel,rfl,by decide +kernel,by decide +kernel⟩
noncomputable abbrev bt:Stmt:=top 18
abbrev rF:List Str:=["_law_part_here","_law_one","_law_other"]
theorem qF:nF (aj bt) Ik.fL Ik.fE (az bt):=⟨by kernel_rfl,by kernel_rfl⟩
theorem ow:aT Ik.fL rF (aj bt):=⟨rfl,rfl,rfl,by decide +kernel,rfl,by decide +kernel,by decide +kernel⟩
noncomputable abbrev aX:Stmt:=top 19
abbrev mR:List Str:=["_law_found","_law_one","_law_other"]
theorem mH:nF (aj aX) Ik.dO Ik.dJ (az aX):=⟨by kernel_rfl,by kernel_rfl⟩
theorem kJ:aT Ik.dO mR (aj aX):=⟨rfl,rfl,rfl,by decide +kernel,rfl,by decide +kernel,by decide +kernel⟩
noncomputable abbrev cH:Stmt:=top 20
abbrev Gs:List Str:=["_law_script"]
theorem FH:nF (aj cH) Ik.Ag Ik.zY (az cH):=⟨by kernel_rfl,by kernel_rfl⟩
theorem Dc:aT Ik.Ag Gs (aj cH):=⟨rfl,rfl,rfl,by decide +kernel,rfl,by decide +kernel,by decide +kernel⟩
theorem Dd:aT [D0.x] [D0.x] D0.scope:=⟨rfl,rfl,rfl,by decide +kernel,rfl,by decide +kernel,by decide +kernel⟩
theorem FI:bE [D0.x] qM D0.body=D0.body/\oE D0.scope [D0.x] qM D0.body=true:=⟨by kernel_rfl,by kernel_rfl⟩
theorem Ey (pm ctv cd:Value) (us:List Value) (h:us.length=1):bindArgs (PySem.W.kla_fn "<lambda>" D0.iq D0.args D0.body D0.scope [] pm cd ctv) ⟨us,[]⟩=pure ([D0.x].zip us):=by
 obtain⟨a,rfl⟩:=len_one h;rfl
theorem FK {P:Program} {w:World} {K:Frag} {mg:Str->Option Value} {base:Heap} {f cc:Addr} {cd:Value} {k:Nat} (hcd:cd=.ref cc) (hd:codeHdIn K cc 35=true) (B:base.BuiltinsAt mg 35) (hk:5<=k)
  (A:Around) (outer:List Env) (s:Shared) (H:Hp) (E:XK):Cj (jR (pK P w) P w K mg base Ik.km "parts" (aj bT) f cd A outer s H E) D0 CS k where
 cc:=⟨cc,hcd,hd⟩
 B:=B
 iq:=by kernel_rfl
 cl:=rfl
 d0:=rfl
 t0:=Jj
 t1:=fun t ht _=>Jo.mp ht
 k4:=hk
 S:=Dd
 hm:=FI
 hb:=Ey
structure cx (K:Frag) (x:Str) (st:Stmt) (f:Addr):Prop where
 at_:nsIn K mainGlobals x=some (some (.ref f))
 fn:∃fd,ve K x x st f fd
theorem gU {K:Frag} {x:Str} {st:Stmt} {f:Addr} {oc:Value} {od an:Option Addr} {osl:Array (Option Value)} {kV doc pm cdv ct:Value} (a:nsIn K mainGlobals x=some (some (.ref f)))
  (l:K.lookup f=some ⟨oc,od,.func (fnOf x x (aS st) (az st) (aj st) .none kV doc pm an cdv ct),osl⟩) (c:codeIn K cdv x=true) (k:keepIn K (.ref f)=true):cx K x st f:=⟨a,_,sZ l c k⟩
noncomputable def Gb:List (Str × V):=[("ROW",.str "row"),("RING",.str "ring")]
theorem cY {α:Type}:∀ {l:List (Str × α)} {x:Str} {a:α},l.lookup x=some a->(x,a) ∈ l
 | y::r,x,a,h=>by
  obtain⟨n,b⟩:=y;rw[JJ]at h;cases e:(x == n)with
  | true=>rw[e]at h;cases h;rw[eq_of_beq e];exact Jj
  | false=>rw[e]at h;exact Ji _ (cY h)
noncomputable def G0 (K:Frag):bZ where
 con:=fun x=>Gb.lookup x
 mod:=cg K
 has:=fun _=>false
 fn:=fun _ _ _ _ _=>False
structure Txt (K:Frag):Prop where
 Hi:∃t,nsIn K mainGlobals "ROW" =some (some (.str "row" t))
 Fq:∃t,nsIn K mainGlobals "RING" =some (some (.str "ring" t))
 no:∀x ∈ cy,nsIn K mainGlobals x=some none
section
variable {P:Program} {w:World} {K:Frag} {mg:Str->Option Value} {base:Heap}
theorem FY (X:K.In base) (G:base.Ns mainGlobals mg) (T:Txt K):cn P w K mg base (G0 K) 1:=by
 refine⟨ux K,fun x v h=>?_,fun _ h=>absurd (show false=true from h) JC,fun x hx=>mg_none_of X G (T.no x hx),jS.none,fun _ _ h=>(nomatch h)⟩;dsimp only[G0]at h;have hm:=cY h;unfold Gb at hm;simp only[Jq,K7,MD,NR]at hm;rcases hm with ⟨rfl,rfl⟩ | ⟨rfl,rfl⟩
 ·obtain⟨t,e⟩:=T.Hi;exact⟨_,mg_of X G e,t,rfl⟩
 ·obtain⟨t,e⟩:=T.Fq;exact⟨_,mg_of X G e,t,rfl⟩
theorem _root_.Sw.cn.IS {Γ:bZ} {k:Nat} (g:cn P w K mg base Γ k) (D:i4) (Ts:List Tb):cn P w K mg base {Γ with lm:=some (D,Ts)} k:=⟨g.mod,g.con,g.fn,g.no,g.vc,g.gd⟩
theorem step {Γ:bZ} {k:Nat} {x:Str} {st:Stmt} {f:Addr} {N ps:List Str} {body:dm} {sp:Sp} (D:cx K x st f) (S:aT N ps (aj st)) (g:cn P w K mg base Γ k) (hm:nF (aj st) N body (az st))
  (h:∀vs H Q E,sp vs H Q E->eM Γ N ps.length body vs H Q E) (hlm:Γ.lm=none:=by rfl):∃fd,ve K x x st f fd/\di P w K mg base (pK P w) (k + 2) f fd ps sp:=by
 obtain⟨fd,F⟩:=D.fn;exact⟨fd,F,(B1 F S g hm hlm).imp h⟩
local macro_rules | `(tactic| walk_at "look")=>`(tactic| exact⟨by kernel_rfl,by kernel_rfl⟩)
noncomputable def tZ (K:Frag):Sp:=fun vs H Q _=>∃ (a:Addr) (ns:List Int),vs=[.ref a]/\ns.length<=63/\jv K H a (ns.map V.int)/\(∀ t ∈ CS,TabAt H t)/\∀H',Q (.bl true) H'
noncomputable def ID (K:Frag):List (Str × Sp):=[]
noncomputable def Ij (K:Frag):List (Str × Sp):=("mates_of",Gk.j4 (cg K))::ID K
noncomputable def Ii (K:Frag):List (Str × Sp):=("mates_alone",Ik.j6 (cg K))::Ij K
noncomputable def Ih (K:Frag):List (Str × Sp):=("walk",Ik.om (cg K))::Ii K
noncomputable def Ig (K:Frag):List (Str × Sp):=("parts",Ik.jY (cg K) CS)::Ih K
noncomputable def Ie (K:Frag):List (Str × Sp):=("_law_cell",Gw.kD (cg K))::Ig K
noncomputable def Ic (K:Frag):List (Str × Sp):=("_law_mix",Gk.jB)::Ie K
noncomputable def Ib (K:Frag):List (Str × Sp):=("_law_names",Gk.j3 (cg K))::Ic K
noncomputable def Ia (K:Frag):List (Str × Sp):=("_law_join",Gk.kC)::Ib K
noncomputable def H_ (K:Frag):List (Str × Sp):=("_law_web",Gk.tX (cg K))::Ia K
noncomputable def EK (K:Frag):List (Str × Sp):=("_law_pairs",Gk.jZ (cg K))::H_ K
noncomputable def EJ (K:Frag):List (Str × Sp):=("_law_plan",Gk.oo (cg K))::EK K
noncomputable def EI (K:Frag):List (Str × Sp):=("_law_common",Ik.ie (cg K))::EJ K
noncomputable def EH (K:Frag):List (Str × Sp):=("_law_along",Ik.dS (cg K))::EI K
noncomputable def EG (K:Frag):List (Str × Sp):=("_law_part",Ik.j5 (cg K))::EH K
noncomputable def Gy (K:Frag):List (Str × Sp):=("_law_walked",Ik.ic (cg K))::EG K
theorem HK {f:Addr} (X:K.In base) (G:base.Ns mainGlobals mg) (d:cx K "mates_of" bK f) (g:cn P w K mg base ((G0 K).wit (ID K)) 1):cn P w K mg base ((G0 K).wit (Ij K)) 3:=by
 obtain⟨e,F,o⟩:=step (sp:=Gk.j4 (cg K)) d p8 g sJ (Gk.yB rfl rfl);exact cn.gB (g.mono (k:=3) (by decide)) (mg_of X G d.at_) F.kp o (u7 F fun _=>fun _ _ _ _ _ _=>rfl) (by decide)
theorem HJ {f:Addr} (X:K.In base) (G:base.Ns mainGlobals mg) (d:cx K "mates_alone" aW f) (g:cn P w K mg base ((G0 K).wit (Ij K)) 3):cn P w K mg base ((G0 K).wit (Ii K)) 5:=by
 obtain⟨e,F,o⟩:=step (sp:=Ik.j6 (cg K)) d kI g mG (Ik.yE rfl rfl (by walk_at "look"));exact cn.gB (g.mono (k:=5) (by decide)) (mg_of X G d.at_) F.kp o (eW F fun _ _=>fun _ _ _ _ _ _=>rfl) (by decide)
theorem HI {f:Addr} (X:K.In base) (G:base.Ns mainGlobals mg) (d:cx K "walk" dt f) (g:cn P w K mg base ((G0 K).wit (Ii K)) 5):cn P w K mg base ((G0 K).wit (Ih K)) 7:=by
 obtain⟨e,F,o⟩:=step (sp:=Ik.om (cg K)) d AR g DT (Ik.Bx rfl rfl);exact cn.gB (g.mono (k:=7) (by decide)) (mg_of X G d.at_) F.kp o (kh F fun _ _ _=>fun _ _ _ _ _ _=>rfl) (by decide)
theorem HH {f cc:Addr} {e:FuncData} (X:K.In base) (G:base.Ns mainGlobals mg) (a:nsIn K mainGlobals "parts" =some (some (.ref f))) (F:ve K "parts" "parts" bT f e) (hcl:e.code=.ref cc) (hdl:codeHdIn K cc 35=true) (B:base.BuiltinsAt mg 35) (g:cn P w K mg base ((G0 K).wit (Ih K)) 7):cn P w K mg base ((G0 K).wit (Ig K)) 9:=
 cn.gB (g.mono (k:=9) (by decide)) (mg_of X G a) F.kp ((zD (D:=D0) (Ts:=CS) F xO (cn.IS g D0 CS) BF rfl (FK hcl hdl B (by decide))).imp (sp':=Ik.jY (cg K) CS) (Ik.yx ⟨rfl,rfl,by walk_at "look",by walk_at "look",by kernel_rfl,by kernel_rfl,rfl⟩)) (eW F fun _ _=>fun _ _ _ _ _ _=>rfl) (by decide)
theorem HG {f:Addr} (X:K.In base) (G:base.Ns mainGlobals mg) (d:cx K "_law_cell" bx f) (g:cn P w K mg base ((G0 K).wit (Ig K)) 9):cn P w K mg base ((G0 K).wit (Ie K)) 11:=by
 obtain⟨e,F,o⟩:=step (sp:=Gw.kD (cg K)) d oy g qH (Gk.BA rfl rfl);exact cn.gB (g.mono (k:=11) (by decide)) (mg_of X G d.at_) F.kp o (eW F fun _ _=>fun _ _ _ _ _ _=>rfl) (by decide)
theorem HF {f:Addr} (X:K.In base) (G:base.Ns mainGlobals mg) (d:cx K "_law_mix" bM f) (g:cn P w K mg base ((G0 K).wit (Ie K)) 11):cn P w K mg base ((G0 K).wit (Ic K)) 13:=by
 obtain⟨e,F,o⟩:=step (sp:=Gk.jB) d p_ g sM (Gk.DH);exact cn.gB (g.mono (k:=13) (by decide)) (mg_of X G d.at_) F.kp o (eW F fun _ _=>fun _ _ _ _ _ _=>rfl) (by decide)
theorem HE {f:Addr} (X:K.In base) (G:base.Ns mainGlobals mg) (d:cx K "_law_names" bh f) (g:cn P w K mg base ((G0 K).wit (Ic K)) 13):cn P w K mg base ((G0 K).wit (Ib K)) 15:=by
 obtain⟨e,F,o⟩:=step (sp:=Gk.j3 (cg K)) d my g oO (Gk.yA rfl rfl (by walk_at "look"));exact cn.gB (g.mono (k:=15) (by decide)) (mg_of X G d.at_) F.kp o (eW F fun _ _=>fun _ _ _ _ _ _=>rfl) (by decide)
theorem HD {f:Addr} (X:K.In base) (G:base.Ns mainGlobals mg) (d:cx K "_law_join" bu f) (g:cn P w K mg base ((G0 K).wit (Ib K)) 15):cn P w K mg base ((G0 K).wit (Ia K)) 17:=by
 obtain⟨e,F,o⟩:=step (sp:=Gk.kC) d ox g qG (Gk.Bz rfl);exact cn.gB (g.mono (k:=17) (by decide)) (mg_of X G d.at_) F.kp o (u6 F fun _ _ _ _=>fun _ _ _ _ _ _=>rfl) (by decide)
theorem HC {f:Addr} (X:K.In base) (G:base.Ns mainGlobals mg) (d:cx K "_law_web" bL f) (g:cn P w K mg base ((G0 K).wit (Ia K)) 17):cn P w K mg base ((G0 K).wit (H_ K)) 19:=by
 obtain⟨e,F,o⟩:=step (sp:=Gk.tX (cg K)) d p9 g sL (Gk.DG rfl rfl (by walk_at "look") (by walk_at "look") (by walk_at "look"));exact cn.gB (g.mono (k:=19) (by decide)) (mg_of X G d.at_) F.kp o (kh F fun _ _ _=>fun _ _ _ _ _ _=>rfl) (by decide)
theorem FW {f:Addr} (X:K.In base) (G:base.Ns mainGlobals mg) (d:cx K "_law_pairs" bg f) (g:cn P w K mg base ((G0 K).wit (H_ K)) 19):cn P w K mg base ((G0 K).wit (EK K)) 21:=by
 obtain⟨e,F,o⟩:=step (sp:=Gk.jZ (cg K)) d mv g oM (Gk.yz rfl rfl);exact cn.gB (g.mono (k:=21) (by decide)) (mg_of X G d.at_) F.kp o (u7 F fun _=>fun _ _ _ _ _ _=>rfl) (by decide)
theorem FV {f:Addr} (X:K.In base) (G:base.Ns mainGlobals mg) (d:cx K "_law_plan" bq f) (g:cn P w K mg base ((G0 K).wit (EK K)) 21):cn P w K mg base ((G0 K).wit (EJ K)) 23:=by
 obtain⟨e,F,o⟩:=step (sp:=Gk.oo (cg K)) d ou g qE (Gk.By rfl rfl (by walk_at "look") (by walk_at "look"));exact cn.gB (g.mono (k:=23) (by decide)) (mg_of X G d.at_) F.kp o (u6 F fun _ _ _ _=>fun _ _ _ _ _ _=>rfl) (by decide)
theorem FU {f:Addr} (X:K.In base) (G:base.Ns mainGlobals mg) (d:cx K "_law_common" aY f) (g:cn P w K mg base ((G0 K).wit (EJ K)) 23):cn P w K mg base ((G0 K).wit (EI K)) 25:=by
 obtain⟨e,F,o⟩:=step (sp:=Ik.ie (cg K)) d kK g mI (Ik.vK rfl rfl (by walk_at "look"));exact cn.gB (g.mono (k:=25) (by decide)) (mg_of X G d.at_) F.kp o (eW F fun _ _=>fun _ _ _ _ _ _=>rfl) (by decide)
theorem FT {f:Addr} (X:K.In base) (G:base.Ns mainGlobals mg) (d:cx K "_law_along" bj f) (g:cn P w K mg base ((G0 K).wit (EI K)) 25):cn P w K mg base ((G0 K).wit (EH K)) 27:=by
 obtain⟨e,F,o⟩:=step (sp:=Ik.dS (cg K)) d mB g oP (Ik.vJ rfl rfl);exact cn.gB (g.mono (k:=27) (by decide)) (mg_of X G d.at_) F.kp o (eW F fun _ _=>fun _ _ _ _ _ _=>rfl) (by decide)
theorem FR {f:Addr} (X:K.In base) (G:base.Ns mainGlobals mg) (d:cx K "_law_part" bt f) (g:cn P w K mg base ((G0 K).wit (EH K)) 27):cn P w K mg base ((G0 K).wit (EG K)) 29:=by
 obtain⟨e,F,o⟩:=step (sp:=Ik.j5 (cg K)) d ow g qF (Ik.yC rfl rfl (by walk_at "look"));exact cn.gB (g.mono (k:=29) (by decide)) (mg_of X G d.at_) F.kp o (kh F fun _ _ _=>fun _ _ _ _ _ _=>rfl) (by decide)
theorem FQ {f:Addr} (X:K.In base) (G:base.Ns mainGlobals mg) (d:cx K "_law_walked" aX f) (g:cn P w K mg base ((G0 K).wit (EG K)) 29):cn P w K mg base ((G0 K).wit (Gy K)) 31:=by
 obtain⟨e,F,o⟩:=step (sp:=Ik.ic (cg K)) d kJ g mH (Ik.vI rfl rfl (by walk_at "look") (by walk_at "look"));exact cn.gB (g.mono (k:=31) (by decide)) (mg_of X G d.at_) F.kp o (kh F fun _ _ _=>fun _ _ _ _ _ _=>rfl) (by decide)
theorem DY {f1 f2 f3 f4 f5 f6 f7 f8 f9 f10 f11 f12 f13 f14 f15 f16 cc:Addr} {eL:FuncData} (X:K.In base) (G:base.Ns mainGlobals mg) (B:base.BuiltinsAt mg 35) (T:Txt K) (d1:cx K "mates_of" bK f1) (d2:cx K "mates_alone" aW f2) (d3:cx K "walk" dt f3) (dA:nsIn K mainGlobals "parts" =some (some (.ref f4))) (dF:ve K "parts" "parts" bT f4 eL) (dc:eL.code=.ref cc) (dh:codeHdIn K cc 35=true) (d5:cx K "_law_cell" bx f5) (d6:cx K "_law_mix" bM f6) (d7:cx K "_law_names" bh f7) (d8:cx K "_law_join" bu f8) (d9:cx K "_law_web" bL f9) (d10:cx K "_law_pairs" bg f10) (d11:cx K "_law_plan" bq f11) (d12:cx K "_law_common" aY f12) (d13:cx K "_law_along" bj f13) (d14:cx K "_law_part" bt f14) (d15:cx K "_law_walked" aX f15) (d16:cx K "law" cH f16):
  ∃fd,ve K "law" "law" cH f16 fd/\di P w K mg base (pK P w) 33 f16 fd ["_law_script"] (tZ K):=by
 have gz:cn P w K mg base ((G0 K).wit (Gy K)) 31:=FQ X G d15 (FR X G d14 (FT X G d13 (FU X G d12 (FV X G d11 (FW X G d10 (HC X G d9 (HD X G d8 (HE X G d7 (HF X G d6 (HG X G d5 (HH X G dA dF dc dh B (HI X G d3 (HJ X G d2 (HK X G d1 ((FY X G T).GX)))))))))))))));obtain⟨e,F,o⟩:=step (sp:=Ik.tY (cg K) CS) d16 Dc gz FH (Ik.yD ⟨rfl,rfl,by walk_at "look",by walk_at "look",by walk_at "look",by walk_at "look",by walk_at "look",by walk_at "look",by walk_at "look"⟩);refine⟨e,F,di.off o (fun vs H Q E h=>?_) fun vs H Q E off h=>?_⟩
 ·obtain⟨a,ns,rfl,_⟩:=h;rfl
 ·obtain⟨a,ns,rfl,hl,hs,ht,q⟩:=h;exact⟨a,ns,rfl,hl,vv off hs,fun a ha=>(let ⟨o,e⟩:=(ux K).look ha;off a o e),ht,q⟩
end
open PySem.W (Frag keepIn ktsIn mroIn kitOne nsIn findIn typeIn takerIn hasDictIn codeIn codeHdIn fnOf mg_of mg_none_of noTabs tabObj)
set_option maxHeartbeats 4000000 in
theorem all_mk {l:PySem.W.OpenLaw} {w:World} {K:Frag} {h:Heap} {mg:Str->Option Value} {fa:Addr} (X:K.In h) (G:h.Ns mainGlobals mg) (hfa:mg "law" =some (.ref fa))
  {cc f1 f2 f3 f4 f5 f6 f7 f8 f9 f10 f11 f12 f13 f14 f15 f16:Addr}
  {od1 an1 od2 an2 od3 an3 od4 an4 od5 an5 od6 an6 od7 an7 od8 an8 od9 an9 od10 an10 od11 an11 od12 an12 od13 an13 od14 an14 od15 an15 od16 an16:Option Addr}
  {sl1 sl2 sl3 sl4 sl5 sl6 sl7 sl8 sl9 sl10 sl11 sl12 sl13 sl14 sl15 sl16:Array (Option Value)}
  {oc1 kV1 dc1 pm1 ct1 cd1 oc2 kV2 dc2 pm2 ct2 cd2 oc3 kV3 dc3 pm3 ct3 cd3 oc4 kV4 dc4 pm4 ct4 oc5 kV5 dc5 pm5 ct5 cd5 oc6 kV6 dc6 pm6 ct6 cd6 oc7 kV7 dc7 pm7 ct7 cd7 oc8 kV8 dc8 pm8 ct8 cd8 oc9 kV9 dc9 pm9 ct9 cd9 oc10 kV10 dc10 pm10 ct10 cd10 oc11 kV11 dc11 pm11 ct11 cd11 oc12 kV12 dc12 pm12 ct12 cd12 oc13 kV13 dc13 pm13 ct13 cd13 oc14 kV14 dc14 pm14 ct14 cd14 oc15 kV15 dc15 pm15 ct15 cd15 oc16 kV16 dc16 pm16 ct16 cd16:Value}
  {t0 t1:Tok}
  (a1:nsIn K mainGlobals "mates_of" =some (some (.ref f1)))
  (l1:K.lookup f1=some ⟨oc1,od1,.func (fnOf "mates_of" "mates_of" (aS bK) (az bK) (aj bK) .none kV1 dc1 pm1 an1 cd1 ct1),sl1⟩)
  (c1:codeIn K cd1 "mates_of" =true)
  (k1:keepIn K (.ref f1)=true)
  (a2:nsIn K mainGlobals "mates_alone" =some (some (.ref f2)))
  (l2:K.lookup f2=some ⟨oc2,od2,.func (fnOf "mates_alone" "mates_alone" (aS aW) (az aW) (aj aW) .none kV2 dc2 pm2 an2 cd2 ct2),sl2⟩)
  (c2:codeIn K cd2 "mates_alone" =true)
  (k2:keepIn K (.ref f2)=true)
  (a3:nsIn K mainGlobals "walk" =some (some (.ref f3)))
  (l3:K.lookup f3=some ⟨oc3,od3,.func (fnOf "walk" "walk" (aS dt) (az dt) (aj dt) .none kV3 dc3 pm3 an3 cd3 ct3),sl3⟩)
  (c3:codeIn K cd3 "walk" =true)
  (k3:keepIn K (.ref f3)=true)
  (a4:nsIn K mainGlobals "parts" =some (some (.ref f4)))
  (l4:K.lookup f4=some ⟨oc4,od4,.func (fnOf "parts" "parts" (aS bT) (az bT) (aj bT) .none kV4 dc4 pm4 an4 (.ref cc) ct4),sl4⟩)
  (c4:codeIn K (.ref cc) "parts" =true)
  (k4:keepIn K (.ref f4)=true)
  (hd:codeHdIn K cc 35=true)
  (a5:nsIn K mainGlobals "_law_cell" =some (some (.ref f5)))
  (l5:K.lookup f5=some ⟨oc5,od5,.func (fnOf "_law_cell" "_law_cell" (aS bx) (az bx) (aj bx) .none kV5 dc5 pm5 an5 cd5 ct5),sl5⟩)
  (c5:codeIn K cd5 "_law_cell" =true)
  (k5:keepIn K (.ref f5)=true)
  (a6:nsIn K mainGlobals "_law_mix" =some (some (.ref f6)))
  (l6:K.lookup f6=some ⟨oc6,od6,.func (fnOf "_law_mix" "_law_mix" (aS bM) (az bM) (aj bM) .none kV6 dc6 pm6 an6 cd6 ct6),sl6⟩)
  (c6:codeIn K cd6 "_law_mix" =true)
  (k6:keepIn K (.ref f6)=true)
  (a7:nsIn K mainGlobals "_law_names" =some (some (.ref f7)))
  (l7:K.lookup f7=some ⟨oc7,od7,.func (fnOf "_law_names" "_law_names" (aS bh) (az bh) (aj bh) .none kV7 dc7 pm7 an7 cd7 ct7),sl7⟩)
  (c7:codeIn K cd7 "_law_names" =true)
  (k7:keepIn K (.ref f7)=true)
  (a8:nsIn K mainGlobals "_law_join" =some (some (.ref f8)))
  (l8:K.lookup f8=some ⟨oc8,od8,.func (fnOf "_law_join" "_law_join" (aS bu) (az bu) (aj bu) .none kV8 dc8 pm8 an8 cd8 ct8),sl8⟩)
  (c8:codeIn K cd8 "_law_join" =true)
  (k8:keepIn K (.ref f8)=true)
  (a9:nsIn K mainGlobals "_law_web" =some (some (.ref f9)))
  (l9:K.lookup f9=some ⟨oc9,od9,.func (fnOf "_law_web" "_law_web" (aS bL) (az bL) (aj bL) .none kV9 dc9 pm9 an9 cd9 ct9),sl9⟩)
  (c9:codeIn K cd9 "_law_web" =true)
  (k9:keepIn K (.ref f9)=true)
  (a10:nsIn K mainGlobals "_law_pairs" =some (some (.ref f10)))
  (l10:K.lookup f10=some ⟨oc10,od10,.func (fnOf "_law_pairs" "_law_pairs" (aS bg) (az bg) (aj bg) .none kV10 dc10 pm10 an10 cd10 ct10),sl10⟩)
  (c10:codeIn K cd10 "_law_pairs" =true)
  (k10:keepIn K (.ref f10)=true)
  (a11:nsIn K mainGlobals "_law_plan" =some (some (.ref f11)))
  (l11:K.lookup f11=some ⟨oc11,od11,.func (fnOf "_law_plan" "_law_plan" (aS bq) (az bq) (aj bq) .none kV11 dc11 pm11 an11 cd11 ct11),sl11⟩)
  (c11:codeIn K cd11 "_law_plan" =true)
  (k11:keepIn K (.ref f11)=true)
  (a12:nsIn K mainGlobals "_law_common" =some (some (.ref f12)))
  (l12:K.lookup f12=some ⟨oc12,od12,.func (fnOf "_law_common" "_law_common" (aS aY) (az aY) (aj aY) .none kV12 dc12 pm12 an12 cd12 ct12),sl12⟩)
  (c12:codeIn K cd12 "_law_common" =true)
  (k12:keepIn K (.ref f12)=true)
  (a13:nsIn K mainGlobals "_law_along" =some (some (.ref f13)))
  (l13:K.lookup f13=some ⟨oc13,od13,.func (fnOf "_law_along" "_law_along" (aS bj) (az bj) (aj bj) .none kV13 dc13 pm13 an13 cd13 ct13),sl13⟩)
  (c13:codeIn K cd13 "_law_along" =true)
  (k13:keepIn K (.ref f13)=true)
  (a14:nsIn K mainGlobals "_law_part" =some (some (.ref f14)))
  (l14:K.lookup f14=some ⟨oc14,od14,.func (fnOf "_law_part" "_law_part" (aS bt) (az bt) (aj bt) .none kV14 dc14 pm14 an14 cd14 ct14),sl14⟩)
  (c14:codeIn K cd14 "_law_part" =true)
  (k14:keepIn K (.ref f14)=true)
  (a15:nsIn K mainGlobals "_law_walked" =some (some (.ref f15)))
  (l15:K.lookup f15=some ⟨oc15,od15,.func (fnOf "_law_walked" "_law_walked" (aS aX) (az aX) (aj aX) .none kV15 dc15 pm15 an15 cd15 ct15),sl15⟩)
  (c15:codeIn K cd15 "_law_walked" =true)
  (k15:keepIn K (.ref f15)=true)
  (a16:nsIn K mainGlobals "law" =some (some (.ref f16)))
  (l16:K.lookup f16=some ⟨oc16,od16,.func (fnOf "law" "law" (aS cH) (az cH) (aj cH) .none kV16 dc16 pm16 an16 cd16 ct16),sl16⟩)
  (c16:codeIn K cd16 "law" =true)
  (k16:keepIn K (.ref f16)=true)
  (q0:nsIn K mainGlobals "ROW" =some (some (.str "row" t0)))
  (q1:nsIn K mainGlobals "RING" =some (some (.str "ring" t1)))
  (z0:nsIn K mainGlobals "len" =some none)
  (z1:nsIn K mainGlobals "all" =some none)
  (z2:nsIn K mainGlobals "any" =some none)
  (z3:nsIn K mainGlobals "str" =some none)
  (z4:nsIn K mainGlobals "int" =some none)
  (z5:nsIn K mainGlobals "abs" =some none)
  (z6:nsIn K mainGlobals "sorted" =some none)
  (z7:nsIn K mainGlobals "list" =some none)
  (z8:nsIn K mainGlobals "tuple" =some none)
  (z9:nsIn K mainGlobals "max" =some none)
  (z10:nsIn K mainGlobals "min" =some none)
  (z11:nsIn K mainGlobals "sum" =some none)
  (z12:nsIn K mainGlobals "isinstance" =some none)
  (z13:nsIn K mainGlobals "range" =some none)
  (z14:nsIn K mainGlobals "bool" =some none)
  (z15:nsIn K mainGlobals "dict" =some none)
  (z16:nsIn K mainGlobals "set" =some none)
  (z17:nsIn K mainGlobals "ValueError" =some none)
  (z18:nsIn K mainGlobals "reversed" =some none)
  (z19:nsIn K mainGlobals "zip" =some none):
  ∃fd:FuncData,(∀ (s:Shared) (v:Value),BindsTo s fd ⟨[v],[]⟩ [("_law_script",v)])/\∀base:Heap,K.In base->base.Ns mainGlobals mg->(∀ T ∈ [35],base.BuiltinsAt mg T)->di l.prog w K mg base (pK l.prog w) 33 fa fd ["_law_script"] (tZ K):=by
 have e:=hfa.symm.trans (mg_of X G a16);cases e
 have T:Txt K:=⟨⟨_,q0⟩,⟨_,q1⟩,fun x hx=>by
  unfold cy at hx;simp only[Jq,K7,MD]at hx;rcases hx with rfl | rfl | rfl | rfl | rfl | rfl | rfl | rfl | rfl | rfl | rfl | rfl | rfl | rfl | rfl | rfl | rfl | rfl | rfl | rfl
  ·exact z0
  ·exact z1
  ·exact z2
  ·exact z3
  ·exact z4
  ·exact z5
  ·exact z6
  ·exact z7
  ·exact z8
  ·exact z9
  ·exact z10
  ·exact z11
  ·exact z12
  ·exact z13
  ·exact z14
  ·exact z15
  ·exact z16
  ·exact z17
  ·exact z18
  ·exact z19⟩
 have F16:=sZ (st:=cH) l16 c16 k16;refine⟨fnOf "law" "law" (aS cH) (az cH) (aj cH) .none kV16 dc16 pm16 an16 cd16 ct16,fun s v=>.of_eq rfl,fun base kb nb B=>?_⟩;obtain⟨fd,F,o⟩:=DY (P:=l.prog) (w:=w) (base:=base) kb nb (B 35 (Jj)) T (gU a1 l1 c1 k1) (gU a2 l2 c2 k2) (gU a3 l3 c3 k3) a4 (sZ l4 c4 k4) rfl hd (gU a5 l5 c5 k5) (gU a6 l6 c6 k6) (gU a7 l7 c7 k7) (gU a8 l8 c8 k8) (gU a9 l9 c9 k9) (gU a10 l10 c10 k10) (gU a11 l11 c11 k11) (gU a12 l12 c12 k12) (gU a13 l13 c13 k13) (gU a14 l14 c14 k14) (gU a15 l15 c15 k15) (gU a16 l16 c16 k16);obtain⟨_,_,_,_,_,_,_,_,_,e1,e2,_⟩:=F.ex;obtain⟨_,_,_,_,_,_,_,_,_,e3,e4,_⟩:=F16.ex;rw[e2]at e4;injection e4 with e4
 injection e4 with _ _ e4 _
 injection e4 with e4
 rw[<-e4];exact o
theorem walk {l:PySem.W.OpenLaw} {q:Program} {loose:List Str} {XP:(Str->Option Value)->Heap->Prop} {YP:World->Heap->Prop} {d:DefRec} {K:Params->PySem.W.Frag} {ts:List Addr} (hn:l.most=some 63) (hdf:d.params.defaults=[])
  (hY:∀ (w:World) (h:Heap),YP w h->(K w.params).In h/\∀T ∈ ts,h.get? T=some (tabObj #[])) (hts:∀T ∈ [35],T ∈ ts) (hno:∀w:World,noTabs (K w.params)=true) (hcd:∀w:World,∀T ∈ ts,∃c,codeHdIn (K w.params) c T=true)
  (F:∀ (w:World) (mg:Str->Option Value) (fa:Addr) (h:Heap),(K w.params).In h->h.Ns mainGlobals mg->mg d.name=some (.ref fa)->
   ∃fd:FuncData,(∀ (s:Shared) (u:Value),BindsTo s fd ⟨[u],[]⟩ [("_law_script",u)])/\∀base:Heap,(K w.params).In base->base.Ns mainGlobals mg->(∀ T ∈ [35],base.BuiltinsAt mg T)->di l.prog w (K w.params) mg base (pK l.prog w) 33 fa fd ["_law_script"] (tZ (K w.params))):
  PySem.W.WalkO q loose XP YP l.row.toRowW d [] (fun f vs=>PySem.call f vs):=
 xg (n:=63) (k:=33) (x:= "_law_script") (CX:=fun w=>pK l.prog w) (sp:=fun w=>tZ (K w.params)) ts hn (by decide) hdf ⟨rfl,by decide,by decide⟩ hY hno hcd (fun w mg fa h KX G hm=>let ⟨fd,b,f⟩:=F w mg fa h KX G hm;⟨fd,b,fun base kb nb B=>f base kb nb fun T hT=>B T (hts T hT)⟩)
  (fun _ H a ns hl hT hS=>⟨a,ns,rfl,hl,hS,fun t ht=>.inl (by
   unfold CS at ht;rw[Jo.mp ht];exact hT _ (hts _ (Jj))),fun _=>rfl⟩)
  fun w H s e s' z=>z
end K13
open PySem PySem.W PyProof.Rows
set_option maxRecDepth 100000 in
set_option maxHeartbeats 0 in
theorem PySem.Challenge.cw_swapward_k13_parts_walked_holds : PySem.Challenge.rw_swapward_k13_parts_walked.Holds := by
 w_on;o_law;k_head;(case hw=>w_witness2)
 k_fill
 refine K13.walk (l:=PySem.Challenge.rw_swapward_k13_parts_walked) rfl rfl (fun w h Y=>⟨PySem.W.km_in_of Y,PySem.W.km_tabs_of Y⟩) ?hts ?hno ?hcd ?F
 case hts=>decide
 case hno=>intro w;kernel_rfl
 case hcd=>
  intro w T hT
  rw[List.mem_singleton.mp hT]
  exact⟨39,by kernel_rfl⟩
 case F=>
  intro w mg fa h KX G hmg
  refine' K13.all_mk KX G hmg ?a1 ?l1 ?c1 ?k1 ?a2 ?l2 ?c2 ?k2 ?a3 ?l3 ?c3 ?k3 ?a4 ?l4 ?c4 ?k4 ?hd ?a5 ?l5 ?c5 ?k5 ?a6 ?l6 ?c6 ?k6 ?a7 ?l7 ?c7 ?k7 ?a8 ?l8 ?c8 ?k8 ?a9 ?l9 ?c9 ?k9 ?a10 ?l10 ?c10 ?k10 ?a11 ?l11 ?c11 ?k11 ?a12 ?l12 ?c12 ?k12 ?a13 ?l13 ?c13 ?k13 ?a14 ?l14 ?c14 ?k14 ?a15 ?l15 ?c15 ?k15 ?a16 ?l16 ?c16 ?k16 ?q0 ?q1 ?z0 ?z1 ?z2 ?z3 ?z4 ?z5 ?z6 ?z7 ?z8 ?z9 ?z10 ?z11 ?z12 ?z13 ?z14 ?z15 ?z16 ?z17 ?z18 ?z19
  (case a1=>k_is)
  (case l1=>k_is)
  (case c1=>k_is)
  (case k1=>k_is)
  (case a2=>k_is)
  (case l2=>k_is)
  (case c2=>k_is)
  (case k2=>k_is)
  (case a3=>k_is)
  (case l3=>k_is)
  (case c3=>k_is)
  (case k3=>k_is)
  (case a4=>k_is)
  (case l4=>k_is)
  (case c4=>k_is)
  (case k4=>k_is)
  (case hd=>kernel_rfl)
  (case a5=>k_is)
  (case l5=>k_is)
  (case c5=>k_is)
  (case k5=>k_is)
  (case a6=>k_is)
  (case l6=>k_is)
  (case c6=>k_is)
  (case k6=>k_is)
  (case a7=>k_is)
  (case l7=>k_is)
  (case c7=>k_is)
  (case k7=>k_is)
  (case a8=>k_is)
  (case l8=>k_is)
  (case c8=>k_is)
  (case k8=>k_is)
  (case a9=>k_is)
  (case l9=>k_is)
  (case c9=>k_is)
  (case k9=>k_is)
  (case a10=>k_is)
  (case l10=>k_is)
  (case c10=>k_is)
  (case k10=>k_is)
  (case a11=>k_is)
  (case l11=>k_is)
  (case c11=>k_is)
  (case k11=>k_is)
  (case a12=>k_is)
  (case l12=>k_is)
  (case c12=>k_is)
  (case k12=>k_is)
  (case a13=>k_is)
  (case l13=>k_is)
  (case c13=>k_is)
  (case k13=>k_is)
  (case a14=>k_is)
  (case l14=>k_is)
  (case c14=>k_is)
  (case k14=>k_is)
  (case a15=>k_is)
  (case l15=>k_is)
  (case c15=>k_is)
  (case k15=>k_is)
  (case a16=>k_is)
  (case l16=>k_is)
  (case c16=>k_is)
  (case k16=>k_is)
  (case q0=>k_is)
  (case q1=>k_is)
  (case z0=>k_is)
  (case z1=>k_is)
  (case z2=>k_is)
  (case z3=>k_is)
  (case z4=>k_is)
  (case z5=>k_is)
  (case z6=>k_is)
  (case z7=>k_is)
  (case z8=>k_is)
  (case z9=>k_is)
  (case z10=>k_is)
  (case z11=>k_is)
  (case z12=>k_is)
  (case z13=>k_is)
  (case z14=>k_is)
  (case z15=>k_is)
  (case z16=>k_is)
  (case z17=>k_is)
  (case z18=>k_is)
  (case z19=>k_is)
