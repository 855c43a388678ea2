import PyProof.Rows.All
import PyProof.StrBlock2
import PyProof.Rows.StrIntSpec
import KE.KItemsList
import KE.KDictLaws
import PyProof.SumWalkG
import KE.KRevIter
import PyProof.ListRange
import PyProof.Rows.SortWalk
import KE.KSortedM
import PyProof.Rows.SortStr
import KE.KIntText
import PyProof.Rows.ListMul
import PyProof.ReprHeadsTuple
import KE.KSortTup
import PyProof.Rows.SetFrom
import PyProof.WalkInts
import Wide.All
import OpenK.AllK
import Wide.FinOn
import Lean
import PyProof.EqAt
import PyProof.EqKinds
import PyProof.TupleCall
import PyProof.NeKinds
import PyProof.DictUpdate
import KE.KDictList
import KE.KEqDict
import PyProof.Draws
import PyProof.Rows.EnumRows
import PyProof.StationsW
import PyProof.ExcClass3
import PyProof.RulesAs
import PyProof.ExcBaseAll.ValueError
import PyProof.InstStoreFacts
import PyProof.ExcArgsOwn
import PyProof.NsDelKeeps
import KE.RegKIsAll
import PyProof.Rows.LoopZipPat
import PyProof.StrLawsRepr
import KE.KDictOf
import PyProof.WalksS
import PyProof.AttrMissHeap
import PySem.Challenge.RW_goaltrail_k64_rings_of_asking_end
set_option Elab.async false
set_option linter.all false
set_option maxRecDepth 100000
set_option genSizeOf false
set_option bootstrap.genMatcherCode false
set_option compiler.extract_closed false
open PySem.Str (ofString)
open PySem.PyData (keyHash)
open List (length_cons length_map length_nil)
section
open PySem PySem.Spec PyProof.Rows
def Za:=@List.getElem?_eq_getElem
def Zb:=@wpAny_bind
def Zc:=@List.mem_cons_of_mem
def Zd:=@List.mem_singleton
def Ze:=@List.mem_cons_self
def Zf:=@wpAny_pure
def Zg:=@List.mem_cons
def Zh:=@Heap.get?_push_of_some
def Zi:=@List.map_append
def Zj:=@List.size_toArray
def Zk:=@List.length_append
def Zl:=@Option.some.inj
def Zm:=@Nat.le_refl
def Zn:=@List.mem_of_getElem?
def Zo:=@Bool.false_ne_true
def Zp:=@Bool.false_xor
def Zq:=@Heap.lt_size
def Zr:=@List.mem_append
def Zs:=@decide_eq_false
def Zt:=@List.map_cons
def Zu:=@Heap.get?_push_size
def Zv:=@List.getElem?_map
def Zw:=@decide_eq_true
def Zx:=@List.getElem?_cons_zero
def Zy:=@List.getElem?_eq_some_iff
def Zz:=@PassesOwn.never
def Z1:=@List.mem_map
def Z2:=@Nat.ne_of_lt
def Z3:=@List.mem_append_right
def Z4:=@Nat.zero_le
def Z5:=@of_decide_eq_true
def Z6:=@List.getElem_mem
def Z7:=@F.plainAttrs_list
def Z8:=@List.length_singleton
def Z9:=@Option.some.injEq
def Yb:=@List.nodup_append
def Yc:=@Nat.lt_of_lt_of_le
def Yd:=@List.getD_eq_getElem?_getD
def Ye:=@Nat.le_trans
def Yg:=@wpAny_ite_split
def Yh:=@PySem.mem_of_lookup
def Yi:=@wpAny_holding
def Yj:=@List.reverse_cons
def Yk:=@List.not_mem_nil
def Yl:=@F.slot_list_append
def Ym:=@wpAny_specialOf
def Yn:=@List.nodup_cons
def Yo:=@F.type_list_append
def Yp:=@List.getElem?_cons_succ
def Yq:=@wpAny_call_entry
def Yr:=@List.take_length
def Ys:=@List.length_take
def Yt:=@PySem.boot_len
def Yu:=@List.sum_cons
def Yv:=@congrArg
def Yw:=@sizeLine_eq
def Yx:=@builtinLookup_eq_fast
def Yy:=@List.mem_append_left
def Yz:=@List.sum_append
def Y0:=@Paired.length
def Y1:=@Array.length_toList
def Y2:=@List.mem_range
def Y3:=@Nat.lt_irrefl
def Y4:=@List.find?_cons
def Y5:=@List.append_nil
def Y6:=@List.take_of_length_le
def Y7:=@beq_eq_false_iff_ne
def Y8:=@wpAny_truthy_bool
def Y9:=@List.append_assoc
def Xa:=@List.mem_iff_getElem?
def Xb:=@Heap.get?_update_self
def Xc:=@of_decide_eq_false
def Xd:=@Bool.and_eq_true
def Xe:=@wpAny_newObj_type
def Xf:=@isSubtype_type
def Xg:=@Option.map_eq_some_iff
def Xh:=@List.length_reverse
def Xi:=@typeLookup_type
def Xj:=@SeqAt.EqAt.same
def Xk:=@List.drop_eq_getElem_cons
def Xl:=@decide_eq_decide
def Xm:=@List.append_of_mem
def Xn:=@List.all_eq_true
def Xo:=@Bool.eq_iff_iff
def Xp:=@PyProof.Rows.callWith_type1
def Xq:=@Heap.get?_update_other
def Xr:=@List.any_cons
def Xs:=@List.lookup_cons
def Xu:=@List.cons_append
def Xv:=@or_false
def Xw:=@Bool.false_eq_true
def Xx:=@lookup_relabel_local
def Xy:=@Nat.lt_succ_of_lt
def Xz:=@List.replicate_succ
def X0:=@Heap.SameBut.update
def X1:=@wpAny_isInstance
def X2:=@W.kia_one
def X3:=@List.mem_flatMap
def X4:=@List.any_eq_true
def X5:=@wpAny_of_eq
def X6:=@tupleKind_room_in1
def X7:=@slot_dict_contains
def X8:=@F.slot_list_extend
def X9:=@wpAny_passesOwn
def Wa:=@List.nil_append
def Wb:=@List.take_append_drop
def Wc:=@Array.getElem?_toList
def We:=@List.take_add_one
def Wf:=@Array.getD_eq_getD_getElem?
def Wg:=@wpAny_rule
def Wh:=@Nat.le_succ
def Wi:=@List.mem_of_mem_take
def Wj:=@Around.under_plainId
def Wk:=@wpAny_pyHash_int
def Wl:=@Nat.lt_succ_self
def Wm:=@List.map_map
def Wn:=@List.getElem_map
def Wo:=@List.getElem?_append_left
def Wp:=@Array.getElem?_eq_getElem
def Wq:=@strLen_append
def Wr:=@codeAny_builtin
def Ws:=@F.slot_list_pop
def Wt:=@SeqAt.EqAt.str_str
def Wu:=@SeqAt.EqAt.int_int
def Wv:=@List.map_singleton
def Ww:=@List.find?_eq_none
def Wx:=@F.plain_set_update_loop
def Wy:=@Option.map_eq_none_iff
def Wz:=@Heap.size_push
def W0:=@List.getElem?_eq_none
def W3:=@wpAny_pyHash_str
def W4:=@wpAny_mono
def W5:=@wpAny_askSetting
def W6:=@List.length_drop
def W7:=@wpAny_attempt
def W8:=@plainId_quiet
def W9:=@List.all_cons
def Va:=@wpAny_field
def Vb:=@if_false
def Vc:=@Obj.data_mapDictKeys
def Vd:=@Bool.and_eq_true_iff
def Ve:=@wpAny_execs_nil
def Vf:=@Int.emod_nonneg
def Vg:=@F.type_list_pop
def Vh:=@codeAny_mono
def Vi:=@wpAny_Call_Name_kw
def Vj:=@joinParts_cons
def Vk:=@call_meets
def Vl:=@SeqAt.EqAt.str_int
def Vm:=@SeqAt.EqAt.of_refs
def Vn:=@SeqAt.EqAt.int_str
def Vo:=@Obj.data_mapFields
def Vp:=@List.nodup_iff_pairwise_ne
def Vq:=@F.type_list_extend
def Vr:=@Calls.spliced_cons
def Vs:=@wpAny_pyIter_list
def Vt:=@eqIsQuiet_byValue
def Vu:=@atKey_none_of_get
def Vv:=@List.flatten_cons
def Vw:=@Calls.spliced_nil
def Vx:=@wpAny_comprehension_free
def Vy:=@Bool.true_and
def Vz:=@beq_builtin_none
def V0:=@beq_iff_eq
def V1:=@Nat.succ.inj
def V2:=@List.getElem?_set_self
def V3:=@Calls.callWith_builtin
def V4:=@wpAny_updateSeq
def V5:=@Nat.min_eq_left
def V6:=@List.getElem?_toArray
def V7:=@Sum.inr.inj
def V8:=@List.take_zero
def V9:=@List.getElem?_set_ne
def Ua:=@FormattedValue_plain
def Ub:=@boot_list
def Uc:=@List.filterMap_cons
def Ud:=@wpAny_standAt
def Ue:=@List.map_drop
def Ug:=@slot_tuple_getitem
def Uh:=@List.sum_singleton
def Ui:=@List.set_cons_succ
def Uj:=@Int.emod_lt_of_pos
def Uk:=@Calls.Constant_str
def Ul:=@Array.forIn_toList
def Um:=@wpAny_setState_of
def Uo:=@wpAny_pyIter_slot
def Up:=@wpAny_assign_Name
def Uq:=@eq_false
def Ur:=@decide_eq_true_eq
def Us:=@SeqAt.RcAt.tuples
def Ut:=@Option.isSome_map
def Uu:=@Nat.zero_add
def Uv:=@Nat.le_of_lt
def Uw:=@List.map_nil
def Ux:=@Int.zero_add
def Uy:=@wpAny_forIn_list
def Uz:=@wpAny_Dict_empty
def U0:=@entryFor_of_tree
def U4:=@beq_self_eq_true
def U5:=@List.mem_reverse
def U6:=@List.getElem_inj
def U7:=@storedH_new
def U8:=@boot_isinstance
def U9:=@List.range_succ
def Ta:=@List.of_mem_zip
def Tb:=@List.cons.injEq
def Tc:=@F.slot_dict_get
def Td:=@wpAny_setField
def Te:=@entryFor_alias
def Tf:=@boot_int
def Tg:=@List.getElem?_append_right
def Th:=@Calls.Name_function_global
def Ti:=@Bool.and_false
def Tj:=@Array.getElem?_eq_some_iff
def Tl:=@List.mem_or_eq_of_mem_set
def Tn:=@List.mem_of_find?_eq_some
def To:=@W.plainGet_of
def Tp:=@Nat.add_assoc
def Tq:=@List.map_take
def Tr:=@List.getElem?_take_of_lt
def Ts:=@List.cons.inj
def Tt:=@Bool.false_or
def Tu:=@List.getElem?_replicate
def Tv:=@List.filter_cons_of_pos
def Tw:=@List.filter_cons_of_neg
def Tx:=@F.entry_set_update_loop
def Tz:=@wpAny_pyNext_list_item
def T1:=@wpAny_pendingKey_other
def T3:=@subscriptTail_builtinR
def T4:=@codeAny_compStart_list
def T5:=@call_meetsIn
def T6:=@W.callWith_K
def T7:=@Nat.ne_of_gt
def T8:=@Nat.le_of_eq
def T9:=@List.range_succ_eq_map
def Sa:=@List.find?_cons_of_pos
def Sb:=@List.find?_cons_of_neg
def Sd:=@F.slot_dict_setdefault
def Se:=@wpAny_pyNext_list_end
def Sf:=@wpAny_notOrdered_dict
def Sg:=@formatField_int_small
def Sh:=@Obj.isFreed_of_fields
def Si:=@List.length_replicate
def Sj:=@wpAny_updateDictKeys
def Sk:=@wpAny_newFunctionEnv
def Sl:=@wpAny_loadName_local
def Sm:=@W.kitx_list
def Sn:=@Nat.mul_le_mul_right
def So:=@List.reverse_reverse
def Sr:=@List.replicate_succ'
def Ss:=@List.mem_of_mem_drop
def Su:=@F.args_list_extend_2
def Sv:=@Calls.evalArgs_plain
def Sw:=@wpAny_loadName_cell
def Sx:=@entry_dict_contains
def Sy:=@SeqAt.RcNeAt.tuples
def Sz:=@Obj.isFreed_of_dict
def S0:=@List.reverse_append
def S1:=@List.map_congr_left
def S2:=@List.getElem_of_mem
def S3:=@List.getElem?_range
def S4:=@Int.toNat_of_nonneg
def S5:=@F.slot_dict_getitem
def S6:=@F.plain_extend_loop
def S7:=@F.entry_list_extend
def S8:=@F.args_tuple_hash_1
def S9:=@wpAny_tupleItemsOf
def Ra:=@wpAny_setItem_heap
def Rb:=@wpAny_setField_rec
def Rc:=@wpAny_getItem_heap
def Re:=@wpAny_call
def Rf:=@wpAny_Name
def Rg:=@typeIs_int
def Rh:=@intKind_is
def Ri:=@decide_eq_true_iff
def Rj:=@args_dict_contains
def Rk:=@Subscript_
def Rm:=@Nat.lt_of_le_of_lt
def Rn:=@Nat.eq_zero_or_pos
def Ro:=@List.set_cons_zero
def Rp:=@List.mem_filterMap
def Rq:=@List.findIdx?_cons
def Rr:=@F.slot_list_insert
def Rt:=@F.entry_tuple_hash
def Ru:=@F.args_tuple_add_2
end
abbrev FG:=PySem.W.Frag
noncomputable section
theorem qk{p:Prop}[Decidable p](h:decide p=true:=by decide +kernel):p:=of_decide_eq_true h
theorem qo{p:Prop}(h:p:=by omega):p:=h
theorem qd{p:Prop}(h:p:=by decide):p:=h
theorem qz{p:Prop}(h:p:=by simp):p:=h
theorem qn{p:Prop}(h:p:=by exact⟨rfl,rfl,rfl,qk,rfl,qk,qk⟩):p:=h
namespace L2
open PySem PySem.Spec PyProof.Rows
abbrev Key:=Sum Int Str
def b4z:Key->Value->Bool
 | .inl k,v=>Value.isInt k v
 | .inr x,v=>Value.isStrOf x v
def keyH(w:World):Key->Int
 | .inl k=>hashInt k
 | .inr x=>hashStr w x
theorem a2s:∀{k:Key}{v:Value},b4z k v=true->(∃i t,k=Sum.inl i/\v=Value.int i t)\/(∃x t,k=Sum.inr x/\v=Value.str x t)
 | .inl i,v,h=>by
  obtain⟨t,e⟩:=Value.isInt_shape (k:=i) (v:=v) h;exact .inl ⟨i,t,rfl,e⟩
 | .inr x,v,h=>by
  obtain⟨t,e⟩:=Value.isStrOf_shape (x:=x) (v:=v) h;exact .inr ⟨x,t,rfl,e⟩
theorem c8a(i:Int)(t:Tok):b4z (.inl i) (.int i t)=true:=by simp[b4z,Value.isInt]
theorem c8b(x:Str)(t:Tok):b4z (.inr x) (.str x t)=true:=by simp[b4z,Value.isStrOf]
theorem c8c(a b:Int):decide ((Sum.inl a:Key)=Sum.inl b)=(a==b):=by
 by_cases e:a=b
 ·subst e;simp
 ·have h:¬(Sum.inl a:Key)=Sum.inl b:=λq=>e (Sum.inl.inj q)
  rw[Zs h];exact(Y7.mpr e).symm
theorem c8d(a b:Str):decide ((Sum.inr a:Key)=Sum.inr b)=decide (a=b):=by
 by_cases e:a=b
 ·subst e;simp
 ·have h:¬(Sum.inr a:Key)=Sum.inr b:=λq=>e (V7 q)
  rw[Zs h,Zs e]
theorem c8e(a:Int)(b:Str):decide ((Sum.inl a:Key)=Sum.inr b)=false:=Zs (λq=>nomatch q)
theorem c8f(a:Str)(b:Int):decide ((Sum.inr a:Key)=Sum.inl b)=false:=Zs (λq=>nomatch q)
def a1r(prog:Program)(w:World):PySem.KeyKind prog w Key where
 is:=b4z
 hash:=keyH w
 inj:=λv a b ha hb=>by
  rcases a2s ha with⟨i,t,rfl,rfl⟩|⟨x,t,rfl,rfl⟩
  ·rcases a2s hb with⟨j,u,rfl,e⟩|⟨y,u,rfl,e⟩
   ·injection e with e1 _;rw[e1]
   ·exact nomatch e
  ·rcases a2s hb with⟨j,u,rfl,e⟩|⟨y,u,rfl,e⟩
   ·exact nomatch e
   ·injection e with e1 _;rw[e1]
 byValue:=λk v h=>by
  rcases a2s h with⟨i,t,rfl,rfl⟩|⟨x,t,rfl,rfl⟩<;>rfl
 pyHash:=λhv h=>by
  rcases a2s hv with⟨i,t,rfl,rfl⟩|⟨x,t,rfl,rfl⟩
  ·exact Wk h
  ·exact W3 h
 eqBool:=λhu hv h=>by
  rcases a2s hu with⟨i,t,rfl,rfl⟩|⟨x,t,rfl,rfl⟩
  ·rcases a2s hv with⟨j,u,rfl,rfl⟩|⟨y,u,rfl,rfl⟩
   ·rw[c8c]at h;exact wpAny_eqBool_int h
   ·rw[c8e]at h;exact Vn i t y u _ _ _ _ h
  ·rcases a2s hv with⟨j,u,rfl,rfl⟩|⟨y,u,rfl,rfl⟩
   ·rw[c8f]at h;exact Vl x t j u _ _ _ _ h
   ·rw[c8d]at h;exact wpAny_eqBool_str h
 «strs»:=λk x t v h=>by
  rcases a2s h with⟨i,u,rfl,e⟩|⟨y,u,rfl,e⟩
  ·exact nomatch e
  ·injection e with e1 _
   subst e1;cases v<;>rfl
theorem b0s(prog:Program)(w:World)(i:Int)(t:Tok):(a1r prog w).is (.inl i) (.int i t)=true:=c8a i t
theorem b0t(prog:Program)(w:World)(x:Str)(t:Tok):(a1r prog w).is (.inr x) (.str x t)=true:=c8b x t
inductive V where
 |non|bl(b:Bool)|int(i:Int)|str(x:Str)|byt(b:Array UInt8)|flt(b:UInt64)|ref(a:Addr)|ty(n:String)
 deriving DecidableEq
def RelV:V->Value->Prop
 | .non,u=>u=Value.none
 | .bl b,u=>u=Value.bool b
 | .int i,u=>∃t,u=Value.int i t
 | .str x,u=>∃t,u=Value.str x t
 | .byt b,u=>∃t,u=Value.bytes b t
 | .flt b,u=>∃t,u=Value.float b t
 | .ref a,u=>u=Value.ref a
 | .ty n,u=>u=Value.type n
abbrev Vals:List V->List Value->Prop:=Paired RelV
theorem Vals.length{xs:List V}{us:List Value}(r:Vals xs us):xs.length=us.length:=Y0 r
theorem Vals.get:∀{xs:List V}{us:List Value}{i:Nat}{x:V},Vals xs us->xs[i]? =some x->∃u,us[i]? =some u/\RelV x u
 |_,_,_,_,.nil,e=>by simp at e
 |_,_,0,_,.cons r _,e=>by simp at e;subst e;exact⟨_,rfl,r⟩
 |_,_,i+1,x,.cons _ t,e=>by
  obtain⟨u,h1,h2⟩:=Vals.get (i:=i) (x:=x) t (by simpa using e);exact⟨u,by simpa using h1,h2⟩
theorem Vals.append:∀{xs ys:List V}{us ws:List Value},Vals xs us->Vals ys ws->Vals (xs++ys) (us++ws)
 |_,_,_,_,.nil,s=>s
 |_,_,_,_,.cons r t,s=>.cons r (Vals.append t s)
theorem Vals.take:∀{xs:List V}{us:List Value}(n:Nat),Vals xs us->Vals (xs.take n) (us.take n)
 |_,_,0,_=>.nil
 |_,_,_+1,.nil=>.nil
 |_,_,n+1,.cons r t=>.cons r (Vals.take n t)
theorem Vals.drop:∀{xs:List V}{us:List Value}(n:Nat),Vals xs us->Vals (xs.drop n) (us.drop n)
 |_,_,0,r=>r
 |_,_,_+1,.nil=>.nil
 |_,_,n+1,.cons _ t=>Vals.drop n t
def RelO:Option V->Option Value->Prop
 |some v,some u=>RelV v u
 |none,none=>True
 |_,_=>False
def KV{κ:Type}:List (κ×V)->List (κ×Value)->Prop:=Paired λ(p:κ×V) (q:κ×Value)=>p.1=q.1/\RelV p.2 q.2
def kV:Key->V
 | .inl i=>.int i
 | .inr x=>.str x
inductive HO where
 |lst(xs:List V)
 |tup(xs:List V)
 |dK(kvs:List (Key×V))|dT(kvs:List (List Key×V))
 |set(S:Int->Bool)(n:Nat)
 |ins(C dx:Addr)(fs:List (Str×V))
 |own(x:Addr)
 |xd(fs:List (Str×V))
 |met(f x:Addr)
 |rng(lo hi:Int)
 |frz(o:Obj)(u:HO)
 |tbl(ps:Array Value)
 |ext(φ:Heap->Prop)
abbrev Hp:=Addr->Option HO
def upd(H:Hp)(a:Addr)(o:HO):Hp:=λb=>if b=a then some o else H b
theorem a0c{H:Hp}{a:Addr}{o:HO}:upd H a o a=some o:=by unfold upd;rw[if_pos rfl]
theorem a0d{H:Hp}{a b:Addr}{o:HO}(h:b≠a):upd H a o b=H b:=by unfold upd;rw[if_neg h]
theorem a7d{H:Hp}{a:Addr}{o u:HO}:upd (upd H a o) a u=upd H a u:=by
 funext b;unfold upd;split<;>rfl
theorem a0z{H:Hp}{a b:Addr}{o u:HO}(h:H a=some o)(h':H b=some u)(d:o≠u):a≠b:=by
 intro e;subst e;rw[h]at h';exact d (Zl h')
theorem a0p{H:Hp}{a b:Addr}{o:HO}(h:H a=some o)(h':H b=none):a≠b:=by
 intro e;subst e;rw[h]at h';cases h'
section
variable(P:Program)(w:World)
def a1v(H:Hp)(h:Heap)(a:Addr):HO->Prop
 | .lst xs=>xs.length<=sizeLine/\∃(its:List Value)(n:Nat),Vals xs its/\h.get? a=some { cls:=.type "list",data:=.seq its.toArray n}
 | .tup xs=>xs.length<=sizeLine/\∃its:List Value,Vals xs its/\IsTup h a its.toArray
 | .dK kvs=>kvs.length<=sizeLine/\(a==sysModules)=false/\∃vs,KV kvs vs/\h.DictOf (a1r P w) a vs
 | .dT kvs=>kvs.length<=sizeLine/\(a==sysModules)=false/\∃xs:List (List Key×Addr×Value),
   Paired (λ(p:List Key×V) (q:List Key×Addr×Value)=>p.1=q.1/\H q.2.1=some (.tup (p.1.map kV))/\RelV p.2 q.2.2) kvs xs/\
   ∃o es ep,h.get? a=some o/\o.ExactDict/\o.data=.dict es ep/\es.toList=xs.map (entryOfKey (tupleKind (a1r P w)))/\(xs.map (·.1)).Nodup
 | .set S n=>h.SetOf (intKind P w) a S n
 | .ins C dx fs=>H dx=some (.own a)/\fs.length<=1000/\dx≠a/\h.get? a=some (W.instObj C dx)/\
   ∃mA,h.Ns1 dx mA/\(∀f,RelO (fs.lookup f) (mA f))/\PySem.Within mA (fs.map (·.1))
 | .own _=>∃o,h.get? a=some o
 | .xd fs=>∃mA,h.Ns1 a mA/\∀f,RelO (fs.lookup f) (mA f)
 | .rng lo hi=>∃t u v,h.get? a=some { cls:=.type "range",data:=.fields #[.int lo t,.int hi u,.int 1 v]}
 | .frz o u=>h.get? a=some o/\a1v H h a u
 | .tbl ps=>h.get? a=some { cls:=.none,data:=.fields ps}
 | .met f x=>h.get? a=some (W.methodObj (.ref f) (.ref x))
 | .ext φ=>φ h/\(∃o,h.get? a=some o)/\∀h1 h2:Heap,φ h1->(∀o,h1.get? a=some o->h2.get? a=some o)->φ h2
def HOk(H:Hp)(h:Heap):Prop:=∀a o,H a=some o->a1v P w H h a o
end
section
variable{P:Program}{w:World}{H H':Hp}{h h':Heap}{a:Addr}{o:HO}
theorem a1v.lt(x:a1v P w H h a o):a<h.objs.size:=by
 cases o with
 |lst xs=>obtain⟨_,_,_,_,e⟩:=x;exact Zq e
 |tup xs=>obtain⟨_,_,_,p⟩:=x;exact p.lt
 |dK kvs=>obtain⟨_,_,_,_,o,_,_,e,_⟩:=x;exact Zq e
 |dT kvs=>obtain⟨_,_,_,_,o,_,_,e,_⟩:=x;exact Zq e
 |set S n=>obtain⟨o,_,_,_,e,_⟩:=x;exact Zq e
 |ins C dx fs=>obtain⟨_,_,_,e,_⟩:=x;exact Zq e
 |own y=>obtain⟨_,e⟩:=x;exact Zq e
 |xd fs=>obtain⟨_,⟨_,_,_,e,_⟩,_⟩:=x;exact Zq e
 |rng lo hi=>obtain⟨_,_,_,e⟩:=x;exact Zq e
 |frz ob u=>obtain⟨e,_⟩:=x;exact Zq e
 |tbl ps=>exact Zq (show h.get? a=some _ from x)
 |met f y=>exact Zq (show h.get? a=some _ from x)
 |ext φ=>obtain⟨_,⟨_,e⟩,_⟩:=x;exact Zq e
theorem Paired.mapP{α β:Type}{F G:α->β->Prop}:∀{l₁:List α}{l₂:List β},Paired F l₁ l₂->(∀a b,F a b->G a b)->Paired G l₁ l₂
 |_,_,.nil,_=>.nil
 |_,_,.cons r t,f=>.cons (f _ _ r) (Paired.mapP t f)
theorem a1v.stay(x:a1v P w H h a o)(k:∀b u,(b=a\/H b=some (.own a))->h.get? b=some u->h'.get? b=some u)
  (ho:∀b,H b=some (.own a)->H' b=some (.own a))(ht:∀b xs,H b=some (.tup xs)->H' b=some (.tup xs)):a1v P w H' h' a o:=by
 induction o with
 |lst xs=>obtain⟨z,its,n,r,e⟩:=x;exact⟨z,its,n,r,k _ _ (.inl rfl) e⟩
 |tup xs=>obtain⟨z,its,r,ob,e,c⟩:=x;exact⟨z,its,r,ob,k _ _ (.inl rfl) e,c⟩
 |dK kvs=>obtain⟨z,y,vs,r,ob,es,ep,e,c⟩:=x;exact⟨z,y,vs,r,ob,es,ep,k _ _ (.inl rfl) e,c⟩
 |dT kvs=>
  obtain⟨z,y,xs,r,ob,es,ep,e,c⟩:=x;exact⟨z,y,xs,Paired.mapP r λp q z=>⟨z.1,ht _ _ z.2.1,z.2.2⟩,ob,es,ep,k _ _ (.inl rfl) e,c⟩
 |set S n=>obtain⟨ob,es,ep,t,e,c⟩:=x;exact⟨ob,es,ep,t,k _ _ (.inl rfl) e,c⟩
 |ins C dx fs=>
  obtain⟨d,z,ne,e,mA,⟨od,es,ep,e2,c⟩,r⟩:=x;exact⟨ho _ d,z,ne,k _ _ (.inl rfl) e,mA,⟨od,es,ep,k _ _ (.inr d) e2,c⟩,r⟩
 |own y=>obtain⟨ob,e⟩:=x;exact⟨ob,k _ _ (.inl rfl) e⟩
 |xd fs=>obtain⟨mA,⟨od,es,ep,e,c⟩,r⟩:=x;exact⟨mA,⟨od,es,ep,k _ _ (.inl rfl) e,c⟩,r⟩
 |rng lo hi=>obtain⟨t,u,v,e⟩:=x;exact⟨t,u,v,k _ _ (.inl rfl) e⟩
 |frz ob u ih=>obtain⟨e,q⟩:=x;exact⟨k _ _ (.inl rfl) e,ih q⟩
 |tbl ps=>
  have e:h.get? a=some { cls:=.none,data:=.fields ps}:=x
  show h'.get? a=some { cls:=.none,data:=.fields ps}
  exact k a _ (.inl rfl) e
 |met f y=>
  have e:h.get? a=some (W.methodObj (.ref f) (.ref y)):=x
  show h'.get? a=some (W.methodObj (.ref f) (.ref y))
  exact k a _ (.inl rfl) e
 |ext φ=>obtain⟨p,⟨o,e⟩,st⟩:=x;exact⟨st _ _ p λo q=>k _ _ (.inl rfl) q,⟨o,k _ _ (.inl rfl) e⟩,st⟩
theorem HOk.lt(x:HOk P w H h)(e:H a=some o):a<h.objs.size:=(x a o e).lt
theorem HOk.fresh(x:HOk P w H h)(e:h.objs.size<=a):H a=none:=by
 cases q:H a with
 |none=>rfl
 |some u=>exact absurd (Yc (x.lt q) e) (Y3 _)
theorem HOk.kept(x:HOk P w H h)(k:∀b u,h.get? b=some u->h'.get? b=some u):HOk P w H h':=λa o e=>
 (x a o e).stay (λb u _ q=>k b u q) (λ_ q=>q) λ_ _ q=>q
theorem HOk.laid(x:HOk P w H h)(k:∀b u,h.get? b=some u->h'.get? b=some u)(hp:h.objs.size<=a)(new:a1v P w (upd H a o) h' a o):HOk P w (upd H a o) h':=λb u e=>by
 have hn:=x.fresh hp
 by_cases hb:b=a
 ·subst hb;rw[a0c]at e;cases e;exact new
 ·rw[a0d hb]at e;exact(x b u e).stay (λc v _ q=>k c v q) (λc q=>by rw[a0d (a0p q hn)];exact q) λc xs q=>by rw[a0d (a0p q hn)];exact q
end
def Rd(H:Hp)(a:Addr)(u:HO):Prop:=H a=some u\/∃o,H a=some (.frz o u)
theorem Rd.ok{P:Program}{w:World}{H:Hp}{h:Heap}{a:Addr}{u:HO}(r:Rd H a u)(x:HOk P w H h):a1v P w H h a u:=by
 rcases r with r|⟨o,r⟩
 ·exact x a u r
 ·obtain⟨_,q⟩:=x a _ r;exact q
def Mut:Option HO->Prop
 |some (.lst _)=>True
 |some (.dK _)=>True
 |some (.dT _)=>True
 |some (.set _ _)=>True
 |some (.ins _ _ _)=>True
 |some (.ext _)=>True
 |_=>False
section
variable{P:Program}{w:World}{H:Hp}{h h':Heap}{x e:Addr}{o':HO}
theorem HOk.write(ok:HOk P w H h)(mu:Mut (H x))(he:e=x\/H e=some (.own x))(k:∀b u,b≠e->h.get? b=some u->h'.get? b=some u)(heo:∃u,h'.get? e=some u)
  (new:a1v P w (upd H x o') h' x o'):HOk P w (upd H x o') h':=λb u q=>by
 have nown:∀c y,H c=some (.own y)->c≠x:=λc y r z=>by subst z;rw[r]at mu;exact mu
 have ntup:∀c xs,H c=some (.tup xs)->c≠x:=λc xs r z=>by subst z;rw[r]at mu;exact mu
 by_cases hb:b=x
 ·subst hb;rw[a0c]at q;cases q;exact new
 ·rw[a0d hb]at q
  by_cases hbe:b=e
  ·have q':H b=some (.own x):=by
    rcases he with z|z
    ·exact absurd (hbe.trans z) hb
    ·rw[hbe];exact z
   rw[q]at q';cases q';obtain⟨v,hv⟩:=heo;exact⟨v,by rw[hbe];exact hv⟩
  ·refine(ok b u q).stay (λc v hc r=>k c v ?_ r) (λc r=>by rw[a0d (nown c b r)];exact r) λc xs r=>by rw[a0d (ntup c xs r)];exact r
   rcases hc with rfl|hc
   ·exact hbe
   ·rintro rfl
    rcases he with z|z
    ·exact nown c b hc z
    ·rw[hc]at z;cases z;exact hb rfl
end
structure Un(fs ex:List Addr)(H H':Hp)(h h':Heap):Prop where
 keep:∀b o,h.get? b=some o->H b=none->b∉fs->b∉ex->h'.get? b=some o
 slot:∀b o,h.get? b=some o->H b=none->b∈fs->b∉ex->∃sl,h'.get? b=some { o with slots:=sl}
 free:∀b o,h.get? b=some o->H b=none->b∉ex->H' b=none
 there:∀b o,h.get? b=some o->b∉ex->∃o',h'.get? b=some o'
 tups:∀b xs,H b=some (.tup xs)->H' b=some (.tup xs)
 frzs:∀b o u,H b=some (.frz o u)->H' b=some (.frz o u)
 tbls:∀b ps,H b=some (.tbl ps)->∃more,H' b=some (.tbl (ps++more))
section
variable{fs fs' ex ex':List Addr}{H H1 H2:Hp}{h h1 h2 h':Heap}{a x e:Addr}{o:HO}
theorem Un.any(u:Un fs ex H H1 h h1){b:Addr}{ob:Obj}(q:h.get? b=some ob)(n:H b=none)(hx:b∉ex):∃sl,h1.get? b=some { ob with slots:=sl}:=by
 by_cases hb:b∈fs
 ·exact u.slot b ob q n hb hx
 ·exact⟨ob.slots,u.keep b ob q n hb hx⟩
theorem Un.kept(k:∀b u,h.get? b=some u->h'.get? b=some u):Un fs ex H H h h':=
 ⟨λb ob q _ _ _=>k b ob q,λb ob q _ _ _=>⟨ob.slots,k b ob q⟩,λ_ _ _ n _=>n,λb ob q _=>⟨ob,k b ob q⟩,λ_ _ q=>q,λ_ _ _ q=>q,λ_ ps q=>⟨#[],by rw[q];simp⟩⟩
theorem Un.refl:Un fs ex H H h h:=Un.kept λ_ _ q=>q
theorem Un.laid(k:∀b u,h.get? b=some u->h'.get? b=some u)(hp:h.objs.size<=a)(hn:H a=none):Un fs ex H (upd H a o) h h' where
 keep:=λb u q _ _ _=>k b u q
 slot:=λb u q _ _ _=>⟨u.slots,k b u q⟩
 free:=λb u q n _=>by rw[a0d (Z2 (Yc (Zq q) hp))];exact n
 there:=λb u q _=>⟨u,k b u q⟩
 tups:=λb xs q=>by rw[a0d (a0p q hn)];exact q
 frzs:=λb u xs q=>by rw[a0d (a0p q hn)];exact q
 tbls:=λb ps q=>⟨#[],by rw[a0d (a0p q hn),q];simp⟩
theorem Un.write(mu:Mut (H x))(he:e=x\/H e=some (.own x))(k:∀b u,b≠e->h.get? b=some u->h'.get? b=some u)(heo:∃u,h'.get? e=some u):Un fs ex H (upd H x o) h h':=by
 have hx:∀b,H b=none->b≠x:=λb n z=>by subst z;rw[n]at mu;exact mu
 have hb:∀b,H b=none->b≠e:=λb n z=>by
  subst z;rcases he with r|r
  ·exact hx b n r
  ·rw[n]at r;cases r
 have hm:∀b u,H b=some u->¬Mut (some u)->b≠x:=λb u q nm z=>by subst z;rw[q]at mu;exact nm mu
 refine⟨λb u q n _ _=>k b u (hb b n) q,λb u q n _ _=>⟨u.slots,k b u (hb b n) q⟩,λb u q n _=>by rw[a0d (hx b n)];exact n,λb u q _=>?_,
  λb xs q=>by rw[a0d (hm b _ q λz=>z)];exact q,λb u xs q=>by rw[a0d (hm b _ q λz=>z)];exact q,λb ps q=>⟨#[],by rw[a0d (hm b _ q λz=>z),q];simp⟩⟩
 by_cases hbe:b=e
 ·subst hbe;exact heo
 ·exact⟨u,k b u hbe q⟩
end
def trk(h:Heap)(H:Hp):List Addr:=(List.range h.objs.size).filter λa=>(H a).isSome
def hidT(h:Heap)(H:Hp):Heap:=W.hideAll h (trk h H)
theorem c8g(h:Heap)(H:Hp):(hidT h H).objs.size=h.objs.size:=W.hideAll_size _ _
theorem d1r{h:Heap}{H:Hp}{b:Addr}{o:Obj}(e:h.get? b=some o)(n:H b=none):(hidT h H).get? b=some o:=
 W.hideAll_get _ e λhm=>by
  have q:(H b).isSome=true:=(List.mem_filter.mp hm).2;rw[n]at q;simp at q
theorem of_hidT{h:Heap}{H:Hp}{b:Addr}{o:Obj}(e:(hidT h H).get? b=some o):h.get? b=some o/\H b=none:=by
 have e':h.get? b=some o:=W.of_hideAll (trk h H) e;refine⟨e',?_⟩;cases q:H b with
 |none=>rfl
 |some x=>
  have hm:b∈trk h H:=List.mem_filter.mpr ⟨Y2.mpr (Zq e'),by simp[q]⟩;have z:(hidT h H).get? b=none:=W.hideAll_none (trk h H) hm;rw[z]at e;cases e
def allNews(g h:Heap)(L:Addr):List (Addr×Obj):=(List.range h.objs.size).filterMap λa=>if a=L\/(g.get? a).isSome=true then none else(h.get? a).map λo=>(a,o)
def rest(g h:Heap)(L d:Addr):List (Addr×Obj):=(allNews g h L).filter λp=>decide (p.1≠d)
structure Mod(K:W.Frag)(mg:Str->Option Value)(base:Heap):Prop where
 kin:K.In base
 glob:base.Ns mainGlobals mg
 blt:∃mb,base.Ns builtinsNs mb/\∀x:Str,x≠"__name__"->mb x=bootBuiltins x
 nolimit:base.NoLimit
structure Cx where
 prog:Program
 w:World
 K:W.Frag
 mg:Str->Option Value
 base:Heap
 A:Around
 N:List Str
 s₀:Shared
 H₀:Hp
 env:Env
 outer:List Env
 stack:List Env
 ex:List Addr
 fn:Str->Bool
 calm:Bool
 pn:List (Addr×Obj)
 xe:Value->Shared->Prop
def frs(l:List Env):List Addr:=l.filterMap (·.frame)
abbrev Cx.fs(X:Cx):List Addr:=frs X.outer
def Vis(sc:Scope)(x:Str):Prop:=sc.names.lookup x=some .local\/sc.names.lookup x=some .cell\/sc.names.lookup x=some .free
def Loc(sc:Scope)(x:Str):Prop:=sc.names.lookup x=some .local\/sc.names.lookup x=some .cell
def Look(env:Env)(h:Heap)(m:Str->Option Value)(x:Str)(u:Value):Prop:=
 (env.kindOf x=some .local/\m x=some u)\/((env.kindOf x=some .cell\/env.kindOf x=some .free)/\∃c,env.cells.lookup x=some c/\h.IsCell c (some u))
structure Cx.Ok(X:Cx):Prop where
 mod:Mod X.K X.mg X.base
 kind:X.env.scope.kind=.function
 glob:X.env.globals=mainGlobals
 blt:X.env.builtins=builtinsNs
 above:X.s₀.heap.objs.size<=X.env.locals
 inj:∀x y c,X.env.cells.lookup x=some c->X.env.cells.lookup y=some c->x=y
 has:∀x,(X.env.kindOf x=some .cell\/X.env.kindOf x=some .free)->∃c,X.env.cells.lookup x=some c
 cab:∀x c,X.fn x=true->X.env.cells.lookup x=some c->X.s₀.heap.objs.size<=c
 hd:X.calm=true->X.A.handled=none
 frames:X.A.frames=some X.stack
 stk:X.stack=X.outer\/(X.stack=X.env::X.outer/\X.env.frame=some X.env.locals)
 exf:∀b∈X.ex,b≠X.env.locals/\∀x c,X.env.cells.lookup x=some c->c≠b
 bs:∀b o,X.base.get? b=some o->X.s₀.heap.get? b=some o/\X.H₀ b=none
 bsz:X.base.objs.size<=X.s₀.heap.objs.size
 noex:∀b o,X.base.get? b=some o->b∉X.ex
 exfs:∀b∈X.ex,b∉X.fs
 funs:X.s₀.heap.FunFrames X.base X.outer
 frf:∀b∈X.fs,X.H₀ b=none
structure Inv(X:Cx)(pj:List (Addr×Obj))(σ:List (Option V))(H:Hp)(s:Shared):Prop where
 ok:X.Ok
 os:s.os=X.s₀.os
 bare:AllBare s.gens
 base:Un X.fs X.ex X.H₀ H X.s₀.heap s.heap
 loc:∃m,s.heap.Ns X.env.locals m/\∀(i:Nat)(x:Str)(v:V),X.N[i]? =some x->σ[i]? =some (some v)->Vis X.env.scope x->∃u,RelV v u/\Look X.env s.heap m x u
 cell:∀x c,X.env.cells.lookup x=some c->∃v,s.heap.IsCell c v
 free:H X.env.locals=none
 freeC:∀x c,X.env.cells.lookup x=some c->H c=none
 pin:∀p∈X.pn++pj,s.heap.get? p.1=some p.2/\H p.1=none/\p.1≠X.env.locals/\p.1∉X.fs/\∀v,p.2.data≠.cell v
 hok:HOk X.prog X.w H s.heap
 len:σ.length=X.N.length
section
variable{X:Cx}{pj:List (Addr×Obj)}{σ:List (Option V)}{H H':Hp}{s:Shared}{h':Heap}
theorem Cx.Ok.nofr(ok:X.Ok){b:Addr}{o:Obj}(e:X.base.get? b=some o):b∉X.fs:=λhb=>by
 have:=(ok.funs.mem hb).1;rw[e]at this;cases this
theorem Inv.bs(I:Inv X pj σ H s):∀b o,X.base.get? b=some o->s.heap.get? b=some o/\H b=none:=λb o e=>
 ⟨I.base.keep b o (I.ok.bs b o e).1 (I.ok.bs b o e).2 (I.ok.nofr e) (I.ok.noex b o e),I.base.free b o (I.ok.bs b o e).1 (I.ok.bs b o e).2 (I.ok.noex b o e)⟩
theorem Inv.bk(I:Inv X pj σ H s):∀b o,X.base.get? b=some o->s.heap.get? b=some o:=λb o e=>(I.bs b o e).1
theorem Inv.mod(I:Inv X pj σ H s):Mod X.K X.mg X.base:=I.ok.mod
theorem Inv.kIn(I:Inv X pj σ H s):X.K.In s.heap:=I.ok.mod.kin.keeps I.bk
theorem Inv.lt(I:Inv X pj σ H s):X.env.locals<s.heap.objs.size:=let⟨_,hn,_⟩:=I.loc;hn.lt
theorem Inv.sz(I:Inv X pj σ H s):X.s₀.heap.objs.size<=s.heap.objs.size:=Ye I.ok.above (Uv I.lt)
theorem Inv.nofs(I:Inv X pj σ H s){a:Addr}(h:s.heap.objs.size<=a):a∉X.fs:=λhb=>by
 obtain⟨_,o,ho,_⟩:=I.ok.funs.mem hb;exact absurd (Yc (Zq ho) (Ye I.sz h)) (Y3 _)
theorem Inv.cne(I:Inv X pj σ H s):∀x c,X.env.cells.lookup x=some c->c≠X.env.locals:=λx c e z=>by
 obtain⟨v,o,ho,hd⟩:=I.cell x c e;obtain⟨m,⟨o',es,ep,ho',hd',_⟩,_⟩:=I.loc;rw[z,ho']at ho;cases ho;rw[hd']at hd;cases hd
theorem Inv.funs(I:Inv X pj σ H s):s.heap.FunFrames X.base X.outer:=by
 have all:∀(l:List Env),(∀b∈frs l,b∈X.fs)->X.s₀.heap.FunFrames X.base l->s.heap.FunFrames X.base l:=by
  intro l
  induction l with
  |nil=>intro _ _;trivial
  |cons env r ih=>
   intro hs hl;obtain⟨hk,⟨L,o,hf,hn,ho,hd⟩,hr⟩:=hl;have hL:L∈X.fs:=hs L (by unfold frs;rw[Uc,hf];exact Ze);obtain⟨sl,e⟩:=I.base.slot L o ho (I.ok.frf L hL) hL λz=>I.ok.exfs L z hL
   exact⟨hk,⟨L,_,hf,hn,e,hd⟩,ih (λb hb=>hs b (by unfold frs;rw[Uc,hf];exact Zc _ hb)) hr⟩
 exact all X.outer (λ_ hb=>hb) I.ok.funs
theorem Inv.stack(I:Inv X pj σ H s):s.heap.FunFrames X.base X.stack:=by
 rcases I.ok.stk with e|⟨e,hf⟩
 ·rw[e];exact I.funs
 ·rw[e];obtain⟨m,hn,_⟩:=I.loc;refine .cons (by rw[I.ok.kind];decide) hf hn ?_ I.funs;exact Heap.get?_none_of_le (Ye I.ok.bsz I.ok.above)
theorem Inv.stkSub(I:Inv X pj σ H s):∀b∈frs X.stack,b∈X.env.locals::X.fs:=λb hb=>by
 rcases I.ok.stk with e|⟨e,hf⟩
 ·rw[e]at hb;exact Zc _ hb
 ·rw[e]at hb;unfold frs at hb;rw[Uc,hf]at hb;exact hb
theorem Inv.stkFree(I:Inv X pj σ H s):∀b∈frs X.stack,H b=none:=λb hb=>by
 rcases Zg.mp (I.stkSub b hb)with e|hb
 ·rw[e];exact I.free
 ·obtain⟨_,o,ho,_⟩:=I.ok.funs.mem hb;exact I.base.free b o ho (I.ok.frf b hb) λz=>I.ok.exfs b z hb
theorem Inv.step{g':Array GenState}{t':Nat}{d':Drawn}{ch:List Addr}(I:Inv X pj σ H s)
  (hch:∀b∈ch,(b∈X.ex\/X.s₀.heap.objs.size<=b)/\b≠X.env.locals/\(∀x c,X.env.cells.lookup x=some c->c≠b)/\∀p∈X.pn++pj,p.1≠b)
  (keep:∀b o,b≠X.env.locals->b∉X.fs->b∉ch->s.heap.get? b=some o->H b=none->h'.get? b=some o)
  (slot:∀b o,b≠X.env.locals->b∈X.fs->b∉ch->s.heap.get? b=some o->H b=none->∃sl,h'.get? b=some { o with slots:=sl})(free:∀b o,b∉ch->s.heap.get? b=some o->H b=none->H' b=none)
  (there:∀b o,b∉ch->s.heap.get? b=some o->∃o',h'.get? b=some o')
  (tups:∀b xs,H b=some (.tup xs)->H' b=some (.tup xs))(frzs:∀b o u,H b=some (.frz o u)->H' b=some (.frz o u))(tbls:∀b ps,H b=some (.tbl ps)->∃more,H' b=some (.tbl (ps++more)))
  (ns:∀m,s.heap.Ns X.env.locals m->h'.Ns X.env.locals m)(hok:HOk X.prog X.w H' h')(hg:AllBare g'):
  Inv X pj σ H' { s with heap:=h',gens:=g',drawn:=d',toks:=t'}:=by
 have neL:∀b o,X.s₀.heap.get? b=some o->b≠X.env.locals:=λb o e=>Z2 (Yc (Zq e) I.ok.above)
 have neC:∀b o,X.s₀.heap.get? b=some o->b∉X.ex->b∉ch:=λb o e hx hb=>by
  rcases(hch b hb).1 with z|z
  ·exact hx z
  ·exact absurd (Yc (Zq e) z) (Y3 _)
 have cellK:∀x c,X.env.cells.lookup x=some c->∀v,s.heap.IsCell c v->h'.IsCell c v:=λx c e v ⟨o,ho,hd⟩=>by
  have nch:c∉ch:=λz=>(hch c z).2.2.1 x c e rfl
  by_cases hc:c∈X.fs
  ·obtain⟨sl,q⟩:=slot c o (I.cne x c e) hc nch ho (I.freeC x c e);exact⟨_,q,hd⟩
  ·exact⟨o,keep c o (I.cne x c e) hc nch ho (I.freeC x c e),hd⟩
 refine⟨I.ok,I.os,hg,⟨λb o e n hb hx=>?_,λb o e n hb hx=>?_,λb o e n hx=>?_,λb o e hx=>?_,λb xs e=>tups b xs (I.base.tups b xs e),λb o xs e=>frzs b o xs (I.base.frzs b o xs e),λb ps e=>?_⟩,?_,λx c e=>?_,?_,λx c e=>?_,λp hp=>?_,hok,I.len⟩
 ·exact keep b o (neL b o e) hb (neC b o e hx) (I.base.keep b o e n hb hx) (I.base.free b o e n hx)
 ·obtain⟨sl,e1⟩:=I.base.slot b o e n hb hx;obtain⟨sl',e2⟩:=slot b _ (neL b o e) hb (neC b o e hx) e1 (I.base.free b o e n hx);exact⟨sl',e2⟩
 ·obtain⟨o',e1⟩:=I.base.there b o e hx;exact free b o' (neC b o e hx) e1 (I.base.free b o e n hx)
 ·obtain⟨o',e1⟩:=I.base.there b o e hx;exact there b o' (neC b o e hx) e1
 ·obtain⟨m1,e1⟩:=I.base.tbls b ps e;obtain⟨m2,e2⟩:=tbls b _ e1;exact⟨m1++m2,by rw[e2,Array.append_assoc]⟩
 ·obtain⟨m,hn,hl⟩:=I.loc;refine⟨m,ns m hn,λi x v e1 e2 e3=>?_⟩;obtain⟨u,r,l⟩:=hl i x v e1 e2 e3;refine⟨u,r,?_⟩;rcases l with l|⟨k,c,e,z⟩
  ·exact .inl l
  ·exact .inr ⟨k,c,e,cellK x c e _ z⟩
 ·obtain⟨v,z⟩:=I.cell x c e;exact⟨v,cellK x c e v z⟩
 ·obtain⟨m,⟨o,_,_,ho,_⟩,_⟩:=I.loc;exact free _ o (λz=>(hch _ z).2.1 rfl) ho I.free
 ·obtain⟨v,o,ho,hd⟩:=I.cell x c e;exact free c o (λz=>(hch c z).2.2.1 x c e rfl) ho (I.freeC x c e)
 ·obtain⟨e,n,ne,nf,d⟩:=I.pin p hp;have nch:p.1∉ch:=λz=>(hch p.1 z).2.2.2 p hp rfl
  exact⟨keep p.1 p.2 ne nf nch e n,free p.1 p.2 nch e n,ne,nf,d⟩
theorem Inv.un{t':Nat}(I:Inv X pj σ H s)(u:Un X.fs [] H H' s.heap h')(hok:HOk X.prog X.w H' h'):Inv X pj σ H' { s with heap:=h',toks:=t'}:=by
 obtain⟨m,⟨o,es,ep,ho,r⟩,_⟩:=id I.loc;obtain⟨sl,hL⟩:=u.any ho I.free qz
 exact I.step (g':=s.gens) (d':=s.drawn) (ch:=[]) (λ_ z=>nomatch z) (λb o _ hb _ e n=>u.keep b o e n hb qz) (λb o _ hb _ e n=>u.slot b o e n hb qz) (λb o _ e n=>u.free b o e n qz) (λb o _ e=>u.there b o e qz) u.tups u.frzs u.tbls (λm' hm=>by
  obtain⟨o',es',ep',ho',r'⟩:=hm;rw[ho]at ho';cases ho'
  exact⟨_,es',ep',hL,r'⟩) hok I.bare
theorem Inv.call{g':Array GenState}{t':Nat}{d':Drawn}{ch:List Addr}(I:Inv X pj σ H s)(u:Un (frs X.stack) ch H H' s.heap h')(hok:HOk X.prog X.w H' h')(hg:AllBare g')
  (hch:∀b∈ch,(b∈X.ex\/X.s₀.heap.objs.size<=b)/\b≠X.env.locals/\(∀x c,X.env.cells.lookup x=some c->c≠b)/\∀p∈X.pn++pj,p.1≠b):
  Inv X pj σ H' { s with heap:=h',gens:=g',drawn:=d',toks:=t'}:=by
 obtain⟨m,⟨o,es,ep,ho,r⟩,_⟩:=id I.loc;obtain⟨sl,hL⟩:=u.any ho I.free λz=>(hch _ z).2.1 rfl
 exact I.step (ch:=ch) hch (λb o hL hb hc e n=>u.keep b o e n (λz=>(Zg.mp (I.stkSub b z)).elim hL hb) hc) (λb o _ _ hc e n=>u.any e n hc) (λb o hc e n=>u.free b o e n hc) (λb o hc e=>u.there b o e hc) u.tups u.frzs u.tbls (λm' hm=>by
  obtain⟨o',es',ep',ho',r'⟩:=hm;rw[ho]at ho';cases ho'
  exact⟨_,es',ep',hL,r'⟩) hok hg
theorem Inv.turned{t':Nat}{it:Addr}(I:Inv X pj σ H s)(k:∀b o,b≠it->s.heap.get? b=some o->h'.get? b=some o)(hn:H it=none)(hL:it≠X.env.locals)
  (h1:it∈X.ex\/X.s₀.heap.objs.size<=it)(h2:∀x c,X.env.cells.lookup x=some c->c≠it)(h3:∀p∈X.pn++pj,p.1≠it):Inv X pj σ H { s with heap:=h',toks:=t'}:=by
 have nit:∀b u,H b=some u->b≠it:=λb u e z=>by rw[z,hn]at e;cases e
 refine I.step (g':=s.gens) (d':=s.drawn) (ch:=[it]) (λb hb=>?_) (λb o _ _ hc e _=>k b o (λz=>hc (by simp[z])) e) (λb o _ _ hc e _=>⟨o.slots,k b o (λz=>hc (by simp[z])) e⟩) (λ_ _ _ _ n=>n)
  (λb o hc e=>⟨o,k b o (λz=>hc (by simp[z])) e⟩) (λ_ _ e=>e) (λ_ _ _ e=>e) (λb ps e=>⟨#[],by rw[e];simp⟩) (λm hm=>?_) (λb u e=>?_) I.bare
 ·have e:b=it:=by simpa using hb
  subst e;exact⟨h1,hL,h2,h3⟩
 ·obtain⟨o,es,ep,ho,r⟩:=hm;exact⟨o,es,ep,k _ o (Ne.symm hL) ho,r⟩
 ·refine(I.hok b u e).stay (λc v hc q=>k c v ?_ q) (λ_ q=>q) λ_ _ q=>q
  rcases hc with z|z
  ·rw[z];exact nit b u e
  ·exact nit c _ z
theorem Inv.tok(I:Inv X pj σ H s)(t:Nat):Inv X pj σ H { s with toks:=t}:=I.un (h':=s.heap) (t':=t) Un.refl I.hok
theorem Inv.kept{t':Nat}(I:Inv X pj σ H s)(k:∀b u,s.heap.get? b=some u->h'.get? b=some u):Inv X pj σ H { s with heap:=h',toks:=t'}:=I.un (Un.kept k) (I.hok.kept k)
theorem Inv.laid{a:Addr}{o:HO}{t':Nat}(I:Inv X pj σ H s)(k:∀b u,s.heap.get? b=some u->h'.get? b=some u)(hp:s.heap.objs.size<=a)(new:a1v X.prog X.w (upd H a o) h' a o):
  Inv X pj σ (upd H a o) { s with heap:=h',toks:=t'}:=I.un (Un.laid k hp (I.hok.fresh hp)) (I.hok.laid k hp new)
theorem Inv.write{x e:Addr}{o:HO}{t':Nat}(I:Inv X pj σ H s)(mu:Mut (H x))(he:e=x\/H e=some (.own x))(k:∀b u,b≠e->s.heap.get? b=some u->h'.get? b=some u)(heo:∃u,h'.get? e=some u)
  (new:a1v X.prog X.w (upd H x o) h' x o):Inv X pj σ (upd H x o) { s with heap:=h',toks:=t'}:=I.un (Un.write mu he k heo) (I.hok.write mu he k heo new)
theorem Inv.pins_of{pins':List (Addr×Obj)}(I:Inv X pj σ H s)(h:∀p∈pins',s.heap.get? p.1=some p.2/\H p.1=none/\p.1≠X.env.locals/\p.1∉X.fs/\∀v,p.2.data≠.cell v):Inv X pins' σ H s:=
 ⟨I.ok,I.os,I.bare,I.base,I.loc,I.cell,I.free,I.freeC,λp hp=>(Zr.mp hp).elim (λz=>I.pin p (Yy _ z)) (h p),I.hok,I.len⟩
theorem c1z{N:List Str}(hN:N.Nodup){i j:Nat}{x:Str}(a:N[i]? =some x)(b:N[j]? =some x):i=j:=by
 obtain⟨h1,e1⟩:=Zy.mp a;obtain⟨h2,e2⟩:=Zy.mp b;exact(U6 hN).mp (e1.trans e2.symm)
theorem c0h{M:Model}{A:Around}{E:Value->Shared->Prop}{i:Nat}{x:Str}{v:V}{u:Value}{Q:Unit->Shared->Prop}(I:Inv X pj σ H s)(hN:X.N.Nodup)(hi:X.N[i]? =some x)(hx:Loc X.env.scope x)(r:RelV v u)
  (h:∀s',Inv X pj (σ.set i (some v)) H s'->(∃a,Heap.SameBut a s.heap s'.heap/\(a=X.env.locals\/X.env.cells.lookup x=some a))->Q () s')(hf:X.fn x=true\/X.env.scope.names.lookup x=some .local:=by first|exact .inl rfl|exact .inr rfl|assumption):wpAny M A (storeName X.env x u) Q E s:=by
 obtain⟨m,hn,hl⟩:=id I.loc;have hcls:(X.env.scope.kind==.class|| (X.env.scope.kind==.module&&X.env.locals !=X.env.globals))=false:=by rw[I.ok.kind];rfl
 have hiσ:i<σ.length:=by rw[I.len];exact(Zy.mp hi).1
 have cne:=I.cne;have tracked:∀{a:Addr}{h':Heap},(∃o,s.heap.get? a=some o/\H a=none)->Heap.SameBut a s.heap h'->HOk X.prog X.w H h':=λ{a h'} ha hs b ob e=>by
  obtain⟨_,_,hfree⟩:=ha;refine(I.hok b ob e).stay (λc w' hc q=>(hs.2 c ?_).trans q) (λ_ q=>q) λ_ _ q=>q
  rintro rfl
  rcases hc with rfl|hc
  ·rw[hfree]at e;cases e
  ·rw[hfree]at hc;cases hc
 rcases hx with hk|hk
 ·refine wpAny_storeName_local hk hn (λh' hn' hs=>?_) hcls;obtain⟨oL,_,_,hoL,_⟩:=id hn;refine h _ ⟨I.ok,I.os,I.bare,⟨λb o e n hb hx=>?_,λb o e n hb hx=>?_,I.base.free,λb o e hx=>?_,I.base.tups,I.base.frzs,I.base.tbls⟩,⟨_,hn',λj y v' e1 e2 e3=>?_⟩,λy c e=>?_,I.free,I.freeC,λp hp=>?_,tracked ⟨oL,hoL,I.free⟩ hs,by simpa using I.len⟩ ⟨_,hs,.inl rfl⟩
  ·exact(hs.2 b (Z2 (Yc (Zq e) I.ok.above))).trans (I.base.keep b o e n hb hx)
  ·obtain⟨sl,e1⟩:=I.base.slot b o e n hb hx;exact⟨sl,(hs.2 b (Z2 (Yc (Zq e) I.ok.above))).trans e1⟩
  ·obtain⟨o',e1⟩:=I.base.there b o e hx;exact⟨o',(hs.2 b (Z2 (Yc (Zq e) I.ok.above))).trans e1⟩
  ·by_cases hj:j=i
   ·subst hj;rw[hi]at e1;cases e1;rw[V2 hiσ]at e2;cases e2;exact⟨u,r,.inl ⟨hk,qz⟩⟩
   ·rw[V9 (Ne.symm hj)]at e2;obtain⟨u',r',q⟩:=hl j y v' e1 e2 e3;refine⟨u',r',?_⟩;rcases q with⟨k,e⟩|⟨k,c,e,z⟩
    ·refine .inl ⟨k,?_⟩;have:y≠x:=λe=>hj (c1z hN e1 (e▸hi))
     simp[this,e]
    ·exact .inr ⟨k,c,e,z.sameBut hs (cne y c e)⟩
  ·obtain⟨w',z⟩:=I.cell y c e;exact⟨w',z.sameBut hs (cne y c e)⟩
  ·obtain⟨e,n,ne,nf,d⟩:=I.pin p hp;exact⟨(hs.2 p.1 ne).trans e,n,ne,nf,d⟩
 ·have hfn:X.fn x=true:=by
   rcases hf with z|z
   ·exact z
   ·rw[z]at hk;cases hk
  obtain⟨c,hc⟩:=I.ok.has x (.inl hk);obtain⟨w',z⟩:=I.cell x c hc;refine wpAny_storeName_cell I.ok.kind hk hc z (λh' hc' hs=>?_);obtain⟨oc,hoc,hocd⟩:=id z;refine h { s with heap:=h'} ⟨I.ok,I.os,I.bare,⟨λb o e n hb hx=>?_,λb o e n hb hx=>?_,I.base.free,λb o e hx=>?_,I.base.tups,I.base.frzs,I.base.tbls⟩,⟨m,hn.sameBut hs (Ne.symm (cne x c hc)),λj y v' e1 e2 e3=>?_⟩,λy c' e=>?_,I.free,I.freeC,λp hp=>?_,tracked ⟨oc,hoc,I.freeC x c hc⟩ hs,by simpa using I.len⟩ ⟨c,hs,.inr hc⟩
  ·exact(hs.2 b (Z2 (Yc (Zq e) (I.ok.cab x c hfn hc)))).trans (I.base.keep b o e n hb hx)
  ·obtain⟨sl,e1⟩:=I.base.slot b o e n hb hx;exact⟨sl,(hs.2 b (Z2 (Yc (Zq e) (I.ok.cab x c hfn hc)))).trans e1⟩
  ·obtain⟨o',e1⟩:=I.base.there b o e hx;exact⟨o',(hs.2 b (Z2 (Yc (Zq e) (I.ok.cab x c hfn hc)))).trans e1⟩
  ·by_cases hj:j=i
   ·subst hj;rw[hi]at e1;cases e1;rw[V2 hiσ]at e2;cases e2;exact⟨u,r,.inr ⟨.inl hk,c,hc,hc'⟩⟩
   ·rw[V9 (Ne.symm hj)]at e2;obtain⟨u',r',q⟩:=hl j y v' e1 e2 e3;refine⟨u',r',?_⟩;rcases q with q|⟨k,c',e,z'⟩
    ·exact .inl q
    ·refine .inr ⟨k,c',e,z'.sameBut hs ?_⟩
     rintro rfl
     exact hj (c1z hN e1 (I.ok.inj _ _ _ e hc▸hi))
  ·by_cases hcc:c'=c
   ·subst hcc;exact⟨_,hc'⟩
   ·obtain⟨w2,z2⟩:=I.cell y c' e;exact⟨w2,z2.sameBut hs hcc⟩
  ·obtain⟨e,n,ne,nf,d⟩:=I.pin p hp;refine⟨(hs.2 p.1 ?_).trans e,n,ne,nf,d⟩;intro q;rw[q,hoc]at e;have q':oc=p.2:=Zl e;exact d w' (by rw[<-q'];exact hocd)
theorem b2b{M:Model}{A:Around}{E:Value->Shared->Prop}{i:Nat}{x:Str}{v:V}{u:Value}{Q:Unit->Shared->Prop}(I:Inv X pj σ H s)(hN:X.N.Nodup)(hi:X.N[i]? =some x)(hx:Loc X.env.scope x)(r:RelV v u)
  (h:∀s',Inv X pj (σ.set i (some v)) H s'->Q () s')(hf:X.fn x=true\/X.env.scope.names.lookup x=some .local:=by first|exact .inl rfl|exact .inr rfl|assumption):wpAny M A (storeName X.env x u) Q E s:=
 c0h I hN hi hx r (λs' I' _=>h s' I') hf
theorem Inv.call'{s':Shared}{ch:List Addr}(I:Inv X pj σ H s)(ho:s'.os=s.os)(u:Un (frs X.stack) ch H H' s.heap s'.heap)(hok:HOk X.prog X.w H' s'.heap)(hg:AllBare s'.gens)
  (hch:∀b∈ch,(b∈X.ex\/X.s₀.heap.objs.size<=b)/\b≠X.env.locals/\(∀x c,X.env.cells.lookup x=some c->c≠b)/\∀p∈X.pn++pj,p.1≠b):Inv X pj σ H' s':=by
 obtain⟨h',g',d',t',o'⟩:=s';have e:o'=s.os:=ho;subst e;exact I.call (g':=g') (t':=t') (d':=d') u hok hg hch
end
abbrev XK:=Value->Option Addr->Hp->Prop
abbrev St:=List (Option V)
abbrev VK:=V->Hp->Prop
abbrev TE:=St->Hp->VK->Prop
abbrev TT:=St->Hp->(Bool->Hp->Prop)->Prop
abbrev TA:=St->Hp->(List V->Hp->Prop)->Prop
structure Ends where
 nx:St->Hp->Prop
 rt:VK
 bk:St->Hp->Prop:=λ_ _=>False
 ct:St->Hp->Prop:=λ_ _=>False
abbrev TS:=Ends->St->Hp->Prop
def EP(X:Cx)(pj:List (Addr×Obj))(σ:St)(Q:VK)(u:Value)(s':Shared):Prop:=∃v H',Inv X pj σ H' s'/\RelV v u/\Q v H'
def TP(X:Cx)(pj:List (Addr×Obj))(σ:St)(Q:Bool->Hp->Prop)(b:Bool)(s':Shared):Prop:=∃H',Inv X pj σ H' s'/\Q b H'
def AP(X:Cx)(pj:List (Addr×Obj))(σ:St)(Q:List V->Hp->Prop)(us:List Value)(s':Shared):Prop:=∃vs H',Inv X pj σ H' s'/\Vals vs us/\Q vs H'
def SP(X:Cx)(pj:List (Addr×Obj))(D:Ends)(f:Flow)(s':Shared):Prop:=
 match f with
 | .next=>∃σ' H',Inv X pj σ' H' s'/\D.nx σ' H'
 | .brk=>∃σ' H',Inv X pj σ' H' s'/\D.bk σ' H'
 | .cont=>∃σ' H',Inv X pj σ' H' s'/\D.ct σ' H'
 | .ret u=>∃v σ' H',Inv X pj σ' H' s'/\RelV v u/\D.rt v H'
def PE(X:Cx)(e:Expr)(t:TE):Prop:=
 ∀(pj:List (Addr×Obj))(s:Shared)(σ:St)(H:Hp)(Q:VK),Inv X pj σ H s->t σ H Q->wpAny (model X.prog X.w) X.A (eval e X.env) (EP X pj σ Q) X.xe s
def PT(X:Cx)(e:Expr)(t:TT):Prop:=
 ∀(pj:List (Addr×Obj))(s:Shared)(σ:St)(H:Hp)(Q:Bool->Hp->Prop),Inv X pj σ H s->t σ H Q->wpAny (model X.prog X.w) X.A (isTrue e X.env (eval e X.env)) (TP X pj σ Q) X.xe s
def PW(X:Cx)(e:Expr)(t:TT):Prop:=
 ∀(whole:Sem Value)(pj:List (Addr×Obj))(s:Shared)(σ:St)(H:Hp)(Q:Bool->Hp->Prop),Inv X pj σ H s->t σ H Q->wpAny (model X.prog X.w) X.A (isTrue e X.env whole) (TP X pj σ Q) X.xe s
theorem PW.pt{X:Cx}{e:Expr}{t:TT}(h:PW X e t):PT X e t:=h _
def PA(X:Cx)(es:List Expr)(t:TA):Prop:=
 ∀(pos:Pos)(pj:List (Addr×Obj))(s:Shared)(σ:St)(H:Hp)(Q:List V->Hp->Prop),Inv X pj σ H s->t σ H Q->wpAny (model X.prog X.w) X.A (spliced (backTo pos (starEach es X.env))) (AP X pj σ Q) X.xe s
def PS(X:Cx)(st:Stmt)(t:TS):Prop:=
 ∀(pj:List (Addr×Obj))(s:Shared)(σ:St)(H:Hp)(D:Ends),Inv X pj σ H s->t D σ H->wpAny (model X.prog X.w) X.A (exec st X.env) (SP X pj D) X.xe s
def PSs(X:Cx)(st:List Stmt)(t:TS):Prop:=
 ∀(pj:List (Addr×Obj))(s:Shared)(σ:St)(H:Hp)(D:Ends),Inv X pj σ H s->t D σ H->wpAny (model X.prog X.w) X.A (execs st X.env) (SP X pj D) X.xe s
theorem thn{α:Type}{t:Sem α}{Q Q':α->Shared->Prop}{M:Model}{A:Around}{E:Value->Shared->Prop}{s:Shared}(h:wpAny M A t Q E s)(hQ:∀a s,Q a s->Q' a s):wpAny M A t Q' E s:=W4 h hQ λ_ _ x=>x
section
variable{X:Cx}
def tVar(i:Nat):TE:=λσ H Q=>∃v,σ[i]? =some (some v)/\Q v H
def tC(v:V):TE:=λ_ H Q=>Q v H
theorem pe_var{i:Nat}{x:Str}{pos:Pos}(hN:X.N[i]? =some x)(hv:Vis X.env.scope x)(hd:(x==("__debug__":Str))=false:=by decide)(hcd:(x==("__classdict__":Str))=false:=by decide):PE X (.Name x pos) (tVar i):=by
 intro pj s σ H Q I h;obtain⟨v,e,h⟩:=h;obtain⟨m,hn,hl⟩:=I.loc;obtain⟨u,r,l⟩:=hl i x v hN e hv;have fin:EP X pj σ Q u s:=⟨v,H,I,r,h⟩;rcases l with⟨hk,hm⟩|⟨hk,c,hc,hcell⟩
 ·exact Rf (Sl I.ok.kind hk hn hm fin) hd
 ·rcases hk with hk|hk
  ·exact Rf (Sw I.ok.kind hk hc hcell fin) hd
  ·exact Rf (wpAny_loadName_free I.ok.kind hk hc hcell fin hcd) hd
theorem a0f{i j pos}:PE X (.Constant (.int i) j pos) (tC (.int i)):=λ_ _ _ H _ I h=>wpAny_Constant_int ⟨.int i,H,I.tok _,⟨_,rfl⟩,h⟩
theorem a4d{b j pos}:PE X (.Constant (.bool b) j pos) (tC (.bl b)):=λ_ _ _ H _ I h=>Constant_bool ⟨.bl b,H,I,rfl,h⟩
theorem a9s{j pos}:PE X (.Constant .none j pos) (tC .non):=λ_ _ _ H _ I h=>Constant_none ⟨.non,H,I,rfl,h⟩
theorem a0t{x j pos}:PE X (.Constant (.str x) j pos) (tC (.str x)):=λ_ _ _ H _ I h=>Uk ⟨.str x,H,I.tok _,⟨_,rfl⟩,h⟩
def Gl(X:Cx)(x:Str):Prop:=X.env.kindOf x=some .globalImplicit
theorem b9e{E:Value->Shared->Prop}{pj:List (Addr×Obj)}{s:Shared}{σ:St}{H:Hp}{x:Str}{u:Value}{pos:Pos}{Q:Value->Shared->Prop}(I:Inv X pj σ H s)(hg:Gl X x)(hm:X.mg x=some u)(h:Q u s)
  (hd:(x==("__debug__":Str))=false:=by decide):wpAny (model X.prog X.w) X.A (eval (.Name x pos) X.env) Q E s:=
 Th I.ok.kind hg (Calls.loadGlobal_global (by rw[I.ok.glob];exact I.mod.glob.keeps I.bk) hm h) hd
theorem a9t{E:Value->Shared->Prop}{pj:List (Addr×Obj)}{s:Shared}{σ:St}{H:Hp}{x:Str}{u:Value}{pos:Pos}{Q:Value->Shared->Prop}(I:Inv X pj σ H s)(hg:Gl X x)(hm:X.mg x=none)(hv:bootBuiltins x=some u)(h:Q u s)
  (hn:x≠"__name__":=by decide)(hd:(x==("__debug__":Str))=false:=by decide):wpAny (model X.prog X.w) X.A (eval (.Name x pos) X.env) Q E s:=by
 obtain⟨mb,h1,h2⟩:=I.mod.blt;exact Th I.ok.kind hg (Calls.loadGlobal_builtin (by rw[I.ok.glob];exact I.mod.glob.keeps I.bk) hm (by rw[I.ok.blt];exact h1.keeps I.bk) ((h2 x hn).trans hv) h) hd
theorem c5p{x:Str}{v:V}{u:Value}{pos:Pos}(hg:Gl X x)(hm:X.mg x=some u)(r:RelV v u)(hd:(x==("__debug__":Str))=false:=by decide):PE X (.Name x pos) (tC v):=
 λ_ _ _ H _ I h=>b9e I hg hm ⟨v,H,I,r,h⟩ hd
theorem pe_bltn{x:Str}{v:V}{u:Value}{pos:Pos}(hg:Gl X x)(hm:X.mg x=none)(hv:bootBuiltins x=some u)(r:RelV v u)(hn:x≠"__name__":=by decide)(hd:(x==("__debug__":Str))=false:=by decide):PE X (.Name x pos) (tC v):=
 λ_ _ _ H _ I h=>a9t I hg hm hv ⟨v,H,I,r,h⟩ hn hd
variable{a b:Expr}{ta tb:TE}{pos:Pos}
variable{tA tB':TT}{rest:List Expr}
def tAnd(t u:TT):TT:=λσ H Q=>t σ H λc H1=>if c=true then u σ H1 Q else Q false H1
def tOr(t u:TT):TT:=λσ H Q=>t σ H λc H1=>if c=true then Q true H1 else u σ H1 Q
def tNot(t:TT):TT:=λσ H Q=>t σ H λc H1=>Q (!c) H1
theorem b5a(ha:PT X a tA):PW X (.BoolOp .And [a] pos) tA:=by
 intro wh pj s σ H Q I h;refine isTrue_and (thn (ha pj s σ H Q I h) λc s1 e=>?_);cases c with
 |true=>exact isTrue_and_nil e
 |false=>exact e
theorem b3m(ha:PT X a tA):PW X (.BoolOp .Or [a] pos) tA:=by
 intro wh pj s σ H Q I h;refine isTrue_or (thn (ha pj s σ H Q I h) λc s1 e=>?_);cases c with
 |false=>exact isTrue_or_nil e
 |true=>exact e
theorem b3n(ha:PT X a tA)(hb:PW X (.BoolOp .And (b::rest) pos) tB'):PW X (.BoolOp .And (a::b::rest) pos) (tAnd tA tB'):=by
 intro wh pj s σ H Q I h;refine isTrue_and (thn (ha pj s σ H _ I h) λc s1 z9=>?_);obtain⟨H1,I1,q1⟩:=z9;cases c with
 |true=>exact hb wh pj s1 σ H1 Q I1 q1
 |false=>exact⟨H1,I1,q1⟩
theorem b7f(ha:PT X a tA)(hb:PW X (.BoolOp .Or (b::rest) pos) tB'):PW X (.BoolOp .Or (a::b::rest) pos) (tOr tA tB'):=by
 intro wh pj s σ H Q I h;refine isTrue_or (thn (ha pj s σ H _ I h) λc s1 z9=>?_);obtain⟨H1,I1,q1⟩:=z9;cases c with
 |true=>exact⟨H1,I1,q1⟩
 |false=>exact hb wh pj s1 σ H1 Q I1 q1
theorem b7g(ha:PT X a tA):PT X (.UnaryOp .Not a pos) (tNot tA):=by
 intro pj s σ H Q I h;exact isTrue_not (ha pj s σ H (λc H1=>Q (!c) H1) I h)
def tAndV(ta tb:TE):TE:=λσ H Q=>ta σ H λx H1=>∃c,x=.bl c/\if c=true then tb σ H1 Q else Q (.bl false) H1
def tOrV(ta tb:TE):TE:=λσ H Q=>ta σ H λx H1=>∃c,x=.bl c/\if c=true then Q (.bl true) H1 else tb σ H1 Q
theorem b7h{op}{t:TE}(h:PE X a t):PE X (.BoolOp op [a] pos) t:=λpj s σ H Q I hw=>BoolOp_one (h pj s σ H Q I hw)
theorem pe_and(ha:PE X a ta)(hb:PE X (.BoolOp .And (b::rest) pos) tb):PE X (.BoolOp .And (a::b::rest) pos) (tAndV ta tb):=by
 intro pj s σ H Q I h;refine BoolOp_and (thn (ha pj s σ H _ I h) λv s1 z9=>?_);obtain⟨x,H1,I1,r1,q1⟩:=z9;obtain⟨c,rfl,q1⟩:=q1;cases r1;refine Y8 ?_;cases c with
 |true=>exact hb pj s1 σ H1 Q I1 q1
 |false=>exact⟨.bl false,H1,I1,rfl,q1⟩
theorem pe_or(ha:PE X a ta)(hb:PE X (.BoolOp .Or (b::rest) pos) tb):PE X (.BoolOp .Or (a::b::rest) pos) (tOrV ta tb):=by
 intro pj s σ H Q I h;refine BoolOp_or (thn (ha pj s σ H _ I h) λv s1 z9=>?_);obtain⟨x,H1,I1,r1,q1⟩:=z9;obtain⟨c,rfl,q1⟩:=q1;cases r1;refine Y8 ?_;cases c with
 |false=>exact hb pj s1 σ H1 Q I1 q1
 |true=>exact⟨.bl true,H1,I1,rfl,q1⟩
def tIf(t:TT)(ta tb:TE):TE:=λσ H Q=>t σ H λc H1=>if c=true then ta σ H1 Q else tb σ H1 Q
theorem d1s{c:Expr}(hc:PT X c tA)(ha:PE X a ta)(hb:PE X b tb):PE X (.IfExp c a b pos) (tIf tA ta tb):=by
 intro pj s σ H Q I h;refine wpAny_IfExp (thn (hc pj s σ H _ I h) λd s1 z9=>?_);obtain⟨H1,I1,q1⟩:=z9;cases d with
 |true=>exact ha pj s1 σ H1 Q I1 q1
 |false=>exact hb pj s1 σ H1 Q I1 q1
end
def SqL(K:W.Frag)(H:Hp)(a:Addr)(xs:List V):Prop:=
 Rd H a (.lst xs)\/
  ∃(o:Obj)(its:Array Value)(n:Nat),K.lookup a=some o/\o.cls=.type "list"/\o.dict=none/\o.data=.seq its n/\its.size<=sizeLine/\Vals xs its.toList
def SqT(K:W.Frag)(H:Hp)(a:Addr)(xs:List V):Prop:=
 Rd H a (.tup xs)\/
  ∃(o:Obj)(its:Array Value)(n:Nat),K.lookup a=some o/\o.cls=.type "tuple"/\o.data=.seq its n/\its.size<=sizeLine/\Vals xs its.toList
def absV:Value->Option V
 | .none=>some .non
 | .bool b=>some (.bl b)
 | .int i _=>some (.int i)
 | .str x _=>some (.str x)
 | .bytes b _=>some (.byt b)
 | .float b _=>some (.flt b)
 | .ref a=>some (.ref a)
 | .type n=>some (.ty n)
 |_=>none
theorem RelV.abs{x:V}{u:Value}(r:RelV x u):absV u=some x:=by
 cases x with
 |non=>cases r;rfl
 |bl _=>cases r;rfl
 |int _=>obtain⟨t,rfl⟩:=r;rfl
 |str _=>obtain⟨t,rfl⟩:=r;rfl
 |byt _=>obtain⟨t,rfl⟩:=r;rfl
 |flt _=>obtain⟨t,rfl⟩:=r;rfl
 |ref _=>cases r;rfl
 |ty _=>cases r;rfl
theorem RelV.inj{x y:V}{u:Value}(r:RelV x u)(q:RelV y u):x=y:=Zl (r.abs.symm.trans q.abs)
theorem Vals.inj{xs ys:List V}{us:List Value}(h:Vals xs us)(g:Vals ys us):xs=ys:=by
 induction h generalizing ys with
 |nil=>cases g;rfl
 |cons r _ ih=>cases g with
  |cons r' t'=>rw[r.inj r',ih t']
section
variable{X:Cx}{pj:List (Addr×Obj)}{σ:St}{H:Hp}{s:Shared}{a:Addr}{xs ys:List V}
theorem SqL.of{K:FG}(h:H a=some (.lst xs)):SqL K H a xs:=.inl (.inl h)
theorem SqT.of{K:FG}(h:H a=some (.tup xs)):SqT K H a xs:=.inl (.inl h)
theorem Inv.list(I:Inv X pj σ H s)(h:SqL X.K H a xs):∃its:List Value,Vals xs its/\PlainL s.heap a its.toArray/\xs.length<=sizeLine:=by
 rcases h with h|⟨o,its,n,hk,hc,hd,hs,hz,r⟩
 ·obtain⟨z,its,n,r,e⟩:=h.ok I.hok;exact⟨its,r,⟨_,n,e,rfl,rfl,rfl⟩,z⟩
 ·refine⟨its.toList,r,⟨o,n,I.kIn a o hk,hc,hd,by simpa using hs⟩,?_⟩;have e:=r.length;simp only[Y1]at e;omega
theorem Inv.tuple(I:Inv X pj σ H s)(h:SqT X.K H a xs):∃its:List Value,Vals xs its/\IsTup s.heap a its.toArray/\xs.length<=sizeLine:=by
 rcases h with h|⟨o,its,n,hk,hc,hs,hz,r⟩
 ·obtain⟨z,its,r,p⟩:=h.ok I.hok;exact⟨its,r,p,z⟩
 ·refine⟨its.toList,r,⟨o,I.kIn a o hk,hc,n,by simpa using hs⟩,?_⟩;have e:=r.length;simp only[Y1]at e;omega
theorem Inv.list_inj(I:Inv X pj σ H s)(h:SqL X.K H a xs)(h':SqL X.K H a ys):xs=ys:=by
 obtain⟨its,r,⟨o,n,e,_,_,d⟩,_⟩:=I.list h;obtain⟨its',r',⟨o',n',e',_,_,d'⟩,_⟩:=I.list h';rw[e]at e';cases e';rw[d]at d'
 injection d' with d1 _
 have:its=its':=by simpa using Yv Array.toList d1
 subst this;exact r.inj r'
theorem Inv.tuple_inj(I:Inv X pj σ H s)(h:SqT X.K H a xs)(h':SqT X.K H a ys):xs=ys:=by
 obtain⟨its,r,⟨o,e,_,n,d⟩,_⟩:=I.tuple h;obtain⟨its',r',⟨o',e',_,n',d'⟩,_⟩:=I.tuple h';rw[e]at e';cases e';rw[d]at d'
 injection d' with d1 _
 have:its=its':=by simpa using Yv Array.toList d1
 subst this;exact r.inj r'
end
abbrev Cx.wish(X:Cx)(E:Value->Shared->Prop):Cx:={ X with xe:=E}
abbrev Cx.nox(X:Cx):Cx:=X.wish λ_ _=>False
theorem Cx.Ok.wish{X:Cx}(ok:X.Ok)(E:Value->Shared->Prop):(X.wish E).Ok:=
 ⟨ok.mod,ok.kind,ok.glob,ok.blt,ok.above,ok.inj,ok.has,ok.cab,ok.hd,ok.frames,ok.stk,ok.exf,ok.bs,ok.bsz,ok.noex,ok.exfs,ok.funs,ok.frf⟩
theorem Cx.Ok.unwish{X:Cx}{E:Value->Shared->Prop}(ok:(X.wish E).Ok):X.Ok:=
 ⟨ok.mod,ok.kind,ok.glob,ok.blt,ok.above,ok.inj,ok.has,ok.cab,ok.hd,ok.frames,ok.stk,ok.exf,ok.bs,ok.bsz,ok.noex,ok.exfs,ok.funs,ok.frf⟩
section
variable{X:Cx}{pj:List (Addr×Obj)}{σ:St}{H:Hp}{s:Shared}{E:Value->Shared->Prop}
theorem Inv.wish(I:Inv X pj σ H s)(E:Value->Shared->Prop):Inv (X.wish E) pj σ H s:=⟨I.ok.wish E,I.os,I.bare,I.base,I.loc,I.cell,I.free,I.freeC,I.pin,I.hok,I.len⟩
theorem Inv.unwish(I:Inv (X.wish E) pj σ H s):Inv X pj σ H s:=⟨I.ok.unwish,I.os,I.bare,I.base,I.loc,I.cell,I.free,I.freeC,I.pin,I.hok,I.len⟩
theorem SP.unwish{D:Ends}{f:Flow}{s':Shared}(h:SP (X.wish E) pj D f s'):SP X pj D f s':=by
 cases f with
 |next=>obtain⟨σ',H',I,q⟩:=h;exact⟨σ',H',I.unwish,q⟩
 |brk=>obtain⟨σ',H',I,q⟩:=h;exact⟨σ',H',I.unwish,q⟩
 |cont=>obtain⟨σ',H',I,q⟩:=h;exact⟨σ',H',I.unwish,q⟩
 |ret u=>obtain⟨v,σ',H',I,r,q⟩:=h;exact⟨v,σ',H',I.unwish,r,q⟩
theorem PSs.nox{st:List Stmt}{t:TS}(h:PSs X.nox st t):PSs X st t:=λpj s σ H D I hw=>
 W4 (h pj s σ H D (I.wish _) hw) (λ_ _ q=>q.unwish) λ_ _ z=>False.elim z
end
section
variable{X:Cx}{st:Stmt}{rest:List Stmt}{t u:TS}{e:Expr}{te:TE}{pos:Pos}
def tNext:TS:=λD σ H=>D.nx σ H
def tSeq(t u:TS):TS:=λD σ H=>t { D with nx:=u D} σ H
theorem a1a:PSs X [] tNext:=λ_ _ σ H _ I h=>Ve ⟨σ,H,I,h⟩
theorem a0e(h1:PS X st t)(h2:PSs X rest u):PSs X (st::rest) (tSeq t u):=by
 intro pj s σ H D I h;refine wpAny_execs_cons (thn (h1 pj s σ H { D with nx:=u D} I h) λf s1 q=>?_);cases f with
 |next=>
  obtain⟨σ',H',I',q⟩:=q;exact h2 pj s1 σ' H' D I' q
 |ret v=>exact q
 |brk=>exact q
 |cont=>exact q
theorem a0g(h1:PS X st t):PSs X [st] t:=by
 intro pj s σ H D I h;refine wpAny_execs_cons (thn (h1 pj s σ H D I h) λf s1 q=>?_);cases f with
 |next=>exact Ve q
 |ret v=>exact q
 |brk=>exact q
 |cont=>exact q
theorem ps_pass:PS X (.Pass pos) tNext:=λ_ _ σ H _ I h=>wpAny_Pass ⟨σ,H,I,h⟩
theorem Inv.quiet{pj:List (Addr×Obj)}{σ:St}{H:Hp}{s:Shared}(I:Inv X pj σ H s):interactive X.env=false:=by simp[interactive,I.ok.kind]
def tDrop(te:TE):TS:=λD σ H=>te σ H λ_ H1=>D.nx σ H1
theorem a1f(he:PE X e te)(hs:swapsWith e none pos.line X.env=pure false:=by rfl):PS X (.Expr e pos) (tDrop te):=by
 intro pj s σ H D I h;exact wpAny_Expr_any (thn (he pj s σ H _ I h) λv s1 ⟨x,H1,I1,r1,q1⟩=>⟨σ,H1,I1,q1⟩) I.quiet hs
def tRet(te:TE):TS:=λD σ H=>te σ H D.rt
theorem a0u(he:PE X e te):PS X (.Return (some e) pos) (tRet te):=by
 intro pj s σ H D I h;exact wpAny_Return_some (thn (he pj s σ H _ I h) λv s1 ⟨x,H1,I1,r1,q1⟩=>⟨x,σ,H1,I1,r1,q1⟩)
def tRetN:TS:=λD _ H=>D.rt .non H
theorem c5q:PS X (.Return none pos) tRetN:=λ_ _ σ H _ I h=>wpAny_Return_none ⟨.non,σ,H,I,rfl,h⟩
def tIfS(c:TT)(t u:TS):TS:=λD σ H=>c σ H λb H1=>if b=true then t D σ H1 else u D σ H1
theorem a1e{c:Expr}{a b:List Stmt}{tc:TT}(hc:PT X c tc)(ha:PSs X a t)(hb:PSs X b u):PS X (.If c a b pos) (tIfS tc t u):=by
 intro pj s σ H D I h;refine wpAny_If (thn (hc pj s σ H _ I h) λd s1 z9=>?_);obtain⟨H1,I1,q1⟩:=z9;cases d with
 |true=>exact ha pj s1 σ H1 D I1 q1
 |false=>exact hb pj s1 σ H1 D I1 q1
def tNever:TS:=λ_ _ _=>False
theorem a2o:PS X st tNever:=λ_ _ _ _ _ _ h=>h.elim
end
abbrev TG:=V->St->Hp->(St->Hp->Prop)->Prop
abbrev TGs:=List V->St->Hp->(St->Hp->Prop)->Prop
def PG(X:Cx)(target:Expr)(t:TG):Prop:=
 ∀(pj:List (Addr×Obj))(s:Shared)(σ:St)(H:Hp)(v:V)(u:Value)(Q:St->Hp->Prop),Inv X pj σ H s->RelV v u->t v σ H Q->
  wpAny (model X.prog X.w) X.A (assign target X.env u) (λ_ s'=>∃σ' H',Inv X pj σ' H' s'/\Q σ' H') X.xe s
def PGs(X:Cx)(ts:List Expr)(t:TGs):Prop:=
 ∀(pj:List (Addr×Obj))(s:Shared)(σ:St)(H:Hp)(vs:List V)(us:List Value)(Q:St->Hp->Prop),Inv X pj σ H s->Vals vs us->t vs σ H Q->
  wpAny (model X.prog X.w) X.A (assignInOrder ((assignEach ts X.env).map (·.2)) us) (λ_ s'=>∃σ' H',Inv X pj σ' H' s'/\Q σ' H') X.xe s
abbrev TSet:=V->V->V->Hp->(Hp->Prop)->Prop
def PSet(X:Cx)(t:TSet):Prop:=
 ∀(pj:List (Addr×Obj))(s:Shared)(σ:St)(H:Hp)(o i v:V)(ov iv u:Value)(Q:Hp->Prop),Inv X pj σ H s->RelV o ov->RelV i iv->RelV v u->t o i v H Q->
  wpAny (model X.prog X.w) X.A (setItem ov iv u) (λ_ s'=>∃H',Inv X pj σ H' s'/\Q H') X.xe s
abbrev TIp:=V->V->Hp->VK->Prop
def PIp(X:Cx)(op:Operator)(t:TIp):Prop:=
 ∀(pj:List (Addr×Obj))(s:Shared)(σ:St)(H:Hp)(x y:V)(v u:Value)(Q:VK),Inv X pj σ H s->RelV x v->RelV y u->t x y H Q->
  wpAny (model X.prog X.w) X.A (inplaceOp op v u) (EP X pj σ Q) X.xe s
section
variable{X:Cx}{pos:Pos}
def b2c(i:Nat):TG:=λv σ H Q=>Q (σ.set i (some v)) H
theorem a1d{i:Nat}{x:Str}(hN:X.N.Nodup)(hi:X.N[i]? =some x)(hx:Loc X.env.scope x)(hf:X.fn x=true\/X.env.scope.names.lookup x=some .local:=by first|exact .inl rfl|exact .inr rfl|assumption):PG X (.Name x pos) (b2c i):=by
 intro pj s σ H v u Q I r h;exact Up (b2b I hN hi hx r (λs' I'=>⟨_,H,I',h⟩) hf)
def gNil:TGs:=λvs σ H Q=>vs=[]/\Q σ H
def gCons(t:TG)(u:TGs):TGs:=λvs σ H Q=>∃v r,vs=v::r/\t v σ H λσ' H'=>u r σ' H' Q
theorem a9f:PGs X [] gNil:=by
 intro pj s σ H vs us Q I r h;obtain⟨e,h⟩:=h;subst e;cases r;exact assignInOrder_nil ⟨σ,H,I,h⟩
theorem a2p{e:Expr}{es:List Expr}{t:TG}{u:TGs}(h1:PG X e t)(h2:PGs X es u)
  (hs:(assignEach (e::es) X.env).map (·.2)=assign e X.env::(assignEach es X.env).map (·.2):=by rfl):PGs X (e::es) (gCons t u):=by
 intro pj s σ H vs us Q I r h;obtain⟨v,vr,e1,h⟩:=h;subst e1;cases r with
 |cons r rr=>
  rw[hs];refine assignInOrder_cons (thn (h1 pj s σ H _ _ _ I r h) λ_ s1 z9=>?_);obtain⟨σ1,H1,I1,q1⟩:=z9;exact h2 pj s1 σ1 H1 _ _ Q I1 rr q1
def gTup(K:W.Frag)(n:Nat)(t:TGs):TG:=λv σ H Q=>∃a xs,v=.ref a/\SqT K H a xs/\xs.length=n/\t xs σ H Q
theorem c8h{es:List Expr}{k:Nat}{t:TGs}{n:Nat}(hc:X.calm=true)(h:PGs X es t)
  (hn:(assignEach es X.env).length=n:=by rfl)(hst:(assignEach es X.env).findIdx? (·.1)=none:=by rfl):PG X (.Tuple es k pos) (gTup X.K n t):=by
 intro pj s σ H v u Q I r hw;obtain⟨a,xs,e1,hq,hl,hw⟩:=hw;subst e1;cases r;obtain⟨its,rv,ht,hz⟩:=I.tuple hq;refine assign_Tuple_tuple (I.ok.hd hc) ht (by simp[hn,<-hl,rv.length]) hst λh' hx=>?_
 have I1:Inv X pj σ H { s with heap:=h'}:=I.kept (t':=s.toks) λb o e=>hx b o (Z2 (Zq e)) e
 exact h pj _ σ H xs _ Q I1 (by simpa using rv) hw
def gSub(to ti:TE)(t:TSet):TG:=λv σ H Q=>to σ H λo H1=>ti σ H1 λi H2=>t o i v H2 λH3=>Q σ H3
theorem c2a{o i:Expr}{to ti:TE}{t:TSet}(ho:PE X o to)(hi:PE X i ti)(hs:PSet X t)
  (ha:∀v,assign (.Subscript o i pos) X.env v=(do
   let ov <-holding [v] (eval o X.env)
   let iv <-holding [v,ov] (eval i X.env)
   standAt pos
   holding [v,ov,iv] (setItem ov iv v)
   release [v,ov,iv] []):=by intro _;rfl):PG X (.Subscript o i pos) (gSub to ti t):=by
 intro pj s σ H v u Q I r h;rw[ha];refine Zb (Yi (thn (ho pj s σ H _ I h) λov s1 z9=>?_));obtain⟨x,H1,I1,r1,q1⟩:=z9;refine Zb (Yi (thn (hi pj s1 σ H1 _ I1 q1) λiv s2 z9=>?_));obtain⟨y,H2,I2,r2,q2⟩:=z9;refine Zb (Ud (Zb (Yi (thn (hs pj s2 σ H2 x y v ov iv u _ I2 r1 r2 r q2) λ_ s3 z9=>?_))));obtain⟨H3,I3,q3⟩:=z9;exact wpAny_release ⟨σ,H3,I3,q3⟩
def tAsg(te:TE)(g:TG):TS:=λD σ H=>te σ H λx H1=>g x σ H1 D.nx
theorem b3o{tg e:Expr}{te:TE}{g:TG}(he:PE X e te)(hg:PG X tg g)(hs:swapsWithSole [tg] e pos.line X.env=pure false:=by rfl)(hw:swappedStores [tg] e X.env=pure none:=by rfl)
  (h1:(assignEach [tg] X.env).map (·.2)=[assign tg X.env]:=by rfl):PS X (.Assign [tg] e pos) (tAsg te g):=by
 intro pj s σ H D I h;refine wpAny_Assign_stores (thn (he pj s σ H _ I h) λv s1 ⟨x,H1,I1,r1,q1⟩=>?_) hs hw;rw[h1];exact thn (hg pj s1 σ H1 x v _ I1 r1 q1) λ_ s2 q=>q
theorem a0q{i:Nat}{x:Str}{e:Expr}{te:TE}{pos':Pos}(hN:X.N.Nodup)(hi:X.N[i]? =some x)(hx:Loc X.env.scope x)(he:PE X e te)(hs:swapsWith e (some (.Name x pos')) pos.line X.env=pure false:=by rfl)(hf:X.fn x=true\/X.env.scope.names.lookup x=some .local:=by first|exact .inl rfl|exact .inr rfl|assumption):
  PS X (.Assign [.Name x pos'] e pos) (tAsg te (b2c i)):=by
 intro pj s σ H D I h;refine wpAny_Assign_Name (thn (he pj s σ H _ I h) λv s1 ⟨y,H1,I1,r1,q1⟩=>?_) hs;exact b2b I1 hN hi hx r1 (λs2 I2=>⟨_,H1,I2,q1⟩) hf
def tAug(i:Nat)(te:TE)(ti:TIp):TS:=λD σ H=>∃x,σ[i]? =some (some x)/\te σ H λy H1=>ti x y H1 λz H2=>D.nx (σ.set i (some z)) H2
theorem ps_aug{i:Nat}{x:Str}{e:Expr}{te:TE}{op:Operator}{ti:TIp}{pos':Pos}(hN:X.N.Nodup)(hi:X.N[i]? =some x)(hx:Loc X.env.scope x)(he:PE X e te)(ho:PIp X op ti)(hf:X.fn x=true\/X.env.scope.names.lookup x=some .local:=by first|exact .inl rfl|exact .inr rfl|assumption):
  PS X (.AugAssign (.Name x pos') op e pos) (tAug i te ti):=by
 intro pj s σ H D I h;obtain⟨v,e1,h⟩:=h;obtain⟨m,hn,hl⟩:=I.loc;have vis:Vis X.env.scope x:=by rcases hx with k|k;exact .inl k;exact .inr (.inl k)
 obtain⟨u,r,l⟩:=hl i x v hi e1 vis;refine wpAny_AugAssign_Name ?_;have go:wpAny (model X.prog X.w) X.A (eval e X.env) (λw s₂=>wpAny (model X.prog X.w) X.A (inplaceOp op u w) (λr s₃=>wpAny (model X.prog X.w) X.A (storeName X.env x r) (λ_=>SP X pj D .next) X.xe s₃) X.xe s₂) X.xe s:=by
  refine thn (he pj s σ H _ I h) λw s1 z9=>?_
  obtain⟨y,H1,I1,r1,q1⟩:=z9;refine thn (ho pj s1 σ H1 v y u w _ I1 r r1 q1) λz s2 z9=>?_
  obtain⟨zv,H2,I2,r2,q2⟩:=z9;exact b2b I2 hN hi hx r2 (λs3 I3=>⟨_,H2,I3,q2⟩) hf
 rcases l with⟨hk,hm⟩|⟨hk,c,hc,hcell⟩
 ·exact Sl I.ok.kind hk hn hm go
 ·rcases hk with hk|hk
  ·exact Sw I.ok.kind hk hc hcell go
  ·rcases hx with k|k
   ·have:X.env.scope.names.lookup x=some .free:=hk;rw[k]at this;cases this
   ·have:X.env.scope.names.lookup x=some .free:=hk;rw[k]at this;cases this
end
section
variable{X:Cx}{pos:Pos}
def c2b(c:TT)(tb:TS):TS:=λD σ H=>∃W:Nat->St->Hp->Prop,(∃m,W m σ H)/\∀m σ H,W m σ H->
 c σ H λb H1=>if b=true then ∃N:St->Hp->Prop,(∀σ' H',N σ' H'->∃m',m'<m/\W m' σ' H')/\tb { D with nx:=N,ct:=N,bk:=D.nx} σ H1 else D.nx σ H1
theorem a5u{c:Expr}{body:List Stmt}{tc:TT}{tb:TS}(hp:PassesOwn (model X.prog X.w) X.A X.env X.xe)(hc:PT X c tc)(hb:PSs X body tb):PS X (.While c body [] pos) (c2b tc tb):=by
 intro pj s σ H D I h;obtain⟨W,⟨m0,w0⟩,turn⟩:=h;refine wpAny_While (codeAny_whileLoop (λn s'=>∃σ' H',Inv X pj σ' H' s'/\W n σ' H') ?_ m0 ⟨σ,H,I,w0⟩)
 rintro n s1 ⟨σ1,H1,I1,w1⟩
 refine X9 hp (thn (hc pj s1 σ1 H1 _ I1 (turn n σ1 H1 w1)) λb s2 z9=>?_);obtain⟨H2,I2,q2⟩:=z9;cases b with
 |true=>
  obtain⟨N,hN,q2⟩:=q2;rw[if_pos rfl];refine X9 hp (thn (hb pj s2 σ1 H2 _ I2 q2) λf s3 q3=>?_);cases f with
  |next=>
   obtain⟨σ3,H3,I3,n3⟩:=q3;obtain⟨m',hm,w3⟩:=hN σ3 H3 n3;exact⟨m',hm,σ3,H3,I3,w3⟩
  |cont=>
   obtain⟨σ3,H3,I3,n3⟩:=q3;obtain⟨m',hm,w3⟩:=hN σ3 H3 n3;exact⟨m',hm,σ3,H3,I3,w3⟩
  |brk=>exact q3
  |ret v=>exact q3
 |false=>
  rw[if_neg Zo];exact Ve ⟨σ1,H2,I2,q2⟩
end
structure It where
 go:Nat->Hp->Prop
 yld:Nat->Hp->V->Hp->Prop
 stop:Nat->Hp->Prop
def FpOk(X:Cx)(pj:List (Addr×Obj))(H:Hp)(b:Addr):Prop:=
 H b=none/\b≠X.env.locals/\b∉X.fs/\(b∈X.ex\/X.s₀.heap.objs.size<=b)/\(∀x c,X.env.cells.lookup x=some c->c≠b)/\∀p∈X.pn++pj,p.1≠b
theorem Inv.fpOk{X:Cx}{pj:List (Addr×Obj)}{σ:St}{H H':Hp}{s:Shared}{b:Addr}(I:Inv X pj σ H s)(hb:s.heap.objs.size<=b)(hn:H' b=none):FpOk X pj H' b:=by
 refine⟨hn,T7 (Yc I.lt hb),I.nofs hb,.inr (Ye I.sz hb),λx c e z=>?_,λp hp z=>?_⟩
 ·obtain⟨v,q⟩:=I.cell x c e;exact absurd (Yc q.lt (by rw[z];exact hb)) (Y3 _)
 ·exact absurd (Yc (Zq (I.pin p hp).1) (by rw[z];exact hb)) (Y3 _)
structure Turn(P:Program)(w:World)(K:W.Frag)(tg:Expr)(J:It)(fp:List Addr)(it:Addr)(tn:Nat->Heap->Prop):Prop where
 mem:it∈fp
 obj:∀i h,tn i h->∀b∈fp,∃o,h.get? b=some o/\∀v,o.data≠.cell v
 keep:∀i h h',tn i h->(∀b∈fp,∀o,h.get? b=some o->h'.get? b=some o)->tn i h'
 item:∀(X:Cx),X.prog=P->X.w=w->X.K=K->X.calm=true->∀(i:Nat)(pj:List (Addr×Obj))(s:Shared)(σ:St)(H:Hp)(E:Value->Shared->Prop),Inv X pj σ H s->(∀b∈fp,FpOk X pj H b)->tn i s.heap->J.go i H->
  wpAny (model P w) X.A (pyNext (.ref it)) (λr s1=>∃u,r=some u/\
   wpAny (model P w) X.A (letOwnedTupleGo tg (.ref it) u) (λ_ s2=>∃x H',Inv X pj σ H' s2/\RelV x u/\J.yld i H x H'/\tn (i+1) s2.heap/\∀b∈fp,H' b=none) E s1) E s
 done:∀(X:Cx),X.prog=P->X.w=w->X.K=K->X.calm=true->∀(i:Nat)(pj:List (Addr×Obj))(s:Shared)(σ:St)(H:Hp)(E:Value->Shared->Prop),Inv X pj σ H s->(∀b∈fp,FpOk X pj H b)->tn i s.heap->J.stop i H->
  wpAny (model P w) X.A (pyNext (.ref it)) (λr s1=>r=none/\Inv X pj σ H s1) E s
 self:∀(A:Around)(i:Nat)(s:Shared)(Q:Value->Shared->Prop)(E:Value->Shared->Prop),tn i s.heap->Q (.ref it) s->wpAny (model P w) A (pyIter (.ref it)) Q E s
abbrev TI:=St->Hp->(It->Hp->Prop)->Prop
def PIE(X:Cx)(pj:List (Addr×Obj))(σ:St)(tg:Expr)(R:It->Hp->Prop)(itv:Value)(s2:Shared):Prop:=
 ∃(it:Addr)(fp:List Addr)(tn:Nat->Heap->Prop)(J:It)(H':Hp),itv=.ref it/\Inv X pj σ H' s2/\Turn X.prog X.w X.K tg J fp it tn/\tn 0 s2.heap/\(∀b∈fp,FpOk X pj H' b)/\R J H'
def PI(X:Cx)(tg iter:Expr)(wi:TI):Prop:=
 ∀(pj:List (Addr×Obj))(s:Shared)(σ:St)(H:Hp)(R:It->Hp->Prop),Inv X pj σ H s->wi σ H R->
  wpAny (model X.prog X.w) X.A (eval iter X.env) (λv s1=>wpAny (model X.prog X.w) X.A (pyIter v) (PIE X pj σ tg R) X.xe s1) X.xe s
theorem c1p{M:Model}{A:Around}{E:Value->Shared->Prop}{s:Shared}{tg:Expr}{it:Addr}{u:Value}{o:Obj}{n:String}{vs:Array Value}{Q:Unit->Shared->Prop}(ho:s.heap.get? it=some o)(hc:o.cls=.type n)(hd:o.data=.fields vs)
  (hn:["enumerate","zip","dict_itemiterator","dict_reverseitemiterator","odict_iterator","itertools.zip_longest","itertools.pairwise"].contains n=false)(hQ:Q () s):wpAny M A (letOwnedTupleGo tg (.ref it) u) Q E s:=by
 unfold letOwnedTupleGo;cases tg<;>first
  |exact Zf hQ
  | (cases u<;>first
    |exact Zf hQ
    | (refine Zb (wpAny_load ho ?_)
       rw[hc,hd]
       show wpAny M A (if(["enumerate","zip","dict_itemiterator","dict_reverseitemiterator","odict_iterator","itertools.zip_longest","itertools.pairwise"].contains n&&vs[0]? ==some (rawInt _))=true then _ else _) Q E s
       rw[if_neg (by intro h;rw[hn,Bool.false_and]at h;cases h)]
       exact Zf hQ))
def Itl(K:W.Frag)(a:Addr):It:=
 ⟨λi H=>∃xs x,SqL K H a xs/\xs[i]? =some x,λi H x H'=>H'=H/\∀xs,SqL K H a xs->xs[i]? =some x,λi H=>∃xs,SqL K H a xs/\xs.length<=i⟩
def Itt(K:W.Frag)(a:Addr):It:=
 ⟨λi H=>∃xs x,SqT K H a xs/\xs[i]? =some x,λi H x H'=>H'=H/\∀xs,SqT K H a xs->xs[i]? =some x,λi H=>∃xs,SqT K H a xs/\xs.length<=i⟩
def Itr(lo:Int)(n:Nat):It:=⟨λi _=>i<n,λi H x H'=>H'=H/\x=.int (lo+i),λi _=>n<=i⟩
theorem c8i{P:Program}{w:World}{K:FG}{tg:Expr}(a it:Addr):Turn P w K tg (Itl K a) [it] it (λi h=>h.IsListIter it a i) where
 mem:=by simp
 obj:=λi h st b hb=>by
  have e:b=it:=by simpa using hb
  subst e;obtain⟨o,e,c,d⟩:=st;exact⟨o,e,λv z=>by rw[d]at z;cases z⟩
 keep:=λi h h' st k=>st.at λo e=>k it qz o e
 item:=by
  intro X hP hw hK hc i pj s σ H E I hf st hg;subst hP hw hK;obtain⟨xs,x,hq,hx⟩:=hg;obtain⟨its,rv,p,hz⟩:=I.list hq;obtain⟨u,hu,ru⟩:=rv.get hx;obtain⟨f0,f1,f2,f3,f4,f5⟩:=hf it qz;refine Tz st p.isList (x:=u) (by simpa using hu) λh' st' sb=>?_
  have I1:Inv X pj σ H { s with heap:=h'}:=I.turned (t':=s.toks) (λb o hb e=>(sb.2 b hb).trans e) f0 f1 f3 f4 f5;obtain⟨o,e,c,d⟩:=id st';exact⟨u,rfl,c1p (s:={ s with heap:=h'}) e c d qd ⟨x,H,I1,ru,⟨rfl,λys hy=>by rw[I.list_inj hy hq];exact hx⟩,st',λb hb=>(hf b hb).1⟩⟩
 done:=by
  intro X hP hw hK hc i pj s σ H E I hf st hg;subst hP hw hK;obtain⟨xs,hq,hx⟩:=hg;obtain⟨its,rv,p,hz⟩:=I.list hq;obtain⟨f0,f1,f2,f3,f4,f5⟩:=hf it qz;have hl:=rv.length;exact Se (I.ok.hd hc) st p.isList (by simp;omega) λh' eb=>⟨rfl,I.turned (t':=s.toks) (λb o hb e=>eb b o hb e) f0 f1 f3 f4 f5⟩
 self:=λ_ _ _ _ _ st h=>wpAny_pyIter_listiter st h
theorem c6v{P:Program}{w:World}{K:FG}{tg:Expr}(a it:Addr):Turn P w K tg (Itt K a) [it] it (λi h=>h.IsTupleIter it a i) where
 mem:=by simp
 obj:=λi h st b hb=>by
  have e:b=it:=by simpa using hb
  subst e;obtain⟨o,e,c,d⟩:=st;exact⟨o,e,λv z=>by rw[d]at z;cases z⟩
 keep:=λi h h' st k=>st.at λo e=>k it qz o e
 item:=by
  intro X hP hw hK hc i pj s σ H E I hf st hg;subst hP hw hK;obtain⟨xs,x,hq,hx⟩:=hg;obtain⟨its,rv,p,hz⟩:=I.tuple hq;obtain⟨u,hu,ru⟩:=rv.get hx;obtain⟨f0,f1,f2,f3,f4,f5⟩:=hf it qz;refine wpAny_pyNext_tuple_item st (show s.heap.IsTuple a its.toArray from p) (x:=u) (by simpa using hu) λh' st' sb=>?_
  have I1:Inv X pj σ H { s with heap:=h'}:=I.turned (t':=s.toks) (λb o hb e=>(sb.2 b hb).trans e) f0 f1 f3 f4 f5;obtain⟨o,e,c,d⟩:=id st';exact⟨u,rfl,c1p (s:={ s with heap:=h'}) e c d qd ⟨x,H,I1,ru,⟨rfl,λys hy=>by rw[I.tuple_inj hy hq];exact hx⟩,st',λb hb=>(hf b hb).1⟩⟩
 done:=by
  intro X hP hw hK hc i pj s σ H E I hf st hg;subst hP hw hK;obtain⟨xs,hq,hx⟩:=hg;obtain⟨its,rv,p,hz⟩:=I.tuple hq;obtain⟨f0,f1,f2,f3,f4,f5⟩:=hf it qz;have hl:=rv.length;exact wpAny_pyNext_tuple_end (I.ok.hd hc) st (show s.heap.IsTuple a its.toArray from p) (by simp;omega) λh' eb=>⟨rfl,I.turned (t':=s.toks) (λb o hb e=>eb b o hb e) f0 f1 f3 f4 f5⟩
 self:=λ_ _ _ _ _ st h=>wpAny_pyIter_tupleiter st h
theorem c6w{P:Program}{w:World}{K:FG}{tg:Expr}(it:Addr)(lo:Int)(n:Nat):Turn P w K tg (Itr lo n) [it] it (λi h=>IsRangeIter h it (lo+(i:Nat)*1) ((n:Int)-(i:Nat)) 1) where
 mem:=by simp
 obj:=λi h st b hb=>by
  have e:b=it:=by simpa using hb
  subst e
  exact⟨_,st,λv z=>by
   have z':Data.fields _=Data.cell v:=z
   cases z'⟩
 keep:=λi h h' st k=>k it qz _ st
 item:=by
  intro X hP hw hK hc i pj s σ H E I hf st hg;subst hP hw hK;obtain⟨f0,f1,f2,f3,f4,f5⟩:=hf it qz;have W:=Walks.range (prog:=X.prog) (w:=X.w) (I.ok.hd hc) it lo 1 n;refine W.item i s _ _ hg st λv h' tk hv st' kk=>?_
  obtain⟨t,rfl⟩:=hv;have I1:Inv X pj σ H { s with heap:=h',toks:=tk}:=I.turned (λb o hb e=>kk b o (by simpa using hb) e) f0 f1 f3 f4 f5;refine⟨_,rfl,c1p (s:={ s with heap:=h',toks:=tk}) (n:="range_iterator") st' rfl rfl qd ⟨.int (lo+i),H,I1,⟨t,?_⟩,⟨rfl,rfl⟩,st',λb hb=>(hf b hb).1⟩⟩;rw[Int.mul_one]
 done:=by
  intro X hP hw hK hc i pj s σ H E I hf st hg;subst hP hw hK;obtain⟨f0,f1,f2,f3,f4,f5⟩:=hf it qz;exact wpAny_pyNext_range_end (I.ok.hd hc) st (by have:n<=i:=hg;omega) λh' eb=>⟨rfl,I.turned (t':=s.toks) (λb o hb e=>eb b o hb e) f0 f1 f3 f4 f5⟩
 self:=λ_ _ _ _ _ st h=>wpAny_pyIter_rangeiter st h
section
variable{X:Cx}{tg:Expr}
def iList(K:W.Frag)(tl:TE):TI:=λσ H R=>tl σ H λx H1=>∃a,x=.ref a/\(∃xs,SqL K H1 a xs)/\R (Itl K a) H1
def iTup(K:W.Frag)(tl:TE):TI:=λσ H R=>tl σ H λx H1=>∃a,x=.ref a/\(∃xs,SqT K H1 a xs)/\R (Itt K a) H1
theorem pi_list{l:Expr}{tl:TE}(hl:PE X l tl):PI X tg l (iList X.K tl):=by
 intro pj s σ H R I h;refine thn (hl pj s σ H _ I h) λv s1 z9=>?_
 obtain⟨x,H1,I1,r1,q1⟩:=z9;obtain⟨a,e,⟨xs,hq⟩,q⟩:=q1;subst e;cases r1;obtain⟨its,rv,p,hz⟩:=I1.list hq;refine Vs p.isList ?_;refine⟨s1.heap.objs.size,[s1.heap.objs.size],_,_,H1,rfl,I1.kept (t':=s1.toks) λb o e=>Zh _ e,c8i a _,⟨_,Zu _ rfl,rfl,rfl⟩,λb hb=>?_,q⟩;have e:b=s1.heap.objs.size:=by simpa using hb
 subst e;exact I1.fpOk (Zm _) (I1.hok.fresh (Zm _))
theorem pi_tup{l:Expr}{tl:TE}(hl:PE X l tl):PI X tg l (iTup X.K tl):=by
 intro pj s σ H R I h;refine thn (hl pj s σ H _ I h) λv s1 z9=>?_
 obtain⟨x,H1,I1,r1,q1⟩:=z9;obtain⟨a,e,⟨xs,hq⟩,q⟩:=q1;subst e;cases r1;obtain⟨its,rv,p,hz⟩:=I1.tuple hq;refine wpAny_pyIter_tuple (show s1.heap.IsTuple a its.toArray from p) ?_;refine⟨s1.heap.objs.size,[s1.heap.objs.size],_,_,H1,rfl,I1.kept (t':=s1.toks) λb o e=>Zh _ e,c6v a _,⟨_,Zu _ rfl,rfl,rfl⟩,λb hb=>?_,q⟩;have e:b=s1.heap.objs.size:=by simpa using hb
 subst e;exact I1.fpOk (Zm _) (I1.hok.fresh (Zm _))
theorem d1t{pj:List (Addr×Obj)}{σ:St}{H:Hp}{s:Shared}{R:It->Hp->Prop}{E:Value->Shared->Prop}{lo hi:Int}{t u v:Tok}{tk:Nat}(I:Inv X pj σ H s)(h1:-(2^62)<=lo)(h2:lo<2^62)(h3:-(2^62)<=hi)(h4:hi<2^62)
  (q:R (Itr lo (hi-lo).toNat) H):wpAny (model X.prog X.w) X.A (pyIter (.ref s.heap.objs.size)) (PIE X pj σ tg R) E { s with heap:=s.heap.push { cls:=.type "range",data:=.fields #[.int lo t,.int hi u,.int 1 v]},toks:=tk}:=by
 refine wpAny_pyIter_range (IsRange.new ..) (small_one h1 h2 h3 h4) ?_;have I1:Inv X pj σ H { s with heap:=s.heap.push { cls:=.type "range",data:=.fields #[.int lo t,.int hi u,.int 1 v]},toks:=tk}:=I.kept λb o e=>Zh _ e
 refine⟨(s.heap.push { cls:=.type "range",data:=.fields #[.int lo t,.int hi u,.int 1 v]}).objs.size,[(s.heap.push { cls:=.type "range",data:=.fields #[.int lo t,.int hi u,.int 1 v]}).objs.size],_,_,H,rfl,
  I1.kept (t':=tk) λb o e=>Zh _ e,c6w _ lo (hi-lo).toNat,?_,λb hb=>?_,q⟩
 ·have e1:lo+((0:Nat):Int)*1=lo:=by simp
  have e2:(((hi-lo).toNat:Nat):Int)-((0:Nat):Int)=Builtin.Range.rangeSize lo hi 1:=by rw[rangeSize_one];split<;>omega
  show IsRangeIter _ _ (lo+((0:Nat):Int)*1) ((((hi-lo).toNat:Nat):Int)-((0:Nat):Int)) 1
  rw[e1,e2];exact Zu _ rfl
 ·have e:b=(s.heap.push { cls:=.type "range",data:=.fields #[.int lo t,.int hi u,.int 1 v]}).objs.size:=by simpa using hb
  subst e;exact I1.fpOk (Zm _) (I1.hok.fresh (Zm _))
def iRng1(ta:TA):TI:=λσ H R=>ta σ H λvs H1=>∃j:Int,vs=[.int j]/\-(2^62)<=j/\j<2^62/\R (Itr 0 j.toNat) H1
theorem a5v{a:Expr}{ta:TA}{p pos:Pos}(hg:Gl X "range")(hm:X.mg "range"=none)(ha:PA X [a] ta)(hs:starEach [a] X.env=[(false,eval a X.env)]:=by rfl):PI X tg (.Call (.Name "range" p) [a] [] pos) (iRng1 ta):=by
 intro pj s σ H R I h;refine Call_ (a9t I hg hm boot_range (Xp (thn (ha pos pj s σ H _ I h) λus s1 ⟨vs,H1,I1,r1,q1⟩=>?_) hs rfl));obtain⟨j,e,q1,q2,q⟩:=q1;subst e;cases r1 with
 |cons r rr=>
  cases rr;obtain⟨t,rfl⟩:=r;exact call_range_1 (d1t I1 qo qo q1 q2 (by simpa using q))
def tFor(wi:TI)(g:TG)(tb:TS):TS:=λD σ H=>wi σ H λJ H1=>∃W:Nat->Nat->St->Hp->Prop,(∃m,W 0 m σ H1)/\∀i m σ H,W i m σ H->
 (J.stop i H/\D.nx σ H)\/(J.go i H/\∃N:St->Hp->Prop,(∀σ' H',N σ' H'->∃m',m'<m/\W (i+1) m' σ' H')/\∀x H',J.yld i H x H'->g x σ H' λσ2 H2=>tb { D with nx:=N,ct:=N,bk:=D.nx} σ2 H2)
def b1c(fp:List Addr)(h:Heap):List (Addr×Obj):=fp.filterMap λb=>(h.get? b).map λo=>(b,o)
theorem a6n{fp:List Addr}{h:Heap}{b:Addr}{o:Obj}(hb:b∈fp)(e:h.get? b=some o):(b,o)∈b1c fp h:=Rp.mpr ⟨b,hb,by rw[e];rfl⟩
theorem c8j{fp:List Addr}{h:Heap}{p:Addr×Obj}(hp:p∈b1c fp h):p.1∈fp/\h.get? p.1=some p.2:=by
 obtain⟨b,hb,e⟩:=Rp.mp hp;cases q:h.get? b with
 |none=>rw[q]at e;cases e
 |some o=>
  rw[q]at e;have e':(b,o)=p:=Zl e;subst e';exact⟨hb,q⟩
theorem Inv.pinned{pj:List (Addr×Obj)}{σ:St}{H:Hp}{s:Shared}{fp:List Addr}(I:Inv X pj σ H s)(hf:∀b∈fp,FpOk X pj H b)(ho:∀b∈fp,∃o,s.heap.get? b=some o/\∀v,o.data≠.cell v):Inv X (pj++b1c fp s.heap) σ H s:=
 I.pins_of λp hp=>(Zr.mp hp).elim (λz=>I.pin p (Z3 _ z)) λz=>by
  obtain⟨hb,e⟩:=c8j z;obtain⟨f0,f1,f2,_⟩:=hf p.1 hb;obtain⟨o,e',d⟩:=ho p.1 hb;rw[e]at e';cases e';exact⟨e,f0,f1,f2,d⟩
theorem Inv.unpinned{pj pl:List (Addr×Obj)}{σ:St}{H:Hp}{s:Shared}(I:Inv X (pj++pl) σ H s):Inv X pj σ H s:=I.pins_of λp hp=>I.pin p (Z3 _ (Yy _ hp))
theorem a1y{iter:Expr}{body:List Stmt}{wi:TI}{g:TG}{tb:TS}{pos:Pos}(hp:PassesOwn (model X.prog X.w) X.A X.env X.xe)(hc:X.calm=true)(hi:PI X tg iter wi)(hg:PG X tg g)(hb:PSs X body tb)
  (hs:∀x,foldedSetIterable iter X.env x=pure x:=by intro _;rfl):PS X (.For tg iter body [] pos) (tFor wi g tb):=by
 intro pj s σ H D I h;refine wpAny_For (thn (hi pj s σ H _ I h) λv s1 h1=>thn h1 λitv s2 h2=>?_) hs;obtain⟨it,fp,tn,J,H2,e,I2,T,st2,f2,W,⟨m0,w0⟩,turn⟩:=h2;subst e;have stat:∀{H':Hp},(∀b∈fp,H' b=none)->∀b∈fp,FpOk X pj H' b:=λhn b hb=>⟨hn b hb,(f2 b hb).2⟩
 refine codeAny_forLoop_any (λn s'=>∃i σ' H',Inv X pj σ' H' s'/\tn i s'.heap/\(∀b∈fp,H' b=none)/\W i n σ' H') ?_ m0 ⟨0,σ,H2,I2,st2,λb hb=>(f2 b hb).1,w0⟩
 rintro n s3 ⟨i,σ3,H3,I3,st3,fr3,w3⟩
 rcases turn i n σ3 H3 w3 with⟨stop,qn⟩|⟨go,N,hN,step⟩
 ·refine X9 hp (thn (T.done X rfl rfl rfl hc i pj s3 σ3 H3 X.xe I3 (stat fr3) st3 stop) λr s4 ⟨hr,I4⟩=>?_);subst hr;exact Ve ⟨σ3,H3,I4,qn⟩
 ·refine X9 hp (thn (T.item X rfl rfl rfl hc i pj s3 σ3 H3 X.xe I3 (stat fr3) st3 go) λr s4 ⟨u,hr,h4⟩=>?_);subst hr;refine X9 hp (thn h4 λ_ s5 z9=>?_);obtain⟨x,H5,I5,r5,y5,st5,fr5⟩:=z9;have I5':=I5.pinned (stat fr5) (T.obj _ _ st5);refine X9 hp (thn (hg _ s5 σ3 H5 x u _ I5' r5 (step x H5 y5)) λ_ s6 z9=>?_);obtain⟨σ6,H6,I6,q6⟩:=z9;refine X9 hp (thn (hb _ s6 σ6 H6 _ I6 q6) λf s7 q7=>?_);have again:∀{σ7:St}{H7:Hp},Inv X (pj++b1c fp s5.heap) σ7 H7 s7->N σ7 H7->∃m,m<n/\∃i σ' H',Inv X pj σ' H' s7/\tn i s7.heap/\(∀b∈fp,H' b=none)/\W i m σ' H':=λ{σ7 H7} I7 n7=>by
   obtain⟨m',hm,w7⟩:=hN σ7 H7 n7;refine⟨m',hm,i+1,σ7,H7,I7.unpinned,T.keep _ _ _ st5 λb hb o e=>(I7.pin (b,o) (Z3 _ (Z3 _ (a6n hb e)))).1,λb hb=>?_,w7⟩;obtain⟨o,e,d⟩:=T.obj _ _ st5 b hb;exact(I7.pin (b,o) (Z3 _ (Z3 _ (a6n hb e)))).2.1
  cases f with
  |next=>obtain⟨σ7,H7,I7,n7⟩:=q7;exact again I7 n7
  |cont=>obtain⟨σ7,H7,I7,n7⟩:=q7;exact again I7 n7
  |brk=>obtain⟨σ7,H7,I7,q7⟩:=q7;exact⟨σ7,H7,I7.unpinned,q7⟩
  |ret v=>obtain⟨x7,σ7,H7,I7,r7,q7⟩:=q7;exact⟨x7,σ7,H7,I7.unpinned,r7,q7⟩
end
abbrev R2:=V->V->Hp->VK->Prop
def OpR(X:Cx)(f:Value->Value->Sem Value)(r:R2):Prop:=
 ∀(pj:List (Addr×Obj))(s:Shared)(σ:St)(H:Hp)(x y:V)(v u:Value)(Q:VK),Inv X pj σ H s->RelV x v->RelV y u->r x y H Q->
  wpAny (model X.prog X.w) X.A (f v u) (EP X pj σ Q) X.xe s
def UnR(X:Cx)(f:Value->Sem Value)(r:V->Hp->VK->Prop):Prop:=
 ∀(pj:List (Addr×Obj))(s:Shared)(σ:St)(H:Hp)(x:V)(v:Value)(Q:VK),Inv X pj σ H s->RelV x v->r x H Q->
  wpAny (model X.prog X.w) X.A (f v) (EP X pj σ Q) X.xe s
def a2w(X:Cx)(f:Value)(r:List V->Hp->VK->Prop):Prop:=
 ∀(pj:List (Addr×Obj))(s:Shared)(σ:St)(H:Hp)(xs:List V)(us:List Value)(Q:VK),Inv X pj σ H s->Vals xs us->r xs H Q->
  wpAny (model X.prog X.w) X.A (call f us) (EP X pj σ Q) X.xe s
def TruR(X:Cx)(r:V->Hp->(Bool->Hp->Prop)->Prop):Prop:=
 ∀(pj:List (Addr×Obj))(s:Shared)(σ:St)(H:Hp)(x:V)(v:Value)(Q:Bool->Hp->Prop),Inv X pj σ H s->RelV x v->r x H Q->
  wpAny (model X.prog X.w) X.A (truthy v) (TP X pj σ Q) X.xe s
def tOp(r:R2)(ta tb:TE):TE:=λσ H Q=>ta σ H λx H1=>tb σ H1 λy H2=>r x y H2 Q
def tUn(r:V->Hp->VK->Prop)(ta:TE):TE:=λσ H Q=>ta σ H λx H1=>r x H1 Q
def rI(C:Int->Int->Prop)(g:Int->Int->V):R2:=λx y H Q=>∃i j,x=.int i/\y=.int j/\C i j/\Q (g i j) H
def rI0(g:Int->Int->V):R2:=λx y H Q=>∃i j,x=.int i/\y=.int j/\Q (g i j) H
def rU(g:Int->V):V->Hp->VK->Prop:=λx H Q=>∃i,x=.int i/\Q (g i) H
section
variable{X:Cx}{a b c:Expr}{ta tb tc:TE}{pos:Pos}
theorem binT(ha:PE X a ta)(hb:PE X b tb){pj:List (Addr×Obj)}{s:Shared}{σ:St}{H:Hp}{R:V->V->Hp->Prop}(I:Inv X pj σ H s)
  (h:ta σ H λx H1=>tb σ H1 λy H2=>R x y H2){Q:Value->Shared->Prop}{f:Value->Value->Sem Value}
  (hf:∀v u s2 x y H2,Inv X pj σ H2 s2->RelV x v->RelV y u->R x y H2->wpAny (model X.prog X.w) X.A (f v u) Q X.xe s2):
  wpAny (model X.prog X.w) X.A (eval a X.env) (λv s₁=>wpAny (model X.prog X.w) X.A (eval b X.env) (λu s₂=>wpAny (model X.prog X.w) X.A (f v u) Q X.xe s₂) X.xe s₁) X.xe s:=by
 refine thn (ha pj s σ H _ I h) λv s1 z9=>?_
 obtain⟨x,H1,I1,r1,q1⟩:=z9;refine thn (hb pj s1 σ H1 _ I1 q1) λu s2 z9=>?_
 obtain⟨y,H2,I2,r2,q2⟩:=z9;exact hf v u s2 x y H2 I2 r1 r2 q2
theorem a1g{op:Operator}{r:R2}(ho:OpR X (binaryOp op) r)(ha:PE X a ta)(hb:PE X b tb):PE X (.BinOp a op b pos) (tOp r ta tb):=by
 intro pj s σ H Q I h;exact wpAny_BinOp (binT ha hb I h λv u s2 x y H2 I2 rx ry q=>ho pj s2 σ H2 x y v u Q I2 rx ry q)
theorem pe_un{op:UnaryOp}{r:V->Hp->VK->Prop}(ho:UnR X (unaryOp op) r)(ha:PE X a ta):PE X (.UnaryOp op a pos) (tUn r ta):=by
 intro pj s σ H Q I h;exact UnaryOp_ (thn (ha pj s σ H _ I h) λv s1 ⟨x,H1,I1,r1,q1⟩=>ho pj s1 σ H1 x v Q I1 r1 q1)
theorem opI{f:Value->Value->Sem Value}{C:Int->Int->Prop}{g:Int->Int->Int}
  (rule:∀(i j:Int)(t u:Tok)(s:Shared)(Q:Value->Shared->Prop)(E:Value->Shared->Prop),C i j->Q (.int (g i j) s.toks) { s with toks:=s.toks+1}->wpAny (model X.prog X.w) X.A (f (.int i t) (.int j u)) Q E s):
  OpR X f (rI C λi j=>.int (g i j)):=by
 intro pj s σ H x y v u Q I rx ry h;obtain⟨i,j,rfl,rfl,hc,q⟩:=h;obtain⟨t,rfl⟩:=rx;obtain⟨t',rfl⟩:=ry;exact rule i j t t' s _ _ hc ⟨.int (g i j),H,I.tok _,⟨_,rfl⟩,q⟩
theorem opI0{f:Value->Value->Sem Value}{g:Int->Int->Int}
  (rule:∀(i j:Int)(t u:Tok)(s:Shared)(Q:Value->Shared->Prop)(E:Value->Shared->Prop),Q (.int (g i j) s.toks) { s with toks:=s.toks+1}->wpAny (model X.prog X.w) X.A (f (.int i t) (.int j u)) Q E s):
  OpR X f (rI0 λi j=>.int (g i j)):=by
 intro pj s σ H x y v u Q I rx ry h;obtain⟨i,j,rfl,rfl,q⟩:=h;obtain⟨t,rfl⟩:=rx;obtain⟨t',rfl⟩:=ry;exact rule i j t t' s _ _ ⟨.int (g i j),H,I.tok _,⟨_,rfl⟩,q⟩
theorem opB0{f:Value->Value->Sem Value}{g:Int->Int->Bool}
  (rule:∀(i j:Int)(t u:Tok)(s:Shared)(Q:Value->Shared->Prop)(E:Value->Shared->Prop),Q (.bool (g i j)) s->wpAny (model X.prog X.w) X.A (f (.int i t) (.int j u)) Q E s):
  OpR X f (rI0 λi j=>.bl (g i j)):=by
 intro pj s σ H x y v u Q I rx ry h;obtain⟨i,j,rfl,rfl,q⟩:=h;obtain⟨t,rfl⟩:=rx;obtain⟨t',rfl⟩:=ry;exact rule i j t t' s _ _ ⟨.bl (g i j),H,I,rfl,q⟩
def CPow(i j:Int):Prop:=0<=j/\j<=1000000/\i.natAbs<2^64
def CMul(i j:Int):Prop:=(-(2^64)<i/\i<2^64)\/(-(2^64)<j/\j<2^64)
theorem CMul.ok{i j:Int}(h:CMul i j):IntMulOk i j:=by
 rcases h with⟨h1,h2⟩|⟨h1,h2⟩
 ·exact .of_left (intBits_le_64 h1 h2)
 ·exact .of_right (intBits_le_64 h1 h2)
theorem op_add:OpR X (binaryOp .Add) (rI0 λi j=>.int (i+j)):=opI0 λ_ _ _ _ _ _ _ q=>add_int q
theorem op_sub:OpR X (binaryOp .Sub) (rI0 λi j=>.int (i-j)):=opI0 λ_ _ _ _ _ _ _ q=>sub_int q
theorem op_mod:OpR X (binaryOp .Mod) (rI (λ_ j=>0<j) λi j=>.int (i%j)):=opI λi j _ _ _ _ _ hc q=>by
 have h1:(0:Int)<j:=hc;exact mod_int' qo (by rw[Int.fmod_eq_emod_of_nonneg i qo];exact q)
theorem op_pow:OpR X (binaryOp .Pow) (rI CPow λi j=>.int (i^j.toNat)):=opI λ_ _ _ _ _ _ _ hc q=>pow_int_small hc.1 hc.2.1 hc.2.2 q
theorem iop_add:OpR X (inplaceOp .Add) (rI0 λi j=>.int (i+j)):=opI0 λ_ _ _ _ _ _ _ q=>iadd_int q
theorem unI{f:Value->Sem Value}{g:Int->Int}
  (rule:∀(i:Int)(t:Tok)(s:Shared)(Q:Value->Shared->Prop)(E:Value->Shared->Prop),Q (.int (g i) s.toks) { s with toks:=s.toks+1}->wpAny (model X.prog X.w) X.A (f (.int i t)) Q E s):
  UnR X f (rU λi=>.int (g i)):=by
 intro pj s σ H x v Q I rx h;obtain⟨i,rfl,q⟩:=h;obtain⟨t,rfl⟩:=rx;exact rule i t s _ _ ⟨.int (g i),H,I.tok _,⟨_,rfl⟩,q⟩
theorem un_neg:UnR X (unaryOp .USub) (rU λi=>.int (-i)):=unI λ_ _ _ _ _ q=>neg_int q
end
def scal:V->V->Bool
 | .non,.non=>true| .non,.int _=>true| .int _,.non=>true| .non,.bl _=>true| .bl _,.non=>true| .non,.str _=>true| .str _,.non=>true
 | .int _,.int _=>true| .bl _,.bl _=>true| .str _,.str _=>true| .byt _,.byt _=>true
 | .int _,.str _=>true| .str _,.int _=>true| .bl _,.str _=>true| .str _,.bl _=>true
 |_,_=>false
def rEq:R2:=λx y H Q=>scal x y=true/\Q (.bl (decide (x=y))) H
def rNe:R2:=λx y H Q=>scal x y=true/\Q (.bl (!decide (x=y))) H
theorem c5r{i j:Int}:decide (V.int i=V.int j)=(i==j):=by
 rw[Xo]
 simp
theorem c8k{i j:Bool}:decide (V.bl i=V.bl j)=(i==j):=by
 rw[Xo]
 simp
theorem c5s{i j:Str}:decide (V.str i=V.str j)=(i==j):=by
 rw[Xo]
 simp
theorem c5t{i j:Array UInt8}:decide (V.byt i=V.byt j)=(i.toList==j.toList):=by
 rw[Xo];cases i;cases j
 simp
section
variable{X:Cx}{a b c:Expr}{ta tb tc:TE}{pos:Pos}
theorem a1m{pj:List (Addr×Obj)}{σ:St}{H:Hp}{s:Shared}{Q:VK}{k k':Bool}(I:Inv X pj σ H s)(q:Q (.bl k) H)(e:k=k'):EP X pj σ Q (.bool k') s:=by
 subst e;exact⟨.bl k,H,I,rfl,q⟩
theorem op_eq:OpR X (compareOp .Eq) rEq:=by
 intro pj s σ H x y v u Q I rx ry h;obtain⟨hs,q⟩:=h;cases x with
 |non=>
  cases rx;cases y with
  |non=>cases ry;exact PySem.EqNone.eq_none_none (a1m I q qz)
  |bl j=>cases ry;exact PySem.EqNone.eq_none_bool (a1m I q qz)
  |int j=>obtain⟨t',rfl⟩:=ry;exact PySem.EqNone.eq_none_int (a1m I q qz)
  |str j=>obtain⟨t',rfl⟩:=ry;exact PySem.EqNone.eq_none_str (a1m I q qz)
  |_=>exact absurd (show false=true from hs) Zo
 |bl i=>
  cases rx;cases y with
  |non=>cases ry;exact PySem.EqNone.eq_bool_none (a1m I q qz)
  |bl j=>cases ry;exact eq_bool (a1m I q c8k)
  |str j=>obtain⟨t',rfl⟩:=ry;exact PySem.EqMixed.eq_bool_str (a1m I q qz)
  |_=>exact absurd (show false=true from hs) Zo
 |int i=>
  obtain⟨t,rfl⟩:=rx;cases y with
  |non=>cases ry;exact PySem.EqNone.eq_int_none (a1m I q qz)
  |int j=>obtain⟨t',rfl⟩:=ry;exact eq_int (a1m I q c5r)
  |str j=>obtain⟨t',rfl⟩:=ry;exact PySem.EqMixed.eq_int_str (a1m I q qz)
  |_=>exact absurd (show false=true from hs) Zo
 |str i=>
  obtain⟨t,rfl⟩:=rx;cases y with
  |non=>cases ry;exact PySem.EqNone.eq_str_none (a1m I q qz)
  |bl j=>cases ry;exact PySem.EqMixed.eq_str_bool (a1m I q qz)
  |int j=>obtain⟨t',rfl⟩:=ry;exact PySem.EqMixed.eq_str_int (a1m I q qz)
  |str j=>obtain⟨t',rfl⟩:=ry;exact eq_str (a1m I q c5s)
  |_=>exact absurd (show false=true from hs) Zo
 |byt i=>
  obtain⟨t,rfl⟩:=rx;cases y with
  |byt j=>obtain⟨t',rfl⟩:=ry;exact W.eq_bytes (a1m I q c5t)
  |_=>exact absurd (show false=true from hs) Zo
 |_=>cases y<;>exact absurd (show false=true from hs) Zo
theorem op_ne:OpR X (compareOp .NotEq) rNe:=by
 intro pj s σ H x y v u Q I rx ry h;obtain⟨hs,q⟩:=h;cases x with
 |non=>
  cases rx;cases y with
  |non=>cases ry;exact PySem.EqNone.ne_none_none (a1m I q qz)
  |bl j=>cases ry;exact PySem.EqNone.ne_none_bool (a1m I q qz)
  |int j=>obtain⟨t',rfl⟩:=ry;exact PySem.EqNone.ne_none_int (a1m I q qz)
  |str j=>obtain⟨t',rfl⟩:=ry;exact PySem.EqNone.ne_none_str (a1m I q qz)
  |_=>exact absurd (show false=true from hs) Zo
 |bl i=>
  cases rx;cases y with
  |non=>cases ry;exact PySem.EqNone.ne_bool_none (a1m I q qz)
  |bl j=>cases ry;exact ne_bool (a1m I q (Yv not c8k))
  |str j=>obtain⟨t',rfl⟩:=ry;exact PySem.EqMixed.ne_bool_str (a1m I q qz)
  |_=>exact absurd (show false=true from hs) Zo
 |int i=>
  obtain⟨t,rfl⟩:=rx;cases y with
  |non=>cases ry;exact PySem.EqNone.ne_int_none (a1m I q qz)
  |int j=>obtain⟨t',rfl⟩:=ry;exact ne_int (a1m I q (Yv not c5r))
  |str j=>obtain⟨t',rfl⟩:=ry;exact PySem.EqMixed.ne_int_str (a1m I q qz)
  |_=>exact absurd (show false=true from hs) Zo
 |str i=>
  obtain⟨t,rfl⟩:=rx;cases y with
  |non=>cases ry;exact PySem.EqNone.ne_str_none (a1m I q qz)
  |bl j=>cases ry;exact PySem.EqMixed.ne_str_bool (a1m I q qz)
  |int j=>obtain⟨t',rfl⟩:=ry;exact PySem.EqMixed.ne_str_int (a1m I q qz)
  |str j=>obtain⟨t',rfl⟩:=ry;exact ne_str (a1m I q (Yv not c5s))
  |_=>exact absurd (show false=true from hs) Zo
 |byt i=>
  obtain⟨t,rfl⟩:=rx;cases y with
  |byt j=>obtain⟨t',rfl⟩:=ry;exact W.ne_bytes (a1m I q (Yv not c5t))
  |_=>exact absurd (show false=true from hs) Zo
 |_=>cases y<;>exact absurd (show false=true from hs) Zo
theorem op_lt:OpR X (compareOp .Lt) (rI0 λi j=>.bl (decide (i<j))):=opB0 λ_ _ _ _ _ _ _ q=>lt_int q
theorem op_le:OpR X (compareOp .LtE) (rI0 λi j=>.bl (decide (i<=j))):=opB0 λ_ _ _ _ _ _ _ q=>le_int q
theorem op_gt:OpR X (compareOp .Gt) (rI0 λi j=>.bl (decide (j<i))):=opB0 λ_ _ _ _ _ _ _ q=>gt_int q
theorem op_ge:OpR X (compareOp .GtE) (rI0 λi j=>.bl (decide (j<=i))):=opB0 λ_ _ _ _ _ _ _ q=>ge_int q
theorem c8l:OpR X (compareOp .In) (λx y H Q=>∃i j,x=.str i/\y=.str j/\Q (.bl (!(Builtin.Str.occurrences j i 0 j.length 1).isEmpty)) H):=by
 intro pj s σ H x y v u Q I rx ry h;obtain⟨i,j,rfl,rfl,q⟩:=h;obtain⟨t,rfl⟩:=rx;obtain⟨t',rfl⟩:=ry;exact in_str (a1m I q rfl)
theorem op_isN:OpR X (compareOp .Is) (λx y H Q=>y=.non/\Q (.bl (decide (x=.non))) H):=by
 intro pj s σ H x y v u Q I rx ry h;obtain⟨rfl,q⟩:=h;cases ry;refine is_none_gen (a1m I q ?_);cases x<;>first
  | (cases rx;rfl)
  | (obtain⟨t,rfl⟩:=rx;rfl)
theorem OpR.or{f:Value->Value->Sem Value}{r r':R2}(h:OpR X f r)(h':OpR X f r'):OpR X f (λx y H Q=>r x y H Q\/r' x y H Q):=by
 intro pj s σ H x y v u Q I rx ry q;rcases q with q|q
 ·exact h pj s σ H x y v u Q I rx ry q
 ·exact h' pj s σ H x y v u Q I rx ry q
theorem a1b(b:Expr){op:CmpOp}(h:op≠.In:=by decide)(h2:op≠.NotIn:=by decide):behindInMarks op b=false:=by
 have e1:(op==CmpOp.In)=false:=by cases op<;>first|rfl|exact absurd rfl h
 have e2:(op==CmpOp.NotIn)=false:=by cases op<;>first|rfl|exact absurd rfl h2
 cases b<;>simp[behindInMarks,e1,e2]
theorem a2x{op:CmpOp}{r:R2}(ho:OpR X (compareOp op) r)(ha:PE X a ta)(hb:PE X b tb)(hm:behindInMarks op b=false):PE X (.Compare a [op] [b] pos) (tOp r ta tb):=by
 intro pj s σ H Q I h;exact wpAny_Compare1 (binT ha hb I h λv u s2 x y H2 I2 rx ry q=>ho pj s2 σ H2 x y v u Q I2 rx ry q) hm
def tTest(t:TE):TT:=λσ H Q=>t σ H λx H'=>∃k,x=.bl k/\Q k H'
theorem pt_cmpR{op:CmpOp}{r:R2}(ho:OpR X (compareOp op) r)(ha:PE X a ta)(hb:PE X b tb)(hm:behindInMarks op b=false):PT X (.Compare a [op] [b] pos) (tTest (tOp r ta tb)):=by
 intro pj s σ H Q I h
 refine wpAny_isTrue_Compare1 (thn (ha pj s σ H _ I h) λv s1 ⟨x,H1,I1,r1,q1⟩=>thn (hb pj s1 σ H1 _ I1 q1) λu s2 ⟨y,H2,I2,r2,q2⟩=>
  thn (ho pj s2 σ H2 x y v u _ I2 r1 r2 q2) λc s3 ⟨z,H3,I3,r3,k,e,q3⟩=>?_) hm
 subst e;cases r3;exact Y8 ⟨H3,I3,q3⟩
def c2c(r r':R2)(ta tb tc:TE):TE:=λσ H Q=>ta σ H λx H1=>tb σ H1 λy H2=>r x y H2 λz H3=>∃k,z=.bl k/\
 (if k=true then tc σ H3 λw' H4=>r' y w' H4 Q else Q (.bl false) H3)
theorem d1u{op op':CmpOp}{r r':R2}(ho:OpR X (compareOp op) r)(ho':OpR X (compareOp op') r')(ha:PE X a ta)(hb:PE X b tb)(hc:PE X c tc)
  (hm:lastMarks [op,op'] [b,c]=false:=by with_unfolding_all rfl):PT X (.Compare a [op,op'] [b,c] pos) (tTest (c2c r r' ta tb tc)):=by
 intro pj s σ H Q I h
 refine isTrue_chain (thn (ha pj s σ H _ I h) λv s1 ⟨x,H1,I1,r1,q1⟩=>test_link (thn (hb pj s1 σ H1 _ I1 q1) λu s2 ⟨y,H2,I2,r2,q2⟩=>
  thn (ho pj s2 σ H2 x y v u _ I2 r1 r2 q2) λd s3 ⟨z,H3,I3,r3,k,e,q3⟩=>?_)) hm
 subst e;cases r3;refine Y8 ?_;cases k with
 |false=>
  obtain⟨k',e',q'⟩:=q3;cases e';exact ite_ff ⟨H3,I3,q'⟩
 |true=>
  refine ite_tt (test_last (thn (hc pj s3 σ H3 _ I3 q3) λw' s4 ⟨z',H4,I4,r4,q4⟩=>thn (ho' pj s4 σ H4 y z' u w' _ I4 r2 r4 q4) λd' s5 z9=>?_));obtain⟨z2,H5,I5,r5,k2,e2,q5⟩:=z9;subst e2;cases r5;exact Y8 ⟨H5,I5,q5⟩
def TruV(K:W.Frag)(x:V)(H:Hp)(k:Bool):Prop:=
 match x with
 | .non=>k=false
 | .bl b=>k=b
 | .int i=>k=(i !=0)
 | .str y=>y.length<=sizeLine/\k=((y.length:Int) !=0)
 | .byt y=>y.size<=sizeLine/\k=((y.size:Int) !=0)
 | .ref p=>(∃xs,SqL K H p xs/\k= !xs.isEmpty)\/(∃xs,SqT K H p xs/\k= !xs.isEmpty)\/∃kvs,H p=some (.dK kvs)/\k= !kvs.isEmpty
 |_=>False
theorem c6x{κ:Type}{kvs:List (κ×V)}{vs:List (κ×Value)}(r:KV kvs vs):(!vs.isEmpty)= !kvs.isEmpty:=by
 cases r<;>rfl
theorem b7i{xs:List V}{its:List Value}(r:Vals xs its):(!its.toArray.isEmpty)= !xs.isEmpty:=by
 cases r<;>simp
theorem b3p:(sizeLine:Nat)<2^63:=by rw[Yw];decide
theorem tru_ok:TruR X (λx H Q=>∃k,TruV X.K x H k/\Q k H):=by
 intro pj s σ H x v Q I rx h;obtain⟨k,e,q⟩:=h;have hl:=b3p;have hs:sizeLine=16777216:=Yw;cases x with
 |non=>
  cases rx;have e':k=false:=e;subst e';exact truthy_none ⟨H,I,q⟩
 |bl b=>
  cases rx;have e':k=b:=e;subst e';exact Y8 ⟨H,I,q⟩
 |int i=>
  obtain⟨t,rfl⟩:=rx;have e':k=(i !=0):=e;subst e';exact PySem.P.truthy_int ⟨H,I,q⟩
 |str y=>
  obtain⟨t,rfl⟩:=rx;obtain⟨hy,e'⟩:y.length<=sizeLine/\k=((y.length:Int) !=0):=e;subst e';exact PySem.P.truthy_str qo ⟨H,I.tok _,q⟩
 |byt y=>
  obtain⟨t,rfl⟩:=rx;obtain⟨hy,e'⟩:y.size<=sizeLine/\k=((y.size:Int) !=0):=e;subst e';exact W.truthy_bytes qo ⟨H,I.tok _,q⟩
 |ref p=>
  cases rx;have e':(∃xs,SqL X.K H p xs/\k= !xs.isEmpty)\/(∃xs,SqT X.K H p xs/\k= !xs.isEmpty)\/∃kvs,H p=some (.dK kvs)/\k= !kvs.isEmpty:=e;rcases e' with⟨xs,hx,e'⟩|⟨xs,hx,e'⟩|⟨kvs,hx,e'⟩
  ·subst e';obtain⟨its,r,pl,hz⟩:=I.list hx;have hlen:=r.length;exact wpAny_truthy_list pl.isList (by simp only[Zj];omega) ⟨H,I.tok _,by rw[b7i r];exact q⟩
  ·subst e';obtain⟨its,r,pl,hz⟩:=I.tuple hx;have hlen:=r.length;exact truthy_tuple pl (by simp only[Zj];omega) ⟨H,I.tok _,by rw[b7i r];exact q⟩
  ·subst e';obtain⟨hz,hS,vs,r,m⟩:kvs.length<=sizeLine/\(p==sysModules)=false/\∃vs,KV kvs vs/\s.heap.DictOf (a1r X.prog X.w) p vs:=I.hok p _ hx;have hlen:kvs.length=vs.length:=Y0 r;exact wpAny_truthy_dict hS m qo ⟨H,I.tok _,by rw[c6x r];exact q⟩
 |_=>exact(show False from e).elim
theorem c6y:OpR X (binaryOp .Add) (λx y H Q=>∃i j,x=.str i/\y=.str j/\i.length+j.length<=sizeLine/\Q (.str (i++j)) H):=by
 intro pj s σ H x y v u Q I rx ry h;obtain⟨i,j,rfl,rfl,hz,q⟩:=h;obtain⟨t,rfl⟩:=rx;obtain⟨t',rfl⟩:=ry;exact add_str (λt' tk=>⟨.str (i++j),H,I.tok _,⟨_,rfl⟩,q⟩) hz
theorem c4y:OpR X (inplaceOp .Add) (λx y H Q=>∃i j,x=.str i/\y=.str j/\i.length+j.length<=sizeLine/\Q (.str (i++j)) H):=by
 intro pj s σ H x y v u Q I rx ry h;obtain⟨i,j,rfl,rfl,hz,q⟩:=h;obtain⟨t,rfl⟩:=rx;obtain⟨t',rfl⟩:=ry;exact iadd_str (λt' tk=>⟨.str (i++j),H,I.tok _,⟨_,rfl⟩,q⟩) hz
theorem vals1{x:V}{us:List Value}(r:Vals [x] us):∃u,us=[u]/\RelV x u:=by
 cases r with
 |cons r1 r2=>cases r2;exact⟨_,rfl,r1⟩
theorem vals2{x y:V}{us:List Value}(r:Vals [x,y] us):∃u w',us=[u,w']/\RelV x u/\RelV y w':=by
 cases r with
 |cons r1 r2=>
  cases r2 with
  |cons r3 r4=>cases r4;exact⟨_,_,rfl,r1,r3⟩
theorem c8m:a2w X (.type "int") (λxs H Q=>(∃i,xs=[.int i]/\Q (.int i) H)\/∃k,xs=[.bl k]/\Q (.int (if k then 1 else 0)) H):=by
 intro pj s σ H xs us Q I r h;rcases h with⟨i,rfl,q⟩|⟨k,rfl,q⟩
 ·obtain⟨u,rfl,t,rfl⟩:=vals1 r;exact call_int_int ⟨.int i,H,I,⟨_,rfl⟩,q⟩
 ·obtain⟨u,rfl,r1⟩:=vals1 r;cases r1;exact call_int_bool ⟨.int (if k then 1 else 0),H,I.tok _,⟨_,rfl⟩,q⟩
def LenV(K:W.Frag)(x:V)(H:Hp)(n:Nat):Prop:=
 match x with
 | .str y=>y.length<=sizeLine/\n=y.length
 | .byt y=>y.size<=sizeLine/\n=y.size
 | .ref p=>(∃xs,SqL K H p xs/\n=xs.length)\/∃xs,SqT K H p xs/\n=xs.length
 |_=>False
theorem d1v:a2w X (.builtin "len") (λxs H Q=>∃x n,xs=[x]/\LenV X.K x H n/\Q (.int n) H):=by
 intro pj s σ H xs us Q I r h;obtain⟨x,n,rfl,e,q⟩:=h;obtain⟨u,rfl,rx⟩:=vals1 r;have hl:=b3p;have hs:sizeLine=16777216:=Yw;cases x with
 |str y=>
  obtain⟨t,rfl⟩:=rx;obtain⟨hy,e'⟩:y.length<=sizeLine/\n=y.length:=e;subst e';exact len_str qo ⟨.int _,H,I.tok _,⟨_,rfl⟩,q⟩
 |byt y=>
  obtain⟨t,rfl⟩:=rx;obtain⟨hy,e'⟩:y.size<=sizeLine/\n=y.size:=e;subst e';exact W.len_bytes qo ⟨.int _,H,I.tok _,⟨_,rfl⟩,q⟩
 |ref p=>
  cases rx;have e':(∃xs,SqL X.K H p xs/\n=xs.length)\/∃xs,SqT X.K H p xs/\n=xs.length:=e;rcases e' with⟨xs,hx,e'⟩|⟨xs,hx,e'⟩
  ·subst e';obtain⟨its,r',pl,hz⟩:=I.list hx;have hlen:=r'.length;exact Calls.call_len_list pl.isList (by simp only[Zj];omega) ⟨.int xs.length,H,I.tok _,⟨_,by simp only[Zj];rw[hlen]⟩,q⟩
  ·subst e';obtain⟨its,r',pl,hz⟩:=I.tuple hx;have hlen:=r'.length;exact len_tuple pl (by simp only[Zj];omega) ⟨.int xs.length,H,I.tok _,⟨_,by simp only[Zj];rw[hlen]⟩,q⟩
 |_=>exact(show False from e).elim
end
structure ObjM(h:Heap)(x dx C:Addr)(mA:Str->Option Value):Prop where
 obj:h.get? x=some (W.instObj C dx)
 ns:h.Ns1 dx mA
 ne:dx≠x
theorem c8n{h:Heap}{dx:Addr}{mA:Str->Option Value}(n:h.Ns1 dx mA):∃od,h.get? dx=some od/\∀name,W.lookIn name od=some (mA name):=by
 obtain⟨o,es,ep,ho,hd,hk,_,hm⟩:=n;refine⟨o,ho,λname=>?_⟩;have e:=hm name;unfold nsFind findBy at e;rw[<-Array.find?_toList]at e;unfold W.lookIn;rw[hd]
 dsimp only
 split
 ·rename_i y q;rw[q]at e;exact Yv some e
 ·rename_i q;rw[q]at e;have a:es.toList.any (·.refKey)=false:=by
   rw[List.any_eq_false];intro y hy;obtain⟨z,t,hkey⟩:=hk y (Array.mem_toList_iff.mp hy)
   simp[DictEntry.refKey,hkey]
  have a':¬es.toList.any (·.refKey)=true:=by rw[a];exact Zo
  rw[if_neg a'];exact Yv some e
theorem ObjM.look{h:Heap}{x dx C:Addr}{mA:Str->Option Value}(I:ObjM h x dx C mA):∃od,W.InstAt h x (W.instObj C dx) C (some od)/\∀name,W.lookIn name od=some (mA name):=
 let⟨od,ho,hl⟩:=c8n I.ns
 ⟨od,⟨I.obj,rfl,rfl,ho⟩,hl⟩
section
variable{prog:Program}{w:World}{A:Around}{E:Value->Shared->Prop}{s:Shared}{K:W.Frag}{x dx C f:Addr}{mA:Str->Option Value}{name:Str}{v:Value}
theorem get_map{expr:Bool}{Q:Value->Shared->Prop}(X:K.In s.heap)(I:ObjM s.heap x dx C mA)(hg:W.plainGet K C name=true)(hh:W.hasDictIn K C=true)
  (ha:W.findIn K (.ref C) name=some none)(hv:mA name=some v)(hv':W.handedIn v=true)(h:Q v { s with toks:=s.toks+1}):
  wpAny (model prog w) A (getAttr (.ref x) name expr) Q E s:=by
 obtain⟨od,J,hl⟩:=I.look;exact W.get_value X J (To hg).1 (W.findObj_own hh ha rfl (by rw[hl,hv])) hv' h
theorem d1w{pl:Sem Bool}{Q:Value×List Value->Shared->Prop}(X:K.In s.heap)(I:ObjM s.heap x dx C mA)(hg:W.plainGet K C name=true)
  (hf:W.findIn K (.ref C) name=some (some (.ref f)))(ht:W.isFn K (.ref f)=true)(hv:mA name=none)(h:Q (.ref f,[.ref x]) s):
  wpAny (model prog w) A (getMethod (.ref x) name pl) Q E s:=by
 obtain⟨od,J,hl⟩:=I.look;exact W.method_fn X J (To hg).1 (To hg).2 hf (V0.mp ht) (by show(W.lookIn name od).map (·.isSome)=some false;rw[hl,hv];rfl) h
theorem set_map{ns:List Str}{Q:Unit->Shared->Prop}(X:K.In s.heap)(I:ObjM s.heap x dx C mA)
  (hs:W.findIn K (.ref C) "__setattr__"=some (some (.builtin "object.__setattr__")))(hp:W.plainOver K C=true)(ht:W.takerIn K C name=some none)(hh:W.hasDictIn K C=true)
  (hw:PySem.Within mA ns)(hsz:ns.length<=sizeLine)
  (h:∀h',ObjM h' x dx C (λy=>if y=name then some v else mA y)->Heap.SameBut dx s.heap h'->Q () { s with heap:=h',toks:=s.toks+2}):
  wpAny (model prog w) A (setAttr (.ref x) name v) Q E s:=by
 obtain⟨od,J,hl⟩:=I.look;refine W.set_plain X J hs (W.osa_open (s:={ s with toks:=s.toks+1}) (r:=none) X J hp ht λb=>?_);obtain⟨cd,hc,hd'⟩:=W.any_some hh;have hx:s.heap.get? x=some ⟨.ref C,some dx,.plain,#[]⟩:=I.obj;refine Zb (Zf (Zb (Zb (wpAny_loadPart hx (Zb (W.Looks.here (s:={ s with toks:=s.toks+1}) (W.looks_clsIn X hc) ?_))))));rw[hd'];refine Zf (a:=some dx) (Zb (Zf (Zb ?_)));refine wpAny_nsSet1 (s:={ s with toks:=s.toks+1}) I.ns λh' hn2 hs2=>?_
 obtain⟨oD,esD,epD,hoD,hdD,hcD⟩:=hn2.count (PySem.Within.cons name v hw);refine Zb (wpAny_lookBehind hoD (by rw[hdD];exact pastItsLine_dict (Ye hcD (by rw[length_cons];omega))) ?_);exact Zf (h _ ⟨(hs2.2 _ (Ne.symm I.ne)).trans I.obj,hn2,I.ne⟩ hs2)
theorem d1x{R:Result->Shared->Prop}{vs:List Value}{kw:List (Str×Value)}(X:K.In s.heap)(hm:W.makesIn K C=true)
  (hi:W.findIn K (.ref C) "__init__"=some (some (.ref f)))(hf:W.typeIn K (.ref f)=some (.type "function"))
  (h:codeAny (model prog w) (A.under (.builtin "type.__call__" ⟨.ref C::vs,kw⟩)) (.call (.ref f) ⟨.ref (s.heap.objs.size+1)::vs,kw⟩) (W.InitBack (s.heap.objs.size+1) R)
   { s with heap:=(s.heap.push W.emptyDict).push (W.instObj C s.heap.objs.size)}):
  codeAny (model prog w) A (.call (.ref C) ⟨vs,kw⟩) R s:=by
 obtain⟨hh,g,d,t,os⟩:=s;exact W.make_core (W.makes_of X hm) (W.looks_findIn X hi) (λself=>W.bind_fn X self hf) (.inl rfl) h
end
def putF(f:Str)(v:V):List (Str×V)->List (Str×V)
 | []=>[(f,v)]
 | (g,x)::r=>if g=f then(g,v)::r else(g,x)::putF f v r
theorem b5z(f g:Str)(v:V):∀fs:List (Str×V),(putF f v fs).lookup g=if g=f then some v else fs.lookup g
 | []=>by
  show List.lookup g [(f,v)]=_
  by_cases h:g=f
  ·have hb:(g==f)=true:=V0.mpr h;simp only[List.lookup,hb,if_pos h]
  ·have hb:(g==f)=false:=Y7.mpr h;simp only[List.lookup,hb,if_neg h]
 | (k,x)::r=>by
  have ih:=b5z f g v r;rw[show putF f v ((k,x)::r)=(if k=f then(k,v)::r else(k,x)::putF f v r)from rfl]
  by_cases hk:k=f
  ·rw[if_pos hk]
   by_cases h:g=k
   ·have hb:(g==k)=true:=V0.mpr h;simp only[List.lookup,hb,if_pos (h.trans hk)]
   ·have hb:(g==k)=false:=Y7.mpr h;simp only[List.lookup,hb,if_neg (λe:g=f=>h (e.trans hk.symm))]
  ·rw[if_neg hk]
   by_cases h:g=k
   ·have hb:(g==k)=true:=V0.mpr h;simp only[List.lookup,hb,if_neg (λe:g=f=>hk (h.symm.trans e))]
   ·have hb:(g==k)=false:=Y7.mpr h;simp only[List.lookup,hb];exact ih
theorem b3q(f:Str)(v:V):∀fs:List (Str×V),f∈(putF f v fs).map (·.1)/\∀g,g∈fs.map (·.1)->g∈(putF f v fs).map (·.1)
 | []=>⟨by simp[putF],λg h=>by simp at h⟩
 | (k,x)::r=>by
  obtain⟨i1,i2⟩:=b3q f v r;rw[show putF f v ((k,x)::r)=(if k=f then(k,v)::r else(k,x)::putF f v r)from rfl]
  by_cases hk:k=f
  ·rw[if_pos hk];subst hk;exact⟨qz,λg h=>by simpa using h⟩
  ·rw[if_neg hk];refine⟨?_,λg h=>?_⟩
   ·rw[Zt];exact Zc _ i1
   ·rw[Zt]at h ⊢;rcases Zg.mp h with e|e
    ·exact Zg.mpr (.inl e)
    ·exact Zc _ (i2 g e)
theorem b6a(f:Str)(v:V):∀fs:List (Str×V),(putF f v fs).length<=fs.length+1
 | []=>by simp[putF]
 | (k,x)::r=>by
  have ih:=b6a f v r;rw[show putF f v ((k,x)::r)=(if k=f then(k,v)::r else(k,x)::putF f v r)from rfl]
  by_cases hk:k=f
  ·rw[if_pos hk,length_cons,length_cons];omega
  ·rw[if_neg hk,length_cons,length_cons];omega
theorem RelO.some_of{v:V}{o:Option Value}(r:RelO (some v) o):∃u,o=some u/\RelV v u:=by
 cases o with
 |none=>exact(show False from r).elim
 |some u=>exact⟨u,rfl,r⟩
theorem RelO.none_of{o:Option Value}(r:RelO none o):o=none:=by
 cases o with
 |none=>rfl
 |some u=>exact(show False from r).elim
theorem c8o{v:V}{u:Value}(r:RelV v u):W.handedIn u=true:=by
 cases v with
 |non=>cases(show u=Value.none from r);rfl
 |bl b=>cases(show u=Value.bool b from r);rfl
 |int i=>obtain⟨t,e⟩:=(show ∃t,u=Value.int i t from r);cases e;rfl
 |str x=>obtain⟨t,e⟩:=(show ∃t,u=Value.str x t from r);cases e;rfl
 |byt b=>obtain⟨t,e⟩:=(show ∃t,u=Value.bytes b t from r);cases e;rfl
 |flt b=>obtain⟨t,e⟩:=(show ∃t,u=Value.float b t from r);cases e;rfl
 |ref a=>cases(show u=Value.ref a from r);rfl
 |ty n=>cases(show u=Value.type n from r);rfl
section
variable{P:Program}{w:World}{H H':Hp}{h h':Heap}{a C dx:Addr}{fs fs':List (Str×V)}
theorem b5b(hok:HOk P w H h)(e:H a=some (.ins C dx fs)):∃mA,ObjM h a dx C mA/\(∀f,RelO (fs.lookup f) (mA f))/\PySem.Within mA (fs.map (·.1))/\fs.length<=1000/\H dx=some (.own a):=by
 obtain⟨d,z,ne,ob,mA,n,r,q⟩:=(show a1v P w H h a (.ins C dx fs)from hok a _ e);exact⟨mA,⟨ob,n,ne⟩,r,q,z,d⟩
end
structure Cls(K:W.Frag)(C:Addr):Prop where
 pg:W.plainGet K C Str.empty=true
 hd:W.hasDictIn K C=true
 po:W.plainOver K C=true
 sa:W.findIn K (.ref C) "__setattr__"=some (some (.builtin "object.__setattr__"))
theorem Cls.get{K:FG}{C:Addr}(c:Cls K C)(f:Str):W.plainGet K C f=true:=c.pg
def a1k(K:W.Frag)(C:Addr)(f:Str):Prop:=W.findIn K (.ref C) f=some none
theorem a1k.taker{K:FG}{C:Addr}{f:Str}(n:a1k K C f):W.takerIn K C f=some none:=by
 unfold W.takerIn;rw[show W.findIn K (.ref C) f=some none from n];rfl
structure Meth(K:W.Frag)(C:Addr)(m:Str)(f:Addr):Prop where
 at_:W.findIn K (.ref C) m=some (some (.ref f))
 fn:W.isFn K (.ref f)=true
 kp:W.keepIn K (.ref f)=true
section
variable{X:Cx}{pj:List (Addr×Obj)}{σ:St}{H:Hp}{s:Shared}{a C dx:Addr}{fs:List (Str×V)}{f:Str}{v:V}{A:Around}{E:Value->Shared->Prop}
theorem b7j{b:Bool}{Q:Value->Shared->Prop}(I:Inv X pj σ H s)(e:H a=some (.ins C dx fs))(c:Cls X.K C)(n:a1k X.K C f)(l:fs.lookup f=some v)
  (h:∀u s',Inv X pj σ H s'->RelV v u->Q u s'):wpAny (model X.prog X.w) A (getAttr (.ref a) f b) Q E s:=by
 obtain⟨mA,O,r,_,_,_⟩:=b5b I.hok e;obtain⟨u,hu,ru⟩:=RelO.some_of (v:=v) (o:=mA f) (by rw[<-l];exact r f);exact get_map I.kIn O (c.get f) c.hd n hu (c8o ru) (h u _ (I.tok _) ru)
theorem b7k{m:Str}{g:Addr}{pl:Sem Bool}{Q:Value×List Value->Shared->Prop}(I:Inv X pj σ H s)(e:H a=some (.ins C dx fs))(c:Cls X.K C)(k:Meth X.K C m g)(l:fs.lookup m=none)
  (h:Q (.ref g,[.ref a]) s):wpAny (model X.prog X.w) A (getMethod (.ref a) m pl) Q E s:=by
 obtain⟨mA,O,r,_,_,_⟩:=b5b I.hok e;have hn:mA m=none:=RelO.none_of (by rw[<-l];exact r m);exact d1w I.kIn O (c.get m) k.at_ k.fn hn h
theorem b7l{y:V}{u:Value}{Q:Unit->Shared->Prop}(I:Inv X pj σ H s)(e:H a=some (.ins C dx fs))(c:Cls X.K C)(n:a1k X.K C f)(hl:fs.length<1000)(ry:RelV y u)
  (h:∀s',Inv X pj σ (upd H a (.ins C dx (putF f y fs))) s'->Q () s'):wpAny (model X.prog X.w) A (setAttr (.ref a) f u) Q E s:=by
 obtain⟨mA,O,r,wi,_,ho⟩:=b5b I.hok e;have hz:(fs.map (·.1)).length<=sizeLine:=by rw[length_map,Yw];omega
 refine set_map I.kIn O c.sa c.po n.taker c.hd wi hz λh' O' sb=>h _ ?_
 have hd:∃o,h'.get? dx=some o:=let⟨o,_,_,e',_⟩:=O'.ns;⟨o,e'⟩
 refine I.write (x:=a) (e:=dx) (by rw[e];exact True.intro) (.inr ho) (λb q hb z=>(sb.2 b hb).trans z) hd ?_;refine⟨by rw[a0d O.ne];exact ho,?_,O.ne,O'.obj,_,O'.ns,λg=>?_,λg hg=>?_⟩
 ·have:=b6a f y fs;omega
 ·show RelO ((putF f y fs).lookup g) (if g=f then some u else mA g)
  rw[b5z]
  by_cases q:g=f
  ·rw[if_pos q,if_pos q];exact ry
  ·rw[if_neg q,if_neg q];exact r g
 ·by_cases q:g=f
  ·rw[q];exact(b3q f y fs).1
  ·refine(b3q f y fs).2 g (wi g λz=>hg ?_)
   show(if g=f then some u else mA g)=none
   rw[if_neg q];exact z
theorem Inv.made(I:Inv X pj σ H s):Inv X pj σ (upd (upd H s.heap.objs.size (.own (s.heap.objs.size+1))) (s.heap.objs.size+1) (.ins C s.heap.objs.size []))
  { s with heap:=(s.heap.push W.emptyDict).push (W.instObj C s.heap.objs.size)}:=by
 have e1:(s.heap.push W.emptyDict).get? s.heap.objs.size=some W.emptyDict:=Zu s.heap rfl;have e2:((s.heap.push W.emptyDict).push (W.instObj C s.heap.objs.size)).get? (s.heap.objs.size+1)=some (W.instObj C s.heap.objs.size):=by
  have:=Zu (s.heap.push W.emptyDict) (o:=W.instObj C s.heap.objs.size) rfl;rwa[Wz]at this
 have e3:(s.heap.push W.emptyDict).Ns s.heap.objs.size (λ_=>none):=⟨W.emptyDict,#[],_,e1,rfl,(λe he=>absurd he qz),λ_=>rfl⟩;have I1:=I.laid (a:=s.heap.objs.size) (o:=.own (s.heap.objs.size+1)) (h':=s.heap.push W.emptyDict) (t':=s.toks) (λb u q=>Zh _ q) (Zm _) ⟨_,e1⟩;refine I1.laid (a:=s.heap.objs.size+1) (o:=.ins C s.heap.objs.size []) (t':=s.toks) (λb u q=>Zh _ q) (T8 (Wz _ _)) ?_;have ne:s.heap.objs.size≠s.heap.objs.size+1:=Z2 (Wl _);refine⟨by rw[a0d ne,a0c],Z4 _,ne,e2,λ_=>none,(Heap.Ns1.of_empty e3).at λo q=>Zh _ q,λ_=>True.intro,λy hy=>absurd rfl hy⟩
theorem attr_of{prog:Program}{w:World}{env:Env}{e:Expr}{f:Str}{pos:Pos}{s:Shared}{Q:Value->Shared->Prop}(hb:attributeBase e f env (eval e env)=eval e env)
  (h:wpAny (model prog w) A (eval e env) (λo s₁=>wpAny (model prog w) A (getAttr o f true) Q E s₁) E s):wpAny (model prog w) A (eval (.Attribute e f pos) env) Q E s:=
 Attribute_any_ h (by rw[arm_eval_Attribute,hb])
end
def tFld(K:W.Frag)(ta:TE)(f:Str):TE:=λσ H Q=>ta σ H λx H1=>∃a C dx fs v,x=.ref a/\H1 a=some (.ins C dx fs)/\Cls K C/\a1k K C f/\fs.lookup f=some v/\Q v H1
def sFld(K:W.Frag)(ta tv:TE)(f:Str):TS:=λD σ H=>tv σ H λy H1=>ta σ H1 λx H2=>∃a C dx fs,x=.ref a/\H2 a=some (.ins C dx fs)/\Cls K C/\a1k K C f/\fs.length<1000/\
 D.nx σ (upd H2 a (.ins C dx (putF f y fs)))
def InOp(X:Cx)(op:Operator)(rd:V->V->Hp->VK->Prop):Prop:=
 ∀(pj:List (Addr×Obj))(s:Shared)(σ:St)(H:Hp)(x y:V)(u v:Value)(Q:VK),Inv X pj σ H s->RelV x u->RelV y v->rd x y H Q->wpAny (model X.prog X.w) X.A (inplaceOp op u v) (EP X pj σ Q) X.xe s
def c5u(K:W.Frag)(ta tv:TE)(rd:V->V->Hp->VK->Prop)(f:Str):TS:=λD σ H=>ta σ H λx H1=>∃a C dx fs v,x=.ref a/\H1 a=some (.ins C dx fs)/\Cls K C/\a1k K C f/\fs.lookup f=some v/\
 tv σ H1 λy H2=>rd v y H2 λz H3=>∃dx' fs',H3 a=some (.ins C dx' fs')/\fs'.length<1000/\D.nx σ (upd H3 a (.ins C dx' (putF f z fs')))
section
variable{X:Cx}{o e value:Expr}{f:Str}{pos pos' tpos:Pos}{ta tv:TE}
theorem a0v(he:PE X e ta)(hb:attributeBase e f X.env (eval e X.env)=eval e X.env):PE X (.Attribute e f pos) (tFld X.K ta f):=by
 intro pj s σ H Q I h;refine attr_of hb (thn (he pj s σ H _ I h) λu s1 z9=>?_);obtain⟨x,H1,I1,rx,a,C,dx,fs,v,ex,ea,c,n,l,q⟩:=z9;subst ex;obtain rfl:u=Value.ref a:=rx;exact b7j I1 ea c n l λu' s2 I2 ru=>⟨v,H1,I2,ru,q⟩
theorem a1q(ha:PE X o ta)(hv:PE X value tv)(hs:swapsWith value (some (.Attribute o f pos')) pos.line X.env=pure false):PS X (.Assign [.Attribute o f pos'] value pos) (sFld X.K ta tv f):=by
 intro pj s σ H D I h;refine plainObj_wpAny_Assign_Attribute (thn (hv pj s σ H _ I h) λu s1 ⟨y,H1,I1,ry,q⟩=>thn (ha pj s1 σ H1 _ I1 q) λov s2 ⟨x,H2,I2,rx,a,C,dx,fs,ex,ea,c,n,l,q2⟩=>?_) hs;subst ex;obtain rfl:ov=Value.ref a:=rx;exact b7l I2 ea c n l ry λs3 I3=>⟨σ,_,I3,q2⟩
theorem b3r{op:Operator}{rd:V->V->Hp->VK->Prop}(ha:PE X o ta)(hv:PE X value tv)(hop:InOp X op rd):PS X (.AugAssign (.Attribute o f tpos) op value pos) (c5u X.K ta tv rd f):=by
 intro pj s σ H D I h;refine wpAny_AugAssign_AttributeAny (thn (ha pj s σ H _ I h) λov s1 z9=>?_);obtain⟨x,H1,I1,rx,a,C,dx,fs,v,ex,ea,c,n,l,q⟩:=z9;subst ex;obtain rfl:ov=Value.ref a:=rx;refine b7j I1 ea c n l λu s2 I2 ru=>thn (hv pj s2 σ H1 _ I2 q) λw3 s3 ⟨y,H2,I3,ry,q3⟩=>thn (hop pj s3 σ H2 v y u w3 _ I3 ru ry q3) λw4 s4 z9=>?_
 obtain⟨z,H3,I4,rz,dx',fs',ea',l',q4⟩:=z9;exact b7l I4 ea' c n l' rz λs5 I5=>⟨σ,_,I5,q4⟩
end
section
variable{X:Cx}{pj:List (Addr×Obj)}{σ:St}{H:Hp}{s:Shared}{A:Around}{E:Value->Shared->Prop}{Q:Value->Shared->Prop}{c:Value}{b:Bool}
inductive TyOf(K:W.Frag)(H:Hp):V->Value->Prop where
 |non:TyOf K H .non (.type "NoneType")
 |bl (x:Bool):TyOf K H (.bl x) (.type "bool")
 |int (i:Int):TyOf K H (.int i) (.type "int")
 |str (x:Str):TyOf K H (.str x) (.type "str")
 |flt (x:UInt64):TyOf K H (.flt x) (.type "float")
 |lst {a:Addr} {xs:List V} (e:H a=some (.lst xs)):TyOf K H (.ref a) (.type "list")
 |frz {a:Addr} {o:Obj} {xs:List V} (e:H a=some (.frz o (.lst xs))):TyOf K H (.ref a) (.type "list")
 |tup {a:Addr} {xs:List V} (e:H a=some (.tup xs)):TyOf K H (.ref a) (.type "tuple")
 |dK {a:Addr} {kvs:List (Key×V)} (e:H a=some (.dK kvs)):TyOf K H (.ref a) (.type "dict")
 |dT {a:Addr} {kvs:List (List Key×V)} (e:H a=some (.dT kvs)):TyOf K H (.ref a) (.type "dict")
 |ins {a C dx:Addr} {fs:List (Str×V)} (e:H a=some (.ins C dx fs)) (cl:Cls K C) (ha:W.findIn K (.ref C) "__class__"=some (some (.builtin "object.__class__")))
   (hn:W.specialIn K (.builtin "object.__class__") "__get__"=some (some (.builtin "getset_descriptor.__get__"))) (htk:W.takesIn K (.builtin "object.__class__")=some true)
   (hm:W.mroIn K C (.type "object")=some true):TyOf K H (.ref a) (.ref C)
theorem a8r{x:V}{u t:Value}(I:Inv X pj σ H s)(rx:RelV x u)(ty:TyOf X.K H x t)(e:W.kitOne X.K t c=some b)(h:∀tk,Q (.bool b) { s with toks:=tk}):
  wpAny (model X.prog X.w) A (call (.builtin "isinstance") [u,c]) Q E s:=by
 cases ty with
 |non=>cases(show u=Value.none from rx);exact X2 W.kitx_none I.kIn True.intro e (λz=>nomatch z) h
 |bl y=>cases(show u=Value.bool y from rx);exact X2 W.kitx_bool I.kIn True.intro e (λz=>nomatch z) h
 |int i=>obtain⟨t,q⟩:=(show ∃t,u=Value.int i t from rx);cases q;exact X2 W.kitx_int I.kIn True.intro e (λz=>nomatch z) h
 |str y=>obtain⟨t,q⟩:=(show ∃t,u=Value.str y t from rx);cases q;exact X2 W.kitx_str I.kIn True.intro e (λz=>nomatch z) h
 |flt y=>obtain⟨t,q⟩:=(show ∃t,u=Value.float y t from rx);cases q;exact X2 W.kitx_float I.kIn True.intro e (λz=>nomatch z) h
 | @lst a xs ea=>
  cases(show u=Value.ref a from rx)
  obtain⟨_,_,n,_,h1⟩:=(show a1v X.prog X.w H s.heap a (.lst xs)from I.hok a _ ea);exact X2 Sm I.kIn ⟨_,h1,rfl⟩ e (λz=>nomatch z) h
 | @frz a ob xs ea=>
  cases(show u=Value.ref a from rx)
  obtain⟨_,_,_,n,_,h1⟩:=(show a1v X.prog X.w H s.heap a (.frz ob (.lst xs))from I.hok a _ ea);exact X2 Sm I.kIn ⟨_,h1,rfl⟩ e (λz=>nomatch z) h
 | @tup a xs ea=>
  cases(show u=Value.ref a from rx)
  obtain⟨_,_,_,p⟩:=(show a1v X.prog X.w H s.heap a (.tup xs)from I.hok a _ ea);obtain⟨o,h1,h2,_⟩:=p;exact X2 W.kitx_tuple I.kIn ⟨o,h1,h2⟩ e (λz=>nomatch z) h
 | @dK a kvs ea=>
  cases(show u=Value.ref a from rx)
  obtain⟨_,_,vs,_,p⟩:=(show a1v X.prog X.w H s.heap a (.dK kvs)from I.hok a _ ea);obtain⟨o,es,ep,h1,h2,_⟩:=p;exact X2 W.kitx_dict I.kIn ⟨o,h1,h2.1⟩ e (λz=>nomatch z) h
 | @dT a kvs ea=>
  cases(show u=Value.ref a from rx)
  obtain⟨_,_,xs,_,o,es,ep,h1,h2,_⟩:=(show a1v X.prog X.w H s.heap a (.dT kvs)from I.hok a _ ea);exact X2 W.kitx_dict I.kIn ⟨o,h1,h2.1⟩ e (λz=>nomatch z) h
 | @ins a C dx fs ea cl ha hn htk hm=>
  cases(show u=Value.ref a from rx)
  obtain⟨mA,O,_⟩:=b5b I.hok ea;obtain⟨od,J,_⟩:=O.look;exact X2 (W.kitx_own (cl.get _) cl.hd ha hn htk hm) I.kIn J e (λz=>nomatch z) h
end
structure Room(k:Nat)(A:Around):Prop where
 hd:A.handled=none
 dp:A.depth+3*k+5<recursionLimit
 un:A.units+16*k+200<cLine
 gd:A.guards=some []
theorem Room.mono{j k:Nat}{A:Around}(r:Room k A)(h:j<=k):Room j A:=⟨r.hd,by have:=r.dp;omega,by have:=r.un;omega,r.gd⟩
theorem Room.o{j k:Nat}{A:Around}(r:Room k A)(h:j<=k:=by first|decide|exact Nat.le_refl _|exact Nat.le_add_left_of_le qd|omega):Room j A:=r.mono h
theorem Room.deeper{k:Nat}{A:Around}(r:Room (k+1) A)(env:Env):Room k (A.deeper env):=
 ⟨r.hd,by have:=r.dp;show A.depth+1+3*k+5<_;omega,by have:=r.un;show A.units+3+16*k+200<_;omega,r.gd⟩
theorem c6z{A:Around}{C:Addr}{us:List Value}{kw:List (Str×Value)}:(A.under (.builtin "type.__call__" ⟨.ref C::us,kw⟩)).depth=A.depth+1:=by
 first|rfl|simp[Around.under,Code.weight,Code.isCreation,Code.isGuard,Code.isCaller,Code.frames,Code.isFrame,guardIds]
theorem c7a{A:Around}{C:Addr}{us:List Value}{kw:List (Str×Value)}:(A.under (.builtin "type.__call__" ⟨.ref C::us,kw⟩)).units=A.units+1:=by
 first|rfl|simp[Around.under,Code.cUnits,Code.frames,Code.isFrame]
theorem c4z{A:Around}{C:Addr}{us:List Value}{kw:List (Str×Value)}:(A.under (.builtin "type.__call__" ⟨.ref C::us,kw⟩)).guards=A.guards:=by
 first|rfl|simp[Around.under,Code.guards,Code.isGuard,guardIds,pushGuards]
theorem Room.make{k:Nat}{A:Around}(r:Room (k+1) A)(C:Addr)(us:List Value)(kw:List (Str×Value)):Room k (A.under (.builtin "type.__call__" ⟨.ref C::us,kw⟩)):=
 ⟨r.hd,by have:=r.dp;rw[c6z];omega,by have:=r.un;rw[c7a];omega,c4z.trans r.gd⟩
theorem Room.depth{k:Nat}{A:Around}(r:Room k A):A.depth<recursionLimit:=by have:=r.dp;omega
theorem Room.units{k:Nat}{A:Around}(r:Room k A):A.units+64<cLine:=by have:=r.un;omega
def tNil:TA:=λ_ H Q=>Q [] H
def tCons(ta:TE)(tr:TA):TA:=λσ H Q=>ta σ H λx H1=>tr σ H1 λxs H2=>Q (x::xs) H2
section
variable{X:Cx}{e:Expr}{es:List Expr}{te:TE}{t:TA}{pos:Pos}
theorem a0b:PA X [] tNil:=λ_ _ _ _ H Q I h=>Vw ⟨[],H,I,.nil,h⟩
theorem pa_cons(ha:PE X e te)(hr:PA X es t)(hs:starEach (e::es) X.env=(false,eval e X.env)::starEach es X.env:=by rfl):PA X (e::es) (tCons te t):=by
 intro pos pj s σ H Q I h;rw[hs]
 show wpAny _ _ (spliced ((false,eval e X.env)::backTo pos (starEach es X.env))) _ _ s
 refine Vr (thn (ha pj s σ H _ I h) λu s1 z9=>?_);obtain⟨x,H1,I1,r1,q1⟩:=z9;exact thn (hr pos pj s1 σ H1 _ I1 q1) λus s2 ⟨xs,H2,I2,r2,q2⟩=>⟨x::xs,H2,I2,.cons r1 r2,q2⟩
def tTup(t:TA):TE:=λσ H Q=>t σ H λxs H1=>xs.length<=sizeLine/\∀p,H1 p=none->Q (.ref p) (upd H1 p (.tup xs))
def tLst(t:TA):TE:=λσ H Q=>t σ H λxs H1=>xs.length<=sizeLine/\∀p,H1 p=none->Q (.ref p) (upd H1 p (.lst xs))
theorem a0s{x1}(h:PA X es t):PE X (.Tuple es x1 pos) (tTup t):=by
 intro pj s σ H Q I hq;refine wpAny_Tuple_spliced (thn (h pos pj s σ H _ I hq) λus s1 ⟨xs,H1,I1,r,z,q⟩=>⟨by rw[<-r.length];exact z,?_⟩);have hf:H1 s1.heap.objs.size=none:=I1.hok.fresh (Zm _);refine⟨.ref s1.heap.objs.size,upd H1 s1.heap.objs.size (.tup xs),I1.laid (t':=s1.toks) (λb u e=>Zh _ e) (Zm _) ?_,rfl,q _ hf⟩;exact⟨z,us,r,⟨_,Zu _ rfl,rfl,_,rfl⟩⟩
theorem a1n(h:PA X es t):PE X (.List es pos) (tLst t):=by
 intro pj s σ H Q I hq;refine wpAny_List_spliced (thn (h pos pj s σ H _ I hq) λus s1 ⟨xs,H1,I1,r,z,q⟩=>⟨by rw[<-r.length];exact z,?_⟩);have hf:H1 s1.heap.objs.size=none:=I1.hok.fresh (Zm _);refine⟨.ref s1.heap.objs.size,upd H1 s1.heap.objs.size (.lst xs),I1.laid (t':=s1.toks) (λb u e=>Zh _ e) (Zm _) ?_,rfl,q _ hf⟩;exact⟨z,us,0,r,Zu _ rfl⟩
end
abbrev Sp:=List V->Hp->VK->XK->Prop
abbrev CXT:=List Env->Hp->Shared->XK->Value->Shared->Prop
structure Env0(P:Program)(w:World)(K:W.Frag)(mg:Str->Option Value)(base:Heap)(A:Around)(outer:List Env)(s:Shared)(H:Hp):Prop where
 frames:A.frames=some outer
 mod:Mod K mg base
 bs:∀b o,base.get? b=some o->s.heap.get? b=some o/\H b=none
 bsz:base.objs.size<=s.heap.objs.size
 funs:s.heap.FunFrames base outer
 frf:∀b∈frs outer,H b=none
 hok:HOk P w H s.heap
 bare:AllBare s.gens
def CE(outer:List Env)(P:Program)(w:World)(H:Hp)(s:Shared)(Q:VK)(u:Value)(s':Shared):Prop:=
 ∃v H',s'.os=s.os/\AllBare s'.gens/\Un (frs outer) [] H H' s.heap s'.heap/\HOk P w H' s'.heap/\RelV v u/\Q v H'
def CR(CX:CXT)(outer:List Env)(P:Program)(w:World)(H:Hp)(s:Shared)(Q:VK)(E:XK)(r:Result)(s':Shared):Prop:=
 match r with
 | .ok (.ret u)=>CE outer P w H s Q u s'
 | .ok _=>False
 | .error e=>CX outer H s E e s'
structure FnOk(P:Program)(w:World)(K:W.Frag)(mg:Str->Option Value)(base:Heap)(CX:CXT)(k:Nat)(f:Addr)(fd:FuncData)(ps:List Str)(sp:Sp):Prop where
 len:∀vs H Q E,sp vs H Q E->vs.length=ps.length
 run:∀(A:Around)(outer:List Env)(s:Shared)(H:Hp)(args:Args)(us:List Value)(vs:List V)(Q:VK)(E:XK),Room k A->Env0 P w K mg base A outer s H->BindsTo s fd args (ps.zip us)->Vals vs us->sp vs H Q E->
  codeAny (model P w) A (.call (.ref f) args) (CR CX outer P w H s Q E) s
theorem Env0.make{P:Program}{w:World}{K:FG}{mg:Str->Option Value}{base:Heap}{A:Around}{outer:List Env}{s:Shared}{H:Hp}(e:Env0 P w K mg base A outer s H)(C:Addr)(us:List Value)(kw:List (Str×Value)):
  Env0 P w K mg base (A.under (.builtin "type.__call__" ⟨.ref C::us,kw⟩)) outer s H:=⟨by first|exact e.frames| (simpa[Around.under,Code.envs,Code.isFrame,pushEnvs]using e.frames),e.mod,e.bs,e.bsz,e.funs,e.frf,e.hok,e.bare⟩
section
variable{X:Cx}{pj:List (Addr×Obj)}{σ:St}{H:Hp}{s s':Shared}
theorem Inv.env0(I:Inv X pj σ H s):Env0 X.prog X.w X.K X.mg X.base X.A X.stack s H:=
 ⟨I.ok.frames,I.ok.mod,I.bs,Ye I.ok.bsz I.sz,I.stack,I.stkFree,I.hok,I.bare⟩
theorem Inv.after{Q:VK}{u:Value}(I:Inv X pj σ H s)(h:CE X.stack X.prog X.w H s Q u s'):EP X pj σ Q u s':=by
 obtain⟨v,H',os,bare,un,hok,r,q⟩:=h;obtain⟨hh,g,d,t,os'⟩:=s';obtain rfl:os'=s.os:=os;exact⟨v,H',I.call (h':=hh) (g':=g) (d':=d) (t':=t) (ch:=[]) un hok bare (λb z=>absurd z qz),r,q⟩
end
def tCall(sp:Sp)(dvs:List V)(E:XK)(t:TA):TE:=λσ H Q=>t σ H λvs H1=>sp (vs++dvs) H1 Q E
def tMeth(C:Addr)(m:Str)(sp:Sp)(dvs:List V)(E:XK)(ta:TE)(t:TA):TE:=λσ H Q=>ta σ H λx H1=>∃a dx fs,x=.ref a/\H1 a=some (.ins C dx fs)/\fs.lookup m=none/\
 t σ H1 λvs H2=>sp (x::(vs++dvs)) H2 Q E
def tMake(C:Addr)(sp:Sp)(dvs:List V)(E:XK)(t:TA):TE:=λσ H Q=>t σ H λvs H1=>∀x dx,H1 x=none->H1 dx=none->dx≠x->
 sp (.ref x::(vs++dvs)) (upd (upd H1 dx (.own x)) x (.ins C dx [])) (λv H2=>v=.non/\Q (.ref x) H2) E
def Binds(K:W.Frag)(fd:FuncData)(ps:List Str)(ds:List Value):Prop:=
 ∀(s:Shared)(us:List Value),K.In s.heap->(us++ds).length=ps.length->BindsTo s fd ⟨us,[]⟩ (ps.zip (us++ds))
theorem Binds.all{K:FG}{fd:FuncData}{ps:List Str}(h:∀us:List Value,us.length=ps.length->bindArgs fd ⟨us,[]⟩=pure (ps.zip us)):Binds K fd ps []:=λs us _ hl=>by
 rw[Y5]at hl ⊢;exact .of_eq (h us hl)
def a9u(CX:CXT)(X:Cx)(E:XK):Prop:=∀(pj:List (Addr×Obj))(σ:St)(H:Hp)(s:Shared)(e:Value)(s':Shared),Inv X pj σ H s->CX X.stack H s E e s'->X.xe e s'
section
variable{X:Cx}{CX:CXT}{k:Nat}{f C:Addr}{fd:FuncData}{ps:List Str}{sp:Sp}{dvs:List V}{ds:List Value}{E:XK}{x m:Str}{p pos apos:Pos}{e o:Expr}{es:List Expr}{ta:TE}{t:TA}
theorem c2d{pj:List (Addr×Obj)}{σ:St}{H:Hp}{s:Shared}{Q:VK}{us:List Value}{vs:List V}(F:FnOk X.prog X.w X.K X.mg X.base CX k f fd ps sp)(hr:Room k X.A)(hb:Binds X.K fd ps ds)(hd:Vals dvs ds)(hx:a9u CX X E)
  (I:Inv X pj σ H s)(r:Vals vs us)(h:sp (vs++dvs) H Q E):wpAny (model X.prog X.w) X.A (call (.ref f) us) (EP X pj σ Q) X.xe s:=by
 have r2:Vals (vs++dvs) (us++ds):=r.append hd;have hl:(us++ds).length=ps.length:=by rw[<-r2.length];exact F.len _ _ _ _ h
 refine Re (Vh (F.run X.A X.stack s H ⟨us,[]⟩ (us++ds) (vs++dvs) Q E hr I.env0 (hb s us I.kIn hl) r2 h) λr s' hq=>?_);cases r with
 |error e=>exact hx pj σ H s e s' I hq
 |ok fl=>
  cases fl with
  |ret u=>exact I.after hq
  |next=>exact False.elim hq
  |brk=>exact False.elim hq
  |cont=>exact False.elim hq
theorem a0k(F:FnOk X.prog X.w X.K X.mg X.base CX k f fd ps sp)(hr:Room k X.A)(hg:Gl X x)(hm:X.mg x=some (.ref f))(hk:W.keepIn X.K (.ref f)=true)(hb:Binds X.K fd ps ds)(hd:Vals dvs ds)(hx:a9u CX X E)
  (ha:PA X (e::es) t)(hdb:(x==("__debug__":Str))=false:=by decide)(he:starEach (e::es) X.env=(false,eval e X.env)::starEach es X.env:=by rfl)(hpl:(backTo pos (starEach es X.env)).any (·.1)=false:=by rfl):
  PE X (.Call (.Name x p) (e::es) [] pos) (tCall sp dvs E t):=by
 intro pj s σ H Q I h;refine Vi (b9e I hg hm ?_ hdb);refine T6 (h₀:=X.base) I.ok.mod.kin hk (thn (ha pos pj s σ H _ I h) λus s1 ⟨vs,H1,I1,r,q⟩=>⟨I1.kIn,?_⟩) he hpl;exact c2d F hr hb hd hx I1 r q
theorem a3m{pl:Sem Bool}(he:PE X o ta)(c:Cls X.K C)(hm:Meth X.K C m f)(F:FnOk X.prog X.w X.K X.mg X.base CX k f fd ps sp)(hr:Room k X.A)(hb:Binds X.K fd ps ds)(hd:Vals dvs ds)(hx:a9u CX X E)(ha:PA X (e::es) t)
  (hst:starEach (e::es) X.env=(false,eval e X.env)::starEach es X.env:=by rfl)(hpl:(backTo pos (starEach es X.env)).any (·.1)=false:=by rfl)
  (ht:eval (.Call (.Attribute o m apos) (e::es) [] pos) X.env=(do
   let ov <-eval o X.env
   standAt apos.atName
   let(f,first) <-holding [ov] (getMethod ov m pl)
   callWith pos f first (backTo pos (starEach (e::es) X.env)) (backToKw pos (keywordEach [] X.env))):=by rfl):
  PE X (.Call (.Attribute o m apos) (e::es) [] pos) (tMeth C m sp dvs E ta t):=by
 intro pj s σ H Q I h;refine W.methodCall_KW (pl:=pl) (thn (he pj s σ H _ I h) λu s1 ⟨x,H1,I1,rx,a,dx,fs,ex,ea,l,q⟩=>?_) ht;subst ex;obtain rfl:u=Value.ref a:=rx;refine b7k I1 ea c hm l ?_;refine T6 (first:=[.ref a]) (h₀:=X.base) I.ok.mod.kin hm.kp (thn (ha pos pj s1 σ H1 _ I1 q) λus s2 ⟨vs,H2,I2,r,q2⟩=>⟨I2.kIn,?_⟩) hst hpl;exact c2d (us:=.ref a::us) (vs:=.ref a::vs) F hr hb hd hx I2 (.cons rfl r) q2
theorem a9v{pl:Sem Bool}(he:PE X o ta)(c:Cls X.K C)(hm:Meth X.K C m f)(F:FnOk X.prog X.w X.K X.mg X.base CX k f fd ps sp)(hr:Room k X.A)(hb:Binds X.K fd ps ds)(hd:Vals dvs ds)(hx:a9u CX X E)
  (ht:eval (.Call (.Attribute o m apos) [] [] pos) X.env=(do
   let ov <-eval o X.env
   standAt apos.atName
   let(f,first) <-holding [ov] (getMethod ov m pl)
   callWith pos f first (backTo pos (starEach [] X.env)) (backToKw pos (keywordEach [] X.env))):=by rfl):
  PE X (.Call (.Attribute o m apos) [] [] pos) (tMeth C m sp dvs E ta tNil):=by
 intro pj s σ H Q I h;refine W.methodCall_KW (pl:=pl) (thn (he pj s σ H _ I h) λu s1 ⟨x,H1,I1,rx,a,dx,fs,ex,ea,l,q⟩=>?_) ht;subst ex;obtain rfl:u=Value.ref a:=rx;refine b7k I1 ea c hm l ?_;exact W.callWith_K0 (first:=[.ref a]) I1.kIn hm.kp (c2d (us:=[.ref a]) (vs:=[.ref a]) F hr hb hd hx I1 (.cons rfl .nil) q)
structure Mk(K:W.Frag)(C f:Addr):Prop where
 makes:W.makesIn K C=true
 init:W.findIn K (.ref C) "__init__"=some (some (.ref f))
 fn:W.isFn K (.ref f)=true
 kp:W.keepIn K (.ref C)=true
theorem d1y{pj:List (Addr×Obj)}{σ:St}{H:Hp}{s:Shared}{Q:VK}{us:List Value}{vs:List V}(M:Mk X.K C f)(F:FnOk X.prog X.w X.K X.mg X.base CX k f fd ps sp)(hr:Room (k+1) X.A)(hb:Binds X.K fd ps ds)(hd:Vals dvs ds)
  (hx:a9u CX X E)(I:Inv X pj σ H s)(r:Vals vs us)
  (h:∀x dx,H x=none->H dx=none->dx≠x->sp (.ref x::(vs++dvs)) (upd (upd H dx (.own x)) x (.ins C dx [])) (λv H2=>v=.non/\Q (.ref x) H2) E):
  wpAny (model X.prog X.w) X.A (call (.ref C) us) (EP X pj σ Q) X.xe s:=by
 have hq:=h (s.heap.objs.size+1) s.heap.objs.size (I.hok.fresh (Wh _)) (I.hok.fresh (Zm _)) (Z2 (Wl _));have I2:=Inv.made (C:=C) I;have r2:Vals (V.ref (s.heap.objs.size+1)::(vs++dvs)) (Value.ref (s.heap.objs.size+1)::(us++ds)):=.cons rfl (r.append hd);have hl:(Value.ref (s.heap.objs.size+1)::us++ds).length=ps.length:=by
  have e:=r2.length;rw[F.len _ _ _ _ hq]at e;exact e.symm
 refine Re (d1x (f:=f) I.kIn M.makes M.init (V0.mp M.fn) (Vh (F.run _ X.stack _ _ ⟨Value.ref (s.heap.objs.size+1)::us,[]⟩ (Value.ref (s.heap.objs.size+1)::(us++ds)) _ _ E (hr.make C us [])
  (I2.env0.make C us []) (hb _ (Value.ref (s.heap.objs.size+1)::us) I2.kIn hl) r2 hq) λr s' hq'=>?_))
 cases r with
 |error e=>exact hx pj σ _ _ e s' I2 hq'
 |ok fl=>
  cases fl with
  |ret u=>
   obtain⟨v,H',I3,rv,ev,q3⟩:=I2.after hq';subst ev;exact⟨rv,⟨V.ref (s.heap.objs.size+1),H',I3,rfl,q3⟩⟩
  |next=>exact False.elim hq'
  |brk=>exact False.elim hq'
  |cont=>exact False.elim hq'
theorem a7s(M:Mk X.K C f)(F:FnOk X.prog X.w X.K X.mg X.base CX k f fd ps sp)(hr:Room (k+1) X.A)(hg:Gl X x)(hm:X.mg x=some (.ref C))(hb:Binds X.K fd ps ds)(hd:Vals dvs ds)(hx:a9u CX X E)
  (ha:PA X (e::es) t)(hdb:(x==("__debug__":Str))=false:=by decide)(he:starEach (e::es) X.env=(false,eval e X.env)::starEach es X.env:=by rfl)(hpl:(backTo pos (starEach es X.env)).any (·.1)=false:=by rfl):
  PE X (.Call (.Name x p) (e::es) [] pos) (tMake C sp dvs E t):=by
 intro pj s σ H Q I h;refine Vi (b9e I hg hm ?_ hdb);refine T6 (h₀:=X.base) I.ok.mod.kin M.kp (thn (ha pos pj s σ H _ I h) λus s1 ⟨vs,H1,I1,r,q⟩=>⟨I1.kIn,?_⟩) he hpl;exact d1y M F hr hb hd hx I1 r q
end
structure a0r(N P:List Str)(sc:Scope):Prop where
 kind:sc.kind=.function
 co:sc.isCoroutine=false
 gen:sc.isGenerator=false
 nd:N.Nodup
 pre:N.take P.length=P
 par:∀x∈P,sc.names.lookup x=some .local\/sc.names.lookup x=some .cell
 nofree:∀y∈sc.names,y.2≠.free
theorem c0i{kindOf:Str->Option NameKind}{x:Str}:∀{binds:List (Str×Value)}{m:Str->Option Value},(∀v,(x,v)∉binds)->bindL kindOf binds m x=m x
 | [],_,_=>rfl
 | (n,v)::r,m,h=>by
  unfold bindL;rw[c0i λw hw=>h w (Zc _ hw)]
  split
  ·have:x≠n:=by rintro rfl;exact h v Ze
   simp[this]
  ·rfl
theorem c0j{kindOf:Str->Option NameKind}{x:Str}:∀{binds:List (Str×Value)}{m:Str->Option Value},(∀v,(x,v)∉binds)->bindC kindOf binds m x=m x
 | [],_,_=>rfl
 | (n,v)::r,m,h=>by
  unfold bindC;rw[c0j λw hw=>h w (Zc _ hw)]
  split
  ·rfl
  ·have:x≠n:=by rintro rfl;exact h v Ze
   simp[this]
theorem c0k{kindOf:Str->Option NameKind}{x:Str}{v:Value}:∀{P:List Str}{vs:List Value}{i:Nat}{m:Str->Option Value},P.Nodup->P[i]? =some x->vs[i]? =some v->kindOf x=some .local->
  bindL kindOf (P.zip vs) m x=some v
 | [],_,_,_,_,h,_,_=>by simp at h
 |_::_,[],_,_,_,_,h,_=>by simp at h
 |p::P,w::vs,0,m,nd,h1,h2,hk=>by
  simp at h1 h2;subst h1;subst h2
  show bindL kindOf ((p,w)::P.zip vs) m p=_
  unfold bindL;rw[c0i λv hv=>(Yn.mp nd).1 (Ta hv).1,if_pos hk]
  simp
 |p::P,w::vs,i+1,m,nd,h1,h2,hk=>by
  show bindL kindOf ((p,w)::P.zip vs) m x=_
  unfold bindL;exact c0k (i:=i) (Yn.mp nd).2 (by simpa using h1) (by simpa using h2) hk
theorem c0l{kindOf:Str->Option NameKind}{x:Str}{v:Value}:∀{P:List Str}{vs:List Value}{i:Nat}{m:Str->Option Value},P.Nodup->P[i]? =some x->vs[i]? =some v->kindOf x≠some .local->
  bindC kindOf (P.zip vs) m x=some v
 | [],_,_,_,_,h,_,_=>by simp at h
 |_::_,[],_,_,_,_,h,_=>by simp at h
 |p::P,w::vs,0,m,nd,h1,h2,hk=>by
  simp at h1 h2;subst h1;subst h2
  show bindC kindOf ((p,w)::P.zip vs) m p=_
  unfold bindC;rw[c0j λv hv=>(Yn.mp nd).1 (Ta hv).1,if_neg hk]
  simp
 |p::P,w::vs,i+1,m,nd,h1,h2,hk=>by
  show bindC kindOf ((p,w)::P.zip vs) m x=_
  unfold bindC;exact c0l (i:=i) (Yn.mp nd).2 (by simpa using h1) (by simpa using h2) hk
def start(N:List Str)(vs:List V):St:=vs.map some++List.replicate (N.length-vs.length) none
def cxOf(CX:CXT)(P:Program)(w:World)(K:W.Frag)(mg:Str->Option Value)(base:Heap)(N:List Str)(qual:Str)(scope:Scope)(f:Addr)(cd:Value)(A:Around)(outer:List Env)(s:Shared)(H:Hp)(E:XK):Cx where
 prog:=P
 w:=w
 K:=K
 mg:=mg
 base:=base
 A:=A.deeper (envOfC qual scope s.heap.objs.size f cd)
 N:=N
 s₀:=s
 H₀:=H
 env:=envOfC qual scope s.heap.objs.size f cd
 outer:=outer
 stack:=envOfC qual scope s.heap.objs.size f cd::outer
 ex:=[]
 calm:=true
 fn:=λ_=>true
 pn:=[]
 xe:=λe s'=>wpAny (model P w) (A.deeper (envOfC qual scope s.heap.objs.size f cd)) (leaving (envOfC qual scope s.heap.objs.size f cd) e) (λ_ s''=>CX outer H s E e s'') (λe' s''=>CX outer H s E e' s'') s'
theorem c2e{sc:Scope}{n:Nat}{x:Str}(h:sc.names.lookup x=some .cell):∃c,(cellsFrom n sc.names []).lookup x=some c:=by
 have q:=W.cellsFrom_some sc.names n [] (.inl h);exact Option.isSome_iff_exists.mp q
theorem c8p{CX:CXT}{P:Program}{w:World}{K:FG}{mg:Str->Option Value}{base:Heap}{N ps:List Str}{qual:Str}{scope:Scope}{f:Addr}{cd:Value}{A:Around}{outer:List Env}{s s1:Shared}{H:Hp}{E:XK}{us:List Value}{vs:List V}
  (S:a0r N ps scope)(hd:A.handled=none)(e0:Env0 P w K mg base A outer s H)(hl:vs.length=ps.length)(r:Vals vs us)
  (x:InCallC s s.heap.objs.size (bindL (envOfC qual scope s.heap.objs.size f cd).kindOf (ps.zip us) λ_=>none) (cellsFrom (s.heap.objs.size+1) scope.names []) (bindC (envOfC qual scope s.heap.objs.size f cd).kindOf (ps.zip us) λ_=>none) s1):
  Inv (cxOf CX P w K mg base N qual scope f cd A outer s H E) [] (start N vs) H s1:=by
 have hpl:ps.length<=N.length:=by have:=Yv List.length S.pre;rw[Ys]at this;omega
 obtain⟨h1,tk,rfl,hk⟩:=x.done;have noA:∀b:Addr,b∉(cxOf CX P w K mg base N qual scope f cd A outer s H E).ex:=λb z=>absurd (show b∈([]:List Addr)from z) qz
 refine⟨⟨e0.mod,S.kind,rfl,rfl,Zm _,λy z c h1 h2=>?_,λy hy=>?_,λy c _ h=>?_,λ_=>hd,Around.frames_deeper e0.frames,.inr ⟨rfl,rfl⟩,λb z=>absurd z (noA b),e0.bs,e0.bsz,λb _ _=>noA b,λb z=>absurd z (noA b),e0.funs,e0.frf⟩,
  rfl,e0.bare,Un.kept hk,⟨_,x.toInCall.ns,λi y v h1 h2 h3=>?_⟩,λy c h=>⟨_,x.cell y c h⟩,e0.hok.fresh (Zm _),λy c h=>?_,λp hp=>absurd (show p∈([]:List (Addr×Obj))from hp) qz,e0.hok.kept hk,?_⟩
 ·exact name_of_addr x.apart (Yh h1) (Yh h2)
 ·have hy:scope.names.lookup y=some .cell\/scope.names.lookup y=some .free:=hy;rcases hy with hy|hy
  ·exact c2e hy
  ·exact absurd rfl (S.nofree _ (Yh hy))
 ·exact Uv (x.above y c (Yh h))
 ·have hi:i<vs.length:=by
   unfold start at h2
   by_cases hi:i<vs.length
   ·exact hi
   ·rw[Tg (by simpa using hi)]at h2;rw[Tu]at h2;split at h2<;>cases h2
  have ha:vs[i]? =some v:=by
   unfold start at h2;rw[Wo (by simpa using hi),Zv]at h2;cases e:vs[i]? with
   |none=>rw[e]at h2;cases h2
   |some a=>rw[e]at h2;cases h2;rfl
  obtain⟨u,hu,rv⟩:=r.get ha;have hp:ps[i]? =some y:=by
   rw[<-S.pre,Tr qo];exact h1
  have ndP:ps.Nodup:=by rw[<-S.pre];exact S.nd.sublist (List.take_sublist _ _)
  refine⟨u,rv,?_⟩;rcases S.par y (Zn hp)with k|k
  ·exact .inl ⟨k,c0k ndP hp hu k⟩
  ·obtain⟨c,e⟩:=c2e (n:=s.heap.objs.size+1) k;refine .inr ⟨.inl k,c,e,?_⟩;have q:=x.cell y c e;rw[c0l ndP hp hu (by show scope.names.lookup y≠_;rw[k];decide)]at q;exact q
 ·exact e0.hok.fresh (Uv (x.above y c (Yh h)))
 ·unfold start
  show _=N.length
  rw[Zk,length_map,Si];omega
theorem fn_of{CX:CXT}{P:Program}{w:World}{K:FG}{mg:Str->Option Value}{base:Heap}{k:Nat}{f:Addr}{name qual:Str}{params:Arguments}{body:List Stmt}{scope:Scope}{dV kV doc pm cdv ct oc:Value}{an od:Option Addr}
  {osl:Array (Option Value)}{N ps:List Str}{sp:Sp}(lk:K.lookup f=some ⟨oc,od,.func (W.fnOf name qual params body scope dV kV doc pm an cdv ct),osl⟩)(hcd:W.codeIn K cdv qual=true)(S:a0r N ps scope)
  (len:∀vs H Q E,sp vs H Q E->vs.length=ps.length)
  (hbody:∀(A:Around)(outer:List Env)(s:Shared)(H:Hp)(vs:List V)(Q:VK)(E:XK),Room k (A.deeper (envOfC qual scope s.heap.objs.size f cdv))->sp vs H Q E->
   ∃t,PSs (cxOf CX P w K mg base N qual scope f cdv A outer s H E) body t/\t { nx:=λ_ H'=>Q .non H',rt:=Q} (start N vs) H):
  FnOk P w K mg base CX (k+1) f (W.fnOf name qual params body scope dV kV doc pm an cdv ct) ps sp:=by
 refine⟨len,λA outer s H args us vs Q E hr e0 hb r hsp=>?_⟩;have hl:=len _ _ _ _ hsp;have KX:K.In s.heap:=e0.mod.kin.keeps λb o e=>(e0.bs b o e).1
 have lim:s.heap.NoLimit:=e0.mod.nolimit.keeps λb o e=>(e0.bs b o e).1
 have hkind:∀y∈ps.zip us,scope.names.lookup y.1=some .local\/(scope.names.lookup y.1=some .cell/\((cellsFrom (s.heap.objs.size+1) scope.names []).lookup y.1).isSome=true):=λ⟨n,v⟩ hy=>by
  rcases S.par n (Ta hy).1 with q|q
  ·exact .inl q
  ·exact .inr ⟨q,W.cellsFrom_some _ _ _ (.inl q)⟩
 refine codeAny_call_function hr.depth (KX _ _ lk) rfl S.co S.gen rfl (W.codeRec_of KX hcd) (hb _ _ _ _ ?_);refine wpAny_newFunctionEnv_cells S.kind hkind λenv he s1 x=>?_
 subst he;refine⟨lim.keeps x.toInCall.keep,codeAny_func ?_⟩;obtain⟨t,ht,hq⟩:=hbody A outer s H vs Q E (hr.deeper _) hsp;have I:Inv (cxOf CX P w K mg base N qual scope f cdv A outer s H E) [] (start N vs) H s1:=c8p S hr.hd e0 hl r x;refine W4 (ht [] s1 (start N vs) H _ I hq) (λfl s' hs=>?_) λe s' hs=>hs
 have fin:∀{σ':St}{H':Hp}{v:V}{u:Value},Inv (cxOf CX P w K mg base N qual scope f cdv A outer s H E) [] σ' H' s'->RelV v u->Q v H'->CE outer P w H s Q u s':=
  λ{σ' H' v u} J rv q=>⟨v,H',J.os,J.bare,J.base,J.hok,rv,q⟩
 cases fl with
 |ret u=>
  obtain⟨v,σ',H',J,rv,q⟩:=hs;exact fin J rv q
 |next=>
  obtain⟨σ',H',J,q⟩:=hs;exact fin (v:=V.non) (u:=Value.none) J rfl q
 |brk=>
  obtain⟨_,_,_,q⟩:=hs;exact False.elim q
 |cont=>
  obtain⟨_,_,_,q⟩:=hs;exact False.elim q
section
variable{X:Cx}{x:Str}{p pos:Pos}{e:Expr}{es:List Expr}{t:TA}{id T:String}{r:List V->Hp->VK->Prop}
def tCB(r:List V->Hp->VK->Prop)(t:TA):TE:=λσ H Q=>t σ H λvs H1=>r vs H1 Q
theorem a1p(hc:a2w X (.builtin id) r)(hg:Gl X x)(hm:X.mg x=none)(hv:bootBuiltins x=some (.builtin id))(ha:PA X (e::es) t)(hn:x≠"__name__":=by decide)(hdb:(x==("__debug__":Str))=false:=by decide)
  (he:starEach (e::es) X.env=(false,eval e X.env)::starEach es X.env:=by rfl)(hpl:(backTo pos (starEach es X.env)).any (·.1)=false:=by rfl):PE X (.Call (.Name x p) (e::es) [] pos) (tCB r t):=by
 intro pj s σ H Q I h;refine Vi (a9t I hg hm hv ?_ hn hdb);exact PyProof.Rows.callWith_builtin1 (thn (ha pos pj s σ H _ I h) λus s1 ⟨vs,H1,I1,r1,q1⟩=>hc pj s1 σ H1 vs us Q I1 r1 q1) he hpl
theorem a2i(hc:a2w X (.type T) r)(hg:Gl X x)(hm:X.mg x=none)(hv:bootBuiltins x=some (.type T))(ha:PA X (e::es) t)(hn:x≠"__name__":=by decide)(hdb:(x==("__debug__":Str))=false:=by decide)
  (he:starEach (e::es) X.env=(false,eval e X.env)::starEach es X.env:=by rfl)(hpl:(backTo pos (starEach es X.env)).any (·.1)=false:=by rfl):PE X (.Call (.Name x p) (e::es) [] pos) (tCB r t):=by
 intro pj s σ H Q I h;refine Vi (a9t I hg hm hv ?_ hn hdb);exact Xp (thn (ha pos pj s σ H _ I h) λus s1 ⟨vs,H1,I1,r1,q1⟩=>hc pj s1 σ H1 vs us Q I1 r1 q1) he hpl
end
end L2
namespace HT
open PySem PyProof.Rows
section
open PySem.SeqAt
open PySem.AutoSeq1 (wpAny_loadPart')
open PySem.MeetsSeq PySem.MeetsSeq2 PySem.MeetsSeq3
end
section
variable{prog:Program}{w:World}{A:Around}{E:Value->Shared->Prop}{s:Shared}
theorem cat_tup{t b:Addr}{vs ws:List Value}{Q:Value->Shared->Prop}(ht:IsTup s.heap t vs.toArray)(hb:IsTup s.heap b ws.toArray)(hv:vs≠[])
  (h1:ws=[]->Q (.ref t) s)(h2:ws≠[]->Q (.ref s.heap.objs.size) { s with heap:=s.heap.push { cls:=.type "tuple",data:=.seq (vs++ws).toArray}})
  (hsz:vs.length+ws.length<=sizeLine):wpAny (model prog w) A (binaryOp .Add (.ref t) (.ref b)) Q E s:=by
 obtain⟨⟨cls,dd,data,sl⟩,ho,hc,n,hd⟩:=id ht;obtain⟨⟨cls2,dd2,data2,sl2⟩,ho2,hc2,n2,hd2⟩:=id hb;simp only at hc hd hc2 hd2;subst hc hd hc2 hd2;have e:vs.toArray++ws.toArray=(vs++ws).toArray:=by simp
 by_cases hw:ws=[]
 ·exact concat_meets ⟨_,ho,rfl⟩ ⟨_,ho2,rfl⟩ noFill_tuple_add seq_tuple_add F.slot_tuple_add F.entry_tuple_add (Ru _ _)
   (tuple_addW1 t b vs.toArray ws.toArray n n2 dd dd2 sl sl2 (by simpa using hv) (by simp[hw])) ⟨ho,ho2,h1 hw⟩
 ·refine concat_meets ⟨_,ho,rfl⟩ ⟨_,ho2,rfl⟩ noFill_tuple_add seq_tuple_add F.slot_tuple_add F.entry_tuple_add (Ru _ _)
   (tuple_addW2 t b vs.toArray ws.toArray n n2 dd dd2 sl sl2 (by simpa using hv) (by simpa using hw) (by rw[Zj,Zj];exact hsz)) ⟨ho,ho2,?_⟩
  rw[e];exact h2 hw
def sIx(n d:Nat):Option Int->Nat
 |none=>d
 |some v=>if v<0 then(v+(n:Int)).toNat else min v.toNat n
theorem sIx_none(n d:Nat):sIx n d none=d:=rfl
theorem sIx_nat(n d k:Nat):sIx n d (some (k:Int))=min k n:=by
 show(if(k:Int)<0 then((k:Int)+(n:Int)).toNat else min (k:Int).toNat n)=min k n
 rw[if_neg qo,Int.toNat_natCast]
end
end HT
namespace L2
open PySem PySem.Spec PyProof.Rows
abbrev TO:=St->Hp->(Option Int->Hp->Prop)->Prop
def PO(X:Cx)(e:Option Expr)(t:TO):Prop:=
 ∀(pj:List (Addr×Obj))(s:Shared)(σ:St)(H:Hp)(Q:Option Int->Hp->Prop),Inv X pj σ H s->t σ H Q->
  wpAny (model X.prog X.w) X.A (evalPart e X.env) (λu s'=>∃o H',Inv X pj σ H' s'/\IsPart u o/\Q o H') X.xe s
def c5v:TO:=λ_ H Q=>Q none H
def tPart(t:TE):TO:=λσ H Q=>t σ H λx H1=>∃i,x=.int i/\Q (some i) H1
theorem intsAre_of{ns:List Int}:∀{us:List Value},Vals (ns.map V.int) us->IntsAre us ns:=by
 induction ns with
 |nil=>intro us r;rw[Uw]at r;cases r;exact .nil
 |cons n ns ih=>
  intro us r;rw[Zt]at r;cases r with
  |cons r1 r2=>
   obtain⟨t,e⟩:=r1;subst e;exact .cons n t (ih r2)
section
variable{X:Cx}{e:Expr}{te:TE}{lo hi:Option Expr}{tl th:TO}{pos p2:Pos}
theorem a9g:PO X none c5v:=by
 intro pj s σ H Q I h;rw[evalPart_none];exact Zf ⟨none,H,I,.none,h⟩
theorem po_some(h:PE X e te):PO X (some e) (tPart te):=by
 intro pj s σ H Q I hw;rw[evalPart_some];refine thn (h pj s σ H _ I hw) λu s1 z9=>?_
 obtain⟨x,H1,I1,r1,q1⟩:=z9;obtain⟨i,rfl,q⟩:=q1;obtain⟨t,rfl⟩:=r1;exact⟨some i,H1,I1,.int i t,q⟩
def SlR(X:Cx)(r:V->Option Int->Option Int->Hp->VK->Prop):Prop:=
 ∀(pj:List (Addr×Obj))(s:Shared)(σ:St)(H:Hp)(x:V)(v vl vu:Value)(lo hi:Option Int)(sl:Addr)(Q:VK),Inv X pj σ H s->RelV x v->s.heap.IsSliceOf sl vl vu .none->IsPart vl lo->IsPart vu hi->r x lo hi H Q->
  ∃T id,typeLookup (.type T) "__getitem__"=pure (some (.builtin id))/\s.TypeIs v T/\wpAny (model X.prog X.w) X.A (getItem v (.ref sl)) (EP X pj σ Q) X.xe s
def tSl(r:V->Option Int->Option Int->Hp->VK->Prop)(te:TE)(tl th:TO):TE:=λσ H Q=>te σ H λx H1=>tl σ H1 λl H2=>th σ H2 λu H3=>r x l u H3 Q
theorem a7t{r:V->Option Int->Option Int->Hp->VK->Prop}(hr:SlR X r)(he:PE X e te)(hl:PO X lo tl)(hu:PO X hi th):PE X (.Subscript e (.Slice lo hi none p2) pos) (tSl r te tl th):=by
 intro pj s σ H Q I h;refine Rk (thn (he pj s σ H _ I h) λv s1 z9=>?_);obtain⟨x,H1,I1,r1,q1⟩:=z9;refine wpAny_Slice (thn (hl pj s1 σ H1 _ I1 q1) λvl s2 ⟨l,H2,I2,pl,q2⟩=>thn (hu pj s2 σ H2 _ I2 q2) λvu s3 z9=>?_);obtain⟨u,H3,I3,pu,q3⟩:=z9;rw[evalPart_none];refine Zf ?_;have I4:Inv X pj σ H3 { s3 with heap:=s3.heap.push { cls:=.type "slice",data:=.fields #[vl,vu,.none]}}:=I3.kept (t':=s3.toks) λb ob q=>Zh _ q
 obtain⟨T,id,hT,ht,hg⟩:=hr pj { s3 with heap:=s3.heap.push { cls:=.type "slice",data:=.fields #[vl,vu,.none]}} σ H3 x v vl vu l u s3.heap.objs.size Q I4 r1 (Heap.IsSliceOf.new ..) pl pu q3
 show wpAny (model X.prog X.w) X.A (subscriptTail e (.Slice lo hi none p2) v (.ref s3.heap.objs.size)) (EP X pj σ Q) X.xe { s3 with heap:=s3.heap.push { cls:=.type "slice",data:=.fields #[vl,vu,.none]}}
 exact tail_any (ops:=[.ref s3.heap.objs.size,v]) ht hT hg (by with_unfolding_all rfl)
def cutV(xs:List V)(lo hi:Option Int):List V:=(xs.drop (HT.sIx xs.length 0 lo)).take (HT.sIx xs.length xs.length hi-HT.sIx xs.length 0 lo)
theorem c5a(xs:List V)(lo hi:Option Int):(cutV xs lo hi).length<=xs.length:=by
 unfold cutV;rw[Ys,W6];omega
def rCatT(K:W.Frag):R2:=λx y H Q=>∃a b xs ys,x=.ref a/\y=.ref b/\SqT K H a xs/\SqT K H b ys/\xs≠[]/\xs.length+ys.length<=sizeLine/\
 (ys=[]->Q (.ref a) H)/\(ys≠[]->∀p,H p=none->Q (.ref p) (upd H p (.tup (xs++ys))))
theorem Vals.nil_iff{xs:List V}{us:List Value}(r:Vals xs us):us=[]↔xs=[]:=by
 cases r with
 |nil=>simp
 |cons _ _=>simp
theorem op_catT:OpR X (binaryOp .Add) (rCatT X.K):=by
 intro pj s σ H x y v u Q I rx ry h;obtain⟨a,b,xs,ys,rfl,rfl,ha,hb,hx,hz,q1,q2⟩:=h;cases rx;cases ry;obtain⟨its,r1,p1,_⟩:=I.tuple ha;obtain⟨its2,r2,p2,_⟩:=I.tuple hb;refine HT.cat_tup p1 p2 (λz=>hx (r1.nil_iff.mp z)) (λz=>⟨.ref a,H,I,rfl,q1 (r2.nil_iff.mp z)⟩) (λz=>?_) (by rw[<-r1.length,<-r2.length];exact hz);refine⟨.ref s.heap.objs.size,_,I.laid (t':=s.toks) (o:=.tup (xs++ys)) (λb ob q=>Zh _ q) (Zm _) ?_,rfl,q2 (λw=>z (r2.nil_iff.mpr w)) _ (I.hok.fresh (Zm _))⟩;exact⟨by rw[Zk];exact hz,_,r1.append r2,IsTup.new _ _⟩
end
def ixN(n:Nat)(i:Int):Option Nat:=if 0<=i then(if i<n then some i.toNat else none)else if -(n:Int)<=i then some (i+n).toNat else none
def atI{α:Type}(xs:List α)(i:Int):Option α:=(ixN xs.length i).bind λj=>xs[j]?
theorem ixN_seq{n:Nat}{i:Int}{j:Nat}(h:ixN n i=some j):seqIndex? i n=some j/\j<n/\-(n:Int)<=i/\i<n:=by
 unfold ixN at h
 by_cases h0:0<=i
 ·rw[if_pos h0]at h
  by_cases h1:i<n
  ·rw[if_pos h1]at h;have e:i.toNat=j:=Zl h;exact⟨by rw[seqIndex_of h0 h1,e],qo,qo,h1⟩
  ·rw[if_neg h1]at h;cases h
 ·rw[if_neg h0]at h
  by_cases h1:-(n:Int)<=i
  ·rw[if_pos h1]at h;have e:(i+n).toNat=j:=Zl h;exact⟨by rw[seqIndex_neg qo h1,e],qo,h1,qo⟩
  ·rw[if_neg h1]at h;cases h
theorem b5c{α:Type}{xs:List α}{i:Int}{v:α}(h:atI xs i=some v):∃j,seqIndex? i xs.length=some j/\xs[j]? =some v/\j<xs.length/\-(xs.length:Int)<=i/\i<xs.length:=by
 unfold atI at h;cases e:ixN xs.length i with
 |none=>rw[e]at h;cases h
 |some j=>
  rw[e]at h;obtain⟨h1,h2,h3,h4⟩:=ixN_seq e;exact⟨j,h1,h,h2,h3,h4⟩
theorem a7e{α:Type}{xs:List α}{j:Nat}{v:α}(h:xs[j]? =some v):atI xs (j:Int)=some v:=by
 have hj:j<xs.length:=(Zy.mp h).1;have e:ixN xs.length (j:Int)=some j:=by
  unfold ixN;rw[if_pos qo,if_pos qo];simp
 unfold atI;rw[e];exact h
theorem d1z{α:Type}(xs:List α)(v:α):atI (xs++[v]) (-1)=some v:=by
 have hl:(xs++[v]).length=xs.length+1:=by simp
 have e:ixN (xs++[v]).length (-1)=some xs.length:=by
  unfold ixN;rw[hl,if_neg qd,if_pos qo]
  congr 1
  omega
 unfold atI;rw[e]
 show(xs++[v])[xs.length]? =some v
 simp
def PlainIx(b:Expr):Prop:=∀o i,subscripted b false o i=operate [o,i] (getItem o i)
def IxR(X:Cx)(r:R2):Prop:=
 ∀(value slice:Expr)(pj:List (Addr×Obj))(s:Shared)(σ:St)(H:Hp)(x y:V)(v u:Value)(Q:VK),Inv X pj σ H s->RelV x v->RelV y u->r x y H Q->
  subscripted slice false v u=operate [v,u] (getItem v u)->wpAny (model X.prog X.w) X.A (subscriptTail value slice v u) (EP X pj σ Q) X.xe s
def MtR(X:Cx)(id:String)(r:V->List V->Hp->VK->Prop):Prop:=
 ∀(pj:List (Addr×Obj))(s:Shared)(σ:St)(H:Hp)(x:V)(xs:List V)(v:Value)(us:List Value)(Q:VK),Inv X pj σ H s->RelV x v->Vals xs us->r x xs H Q->
  wpAny (model X.prog X.w) X.A (call (.builtin id) (v::us)) (EP X pj σ Q) X.xe s
section
variable{X:Cx}{a b:Expr}{ta tb:TE}{pos:Pos}
theorem IxR.or{r r':R2}(h:IxR X r)(h':IxR X r'):IxR X (λx y H Q=>r x y H Q\/r' x y H Q):=by
 intro value slice pj s σ H x y v u Q I rx ry q hs;rcases q with q|q
 ·exact h value slice pj s σ H x y v u Q I rx ry q hs
 ·exact h' value slice pj s σ H x y v u Q I rx ry q hs
theorem a0j{r:R2}(hr:IxR X r)(ha:PE X a ta)(hb:PE X b tb)(hs:PlainIx b):PE X (.Subscript a b pos) (tOp r ta tb):=by
 intro pj s σ H Q I h;exact Rk (binT ha hb I h λv u s2 x y H2 I2 rx ry q=>hr a b pj s2 σ H2 x y v u Q I2 rx ry q (hs _ _))
def rIxL(K:W.Frag):R2:=λx y H Q=>∃p xs i v,x=.ref p/\y=.int i/\SqL K H p xs/\atI xs i=some v/\Q v H
def rIxT(K:W.Frag):R2:=λx y H Q=>∃p xs i v,x=.ref p/\y=.int i/\SqT K H p xs/\atI xs i=some v/\Q v H
def rIxS:R2:=λx y H Q=>∃z i c,x=.str z/\y=.int i/\z.length<=sizeLine/\atI z.cps.toList i=some c/\Q (.str ⟨#[c]⟩) H
theorem ix_list:IxR X (rIxL X.K):=by
 intro value slice pj s σ H x y v u Q I rx ry h hs;obtain⟨p,xs,i,z,rfl,rfl,hq,he,q⟩:=h;cases rx;obtain⟨t,rfl⟩:=ry;obtain⟨its,r,pl,hz⟩:=I.list hq;obtain⟨j,h1,h2,h3,h4,h5⟩:=b5c he;obtain⟨w,ew,rw'⟩:=r.get h2;have hl:=r.length;have hn:=b3p;have fin:EP X pj σ Q w s:=⟨z,H,I,rw',q⟩
 by_cases h0:0<=i
 ·have hj:i.toNat=j:=by
   rw[seqIndex_of h0 h5]at h1;exact Zl h1
  exact item_listR pl.isList h0 qo (by rw[hj];simpa using ew) fin hs
 ·have hj:(i+(its.toArray.size:Int)).toNat=j:=by
   rw[seqIndex_neg qo h4]at h1;rw[Zj,<-hl];exact Zl h1
  exact T3 (x:=w) pl.isList.typeIs slot_list_getitem.lookup
   (wpAny_getItem_list_neg (Q:=λr s'=>r=w/\EP X pj σ Q r s') pl.isList qo (by rw[Zj]<;>omega) qo (by rw[hj];simpa using ew) ⟨rfl,fin⟩) hs
theorem ix_tup:IxR X (rIxT X.K):=by
 intro value slice pj s σ H x y v u Q I rx ry h hs;obtain⟨p,xs,i,z,rfl,rfl,hq,he,q⟩:=h;cases rx;obtain⟨t,rfl⟩:=ry;obtain⟨its,r,pl,hz⟩:=I.tuple hq;obtain⟨j,h1,h2,h3,h4,h5⟩:=b5c he;obtain⟨w,ew,rw'⟩:=r.get h2;have hl:=r.length;have hn:=b3p;have fin:EP X pj σ Q w s:=⟨z,H,I,rw',q⟩;exact T3 (x:=w) pl.typeIs Ug.lookup
  (getItem_tuple (j:=j) (Q:=λr s'=>r=w/\EP X pj σ Q r s') pl qo qo (by rw[Zj,<-hl];exact h1) (by simpa using ew) ⟨rfl,fin⟩) hs
theorem ix_str:IxR X rIxS:=by
 intro value slice pj s σ H x y v u Q I rx ry h hs;obtain⟨z,i,c,rfl,rfl,hz,he,q⟩:=h;obtain⟨t,rfl⟩:=rx;obtain⟨t',rfl⟩:=ry;obtain⟨j,h1,h2,h3,h4,h5⟩:=b5c he;have hl:z.cps.toList.length=z.length:=by simp[Str.length]
 rw[hl]at h1 h4 h5;have hn:=b3p
 exact tail_any (typeIs_str s z t) slot_str_getitem.lookup (getItem_str (c:=c) (by
  have e1:decide (i< -(2^63:Int))=false:=Zs qo;have e2:decide (i>=2^63)=false:=Zs qo
  rw[e1,e2,Bool.or_false]) (by rw[h1];simpa using h2) ⟨.str ⟨#[c]⟩,H,I.tok _,⟨_,rfl⟩,q⟩) hs
def rIx(K:W.Frag):R2:=λx y H Q=>rIxL K x y H Q\/rIxT K x y H Q\/rIxS x y H Q
theorem ix_seq:IxR X (rIx X.K):=ix_list.or (ix_tup.or ix_str)
theorem c2f(lo hi:Option Int)(n:Nat):(sliceBounds lo hi none n).1=((HT.sIx n 0 lo:Nat):Int)/\(sliceBounds lo hi none n).2.1=((HT.sIx n n hi:Nat):Int)/\(sliceBounds lo hi none n).2.2=1:=by
 refine⟨?_,?_,rfl⟩
 ·cases lo with
  |none=>simp[sliceBounds,HT.sIx]
  |some i=>
   simp only[sliceBounds,HT.sIx,Option.getD_none,show(1:Int)>0 by decide,if_true]
   by_cases h:i<0
   ·simp only[h,if_true]<;>omega
   ·simp only[h,Vb]<;>omega
 ·cases hi with
  |none=>simp[sliceBounds,HT.sIx]
  |some i=>
   simp only[sliceBounds,HT.sIx,Option.getD_none,show(1:Int)>0 by decide,if_true]
   by_cases h:i<0
   ·simp only[h,if_true]<;>omega
   ·simp only[h,Vb]<;>omega
theorem c1h(its:List Value)(lo hi:Option Int):slicePick its.toArray lo hi none=((its.drop (HT.sIx its.length 0 lo)).take (HT.sIx its.length its.length hi-HT.sIx its.length 0 lo)).toArray:=by
 obtain⟨h1,h2,h3⟩:=c2f lo hi its.toArray.size;unfold slicePick;rw[h1,h2,h3];simp only[sliceRange_one,pick_run,Zj]<;>rfl
def rSlL(K:W.Frag):V->Option Int->Option Int->Hp->VK->Prop:=λx lo hi H Q=>∃a xs,x=.ref a/\SqL K H a xs/\∀p,H p=none->Q (.ref p) (upd H p (.lst (cutV xs lo hi)))
theorem sl_list:SlR X (rSlL X.K):=by
 intro pj s σ H x v vl vu lo hi sl Q I rx hs pl pu h;obtain⟨a,xs,rfl,hx,q⟩:=h;cases rx;obtain⟨its,r,ht,hz⟩:=I.list hx;have hlen:=r.length;refine⟨"list",_,slot_list_getitem.lookup,ht.isList.typeIs,?_⟩;refine wpAny_getItem_list_slice ht.isList hs pl pu .none qz ?_ (by rw[Zj]<;>omega);rw[c1h,<-hlen];refine⟨.ref s.heap.objs.size,_,I.laid (t':=s.toks) (o:=.lst (cutV xs lo hi)) (λb ob q=>Zh _ q) (Zm _) ?_,rfl,q _ (I.hok.fresh (Zm _))⟩;exact⟨Ye (c5a xs lo hi) hz,_,0,(r.drop (HT.sIx xs.length 0 lo)).take (HT.sIx xs.length xs.length hi-HT.sIx xs.length 0 lo),Zu _ rfl⟩
def a4v:V->Bool
 | .non=>true
 | .bl _=>true
 | .int _=>true
 | .str _=>true
 |_=>false
def eqV:V->V->Bool
 | .non,.non=>true
 | .bl a,.bl b=>a==b
 | .bl a,.int b=>(if a then 1 else 0)==b
 | .int a,.bl b=>a==(if b then 1 else 0)
 | .int a,.int b=>a==b
 | .str a,.str b=>a==b
 |_,_=>false
theorem eqAt_V{A:Around}{s:Shared}{y x:V}{u v:Value}(ry:RelV y u)(rx:RelV x v)(fy:a4v y=true)(fx:a4v x=true):SeqAt.EqAt A s u v (eqV y x):=by
 cases y with
 |non=>
  cases ry;cases x with
  |non=>cases rx;exact Xj _
  |bl b=>cases rx;exact SeqAt.EqAt.none_bool b
  |int b=>obtain⟨t,rfl⟩:=rx;exact SeqAt.EqAt.none_int b t
  |str b=>obtain⟨t,rfl⟩:=rx;exact SeqAt.EqAt.none_str b t
  |_=>exact absurd (show false=true from fx) Zo
 |bl a=>
  cases ry;cases x with
  |non=>cases rx;exact SeqAt.EqAt.bool_none a
  |bl b=>cases rx;exact SeqAt.EqAt.bool_bool a b
  |int b=>obtain⟨t,rfl⟩:=rx;exact SeqAt.EqAt.bool_int a b t
  |str b=>obtain⟨t,rfl⟩:=rx;exact SeqAt.EqAt.bool_str a b t
  |_=>exact absurd (show false=true from fx) Zo
 |int a=>
  obtain⟨t',rfl⟩:=ry;cases x with
  |non=>cases rx;exact SeqAt.EqAt.int_none a t'
  |bl b=>cases rx;exact SeqAt.EqAt.int_bool a t' b
  |int b=>obtain⟨t,rfl⟩:=rx;exact Wu a t' b t
  |str b=>obtain⟨t,rfl⟩:=rx;exact Vn a t' b t
  |_=>exact absurd (show false=true from fx) Zo
 |str a=>
  obtain⟨t',rfl⟩:=ry;cases x with
  |non=>cases rx;exact SeqAt.EqAt.str_none a t'
  |bl b=>cases rx;exact SeqAt.EqAt.str_bool a t' b
  |int b=>obtain⟨t,rfl⟩:=rx;exact Vl a t' b t
  |str b=>obtain⟨t,rfl⟩:=rx;exact Wt a t' b t
  |_=>exact absurd (show false=true from fx) Zo
 |_=>exact absurd (show false=true from fy) Zo
def eqU(x:V)(u:Value):Bool:=match u with
 | .none=>eqV .non x
 | .bool b=>eqV (.bl b) x
 | .int i _=>eqV (.int i) x
 | .str z _=>eqV (.str z) x
 |_=>false
theorem c8q{x y:V}{u:Value}(r:RelV y u)(f:a4v y=true):eqU x u=eqV y x:=by
 cases y with
 |non=>cases r;rfl
 |bl b=>cases r;rfl
 |int i=>obtain⟨t,rfl⟩:=r;rfl
 |str z=>obtain⟨t,rfl⟩:=r;rfl
 |_=>exact absurd (show false=true from f) Zo
theorem b1d{x:V}:∀{xs:List V}{us:List Value},Vals xs us->xs.all a4v=true->us.any (eqU x)=xs.any λy=>eqV y x
 |_,_,.nil,_=>rfl
 |y::xs,u::us,.cons r t,f=>by
  rw[W9,Xd]at f;rw[Xr,Xr,c8q r f.1,b1d t f.2]
theorem a9w{A:Around}{s:Shared}{x:V}{v:Value}(rx:RelV x v)(fx:a4v x=true):∀{xs:List V}{us:List Value},Vals xs us->xs.all a4v=true->∀u∈us,SeqAt.EqAt A s u v (eqU x u)
 |_,_,.nil,_=>λu hu=>by cases hu
 |y::xs,u::us,.cons r t,f=>λu' hu=>by
  rw[W9,Xd]at f;rcases Zg.mp hu with rfl|hu
  ·rw[c8q r f.1];exact eqAt_V r rx f.1 fx
  ·exact a9w rx fx t f.2 u' hu
def inV(x:V)(xs:List V):Bool:=xs.any λy=>eqV y x
def rIn(K:W.Frag)(neg:Bool):R2:=λx y H Q=>∃p xs,y=.ref p/\(SqL K H p xs\/SqT K H p xs)/\a4v x=true/\xs.all a4v=true/\Q (.bl (if neg then !inV x xs else inV x xs)) H
theorem c8r:OpR X (compareOp .In) (rIn X.K false):=by
 intro pj s σ H x y v u Q I rx ry h;obtain⟨p,xs,rfl,hq,fx,fs,q⟩:=h;cases ry;rcases hq with hq|hq
 ·obtain⟨its,r,pl,hz⟩:=I.list hq;refine SeqAt.in_listAt (eqU x) pl.isList (λw hw=>a9w rx fx r fs w (by simpa using hw)) ⟨.bl _,H,I,rfl,?_⟩;rw[show its.toArray.any (eqU x)=its.any (eqU x) by simp,b1d r fs];exact q
 ·obtain⟨its,r,pl,hz⟩:=I.tuple hq;refine SeqAt.in_tupleAt (eqU x) pl (λw hw=>a9w rx fx r fs w (by simpa using hw)) ⟨.bl _,H,I,rfl,?_⟩;rw[show its.toArray.any (eqU x)=its.any (eqU x) by simp,b1d r fs];exact q
theorem c2g:OpR X (compareOp .NotIn) (rIn X.K true):=by
 intro pj s σ H x y v u Q I rx ry h;obtain⟨p,xs,rfl,hq,fx,fs,q⟩:=h;cases ry;rcases hq with hq|hq
 ·obtain⟨its,r,pl,hz⟩:=I.list hq;refine SeqAt.notIn_listAt (eqU x) pl.isList (λw hw=>a9w rx fx r fs w (by simpa using hw)) ⟨.bl _,H,I,rfl,?_⟩;rw[show its.toArray.any (eqU x)=its.any (eqU x) by simp,b1d r fs];exact q
 ·obtain⟨its,r,pl,hz⟩:=I.tuple hq;refine SeqAt.notIn_tupleAt (eqU x) pl (λw hw=>a9w rx fx r fs w (by simpa using hw)) ⟨.bl _,H,I,rfl,?_⟩;rw[show its.toArray.any (eqU x)=its.any (eqU x) by simp,b1d r fs];exact q
theorem c2h:a2w X (.type "list") (λxs H Q=>∃p ys,xs=[.ref p]/\(SqL X.K H p ys\/SqT X.K H p ys)/\∀l,H l=none->Q (.ref l) (upd H l (.lst ys))):=by
 intro pj s σ H xs us Q I r h;obtain⟨p,ys,rfl,hq,q⟩:=h;obtain⟨u,rfl,rx⟩:=vals1 r;cases rx;have fin:∀(its:List Value),Vals ys its->ys.length<=sizeLine->∀(h':Heap)(c':Nat),(∀b o',s.heap.get? b=some o'->h'.get? b=some o')->
   h'.get? s.heap.objs.size=some { cls:=.type "list",dict:=none,data:=.seq its.toArray c',slots:=#[]}->EP X pj σ Q (.ref s.heap.objs.size) { s with heap:=h'}:=λits r' hz h' c' kp e=>
  ⟨.ref s.heap.objs.size,_,I.laid (t':=s.toks) kp (Zm _) (show a1v X.prog X.w _ h' _ (.lst ys)from⟨hz,its,c',r',e⟩),rfl,q _ (I.hok.fresh (Zm _))⟩
 rcases hq with hq|hq
 ·obtain⟨its,r',pl,hz⟩:=I.list hq;have hlen:=r'.length;obtain⟨o,ho,hc,n,hd⟩:=pl.isList;exact call_list_seq p (.inl rfl) ho hc hd (λh' c' kp e=>fin its r' hz h' c' kp e) (by simp only[Zj]<;>omega)
 ·obtain⟨its,r',pl,hz⟩:=I.tuple hq;have hlen:=r'.length;obtain⟨o,ho,hc,n,hd⟩:=pl;exact call_list_seq p (.inr rfl) ho hc hd (λh' c' kp e=>fin its r' hz h' c' kp e) (by simp only[Zj]<;>omega)
theorem c1i:a2w X (.type "tuple") (λxs H Q=>∃p ys,xs=[.ref p]/\((SqL X.K H p ys/\∀l,H l=none->Q (.ref l) (upd H l (.tup ys)))\/(SqT X.K H p ys/\Q (.ref p) H))):=by
 intro pj s σ H xs us Q I r h;obtain⟨p,ys,rfl,h⟩:=h;obtain⟨u,rfl,rx⟩:=vals1 r;cases rx;rcases h with⟨hq,q⟩|⟨hq,q⟩
 ·obtain⟨its,r',pl,hz⟩:=I.list hq;have hlen:=r'.length;refine call_tuple_list pl.isList (λh' kp=>?_) (by simp only[Zj]<;>omega);have I1:Inv X pj σ H { s with heap:=h'}:=I.kept (t':=s.toks) kp;have I2:Inv X pj σ (upd H h'.objs.size (.tup ys)) { s with heap:=h'.push { cls:=.type "tuple",data:=.seq its.toArray}}:=
   I1.laid (t':=s.toks) (λb o e=>Zh _ e) (Zm _) (show a1v X.prog X.w _ _ _ (.tup ys)from⟨hz,its,r',IsTup.new _ _⟩)
  exact⟨.ref h'.objs.size,_,I2,rfl,q _ (I1.hok.fresh (Zm _))⟩
 ·obtain⟨its,r',pl,hz⟩:=I.tuple hq;exact call_tuple_same pl ⟨.ref p,H,I,rfl,q⟩
def tyV(K:W.Frag)(T:String)(x:V)(H:Hp):Prop:=match x with
 | .str _=>T="str"
 | .int _=>T="int"
 | .ref p=>(T="list"/\∃xs,SqL K H p xs)\/(T="tuple"/\∃o,K.lookup p=some o/\o.cls=.type "tuple"/\o.dict=none)\/
   (T="dict"/\((∃kvs,H p=some (.dK kvs))\/∃kvs,H p=some (.dT kvs)))\/(T="set"/\∃S n,H p=some (.set S n))
 |_=>False
theorem c8s{pj:List (Addr×Obj)}{σ:St}{H:Hp}{s:Shared}{T:String}{x:V}{v:Value}(I:Inv X pj σ H s)(r:RelV x v)(ty:tyV X.K T x H):
  s.TypeIs v T/\∀a,v=.ref a->∃ob,s.heap.get? a=some ob/\ob.dict=none:=by
 cases x with
 |str z=>
  obtain⟨t,rfl⟩:=r
  cases(show T="str" from ty)
  exact⟨typeIs_str s z t,λ_ e=>nomatch e⟩
 |int i=>
  obtain⟨t,rfl⟩:=r
  cases(show T="int" from ty)
  exact⟨Rg s i t,λ_ e=>nomatch e⟩
 |ref p=>
  cases r;rcases ty with⟨rfl,xs,hq⟩|⟨rfl,o,hk,hc,hd⟩|⟨rfl,hk⟩|⟨rfl,S,n,hk⟩
  ·obtain⟨its,_,pl,_⟩:=I.list hq;refine⟨pl.isList.typeIs,λa e=>?_⟩;cases e;obtain⟨o,n,e,c,hd,_⟩:=pl;exact⟨o,e,hd⟩
  ·refine⟨⟨o,I.kIn p o hk,hc⟩,λa e=>?_⟩;cases e;exact⟨o,I.kIn _ o hk,hd⟩
  ·have z:∃o,s.heap.get? p=some o/\o.ExactDict:=by
    rcases hk with⟨kvs,hk⟩|⟨kvs,hk⟩
    ·obtain⟨_,_,_,_,o,_,_,e,ex,_⟩:=I.hok p _ hk;exact⟨o,e,ex⟩
    ·obtain⟨_,_,_,_,o,_,_,e,ex,_⟩:=I.hok p _ hk;exact⟨o,e,ex⟩
   obtain⟨o,e,ex⟩:=z;refine⟨⟨o,e,ex.1⟩,λa e2=>?_⟩;cases e2;exact⟨o,e,ex.2.1⟩
  ·obtain⟨o,_,_,_,e,ex,_⟩:=I.hok p _ hk;refine⟨⟨o,e,ex.1⟩,λa e2=>?_⟩;cases e2;exact⟨o,e,ex.2.1⟩
 |_=>exact False.elim ty
def tBM0(K:W.Frag)(T:String)(r:V->List V->Hp->VK->Prop)(to:TE):TE:=λσ H Q=>to σ H λx H1=>tyV K T x H1/\r x [] H1 Q
def tBM(K:W.Frag)(T:String)(r:V->List V->Hp->VK->Prop)(to:TE)(t:TA):TE:=λσ H Q=>to σ H λx H1=>tyV K T x H1/\t σ H1 λxs H2=>r x xs H2 Q
variable{o e:Expr}{es:List Expr}{to:TE}{t:TA}{name:Str}{apos cpos:Pos}{T id:String}{r:V->List V->Hp->VK->Prop}
theorem pe_bm0(pa:PlainAttrs T)(slot:Slot T name id)(hty:typeOf (.builtin id)=pure (.type "method_descriptor"))(hm:MtR X id r)(ho:PE X o to)
  (hbase:attributeBase o name X.env (eval o X.env)=eval o X.env:=by rfl)(hline:(apos.endLine==cpos.line)=true:=by rfl):PE X (.Call (.Attribute o name apos) [] [] cpos) (tBM0 X.K T r to):=by
 intro pj s σ H Q I h;refine wpAny_Call_method0_late hbase hline (thn (ho pj s σ H _ I h) λv s1 z9=>?_);obtain⟨x,H1,I1,r1,ty,q1⟩:=z9;obtain⟨h1,h2⟩:=c8s I1 r1 ty;exact⟨T,id,pa,slot,hty,h1,h2,V3 rfl (PySem.evalArgs_none (hm pj s1 σ H1 x [] v [] Q I1 r1 .nil q1))⟩
theorem pe_bm(pa:PlainAttrs T)(slot:Slot T name id)(hty:typeOf (.builtin id)=pure (.type "method_descriptor"))(hm:MtR X id r)(ho:PE X o to)(ha:PA X (e::es) t)
  (hbase:attributeBase o name X.env (eval o X.env)=eval o X.env:=by rfl)
  (hfew:((backTo cpos (starEach (e::es) X.env)).all (λx=>!x.1)&&(backToKw cpos (keywordEach [] X.env)).all (λx=>x.1.isSome)
   &&decide ((e::es).length+([]:List Keyword).length+(if([]:List Keyword).isEmpty then 0 else 1)<30))=true:=by rfl)
  (hline:(apos.endLine==cpos.line)=true:=by rfl)(hs:starEach (e::es) X.env=(false,eval e X.env)::starEach es X.env:=by rfl)(hplain:(backTo cpos (starEach es X.env)).any (·.1)=false:=by rfl):
  PE X (.Call (.Attribute o name apos) (e::es) [] cpos) (tBM X.K T r to t):=by
 intro pj s σ H Q I h;refine wpAny_Call_method_late hbase hfew hline rfl (thn (ho pj s σ H _ I h) λv s1 z9=>?_);obtain⟨x,H1,I1,r1,ty,q1⟩:=z9;obtain⟨h1,h2⟩:=c8s I1 r1 ty;refine⟨T,id,pa,slot,hty,h1,h2,?_⟩;have hA:=ha cpos pj s1 σ H1 _ I1 q1;rw[hs]at hA ⊢;refine V3 (by show(false|| (backTo cpos (starEach es X.env)).any (·.1))=false;rw[hplain]<;>rfl) (Sv ?_);exact thn hA λus s2 ⟨vs,H2,I2,r2,q2⟩=>hm pj s2 σ H2 x vs v us Q I2 r1 r2 q2
end
def MtM(X:Cx)(id:String)(r:V->List V->Hp->VK->Prop):Prop:=
 ∀(pj:List (Addr×Obj))(s:Shared)(σ:St)(H:Hp)(x:V)(xs:List V)(v:Value)(us:List Value)(Q:VK),Inv X pj σ H s->RelV x v->Vals xs us->r x xs H Q->
  wpAny (model X.prog X.w) X.A (call (.builtin id) (v::us)) (EP X pj σ Q) X.xe s
theorem Vals.one{x:V}{us:List Value}(r:Vals [x] us):∃u,us=[u]/\RelV x u:=vals1 r
theorem Vals.zero:∀{us:List Value},Vals [] us->us=[]
 |_,.nil=>rfl
theorem Vals.dropLast{xs:List V}{us:List Value}(h:Vals xs us):Vals xs.dropLast us.dropLast:=by
 induction h with
 |nil=>exact .nil
 |cons r t ih=>
  cases t with
  |nil=>exact .nil
  |cons q t'=>exact .cons r ih
theorem Vals.reverse{xs:List V}{us:List Value}(h:Vals xs us):Vals xs.reverse us.reverse:=by
 induction h with
 |nil=>exact .nil
 |cons r t ih=>rw[Yj,Yj];exact Vals.append ih (.cons r .nil)
theorem Vals.rep{xs:List V}{us:List Value}(h:Vals xs us):∀k:Nat,Vals (List.replicate k xs).flatten (List.replicate k us).flatten
 |0=>.nil
 |k+1=>by
  rw[Xz,Xz,Vv,Vv];exact Vals.append h (Vals.rep h k)
theorem c7b{α:Type}(l:List α):l.eraseIdx (l.length-1)=l.dropLast:=by
 induction l with
 |nil=>rfl
 |cons a r ih=>
  cases r with
  |nil=>rfl
  |cons b r=>
   have e:(a::b::r).length-1=((b::r).length-1)+1:=by
    have h1:(a::b::r).length=r.length+2:=rfl;have h2:(b::r).length=r.length+1:=rfl;omega
   rw[e,List.eraseIdx_cons_succ,ih]
   all_goals rfl
theorem foldl_rep(its:List Value):∀(k:Nat)(acc:List Value),
  List.foldl (λx1 x2=>x1++x2) acc.toArray (List.replicate k its.toArray)=(acc++(List.replicate k its).flatten).toArray
 |0,acc=>by simp
 |k+1,acc=>by
  have e:acc.toArray++its.toArray=(acc++its).toArray:=by simp
  have e2:(acc++its)++(List.replicate k its).flatten=acc++(List.replicate (k+1) its).flatten:=by
   rw[Xz,Vv,Y9]
  rw[<-e2,<-foldl_rep its k (acc++its),<-e,Xz,List.foldl_cons]
section
variable{X:Cx}{pj:List (Addr×Obj)}{σ:St}{H:Hp}{s:Shared}{l b:Addr}{xs ys zs:List V}
theorem Inv.lset{its its':List Value}{n:Nat}{f:Array Value->Array Value}{t':Nat}(I:Inv X pj σ H s)(hH:H l=some (.lst xs))
  (e:s.heap.get? l=some { cls:=.type "list",data:=.seq its.toArray n})(hf:f its.toArray=its'.toArray)(hv:Vals ys its')(hz:ys.length<=sizeLine):
  Inv X pj σ (upd H l (.lst ys)) { s with heap:=s.heap.update l (Obj.mapSeq f),toks:=t'}:=by
 have q:=PySem.IsL.update e f;rw[hf]at q;refine I.write (x:=l) (e:=l) (by rw[hH];exact trivial) (.inl rfl) (λb' u hb hu=>(Xq s.heap (Obj.mapSeq f) (Ne.symm hb)).trans hu) ⟨_,q⟩ ?_;exact⟨hz,its',_,hv,q⟩
theorem Inv.lnew{its:List Value}{t':Nat}(I:Inv X pj σ H s)(hv:Vals ys its)(hz:ys.length<=sizeLine):
  Inv X pj σ (upd H s.heap.objs.size (.lst ys)) { s with heap:=s.heap.push { cls:=.type "list",data:=.seq its.toArray},toks:=t'}:=
 I.laid (λ_ _ q=>Zh _ q) (Zm _) ⟨hz,its,0,hv,Zu _ rfl⟩
theorem Inv.fresh(I:Inv X pj σ H s):H s.heap.objs.size=none:=I.hok.fresh (Zm _)
theorem Inv.lstM(I:Inv X pj σ H s)(hH:H l=some (.lst xs)):xs.length<=sizeLine/\∃(its:List Value)(n:Nat),Vals xs its/\xs.length=its.length/\s.heap.get? l=some { cls:=.type "list",data:=.seq its.toArray n}:=by
 obtain⟨z,its,n,r,e⟩:=I.hok l _ hH;exact⟨z,its,n,r,r.length,e⟩
theorem b6e{n:Nat}(h:n<=sizeLine):Builtin.List.listTooLong n=false:=by
 unfold Builtin.List.listTooLong;exact Zs qo
end
section
variable{X:Cx}
def rAppend:V->List V->Hp->VK->Prop:=λx vs H Q=>∃l xs y,x=.ref l/\vs=[y]/\H l=some (.lst xs)/\xs.length<sizeLine/\Q .non (upd H l (.lst (xs++[y])))
theorem b3s:MtM X "list.append" rAppend:=by
 intro pj s σ H x vs v us Q I rx rv h;obtain⟨l,xs,y,rfl,rfl,hH,hz,q⟩:=h;cases rx;obtain⟨u,rfl,ru⟩:=rv.one;obtain⟨z,its,n,r,hl,e⟩:=I.lstM hH;refine Vk Yl ⟨_,e,rfl⟩ F.entry_list_append (F.args_list_append_2 _ _) (PySem.list_append l its.toArray n u (by rw[Zj];omega)) ⟨e,?_⟩;refine⟨.non,_,I.lset (its':=its++[u]) hH e qz (r.append (.cons ru .nil)) ?_,rfl,q⟩;rw[Zk,Z8];omega
def rExtend:V->List V->Hp->VK->Prop:=λx vs H Q=>∃l b xs zs,x=.ref l/\vs=[.ref b]/\H l=some (.lst xs)/\H b=some (.lst zs)/\xs.length+zs.length<=sizeLine/\Q .non (upd H l (.lst (xs++zs)))
theorem c8t:MtM X "list.extend" rExtend:=by
 intro pj s σ H x vs v us Q I rx rv h;obtain⟨l,b,xs,zs,rfl,rfl,hH,hB,hz,q⟩:=h;cases rx;obtain⟨u,rfl,ru⟩:=rv.one;cases ru;obtain⟨z,its,n,r,hl,e⟩:=I.lstM hH;obtain⟨z2,its2,n2,r2,hl2,e2⟩:=I.lstM hB;have hsz:its.toArray.size+its2.toArray.size<=sizeLine:=by rw[Zj,Zj];omega
 have hlong:¬(!its.toArray.isEmpty&&Builtin.List.listTooLong (its.toArray.size+its2.toArray.size))=true:=by
  rw[b6e hsz,Ti];exact Zo
 refine Vk X8 ⟨_,e,rfl⟩ S7 (Su _ _)
  (AutoSeq1.list_extend_list_list_0 l its.toArray n b its2.toArray n2 hlong (by rw[Zj];omega) qo) ⟨e,e2,?_⟩
 refine⟨.non,_,I.lset (its':=its++its2) hH e qz (r.append r2) ?_,rfl,q⟩;rw[Zk];omega
def rPop:V->List V->Hp->VK->Prop:=λx vs H Q=>∃l xs y,x=.ref l/\vs=[]/\H l=some (.lst xs)/\xs[xs.length-1]? =some y/\Q y (upd H l (.lst xs.dropLast))
theorem mt_pop:MtM X "list.pop" rPop:=by
 intro pj s σ H x vs v us Q I rx rv h;obtain⟨l,xs,y,rfl,rfl,hH,hy,q⟩:=h;cases rx;have hus:=rv.zero;subst hus;obtain⟨z,its,n,r,hl,e⟩:=I.lstM hH;obtain⟨u,hu,ru⟩:=r.get hy;have hy':its.toArray[its.toArray.size-1]? =some u:=by
  show its.toArray[its.length-1]? =some u
  rw[<-Wc,<-hl];exact hu
 refine Vk Ws ⟨_,e,rfl⟩ F.entry_list_pop (F.args_list_pop_1 _) (MeetsSeq.list_pop_last l its.toArray n u hy' (by rw[Zj];omega)) ⟨e,?_⟩;refine⟨y,_,I.lset (its':=its.dropLast) hH e ?_ r.dropLast ?_,ru,q⟩
 ·show its.toArray.eraseIdxIfInBounds (its.toArray.size-1)=its.dropLast.toArray
  rw[Zj,List.eraseIdxIfInBounds_toArray,c7b]
 ·rw[List.length_dropLast];omega
def rCat:R2:=λx y H Q=>∃l b xs zs,x=.ref l/\y=.ref b/\H l=some (.lst xs)/\H b=some (.lst zs)/\xs.length+zs.length<=sizeLine/\∀p,H p=none->Q (.ref p) (upd H p (.lst (xs++zs)))
theorem op_cat:OpR X (binaryOp .Add) rCat:=by
 intro pj s σ H x y v u Q I rx ry h;obtain⟨l,b,xs,zs,rfl,rfl,hH,hB,hz,q⟩:=h;cases rx;cases ry;obtain⟨z,its,n,r,hl,e⟩:=I.lstM hH;obtain⟨z2,its2,n2,r2,hl2,e2⟩:=I.lstM hB;refine PySem.P.add_list e e2 ?_ (by rw[Zj,Zj];omega);have ea:its.toArray++its2.toArray=(its++its2).toArray:=by simp
 rw[ea];exact⟨.ref _,_,I.lnew (t':=s.toks) (r.append r2) (by rw[Zk];omega),rfl,q _ I.fresh⟩
def rRep:R2:=λx y H Q=>∃l k xs,x=.ref l/\y=.int k/\H l=some (.lst xs)/\-(2^63)<=k/\k<2^63/\xs.length*k.toNat<=sizeLine/\
 ∀p,H p=none->Q (.ref p) (upd H p (.lst (List.replicate k.toNat xs).flatten))
theorem len_rep{α:Type}(xs:List α)(k:Nat):(List.replicate k xs).flatten.length=k*xs.length:=by
 induction k with
 |zero=>simp
 |succ k ih=>rw[Xz,Vv,Zk,ih,Nat.succ_mul,Nat.add_comm]
theorem op_rep:OpR X (binaryOp .Mult) rRep:=by
 intro pj s σ H x y v u Q I rx ry h;obtain⟨l,k,xs,rfl,rfl,hH,h1,h2,hz,q⟩:=h;cases rx;obtain⟨t,rfl⟩:=ry;obtain⟨z,its,n,r,hl,e⟩:=I.lstM hH;have hlen:its.toArray.size*k.toNat<=sizeLine:=by rw[Zj,<-hl];exact hz
 have hcap:¬its.toArray.size*k.toNat>(2^63-1)/8:=by
  have:(sizeLine:Nat)<=(2^63-1)/8:=by decide
  omega
 have hfit:¬(!Builtin.List.listFitsIndex k)=true:=by
  rw[fitsIndex_both h1 h2];exact Zo
 have hlong:¬Builtin.List.listTooLong (its.toArray.size*k.toNat)=true:=by
  rw[b6e hlen];exact Zo
 have hnew:List.foldl (λx1 x2=>x1++x2) #[] (List.replicate (if its.toArray.isEmpty=true then 0 else k.toNat) its.toArray)=(List.replicate k.toNat its).flatten.toArray:=by
  have f0:∀m:Nat,List.foldl (λx1 x2=>x1++x2) #[] (List.replicate m its.toArray)=(List.replicate m its).flatten.toArray:=λm=>by
   have:=foldl_rep its m [];rw[Wa]at this;exact this
  rw[f0];cases its with
  |nil=>simp
  |cons a r'=>rw[if_neg qz]
 refine wpAny_binaryOp_repeat_ref (T:="list") (U:="int") qd ⟨_,e,rfl⟩ (λs'=>Rg s' k t) noFill_list_mul F.fills_int_mul F.slot_int_rmul repeat_list F.slot_int_index.lookup
  (Vk F.slot_int_rmul (Rg s k t) F.entry_int_rmul (F.args_int_rmul_2 _ _) (int___rmul___int_list k t l its.toArray n)
   ⟨e,rfl,⟨_,e,rfl⟩,Vk F.slot_list_mul ⟨_,e,rfl⟩ F.entry_list_mul (F.args_list_mul_2 _ _) (AutoListH.list___mul___list_int_3 l its.toArray n k t hfit hcap hlong) ⟨e,?_⟩⟩)
 rw[hnew];exact⟨.ref _,_,I.lnew (t':=s.toks) (r.rep k.toNat) (by rw[len_rep,Nat.mul_comm];exact hz),rfl,q _ I.fresh⟩
end
section
variable{κ:Type}[DecidableEq κ]
def valV(kvs:List (κ×V))(k:κ):Option V:=(kvs.find? λkv=>decide (kv.1=k)).map (·.2)
def putK(kvs:List (κ×V))(k:κ)(v:V):List (κ×V):=
 if(kvs.any λkv=>decide (kv.1=k))=true then kvs.map (λkv=>if kv.1=k then(kv.1,v)else kv)else kvs++[(k,v)]
theorem b2d{p:κ×V}{r:List (κ×V)}{k:κ}(e:p.1=k):valV (p::r) k=some p.2:=by simp[valV,Y4,e]
theorem b2e{p:κ×V}{r:List (κ×V)}{k:κ}(e:¬p.1=k):valV (p::r) k=valV r k:=by simp[valV,Y4,e]
theorem b6f(k:κ):∀kvs:List (κ×V),(kvs.any λkv=>decide (kv.1=k))=(valV kvs k).isSome
 | []=>rfl
 |p::r=>by
  rw[Xr]
  by_cases e:p.1=k
  ·simp only[b2d e,Zw e,Bool.true_or,Option.isSome_some]
  ·rw[b2e e,Zs e,Tt];exact b6f k r
theorem b0u(kvs:List (κ×V))(k:κ)(v:V):(putK kvs k v).length<=kvs.length+1:=by
 unfold putK
 split
 ·rw[length_map];omega
 ·rw[Zk,length_cons,length_nil];omega
theorem d2a{kvs:List (κ×V)}{k:κ}(v:V)(h:valV kvs k=none):putK kvs k v=kvs++[(k,v)]:=by
 unfold putK;rw[b6f,h];exact if_neg qd
theorem RelO.isSome_eq{o:Option V}{u:Option Value}(r:RelO o u):o.isSome=u.isSome:=by
 cases o with
 |none=>cases u with
  |none=>rfl
  |some _=>exact(show False from r).elim
 |some _=>cases u with
  |none=>exact(show False from r).elim
  |some _=>rfl
theorem RelO.getD{o:Option V}{u:Option Value}{d:V}{d':Value}(r:RelO o u)(rd:RelV d d'):RelV (o.getD d) (u.getD d'):=by
 cases o with
 |none=>cases u with
  |none=>exact rd
  |some _=>exact(show False from r).elim
 |some _=>cases u with
  |none=>exact(show False from r).elim
  |some _=>exact r
theorem KV.val{kvs:List (κ×V)}{vs:List (κ×Value)}(r:KV kvs vs)(k:κ):RelO (valV kvs k) (valueAt vs k):=by
 unfold KV at r
 induction r with
 |nil=>exact True.intro
 | @cons p q ps qs h t ih=>
  obtain⟨h1,h2⟩:=h
  by_cases e:p.1=k
  ·have e':q.1=k:=h1.symm.trans e;have b:valueAt (q::qs) k=some q.2:=by simp[valueAt,Y4,e']
   rw[b2d e,b];exact h2
  ·have e':¬q.1=k:=λz=>e (h1.trans z)
   have b:valueAt (q::qs) k=valueAt qs k:=by simp[valueAt,Y4,e']
   rw[b2e e,b];exact ih
theorem KV.any{kvs:List (κ×V)}{vs:List (κ×Value)}(r:KV kvs vs)(k:κ):(kvs.any λkv=>decide (kv.1=k))=vs.any λkv=>decide (kv.1=k):=by
 unfold KV at r
 induction r with
 |nil=>rfl
 |cons h t ih=>rw[Xr,Xr,ih,h.1]
theorem KV.repl{kvs:List (κ×V)}{vs:List (κ×Value)}(r:KV kvs vs)(k:κ){y:V}{u:Value}(ry:RelV y u):
  KV (kvs.map λkv=>if kv.1=k then(kv.1,y)else kv) (vs.map λkv=>if kv.1=k then(kv.1,u)else kv):=by
 unfold KV at r ⊢
 induction r with
 |nil=>exact .nil
 | @cons p q ps qs h t ih=>
  rw[Zt,Zt];refine .cons ?_ ih;obtain⟨h1,h2⟩:=h
  by_cases e:p.1=k
  ·rw[if_pos e,if_pos (h1.symm.trans e)];exact⟨h1,ry⟩
  ·rw[if_neg e,if_neg (λz=>e (h1.trans z))];exact⟨h1,h2⟩
theorem KV.put{kvs:List (κ×V)}{vs:List (κ×Value)}(r:KV kvs vs)(k:κ){y:V}{u:Value}(ry:RelV y u):KV (putK kvs k y) (stored vs k u):=by
 unfold putK stored;rw[r.any k]
 by_cases e:(vs.any λkv=>decide (kv.1=k))=true
 ·rw[if_pos e,if_pos e];exact r.repl k ry
 ·rw[if_neg e,if_neg e];exact Paired.snoc r ⟨rfl,ry⟩
theorem KV.length{kvs:List (κ×V)}{vs:List (κ×Value)}(r:KV kvs vs):kvs.length=vs.length:=Y0 r
end
theorem b5d{P:Program}{w:World}{k:Key}{u:Value}(r:RelV (kV k) u):(a1r P w).is k u=true:=by
 cases k with
 |inl i=>obtain⟨t,e⟩:=(show ∃t,u=Value.int i t from r);subst e;exact b0s P w i t
 |inr x=>obtain⟨t,e⟩:=(show ∃t,u=Value.str x t from r);subst e;exact b0t P w x t
theorem c0m{P:Program}{w:World}:∀{ks:List Key}{us:List Value},Vals (ks.map kV) us->ItemsAre (a1r P w) ks us
 | [],_,r=>by rw[Uw]at r;cases r;exact .nil
 |k::ks,_,r=>by
  rw[Zt]at r;cases r with
  |cons h t=>exact .cons (b5d h) (c0m t)
abbrev KT(H:Hp):List (List Key×V)->List (List Key×Addr×Value)->Prop:=Paired λp q=>p.1=q.1/\H q.2.1=some (.tup (p.1.map kV))/\RelV p.2 q.2.2
theorem KT.val{H:Hp}{kvs:List (List Key×V)}{xs:List (List Key×Addr×Value)}(r:KT H kvs xs)(k:List Key):RelO (valV kvs k) ((atKey xs k).map (·.2)):=by
 induction r with
 |nil=>exact True.intro
 | @cons p q ps qs h t ih=>
  obtain⟨h1,_,h2⟩:=h
  by_cases e:p.1=k
  ·have e':q.1=k:=h1.symm.trans e;have b:atKey (q::qs) k=some q.2:=by simp[atKey,Y4,e']
   rw[b2d e,b];exact h2
  ·have e':¬q.1=k:=λz=>e (h1.trans z)
   have b:atKey (q::qs) k=atKey qs k:=by simp[atKey,Y4,e']
   rw[b2e e,b];exact ih
theorem KT.repl{H:Hp}{kvs:List (List Key×V)}{xs:List (List Key×Addr×Value)}(r:KT H kvs xs)(k:List Key){y:V}{u:Value}(ry:RelV y u):
  KT H (kvs.map λkv=>if kv.1=k then(kv.1,y)else kv) (xs.map (putAt k u)):=by
 induction r with
 |nil=>exact .nil
 | @cons p q ps qs h t ih=>
  rw[Zt,Zt];refine .cons ?_ ih;obtain⟨h1,h2,h3⟩:=h;unfold putAt
  by_cases e:p.1=k
  ·rw[if_pos e,if_pos (h1.symm.trans e)];exact⟨h1,h2,ry⟩
  ·rw[if_neg e,if_neg (λz=>e (h1.trans z))];exact⟨h1,h2,h3⟩
theorem KT.put{H:Hp}{kvs:List (List Key×V)}{xs:List (List Key×Addr×Value)}(r:KT H kvs xs)(k:List Key){b:Addr}{y:V}{u:Value}(hb:H b=some (.tup (k.map kV)))(ry:RelV y u):
  KT H (putK kvs k y) (storedH xs k b u):=by
 have e:(kvs.any λkv=>decide (kv.1=k))=(atKey xs k).isSome:=by
  rw[b6f,(r.val k).isSome_eq,Ut]
 unfold putK storedH;rw[e]
 by_cases q:(atKey xs k).isSome=true
 ·rw[if_pos q,if_pos q];exact r.repl k ry
 ·rw[if_neg q,if_neg q];exact Paired.snoc r ⟨rfl,hb,ry⟩
theorem KT.keeps{H H':Hp}{kvs:List (List Key×V)}{xs:List (List Key×Addr×Value)}(r:KT H kvs xs)(ht:∀b ys,H b=some (.tup ys)->H' b=some (.tup ys)):KT H' kvs xs:=
 Paired.mapP r λ_ _ z=>⟨z.1,ht _ _ z.2.1,z.2.2⟩
section
variable{P:Program}{w:World}{H:Hp}{h:Heap}{a:Addr}
theorem rd_of{u:HO}(ok:HOk P w H h)(e:Rd H a u):a1v P w H h a u:=e.ok ok
theorem a8j{kvs:List (Key×V)}(ok:HOk P w H h)(e:Rd H a (.dK kvs)):kvs.length<=sizeLine/\(a==sysModules)=false/\∃vs,KV kvs vs/\h.DictOf (a1r P w) a vs:=
 show a1v P w H h a (.dK kvs)from rd_of ok e
theorem dk_of{kvs:List (Key×V)}(ok:HOk P w H h)(e:H a=some (.dK kvs)):kvs.length<=sizeLine/\(a==sysModules)=false/\∃vs,KV kvs vs/\h.DictOf (a1r P w) a vs:=a8j ok (.inl e)
theorem a9x{ks:List Key}(ok:HOk P w H h)(e:H a=some (.tup (ks.map kV))):(tupleKind (a1r P w)).is h ks a:=by
 obtain⟨_,its,r,o,h1,h2,n,h3⟩:=(show a1v P w H h a (.tup (ks.map kV))from ok a _ e);exact⟨o,its.toArray,n,h1,h2,h3,by simpa using c0m r⟩
theorem b2f{kvs:List (List Key×V)}(ok:HOk P w H h)(e:Rd H a (.dT kvs)):kvs.length<=sizeLine/\(a==sysModules)=false/\
  ∃xs,KT H kvs xs/\h.DictOfH (tupleKind (a1r P w)) a xs:=by
 obtain⟨z,y,xs,r,o,es,ep,h1,h2,h3,h4,h5⟩:=(show a1v P w H h a (.dT kvs)from rd_of ok e);refine⟨z,y,xs,r,o,es,ep,h1,h2,h3,h4,λx hx=>?_,h5⟩;have all:∀{l:List (List Key×V)}{m:List (List Key×Addr×Value)},KT H l m->∀x∈m,(tupleKind (a1r P w)).is h x.1 x.2.1:=by
  intro l m q
  induction q with
  |nil=>intro x hx;exact nomatch hx
  | @cons p q ps qs hq t ih=>
   intro x hx;rcases Zg.mp hx with e|hx
   ·subst e;exact a9x ok (by rw[<-hq.1];exact hq.2.1)
   ·exact ih x hx
 exact all r x hx
theorem dt_of{kvs:List (List Key×V)}(ok:HOk P w H h)(e:H a=some (.dT kvs)):kvs.length<=sizeLine/\(a==sysModules)=false/\
  ∃xs,KT H kvs xs/\h.DictOfH (tupleKind (a1r P w)) a xs:=b2f ok (.inl e)
end
def DGet(H:Hp)(a:Addr)(y:V)(r:Option V):Prop:=
 (∃kvs k,Rd H a (.dK kvs)/\y=kV k/\r=valV kvs k)\/∃kvs k b,Rd H a (.dT kvs)/\y=.ref b/\H b=some (.tup (k.map kV))/\r=valV kvs k
def DPut(H:Hp)(a:Addr)(y v:V)(H':Hp):Prop:=
 (∃kvs k,H a=some (.dK kvs)/\y=kV k/\kvs.length<sizeLine/\H'=upd H a (.dK (putK kvs k v)))\/
 ∃kvs k b,H a=some (.dT kvs)/\y=.ref b/\H b=some (.tup (k.map kV))/\kvs.length<sizeLine/\H'=upd H a (.dT (putK kvs k v))
theorem DGet.k{H:Hp}{a:Addr}{kvs:List (Key×V)}{k:Key}(e:H a=some (.dK kvs)):DGet H a (kV k) (valV kvs k):=.inl ⟨kvs,k,.inl e,rfl,rfl⟩
theorem DGet.t{H:Hp}{a b:Addr}{kvs:List (List Key×V)}{k:List Key}(e:H a=some (.dT kvs))(eb:H b=some (.tup (k.map kV))):DGet H a (.ref b) (valV kvs k):=.inr ⟨kvs,k,b,.inl e,rfl,eb,rfl⟩
theorem DPut.k{H:Hp}{a:Addr}{kvs:List (Key×V)}{k:Key}{v:V}(e:H a=some (.dK kvs))(hl:kvs.length<sizeLine):DPut H a (kV k) v (upd H a (.dK (putK kvs k v))):=.inl ⟨kvs,k,e,rfl,hl,rfl⟩
theorem DPut.t{H:Hp}{a b:Addr}{kvs:List (List Key×V)}{k:List Key}{v:V}(e:H a=some (.dT kvs))(eb:H b=some (.tup (k.map kV)))(hl:kvs.length<sizeLine):
  DPut H a (.ref b) v (upd H a (.dT (putK kvs k v))):=.inr ⟨kvs,k,b,e,rfl,eb,hl,rfl⟩
section
variable{X:Cx}{pj:List (Addr×Obj)}{σ:St}{H:Hp}{s:Shared}{a:Addr}{y v:V}{u r:Value}{o:Option V}{A:Around}{E:Value->Shared->Prop}
theorem Inv.big(I:Inv X pj σ H s):sysModules<s.heap.objs.size:=by
 have h:mainGlobals<s.heap.objs.size:=(I.mod.glob.keeps I.bk).lt;exact Nat.lt_trans qd h
theorem c8u{Q:Value->Shared->Prop}(hu:A.units+1<cLine)(I:Inv X pj σ H s)(g:DGet H a y (some v))(ry:RelV y u)(h:∀w' s',Inv X pj σ H s'->RelV v w'->Q w' s'):
  wpAny (model X.prog X.w) A (getItem (.ref a) u) Q E s:=by
 rcases g with⟨kvs,k,e,ey,l⟩|⟨kvs,k,b,e,ey,eb,l⟩
 ·subst ey;obtain⟨z,hd,vs,rel,dd⟩:=a8j I.hok e;obtain⟨w',hw,rw'⟩:=RelO.some_of (v:=v) (o:=valueAt vs k) (by rw[l];exact rel.val k);exact wpAny_getItem_of (b5d ry) dd.mapOf hw (h w' _ (I.tok _) rw')
 ·subst ey
  cases(show u=Value.ref b from ry)
  obtain⟨z,hd,xs,rel,dd⟩:=b2f I.hok e;obtain⟨w',hw,rw'⟩:=RelO.some_of (v:=v) (o:=(atKey xs k).map (·.2)) (by rw[l];exact rel.val k);obtain⟨p,hp,hp2⟩:=Xg.mp hw;refine Rc (X6 hu) (a9x I.hok eb) dd hp ?_;rw[hp2];exact h w' _ (I.tok _) rw'
theorem d_in{Q:Value->Shared->Prop}(hu:A.units+1<cLine)(I:Inv X pj σ H s)(g:DGet H a y o)(ry:RelV y u)(h:∀s',Inv X pj σ H s'->Q (.bool o.isSome) s'):
  wpAny (model X.prog X.w) A (compareOp .In u (.ref a)) Q E s:=by
 rcases g with⟨kvs,k,e,ey,l⟩|⟨kvs,k,b,e,ey,eb,l⟩
 ·subst ey;obtain⟨z,hd,vs,rel,dd⟩:=a8j I.hok e;refine wpAny_in_of (b5d ry) hd dd.mapOf ?_;rw[<-(rel.val k).isSome_eq,<-l];exact h _ (I.tok _)
 ·subst ey
  cases(show u=Value.ref b from ry)
  obtain⟨z,hd,xs,rel,dd⟩:=b2f I.hok e;refine wpAny_in_heap (X6 hu) (a9x I.hok eb) hd dd ?_;have q:=(rel.val k).isSome_eq;rw[Ut]at q;rw[<-q,<-l];exact h _ (I.tok _)
theorem d_notIn{Q:Value->Shared->Prop}(hu:A.units+1<cLine)(I:Inv X pj σ H s)(g:DGet H a y o)(ry:RelV y u)(h:∀s',Inv X pj σ H s'->Q (.bool (!o.isSome)) s'):
  wpAny (model X.prog X.w) A (compareOp .NotIn u (.ref a)) Q E s:=by
 rcases g with⟨kvs,k,e,ey,l⟩|⟨kvs,k,b,e,ey,eb,l⟩
 ·subst ey;obtain⟨z,hd,vs,rel,dd⟩:=a8j I.hok e;refine wpAny_notIn_of (b5d ry) hd dd.mapOf ?_;rw[<-(rel.val k).isSome_eq,<-l];exact h _ (I.tok _)
 ·subst ey
  cases(show u=Value.ref b from ry)
  obtain⟨z,hd,xs,rel,dd⟩:=b2f I.hok e;refine wpAny_notIn_heap (X6 hu) (a9x I.hok eb) hd dd ?_;have q:=(rel.val k).isSome_eq;rw[Ut]at q;rw[<-q,<-l];exact h _ (I.tok _)
theorem b5e{h':Heap}{t':Nat}{ob:HO}(I:Inv X pj σ H s)(mu:Mut (H a))(hs:Heap.SameBut a s.heap h')(he:∃q,h'.get? a=some q)(new:a1v X.prog X.w (upd H a ob) h' a ob):
  Inv X pj σ (upd H a ob) { s with heap:=h',toks:=t'}:=
 I.write (x:=a) (e:=a) mu (.inl rfl) (λb q hb z=>(hs.2 b hb).trans z) he new
theorem c8v{P:Program}{w:World}{H':Hp}{h':Heap}{kvs:List (Key×V)}{vs:List (Key×Value)}(z:kvs.length<=sizeLine)(hd:(a==sysModules)=false)(rel:KV kvs vs)(dd:h'.DictOf (a1r P w) a vs):
  a1v P w H' h' a (.dK kvs):=⟨z,hd,vs,rel,dd⟩
theorem c8w{H':Hp}{Q:Unit->Shared->Prop}(hu:A.units+1<cLine)(I:Inv X pj σ H s)(g:DPut H a y v H')(ry:RelV y u)(rv:RelV v r)(h:∀s',Inv X pj σ H' s'->Q () s'):
  wpAny (model X.prog X.w) A (setItem (.ref a) u r) Q E s:=by
 rcases g with⟨kvs,k,e,ey,l,eH⟩|⟨kvs,k,b,e,ey,eb,l,eH⟩
 ·subst ey eH;obtain⟨z,hd,vs,rel,dd⟩:=dk_of I.hok e;have hz:vs.length<=sizeLine:=by rw[<-rel.length];exact z
  have hl:(putK kvs k v).length<=sizeLine:=by have:=b0u kvs k v;omega
  refine wpAny_setItem_pairs (hsz:=hz) (b5d ry) dd λh' dd' hs=>h _ ?_
  have he:∃q,h'.get? a=some q:=let⟨q,_,_,hq,_⟩:=dd';⟨q,hq⟩
  exact b5e I (by rw[e];exact True.intro) hs he (c8v hl hd (rel.put k rv) dd')
 ·subst ey eH
  cases(show u=Value.ref b from ry)
  obtain⟨z,hd,xs,rel,dd⟩:=dt_of I.hok e;have hz:xs.length<=sizeLine:=by rw[<-Y0 rel];exact z
  have hl:(putK kvs k v).length<=sizeLine:=by have:=b0u kvs k v;omega
  refine Ra (hsz:=hz) (X6 hu) (a9x I.hok eb) dd λh' dd' hs=>h _ ?_
  obtain⟨q,es,ep,hq,h2,h3,h4,_,h5⟩:=dd';refine b5e I (by rw[e];exact True.intro) hs ⟨q,hq⟩ ⟨hl,hd,_,(rel.put k eb rv).keeps λc ys ec=>?_,q,es,ep,hq,h2,h3,h4,h5⟩;rw[a0d (a0z ec e (λz=>nomatch z))];exact ec
end
section
variable{X:Cx}{pj:List (Addr×Obj)}{σ:St}{H:Hp}{s:Shared}{a:Addr}{kvs:List (Key×V)}{k:Key}{u:Value}{A:Around}{E:Value->Shared->Prop}
theorem d_len{Q:Value->Shared->Prop}(I:Inv X pj σ H s)(e:Rd H a (.dK kvs))(h:∀t s',Inv X pj σ H s'->Q (.int kvs.length t) s'):wpAny (model X.prog X.w) A (call (.builtin "len") [.ref a]) Q E s:=by
 obtain⟨z,hd,vs,rel,dd⟩:=a8j I.hok e;refine call_len_dict hd dd (by rw[<-rel.length];rw[Yw]at z;omega) ?_;rw[<-rel.length];exact h _ _ (I.tok _)
end
def NoSl(i:Expr):Prop:=∀ov iv,subscripted i false ov iv=operate [ov,iv] (getItem ov iv)
theorem c5w{prog:Program}{w:World}{A:Around}{E:Value->Shared->Prop}{s:Shared}{env:Env}{value slice:Expr}{pos:Pos}{T id:String}{Q:Value->Shared->Prop}
  (hl:typeLookup (.type T) "__getitem__"=pure (some (.builtin id)))(hs:NoSl slice)
  (h:wpAny (model prog w) A (eval value env) (λo s₁=>wpAny (model prog w) A (eval slice env) (λi s₂=>s₂.TypeIs o T/\wpAny (model prog w) A (getItem o i) Q E s₂) E s₁) E s):
  wpAny (model prog w) A (eval (.Subscript value slice pos) env) Q E s:=by
 refine Rk (W4 h (λo s₁ h₁=>W4 h₁ (λi s₂ h₂=>?_) λ_ _ x=>x) λ_ _ x=>x);obtain⟨hT,h₂⟩:=h₂;unfold subscriptTail;refine Zb ?_;rw[getitemInPython_of_ne hT.not_modules];refine Zb (Ym hT hl ?_);have fin:wpAny (model prog w) A (subscripted slice false o i) (λr s₃=>wpAny (model prog w) A (letTemporaryGo value o r>>=λ_=>pure r) Q E s₃) E s₂:=by
  rw[hs o i];exact wpAny_operating (W4 h₂ (λr s₃ h₃=>Zb (wpAny_letTemporaryGo (Zf h₃))) λ_ _ x=>x)
 first
  |exact Zf (Zb fin)
  |exact Zb (Zf (Zb fin))
  |exact Zb fin
theorem c5b{X:Cx}{pj:List (Addr×Obj)}{σ:St}{H:Hp}{s:Shared}{a:Addr}{y:V}{o:Option V}(I:Inv X pj σ H s)(g:DGet H a y o):s.TypeIs (.ref a) "dict":=by
 rcases g with⟨kvs,k,e,_,_⟩|⟨kvs,k,b,e,_,_,_⟩
 ·obtain⟨_,_,vs,_,dd⟩:=a8j I.hok e;exact dd.typeIs
 ·obtain⟨_,_,xs,_,dd⟩:=b2f I.hok e;exact dd.typeIs
def tDGet(td ty:TE):TE:=λσ H Q=>td σ H λx H1=>ty σ H1 λy H2=>∃a v,x=.ref a/\DGet H2 a y (some v)/\Q v H2
def sDPut(td ty tv:TE):TS:=λD σ H=>tv σ H λv H1=>td σ H1 λx H2=>ty σ H2 λy H3=>∃a H4,x=.ref a/\DPut H3 a y v H4/\D.nx σ H4
section
variable{X:Cx}{o i e value:Expr}{pos pos' tpos:Pos}{td ty tv:TE}
theorem b1e(hu:X.A.units+1<cLine)(ho:PE X o td)(hi:PE X i ty)(hs:NoSl i):PE X (.Subscript o i pos) (tDGet td ty):=by
 intro pj s σ H Q I h;refine c5w S5.lookup hs (thn (ho pj s σ H _ I h) λu s1 ⟨x,H1,I1,rx,q1⟩=>thn (hi pj s1 σ H1 _ I1 q1) λiv s2 z9=>?_);obtain⟨y,H2,I2,ry,a,v,ex,g,q2⟩:=z9;subst ex;obtain rfl:u=Value.ref a:=rx;exact⟨c5b I2 g,c8u hu I2 g ry λw' s3 I3 rw'=>⟨v,H2,I3,rw',q2⟩⟩
theorem a7u(hu:X.A.units+1<cLine)(ho:PE X o td)(hi:PE X i ty)(hv:PE X value tv)(hs:swapsWith value (some (.Subscript o i pos')) pos.line X.env=pure false):
  PS X (.Assign [.Subscript o i pos'] value pos) (sDPut td ty tv):=by
 intro pj s σ H D I h;refine wpAny_Assign_Subscript (thn (hv pj s σ H _ I h) λr s1 ⟨v,H1,I1,rv,q1⟩=>thn (ho pj s1 σ H1 _ I1 q1) λu s2 ⟨x,H2,I2,rx,q2⟩=>thn (hi pj s2 σ H2 _ I2 q2) λiv s3 ⟨y,H3,I3,ry,a,H4,ex,g,q3⟩=>?_) hs;subst ex;obtain rfl:u=Value.ref a:=rx;exact c8w hu I3 g ry rv λs4 I4=>⟨σ,H4,I4,q3⟩
end
theorem d2b{P:Program}{w:World}{H:Hp}(h:Heap)(hb:sysModules<h.objs.size):a1v P w H (h.push { cls:=.type "dict",data:=.dict #[]}) h.objs.size (.dK []):=
 ⟨Z4 _,Y7.mpr (Ne.symm (Z2 hb)),[],.nil,Heap.DictOf.new h⟩
theorem d2c{P:Program}{w:World}{H:Hp}(h:Heap)(hb:sysModules<h.objs.size):a1v P w H (h.push { cls:=.type "dict",data:=.dict #[]}) h.objs.size (.dT []):=
 ⟨Z4 _,Y7.mpr (Ne.symm (Z2 hb)),[],.nil,_,#[],0,Zu _ rfl,⟨rfl,rfl,rfl⟩,rfl,rfl,List.nodup_nil⟩
def tDNewK:TE:=λ_ H Q=>∀p,H p=none->Q (.ref p) (upd H p (.dK []))
def tDNewT:TE:=λ_ H Q=>∀p,H p=none->Q (.ref p) (upd H p (.dT []))
section
variable{X:Cx}{pos:Pos}
theorem a6y:PE X (.Dict [] [] pos) tDNewK:=λpj s σ H Q I h=>
 Uz ⟨.ref s.heap.objs.size,_,I.laid (a:=s.heap.objs.size) (o:=.dK []) (t':=s.toks) (λ_ _ q=>Zh _ q) (Zm _) (d2b s.heap I.big),rfl,h _ (I.hok.fresh (Zm _))⟩
theorem c2i:PE X (.Dict [] [] pos) tDNewT:=λpj s σ H Q I h=>
 Uz ⟨.ref s.heap.objs.size,_,I.laid (a:=s.heap.objs.size) (o:=.dT []) (t':=s.toks) (λ_ _ q=>Zh _ q) (Zm _) (d2c s.heap I.big),rfl,h _ (I.hok.fresh (Zm _))⟩
end
structure M1(X:Cx)(o:Expr)(m:Str)(apos:Pos)(e:Expr)(cpos:Pos):Prop where
 base:attributeBase o m X.env (eval o X.env)=eval o X.env
 few:((backTo cpos (starEach [e] X.env)).all (λx=>!x.1)&&(backToKw cpos (keywordEach [] X.env)).all (λx=>x.1.isSome)
  &&decide (([e]:List Expr).length+([]:List Keyword).length+(if([]:List Keyword).isEmpty then 0 else 1)<30))=true
 line:(apos.endLine==cpos.line)=true
 trees:backTo cpos (starEach [e] X.env)=[(false,eval e X.env)]
structure M2(X:Cx)(o:Expr)(m:Str)(apos:Pos)(e f:Expr)(cpos:Pos):Prop where
 base:attributeBase o m X.env (eval o X.env)=eval o X.env
 few:((backTo cpos (starEach [e,f] X.env)).all (λx=>!x.1)&&(backToKw cpos (keywordEach [] X.env)).all (λx=>x.1.isSome)
  &&decide (([e,f]:List Expr).length+([]:List Keyword).length+(if([]:List Keyword).isEmpty then 0 else 1)<30))=true
 line:(apos.endLine==cpos.line)=true
 trees:backTo cpos (starEach [e,f] X.env)=[(false,eval e X.env),(false,eval f X.env)]
def IsD(H:Hp)(a:Addr):Prop:=(∃kvs,Rd H a (.dK kvs))\/∃kvs,Rd H a (.dT kvs)
theorem isD_at{X:Cx}{pj:List (Addr×Obj)}{σ:St}{H:Hp}{s:Shared}{a:Addr}(I:Inv X pj σ H s)(d:IsD H a):
  s.TypeIs (.ref a) "dict"/\(∀b,Value.ref a=.ref b->∃ob,s.heap.get? b=some ob/\ob.dict=none)/\(a==sysModules)=false:=by
 rcases d with⟨kvs,e⟩|⟨kvs,e⟩
 ·obtain⟨_,hd,vs,_,dd⟩:=a8j I.hok e;refine⟨dd.typeIs,λb q=>?_,hd⟩;cases q;obtain⟨ob,_,_,h1,h2,_⟩:=dd;exact⟨ob,h1,h2.2.1⟩
 ·obtain⟨_,hd,xs,_,dd⟩:=b2f I.hok e;refine⟨dd.typeIs,λb q=>?_,hd⟩;cases q;obtain⟨ob,_,_,h1,h2,_⟩:=dd;exact⟨ob,h1,h2.2.1⟩
section
variable{X:Cx}{pj:List (Addr×Obj)}{σ:St}{H:Hp}{s:Shared}{a:Addr}{y d:V}{u r:Value}{o:Option V}{A:Around}{E:Value->Shared->Prop}
theorem d_get2{Q:Value->Shared->Prop}(hu:A.units+1<cLine)(I:Inv X pj σ H s)(g:DGet H a y o)(ry:RelV y u)(rd:RelV d r)(h:∀w' s',Inv X pj σ H s'->RelV (o.getD d) w'->Q w' s'):
  wpAny (model X.prog X.w) A (call (.builtin "dict.get") [.ref a,u,r]) Q E s:=by
 rcases g with⟨kvs,k,e,ey,l⟩|⟨kvs,k,b,e,ey,eb,l⟩
 ·subst ey;obtain⟨z,hd,vs,rel,dd⟩:=a8j I.hok e;refine T5 Tc dd.typeIs F.entry_dict_get (F.args_dict_get_3 _ _ _) (meets_dict_get_default (a1r X.prog X.w) a (b5d ry) hd r) ⟨_,dd.mapOf,h _ _ (I.tok _) ?_⟩;rw[l];exact(rel.val k).getD rd
 ·subst ey
  cases(show u=Value.ref b from ry)
  obtain⟨z,hd,xs,rel,dd⟩:=b2f I.hok e;refine T5 Tc dd.typeIs F.entry_dict_get (F.args_dict_get_3 _ _ _) (meetsH_dict_get_default (tupleKind (a1r X.prog X.w)) a b hd r) ⟨X6 hu,k,xs,a9x I.hok eb,dd,h _ _ (I.tok _) ?_⟩;rw[l];exact(rel.val k).getD rd
end
def c8x(td ty tx:TE):TE:=λσ H Q=>td σ H λx H1=>∃a,x=.ref a/\IsD H1 a/\ty σ H1 λy H2=>tx σ H2 λz H3=>∃o,DGet H3 a y o/\Q (o.getD z) H3
section
variable{X:Cx}{o e f:Expr}{apos cpos:Pos}{td ty tx:TE}
theorem c2j(hu:X.A.units+1<cLine)(ho:PE X o td)(he:PE X e ty)(hf:PE X f tx)(m:M2 X o "get" apos e f cpos):PE X (.Call (.Attribute o "get" apos) [e,f] [] cpos) (c8x td ty tx):=by
 intro pj s σ H Q I h;refine wpAny_Call_method m.base m.few m.line F.plainAttrs_dict Tc F.type_dict_get (thn (ho pj s σ H _ I h) λu s1 z9=>?_);obtain⟨x,H1,I1,rx,a,ex,d,q1⟩:=z9;subst ex;obtain rfl:u=Value.ref a:=rx;obtain⟨t1,t2,_⟩:=isD_at I1 d;refine⟨t1,t2,?_⟩;rw[m.trees]
 refine V3 rfl (Sv (Vr (thn (he pj s1 σ H1 _ I1 q1) λiv s2 ⟨y,H2,I2,ry,q2⟩=>
  Vr (thn (hf pj s2 σ H2 _ I2 q2) λfv s3 ⟨z,H3,I3,rz,ov,g,q3⟩=>Vw ?_))))
 exact d_get2 hu I3 g ry rz λw' s4 I4 rw'=>⟨_,H3,I4,rw',q3⟩
end
section
variable{X:Cx}{pj:List (Addr×Obj)}{σ:St}{H:Hp}{s:Shared}{a:Addr}{kvs:List (Key×V)}{A:Around}{E:Value->Shared->Prop}
theorem d2d{Q:Value->Shared->Prop}(I:Inv X pj σ H s)(e:Rd H a (.dK kvs))(h:∀p s',H p=none->Inv X pj σ (upd H p (.dK kvs)) s'->Q (.ref p) s'):wpAny (model X.prog X.w) A (call (.type "dict") [.ref a]) Q E s:=by
 obtain⟨z,hd,vs,rel,dd⟩:=a8j I.hok e;refine kt_call_dict hd dd (by rw[<-rel.length];exact z) λh' dd' hs=>?_
 refine h _ _ (I.hok.fresh (Zm _)) (I.laid (a:=s.heap.objs.size) (o:=.dK kvs) (t':=s.toks) (λb q hq=>?_) (Zm _) (c8v z (Y7.mpr (Ne.symm (Z2 I.big))) rel dd'));exact(hs.2 b (Z2 (Zq hq))).trans (Zh _ hq)
end
end L2
namespace Att
open PySem PySem.W PySem.Calls PyProof.Rows
theorem b7m{P:Params}{h:Heap}:∀(ns:List Int)(vs:List Value),WellAll P h vs (ns.map WData.int)->IntsAre vs ns:=by
 intro ns
 induction ns with
 |nil=>
  intro vs w;rw[Uw]at w;cases w;exact .nil
 |cons n ns ih=>
  intro vs w;rw[Zt]at w;cases w with
  |cons a b=>
   cases a;exact .cons _ _ (ih _ b)
theorem c8y{l:OpenLaw}{n:Nat}(hn:l.most=some n){P:Params}{h:Heap}{args:List WData}{vals:List Value}
  (hpre:l.row.toRowW.claim.pre args=true)(hwl:WellAll P h vals args):
  ∃a vs ns,vals=[Value.ref a]/\args=[WData.list (ns.map WData.int)]/\h.get? a=some { cls:=.type "list",data:=.seq vs.toArray}/\IntsAre vs ns/\ns.length<=n:=by
 have hsh:WShape.hasAll [] args [.list .int]=true:=(pre_splitW hpre).1;have hc:l.pre.holds [] { args:=args}=true:=(pre_splitW hpre).2;obtain⟨d,r,rfl,h1,h2⟩:=hasAllW_cons hsh;obtain rfl:=hasAllW_nil h2;obtain⟨xs,rfl,h3⟩:=hasW_list h1;obtain⟨ns,rfl⟩:=items_int h3;have hlen:ns.length<=n:=by
  unfold OpenLaw.pre at hc;have h4:(WTm.not (.lt (.lit (.int (n:Int))) (.len (.arg 0)))).holds [] { args:=[.list (ns.map .int)]}=true:=by
   have h4:=(holds_andW hc).1;rw[hn]at h4;exact h4
  have h5:=condW_of h4 (w_not (w_lt w_lit (w_len_list (w_arg rfl))));rw[length_map]at h5;refine Nat.le_of_not_lt λq=>?_
  have q':(n:Int)<((ns.length:Nat):Int):=by omega
  first
   | (rw[Zw q']at h5;exact absurd h5 qd)
   | (simp at h5;omega)
 cases hwl with
 |cons w1 w2=>
  cases w2;cases w1 with
  |list ho hall=>exact⟨_,_,ns,rfl,rfl,ho,b7m ns _ hall,hlen⟩
theorem c8z(l:OpenLaw)(args:List WData):l.row.toRowW.claim.post args (.bool true) args=true:=
 postW_of (r:=l.row.toRowW) (X:=(true==true))
  (show WShape.has [] (.bool true) .bool=true by first|rfl|decide|simp[WShape.has,WShape.arms,WShape.armsAll])
  (show(WTm.eq .res (.lit (.bool true))).value [] { args:=args,res:=some (.bool true),after:=args}=some (.bool (true==true))from w_eq_bool (w_res rfl) w_lit) rfl
theorem attach_call{l:OpenLaw}{n:Nat}{q:Program}{loose:List Str}{XP:(Str->Option Value)->Heap->Prop}{YP:World->Heap->Prop}{d:DefRec}
  (hn:l.most=some n)(hdf:d.params.defaults=[])
  (call:∀(w:World)(s₀ s₁:Shared)(mg mb:Str->Option Value)(fa:Addr)(o:Obj)(pm cd doc:Value)(a:Addr)(vs:List Value)(ns:List Int),
   Ground q loose [] XP w s₀ mg mb s₁.heap->YP w s₁.heap->
   s₁.heap.get? fa=some o->o.data=.func (docDef d.name d.params d.body d.scope pm cd doc)->s₁.heap.CodeRec cd d.name->mg d.name=some (.ref fa)->
   s₁.heap.get? a=some { cls:=.type "list",data:=.seq vs.toArray}->IntsAre vs ns->ns.length<=n->s₁.gens= #[]->
   codeAny (model l.prog w) callerA (.call (.ref fa) ⟨[.ref a],[]⟩) (λr s'=>r=.ok (.ret (.bool true))/\OldK s₁.heap s'.heap/\s'.os=s₁.os/\AllBare s'.gens) s₁):
  WalkO q loose XP YP l.row.toRowW d [] (λf vs=>PySem.call f vs):=by
 intro w s₀ s₁ mg mb G Y fa o pm cd doc dV kV ho hd hcd hD hmg hg args vals as hpre hlay hrd hwl hlo;obtain rfl:dV=.none:=Dflts.none hD hdf;obtain rfl:kV=.none:=Dflts.noKw hD;obtain⟨a,vs,ns,rfl,rfl,hobj,hints,hlen⟩:=c8y hn hpre hwl;refine enter_call (Vh (call w s₀ s₁ mg mb fa o pm cd doc a vs ns G Y ho (fd_plain hd) hcd hmg hobj hints hlen hg) λr s' hq=>?_);obtain⟨rfl,h2,h3,h4⟩:=hq;exact⟨.inl ⟨.bool true,.bool true,[],rfl,λ_=>rfl,.bool true,c8z l _,λ_=>⟨List.Pairwise.nil,λ_ hm=>(nomatch hm)⟩⟩,h2,h3,h4⟩
end Att
namespace L2
open PySem PySem.Spec PyProof.Rows
theorem c0n:∀{vs:List Value}{ns:List Int},IntsAre vs ns->Vals (ns.map V.int) vs
 |_,_,.nil=>.nil
 |_,_,.cons n t h=>.cons ⟨t,rfl⟩ (c0n h)
def Only(H:Hp):Prop:=∀b,H b=none\/∃o xs,H b=some (.frz o (.lst xs))
theorem d2e{P:Program}{w:World}{K:FG}{mg mb:Str->Option Value}{CX:CXT}{k:Nat}{fa a:Addr}{fd:FuncData}{x:Str}{sp:Sp}{s₁:Shared}{vs:List Value}{ns:List Int}
  (KX:K.In s₁.heap)(hns:s₁.heap.Ns mainGlobals mg)(hb:s₁.heap.Ns builtinsNs mb)(hbb:∀x:Str,x≠"__name__"->mb x=bootBuiltins x)(hlim:s₁.heap.NoLimit)(hg:s₁.gens= #[])
  (ha:s₁.heap.get? a=some { cls:=.type "list",data:=.seq vs.toArray})(hi:IntsAre vs ns)(hl:ns.length<=sizeLine)(hr:Room k callerA)
  (F:∀base:Heap,K.In base->base.Ns mainGlobals mg->FnOk P w K mg base CX k fa fd [x] sp)(hbind:∀(s:Shared)(u:Value),BindsTo s fd ⟨[u],[]⟩ [(x,u)])
  (hsp:∀H:Hp,Only H->SqL K H a (ns.map V.int)->sp [.ref a] H (λv _=>v=.bl true) λ_ _ _=>False)
  (hCX:∀H e s',CX [] H s₁ (λ_ _ _=>False) e s'->False):
  codeAny (model P w) callerA (.call (.ref fa) ⟨[.ref a],[]⟩) (λr s'=>r=.ok (.ret (.bool true))/\OldK s₁.heap s'.heap/\s'.os=s₁.os/\AllBare s'.gens) s₁:=by
 have rv:=c0n hi;have lenV:=hi.length;have core:∀H:Hp,Only H->SqL K H a (ns.map V.int)->HOk P w H s₁.heap->(∀b,H b≠none->b=a)->(H a≠none->K.lookup a=none)->
   codeAny (model P w) callerA (.call (.ref fa) ⟨[.ref a],[]⟩) (λr s'=>r=.ok (.ret (.bool true))/\OldK s₁.heap s'.heap/\s'.os=s₁.os/\AllBare s'.gens) s₁:=by
  intro H hO hS hok hA hK;have base_of:∀{b:Addr}{o:Obj},s₁.heap.get? b=some o->H b=none->(hidT s₁.heap H).get? b=some o:=λe n=>d1r e n
  have noA:∀{b:Addr}{o:Obj}{es:Array DictEntry}{ep:Nat},s₁.heap.get? b=some o->o.data=.dict es ep->H b=none:=λ{b o es ep} e d=>by
   cases q:H b with
   |none=>rfl
   |some u=>
    have e':b=a:=hA b (by rw[q];simp);subst e';rw[ha]at e;cases e;have d':Data.seq vs.toArray _=Data.dict es ep:=d;cases d'
  have nsK:∀{b:Addr}{m:Str->Option Value},s₁.heap.Ns b m->(hidT s₁.heap H).Ns b m:=λ{b m} ⟨o,es,ep,e,d,r⟩=>⟨o,es,ep,base_of e (noA e d),d,r⟩
  have hKb:K.In (hidT s₁.heap H):=λb o e=>base_of (KX b o e) (by
   cases q:H b with
   |none=>rfl
   |some u=>
    have e':b=a:=hA b (by rw[q];simp);subst e'
    rw[hK (by rw[q];simp)]at e;cases e)
  have hM:Mod K mg (hidT s₁.heap H):=⟨hKb,nsK hns,⟨mb,nsK hb,hbb⟩,let⟨mc,h1,h2⟩:=hlim;⟨mc,nsK h1,h2⟩⟩;have e0:Env0 P w K mg (hidT s₁.heap H) callerA [] s₁ H:=⟨rfl,hM,λb o e=>of_hidT e,T8 (c8g _ _),trivial,λb hb=>absurd (show b∈([]:List Addr)from hb) qz,hok,.of_eq hg⟩;refine Vh ((F _ hKb (nsK hns)).run callerA [] s₁ H ⟨[.ref a],[]⟩ [.ref a] [.ref a] _ _ hr e0 (hbind s₁ (.ref a)) (.cons rfl .nil) (hsp H hO hS)) λr s' h=>?_
  cases r with
  |error e=>exact(hCX H e s' h).elim
  |ok fl=>
   cases fl with
   |next=>exact False.elim h
   |brk=>exact False.elim h
   |cont=>exact False.elim h
   |ret u=>
    obtain⟨v,H',os,bare,un,hok',r',q⟩:=h;have q':v=.bl true:=q;subst q';obtain rfl:u=Value.bool true:=r';refine⟨rfl,OldK.of_keep λb o e=>?_,os,bare⟩;cases q:H b with
    |none=>exact un.keep b o e q (by intro z;exact absurd (show b∈([]:List Addr)from z) qz) qz
    |some u=>
     rcases hO b with z|⟨ob,xs,z⟩
     ·rw[q]at z;cases z
     ·have z2:=un.frzs b ob _ z;obtain⟨e1,_⟩:=hok b _ z;obtain⟨e2,_⟩:=hok' b _ z2;rw[e]at e1;cases e1;exact e2
 cases hk:K.lookup a with
 |some o=>
  have e:=KX a o hk;rw[ha]at e;cases e;refine core (λ_=>none) (λ_=>.inl rfl) (.inr ⟨_,vs.toArray,_,hk,rfl,rfl,rfl,by rw[Zj,lenV];exact hl,by simpa using rv⟩) (λb u z=>by have z':(none:Option HO)=some u:=z;cases z') (λb z=>absurd rfl z) λz=>absurd rfl z
 |none=>
  refine core (λb=>if b=a then some (.frz { cls:=.type "list",data:=.seq vs.toArray} (.lst (ns.map V.int)))else none) (λb=>?_) (.inl (.inr ⟨{ cls:=.type "list",data:=.seq vs.toArray},if_pos rfl⟩)) (λb u z=>?_) (λb z=>?_) λ_=>hk
  ·by_cases hb:b=a
   ·exact .inr ⟨_,_,if_pos hb⟩
   ·exact .inl (if_neg hb)
  ·by_cases hb:b=a
   ·have z':=(if_pos hb).symm.trans z;cases z';subst hb;exact⟨ha,by rw[length_map];exact hl,vs,_,rv,ha⟩
   ·have z':=(if_neg hb).symm.trans z;cases z'
  ·by_cases hb:b=a
   ·exact hb
   ·exact absurd (if_neg hb) z
abbrev KOf{K:W.Frag}{h:Heap}(_:K.In h):W.Frag:=K
theorem walk_of{l:W.OpenLaw}{n k:Nat}{q:Program}{loose:List Str}{XP:(Str->Option Value)->Heap->Prop}{YP:World->Heap->Prop}{d:DefRec}{K:Params->W.Frag}{CX:World->CXT}{sp:World->Sp}{x:Str}
  (hn:l.most=some n)(hn2:n<=sizeLine)(hdf:d.params.defaults=[])(hr:Room k callerA)
  (hY:∀(w:World)(h:Heap),YP w h->(K w.params).In h)
  (F:∀(w:World)(mg:Str->Option Value)(fa:Addr)(h:Heap),(K w.params).In h->h.Ns mainGlobals mg->mg d.name=some (.ref fa)->
   ∃fd:FuncData,(∀(s:Shared)(u:Value),BindsTo s fd ⟨[u],[]⟩ [(x,u)])/\
    ∀base:Heap,(K w.params).In base->base.Ns mainGlobals mg->FnOk l.prog w (K w.params) mg base (CX w) k fa fd [x] (sp w))
  (hsp:∀(w:World)(H:Hp)(a:Addr)(ns:List Int),ns.length<=n->Only H->SqL (K w.params) H a (ns.map V.int)->sp w [.ref a] H (λv _=>v=.bl true) λ_ _ _=>False)
  (hCX:∀(w:World)(H:Hp)(s:Shared)(e:Value)(s':Shared),CX w [] H s (λ_ _ _=>False) e s'->False):
  W.WalkO q loose XP YP l.row.toRowW d [] (λf vs=>PySem.call f vs):=by
 refine Att.attach_call hn hdf λw s₀ s₁ mg mb fa o pm cd doc a vs ns G Y ho hd hcd hmg hobj hints hlen hg=>?_
 have KX:=hY w _ Y;obtain⟨fd,hb,hF⟩:=F w mg fa _ KX G.T.g hmg;exact d2e KX G.T.g G.T.b G.T.builtins G.T.nolimit hg hobj hints (Ye hlen hn2) hr hF hb (λH hO hS=>hsp w H a ns hlen hO hS) λH e s'=>hCX w H s₁ e s'
noncomputable def inClass(s:Stmt)(j:Nat):Stmt:=match s with
 | .ClassDef _ _ _ body _ _ _ _ _ _ _=>body.getD j (.Pass ⟨0,0,0,0⟩)
 |_=>.Pass ⟨0,0,0,0⟩
def b5f(s:Stmt):Arguments:=match s with
 | .FunctionDef _ a _ _ _ _ _ _ _ _=>a
 |_=>{ posonlyargs:=[],args:=[],vararg:=none,kwonlyargs:=[],kw_defaults:=[],kwarg:=none,defaults:=[]}
def b1f(s:Stmt):List Stmt:=match s with
 | .FunctionDef _ _ b _ _ _ _ _ _ _=>b
 |_=>[]
def a0i(s:Stmt):Scope:=match s with
 | .FunctionDef _ _ _ _ _ _ sc _ _ _=>sc
 |_=>{ kind:=.function,names:=[],isGenerator:=false,isCoroutine:=false}
abbrev CX0:CXT:=λ_ _ _ _ _ _=>False
abbrev E0:XK:=λ_ _ _=>False
theorem a0o{X:Cx}:a9u CX0 X E0:=λ_ _ _ _ _ _ _ h=>h.elim
structure Fun(K:W.Frag)(x qual:Str)(st:Stmt)(f:Addr)(fd:FuncData):Prop where
 ex:∃(oc:Value)(od:Option Addr)(kV doc pm:Value)(an:Option Addr)(cdv ct:Value)(osl:Array (Option Value)),
  fd=W.fnOf x qual (b5f st) (b1f st) (a0i st) .none kV doc pm an cdv ct/\K.lookup f=some ⟨oc,od,.func fd,osl⟩/\W.codeIn K cdv qual=true
 kp:W.keepIn K (.ref f)=true
section
variable{P:Program}{w:World}{K:W.Frag}{mg:Str->Option Value}{base:Heap}
theorem Fun.ok{x qual:Str}{st:Stmt}{f:Addr}{fd:FuncData}{N ps:List Str}{k:Nat}{sp:Sp}(F:Fun K x qual st f fd)(S:a0r N ps (a0i st))(len:∀vs H Q E,sp vs H Q E->vs.length=ps.length)
  (hbody:∀(cdv:Value)(A:Around)(outer:List Env)(s:Shared)(H:Hp)(vs:List V)(Q:VK)(E:XK),Room k (A.deeper (envOfC qual (a0i st) s.heap.objs.size f cdv))->sp vs H Q E->
   ∃t,PSs (cxOf CX0 P w K mg base N qual (a0i st) f cdv A outer s H E).nox (b1f st) t/\t { nx:=λ_ H'=>Q .non H',rt:=Q} (start N vs) H):FnOk P w K mg base CX0 (k+1) f fd ps sp:=by
 obtain⟨oc,od,kV,doc,pm,an,cdv,ct,osl,rfl,lk,hcd⟩:=F.ex;refine fn_of lk hcd S len λA outer s H vs Q E hr hsp=>?_
 obtain⟨t,h,q⟩:=hbody cdv A outer s H vs Q E hr hsp;exact⟨t,h.nox,q⟩
theorem fun_mk{x qual:Str}{st:Stmt}{f:Addr}{oc:Value}{od an:Option Addr}{osl:Array (Option Value)}{kV doc pm cdv ct:Value}(l:K.lookup f=some ⟨oc,od,.func (W.fnOf x qual (b5f st) (b1f st) (a0i st) .none kV doc pm an cdv ct),osl⟩)
  (c:W.codeIn K cdv qual=true)(k:W.keepIn K (.ref f)=true):Fun K x qual st f (W.fnOf x qual (b5f st) (b1f st) (a0i st) .none kV doc pm an cdv ct):=⟨⟨oc,od,kV,doc,pm,an,cdv,ct,osl,rfl,l,c⟩,k⟩
end
theorem a3v{A:Around}{k:Nat}(hr:Room k A):A.units+1<cLine:=Rm (Nat.add_le_add_left (by decide:1<=64) _) hr.units
theorem iteF{A B:Prop}(h:B):if false=true then A else B:=by
 rw[if_neg Zo];exact h
theorem iteT{A B:Prop}(h:A):if true=true then A else B:=by
 rw[if_pos rfl];exact h
def Same(H H':Hp):Prop:=∀b o,H b=some o->H' b=some o
theorem Same.refl(H:Hp):Same H H:=λ_ _ h=>h
theorem Same.trans{H H1 H2:Hp}(a:Same H H1)(b:Same H1 H2):Same H H2:=λc o h=>b c o (a c o h)
theorem Same.free{H H':Hp}(e:Same H H'){l:Addr}(h:H' l=Option.none):H l=Option.none:=by
 cases q:H l with
 |none=>rfl
 |some o=>
  rw[e l o q]at h;cases h
theorem Same.seq{K:FG}{H H':Hp}{a:Addr}{xs:List V}(e:Same H H')(h:SqL K H a xs):SqL K H' a xs:=by
 rcases h with(h|⟨o,h⟩)|h
 ·exact .inl (.inl (e _ _ h))
 ·exact .inl (.inr ⟨o,e _ _ h⟩)
 ·exact .inr h
section
variable{X:Cx}
theorem c9a:a2w X (.builtin "len") (λxs H Q=>∃a kvs,xs=[V.ref a]/\H a=some (.dK kvs)/\Q (.int kvs.length) H):=by
 intro pj s σ H xs us Q I r h;obtain⟨a,kvs,rfl,ha,q⟩:=h;obtain⟨u,rfl,ru⟩:=vals1 r;cases ru;exact d_len I (.inl ha) λt s' I'=>⟨.int kvs.length,H,I',⟨t,rfl⟩,q⟩
end
end L2
set_option maxHeartbeats 4000000
namespace My
open PySem PySem.W PySem.Calls PyProof.Rows
theorem b7n{tb:String->Option Builtin}{p:Program}{w:World}{n₀:Nat}{ann:Option Value}:∀{n:Nat}{s s':Shared}{t:Thread}{f:Flow}{c:Code}{q:Pos},segRun tb p w n₀ ann 0 n s t=some (f,s',c,q)->topRun tb p w n₀ ann n s t=some s'
 |0,_,_,_,_,_,_,h=>by cases h
 |n+1,s,s',t,f,c,q,h=>by
  unfold segRun at h;unfold topRun;cases he:endAt 0 t with
  |some x=>
   rw[he]at h;cases h;have:through t=true:=by
    unfold endAt at he;unfold through;obtain⟨cur,code,pos,st⟩:=t;cases st with
    |nil=>split at he<;>simp_all
    |cons a b=>simp at he
   rw[this]
  |none=>
   have:through t=false:=by
    unfold endAt at he;unfold through;obtain⟨cur,code,pos,st⟩:=t;cases st with
    |nil=>
     dsimp only at he ⊢
     split at he
     ·cases he
     ·rename_i h1;simp only[List.isEmpty_nil,Vy]
      split
      ·exact(h1 _ rfl rfl).elim
      ·rfl
    |cons a b=>rfl
   rw[he]at h;rw[this];cases hk:stepOk n₀ ann t with
   |false=>rw[hk]at h;cases h
   |true=>
    rw[hk]at h;cases hs:step (denote tb) p w s t with
    |halt o x=>rw[hs]at h;cases h
    |go s₂ t₂=>rw[hs]at h;exact b7n h
noncomputable def bootT(P:Params):BT:=.node (boot_o_0 P) (.node (boot_o_1 P) (.node (boot_o_3 P) (.node (boot_o_7 P) .nil .nil) .nil) (.node (boot_o_5 P) (.node (boot_o_9 P) .nil .nil) .nil)) (.node (boot_o_2 P) (.node (boot_o_4 P) (.node (boot_o_8 P) .nil .nil) .nil) (.node (boot_o_6 P) (.node (boot_o_10 P) .nil .nil) .nil))
theorem boot_abs(P:Params):absHeap (bootT P) 11 {}=boot_heap P:=by kernel_rfl
noncomputable def bootS(w:World)(os:OsState):SharedT:=⟨bootT w.params,11,{},#[],boot_drawn,boot_toks,os⟩
noncomputable def looks{α:Type}(p q:Program)(loose:List Str)(Xt:Shared->Bool)(Yf:Shared->α)(g0:Bool)(h₀:Heap)(s:Shared):=
 ((staticsOk (importedModules p.main.body) h₀ s.heap&&namesBound p s.heap&&gensDone s&&laidKept h₀ s.heap),openSeen q loose (importedModules p.main.body) Xt g0 s,Yf s)
theorem left_of{p q:Program}{loose:List Str}{Xt:Shared->Bool}{α:Type}{Yf:Shared->α}{Ya:World->α}{N M:Nat}{g0:Bool}
  (e:opening p=plainProg p.main.scope.names)(hN:Nat.ble 600 N=true)(f:∀s,fenceModules? p s=some s)
  (size:∀w:World,((boot_heap w.params).isNs mainGlobals,(boot_heap w.params).nsMap mainGlobals "__annotations__")=(true,some (.ref 6)))
  (le:Nat.ble M N=true)
  (run:∀w:World,(λos=>(segRunT treeTable p w 11 (some (.ref 6)) 0 M (bootS w os) (topStub p)).map λr=>looks p q loose Xt Yf g0 (boot_heap w.params) r.2.1.abs)=λ_=>some (true,openGood q loose,Ya w)):
  LeftO p q loose Xt Yf Ya N g0:=λw=>by
 obtain⟨⟨h,gs,d,k,os⟩,e1,e2⟩:=Xg.mp (boot_open e hN f w);obtain⟨rfl,rfl,rfl,rfl⟩:h=boot_heap w.params/\gs= #[]/\d=boot_drawn/\k=boot_toks:=by simpa using e2
 obtain⟨z1,z3⟩:_/\_:=by simpa only[Prod.mk.injEq]using size w
 obtain⟨⟨fl,s,c,ps⟩,r1,r2⟩:=Xg.mp (congrFun (run w) os);obtain⟨l1,l2,l3⟩:_/\_/\_:=by simpa only[looks,Prod.mk.injEq]using r2
 have r:=topRun_mono (N-M) _ _ _ _ (b7n (segRun_of r1));rw[show M+(N-M)=N by have:=Nat.le_of_ble_eq_true le;omega]at r;have t:topFrom treeTable p w N ⟨boot_heap w.params,#[],boot_drawn,boot_toks,os⟩=some s.abs:=by
  unfold topFrom
  dsimp only
  rw[z1]
  show(topRun treeTable p w 11 _ N ⟨boot_heap w.params,#[],boot_drawn,boot_toks,os⟩ (topStub p)).bind _=_
  rw[z3];have r':topRun treeTable p w 11 (some (.ref 6)) N ⟨boot_heap w.params,#[],boot_drawn,boot_toks,os⟩ (topStub p)=some s.abs:=by
   rw[<-boot_abs];exact r
  rw[r']
  show(match staticsOk (importedModules p.main.body) (boot_heap w.params) s.abs.heap&&namesBound p s.abs.heap&&gensDone s.abs&&laidKept (boot_heap w.params) s.abs.heap with|true=>some s.abs|false=>none)=some s.abs
  rw[l1]
 unfold openEnds;rw[e1]
 show((topFrom treeTable p w N ⟨boot_heap w.params,#[],boot_drawn,boot_toks,os⟩).map _)=_
 rw[t];exact Yv some (by dsimp only;rw[l2,l3])
theorem c9b(w:World):((boot_heap w.params).isNs mainGlobals,(boot_heap w.params).nsMap mainGlobals "__annotations__")=(true,some (.ref 6)):=by kernel_rfl
end My
lay_quick PySem.W.topStub PySem.W.openGood PySem.W.SharedT.abs PySem.W.xlAt PySem.W.recOk PySem.W.view My.looks
namespace L2
open PySem PySem.Spec PyProof.Rows
def clOf(env:Env):List (Str×NameKind)->List (Str×Addr)->List (Str×Addr)
 | [],acc=>acc
 | (n,k)::r,acc=>if k=.free then clOf env r ((n,(env.cells.lookup n).getD 0)::acc)else clOf env r acc
theorem b6g{env:Env}(f:(Str×NameKind)->List (Str×Addr)->Sem (ForInStep (List (Str×Addr))))
  (h1:∀n r c,env.cells.lookup n=some c->f (n,.free) r=pure (.yield ((n,c)::r)))(h2:∀n k r,k≠.free->f (n,k) r=pure (.yield r)):
  ∀(l:List (Str×NameKind))(acc:List (Str×Addr)),(∀y∈l,y.2=.free->∃c,env.cells.lookup y.1=some c)->forIn l acc f=pure (clOf env l acc)
 | [],acc,_=>by rw[List.forIn_nil];rfl
 | (n,k)::r,acc,h=>by
  have hr:∀y∈r,y.2=.free->∃c,env.cells.lookup y.1=some c:=λy hy=>h y (Zc _ hy)
  rw[List.forIn_cons]
  by_cases hk:k=.free
  ·subst hk;obtain⟨c,hc⟩:=h _ Ze rfl;have hc:env.cells.lookup n=some c:=hc;rw[h1 n acc c hc];have ih:=b6g f h1 h2 r ((n,c)::acc) hr
   show(forIn r ((n,c)::acc) f)=_
   rw[ih];unfold clOf;rw[if_pos rfl,hc];rw[<-clOf.eq_def];rfl
  ·rw[h2 n k acc hk];have ih:=b6g f h1 h2 r acc hr
   show(forIn r acc f)=_
   rw[ih]
   conv=>rhs;unfold clOf
   rw[if_neg hk]
theorem b2g{scope:Scope}{env:Env}(h:∀y∈scope.names,y.2=.free->∃c,env.cells.lookup y.1=some c):closureFor scope env=pure (clOf env scope.names []):=by
 unfold closureFor;have e:=b6g (env:=env) (λx r=>if x.2==NameKind.free then do let c <-cellOf env x.1;pure (ForInStep.yield ((x.1,c)::r))else pure (ForInStep.yield r))
  (λn r c hc=>by
   have e:cellOf env n=pure c:=by unfold cellOf;rw[hc]
   show(if(NameKind.free==NameKind.free)=true then _ else _)=_
   rw[if_pos qd,e]
   rfl)
  (λn k r hk=>by
   show(if(k==NameKind.free)=true then _ else _)=_
   rw[if_neg (by intro z;exact hk (eq_of_beq z))]) scope.names [] h
 exact(Yv (λm=>m>>=λcs=>(pure cs:Sem (List (Str×Addr)))) e)
theorem b2h{env:Env}:∀(l:List (Str×NameKind))(acc:List (Str×Addr))(y:Str)(c:Addr),(∀y∈l,y.2=.free->∃c,env.cells.lookup y.1=some c)->(∀y c,acc.lookup y=some c->env.cells.lookup y=some c)->
  (clOf env l acc).lookup y=some c->env.cells.lookup y=some c
 | [],acc,y,c,_,ha,e=>ha y c e
 | (n,k)::r,acc,y,c,h,ha,e=>by
  have hr:∀y∈r,y.2=.free->∃c,env.cells.lookup y.1=some c:=λy hy=>h y (Zc _ hy)
  unfold clOf at e
  by_cases hk:k=.free
  ·rw[if_pos hk]at e;refine b2h r _ y c hr (λz d q=>?_) e;rw[Xs]at q;cases hz:z==n with
   |true=>
    rw[hz]at q;have q':(env.cells.lookup n).getD 0=d:=Zl q;obtain⟨c',hc'⟩:=h _ Ze hk;have hc':env.cells.lookup n=some c':=hc';rw[hc']at q';have q':c'=d:=q';rw[eq_of_beq hz,hc',q']
   |false=>
    rw[hz]at q;exact ha z d q
  ·rw[if_neg hk]at e;exact b2h r acc y c hr ha e
theorem b6h{env:Env}:∀(l:List (Str×NameKind))(acc:List (Str×Addr))(y:Str),(∃c,acc.lookup y=some c)->∃c,(clOf env l acc).lookup y=some c
 | [],_,_,h=>h
 | (n,k)::r,acc,y,h=>by
  unfold clOf
  by_cases hk:k=.free
  ·rw[if_pos hk];refine b6h r _ y ?_;rw[Xs];cases hz:y==n with
   |true=>exact⟨_,rfl⟩
   |false=>exact h
  ·rw[if_neg hk];exact b6h r acc y h
theorem a7v{env:Env}:∀(l:List (Str×NameKind))(acc:List (Str×Addr))(y:Str),(y,NameKind.free)∈l->∃c,(clOf env l acc).lookup y=some c
 | [],_,_,h=>by simp at h
 | (n,k)::r,acc,y,h=>by
  unfold clOf
  by_cases hk:k=.free
  ·rw[if_pos hk];rcases Zg.mp h with e|e
   ·refine b6h r _ y ?_;have e1:y=n:=Yv Prod.fst e;rw[Xs,e1]
    simp
   ·exact a7v r _ y e
  ·rw[if_neg hk];rcases Zg.mp h with e|e
   ·exact absurd (Yv Prod.snd e).symm hk
   ·exact a7v r acc y e
theorem a3n(scope:Scope)(env:Env)(y:Str):(relabel scope env).names.lookup y=(scope.names.lookup y).map λk=>if(k==NameKind.free&&env.scope.kind==.function&&env.kindOf y==some .cell)=true then .cell else k:=by
 show(scope.names.map _).lookup y=_
 induction scope.names with
 |nil=>rfl
 |cons p r ih=>
  obtain⟨n,k⟩:=p;rw[Zt,Xs (a:=y) (k:=n) (b:=k)];cases hz:y==n with
  |true=>
   have e:y=n:=eq_of_beq hz;subst e
   show List.lookup y ((if(k==NameKind.free&&env.scope.kind==.function&&env.kindOf y==some .cell)=true then(y,NameKind.cell)else(y,k))::_)=some (if _ then _ else _)
   by_cases hc:(k==NameKind.free&&env.scope.kind==.function&&env.kindOf y==some .cell)=true
   ·rw[if_pos hc,if_pos hc];simp
   ·rw[if_neg hc,if_neg hc];simp
  |false=>
   show List.lookup y ((if(k==NameKind.free&&env.scope.kind==.function&&env.kindOf n==some .cell)=true then(n,NameKind.cell)else(n,k))::_)=_
   by_cases hc:(k==NameKind.free&&env.scope.kind==.function&&env.kindOf n==some .cell)=true
   ·rw[if_pos hc,Xs,hz];exact ih
   ·rw[if_neg hc,Xs,hz];exact ih
def a2n(X:Cx)(scope:Scope)(x:Str)(N':List Str)(C:Addr)(s:Shared)(H:Hp)(fp:List Addr)(pn:List (Addr×Obj)):Cx where
 prog:=X.prog
 w:=X.w
 K:=X.K
 mg:=X.mg
 base:=X.base
 A:=X.A
 N:=x::N'
 s₀:=s
 H₀:=H
 env:=compEnvC scope (clOf X.env scope.names []) C X.env
 outer:=X.stack
 stack:=X.stack
 ex:=fp
 fn:=λ_=>false
 calm:=X.calm
 pn:=pn
 xe:=λ_ _=>False
section
variable{X:Cx}{pj:List (Addr×Obj)}{σ:St}{H:Hp}{s:Shared}
structure b3t(X:Cx)(scope:Scope)(x:Str)(N':List Str):Prop where
 loc:scope.names.lookup x=some .local
 nocell:∀y∈scope.names,y.2≠.cell
 kind:scope.kind=.function
 names:∀y∈scope.names,y.2=.local->scope.names.lookup y.1=some .local
 free:∀y∈scope.names,y.2=.free->X.env.kindOf y.1=some .cell\/X.env.kindOf y.1=some .free
 nin:x∉N'
 nd:N'.Nodup
 len:N'.length=X.N.length
 sub:∀(i:Nat)(y:Str),N'[i]? =some y->X.N[i]? =some y\/scope.names.lookup y=none
 only:∀y∈scope.names,y.2=.local->y.1=x\/y.1∉N'
theorem Inv.compIn{scope:Scope}{x:Str}{N':List Str}{fp:List Addr}{h1:Heap}{tk:Nat}{m:Str->Option Value}(S:b3t X scope x N')(I:Inv X pj σ H s)(hf:∀b∈fp,FpOk X pj H b)(hfl:∀b∈fp,b<s.heap.objs.size)
  (hn:h1.Ns s.heap.objs.size m)(hsb:∀b o,s.heap.get? b=some o->h1.get? b=some o):
  Inv (a2n X scope x N' s.heap.objs.size s H fp (X.pn++pj)) [] (none::σ) H { s with heap:=h1,toks:=tk}:=by
 have hcells:∀y∈scope.names,y.2=.free->∃c,X.env.cells.lookup y.1=some c:=λy hy hk=>I.ok.has y.1 (S.free y hy hk)
 have sub:∀y c,(clOf X.env scope.names []).lookup y=some c->X.env.cells.lookup y=some c:=λy c e=>b2h _ _ y c hcells (λz d q=>by simp at q) e
 have lk:∀(y:Str)(k:NameKind),(relabel scope X.env).names.lookup y=some k->k=.cell\/k=.free->scope.names.lookup y=some .free:=λy k e hk=>by
  rw[a3n]at e;cases q:scope.names.lookup y with
  |none=>rw[q]at e;cases e
  |some k0=>
   rw[q]at e;have e':(if(k0==NameKind.free&&X.env.scope.kind==.function&&X.env.kindOf y==some .cell)=true then NameKind.cell else k0)=k:=Zl e
   by_cases hc:(k0==NameKind.free&&X.env.scope.kind==.function&&X.env.kindOf y==some .cell)=true
   ·simp only[Xd]at hc;rw[eq_of_beq hc.1.1]
   ·rw[if_neg hc]at e';subst e';rcases hk with hk|hk
    ·exact absurd hk (S.nocell _ (Yh q))
    ·rw[hk]
 have lt:∀{b:Addr}{o:Obj},s.heap.get? b=some o->b≠s.heap.objs.size:=λe=>Z2 (Zq e)
 refine⟨⟨I.ok.mod,by show(relabel scope X.env).kind=_;exact S.kind,I.ok.glob,I.ok.blt,Zm _,λy z c e1 e2=>I.ok.inj y z c (sub y c e1) (sub z c e2),λy hy=>?_,λy c hz=>(by cases hz),I.ok.hd,I.ok.frames,.inl rfl,
  λb hb=>⟨Z2 (hfl b hb),λy c e=>(hf b hb).2.2.2.2.1 y c (sub y c e)⟩,I.bs,Ye I.ok.bsz I.sz,λb o e hb=>?_,λb hb hz=>?_,I.stack,I.stkFree⟩,
  rfl,I.bare,Un.kept hsb,⟨m,hn,λi y v h1 h2 h3=>?_⟩,λy c e=>?_,I.hok.fresh (Zm _),λy c e=>I.freeC y c (sub y c e),λp hp=>?_,I.hok.kept hsb,?_⟩
 ·have hy:(relabel scope X.env).names.lookup y=some .cell\/(relabel scope X.env).names.lookup y=some .free:=hy;have q:scope.names.lookup y=some .free:=hy.elim (λz=>lk y _ z (.inl rfl)) λz=>lk y _ z (.inr rfl)
  exact a7v _ _ y (Yh q)
 ·obtain⟨_,_,_,f3,_,_⟩:=hf b hb;rcases f3 with f3|f3
  ·exact I.ok.noex b o e f3
  ·exact absurd (Yc (Zq e) (Ye I.ok.bsz f3)) (Y3 _)
 ·have hz:b∈frs X.stack:=hz;obtain⟨_,f1,f2,_⟩:=hf b hb;rcases Zg.mp (I.stkSub b hz)with z|z
  ·exact f1 z
  ·exact f2 z
 ·cases i with
  |zero=>simp at h2
  |succ i=>
   have h1:N'[i]? =some y:=by simpa[a2n]using h1
   have h2:σ[i]? =some (some v):=by simpa using h2
   have hne:N'[i]? ≠some x:=λz=>S.nin (Zn z)
   have h3:Vis (relabel scope X.env) y:=h3;obtain⟨m',hn',hl'⟩:=I.loc;have q:scope.names.lookup y=some .free:=by
    rcases h3 with z|z|z
    ·exfalso
     rw[a3n]at z;cases q:scope.names.lookup y with
     |none=>rw[q]at z;cases z
     |some k0=>
      rw[q]at z;have e':(if(k0==NameKind.free&&X.env.scope.kind==.function&&X.env.kindOf y==some .cell)=true then NameKind.cell else k0)=.local:=Zl z
      by_cases hc:(k0==NameKind.free&&X.env.scope.kind==.function&&X.env.kindOf y==some .cell)=true
      ·rw[if_pos hc]at e';cases e'
      ·rw[if_neg hc]at e';subst e';rcases S.only _ (Yh q) rfl with w|w
       ·exact hne (by rw[h1];exact Yv some w)
       ·exact w (Zn h1)
    ·exact lk y _ z (.inl rfl)
    ·exact lk y _ z (.inr rfl)
   obtain⟨c,hc⟩:=a7v (env:=X.env) scope.names [] y (Yh q);have hk:X.env.kindOf y=some .cell\/X.env.kindOf y=some .free:=S.free _ (Yh q) rfl;have h1':X.N[i]? =some y:=(S.sub i y h1).resolve_right λz=>by rw[q]at z;cases z
   obtain⟨u,r,l⟩:=hl' i y v h1' h2 (.inr hk);refine⟨u,r,?_⟩;have kd:(compEnvC scope (clOf X.env scope.names []) s.heap.objs.size X.env).kindOf y=some .cell\/(compEnvC scope (clOf X.env scope.names []) s.heap.objs.size X.env).kindOf y=some .free:=by
    rcases h3 with z|z|z
    ·exfalso
     rw[a3n,q]at z;have e':(if(NameKind.free==NameKind.free&&X.env.scope.kind==.function&&X.env.kindOf y==some .cell)=true then NameKind.cell else NameKind.free)=.local:=Zl z
     by_cases hc:(NameKind.free==NameKind.free&&X.env.scope.kind==.function&&X.env.kindOf y==some .cell)=true
     ·rw[if_pos hc]at e';cases e'
     ·rw[if_neg hc]at e';cases e'
    ·exact .inl z
    ·exact .inr z
   rcases l with⟨a,_⟩|⟨_,c',hc',ic⟩
   ·rcases hk with k|k<;>(rw[k]at a;cases a)
   ·have e:X.env.cells.lookup y=some c:=sub y c hc;rw[e]at hc';cases hc';obtain⟨o,ho,hd⟩:=ic;exact .inr ⟨kd,c,hc,⟨o,hsb _ _ ho,hd⟩⟩
 ·obtain⟨v,o,ho,hd⟩:=I.cell y c (sub y c e);exact⟨v,o,hsb _ _ ho,hd⟩
 ·have hp:p∈X.pn++pj:=by
   have hp:p∈(X.pn++pj)++[]:=hp;rwa[Y5]at hp
  obtain⟨e,n,ne,nf,d⟩:=I.pin p hp;refine⟨hsb _ _ e,n,lt e,λhz=>?_,d⟩;have hz:p.1∈frs X.stack:=hz;rcases Zg.mp (I.stkSub _ hz)with z|z
  ·exact ne z
  ·exact nf z
 ·show(none::σ).length=(x::N').length
  rw[length_cons,length_cons,I.len,S.len]
def PTs(X:Cx)(ifs:List Expr)(t:TT):Prop:=
 ∀(pj:List (Addr×Obj))(s:Shared)(σ:St)(H:Hp)(Q:Bool->Hp->Prop)(E:Value->Shared->Prop),Inv X pj σ H s->t σ H Q->
  wpAny (model X.prog X.w) X.A (forIn ifs true λc r=>if r=true then do let ok <-isTrue c X.env (eval c X.env);pure (ForInStep.yield ok)else pure (ForInStep.yield r)) (TP X pj σ Q) E s
def tYes:TT:=λ_ H Q=>Q true H
theorem a3o:PTs X [] tYes:=λ_ _ _ H _ _ I h=>wpAny_tests_nil ⟨H,I,h⟩
theorem c0o{prog:Program}{w:World}{A:Around}{R:Result->Shared->Prop}{s:Shared}{elt target iter:Expr}{ifs:List Expr}{scope:Scope}{pos:Pos}{it acc:Value}{env:Env}(J:Nat->Shared->Prop)
  (turn:∀n s,J n s->wpAny (model prog w) A (pyNext it) (λr s1=>match r with
   |none=>R (.ok .next) s1
   |some v=>wpAny (model prog w) A (letOwnedTupleGo target it v) (λ_ s2=>wpAny (model prog w) A (assign target env v) (λ_ s3=>
     wpAny (model prog w) A (forIn ifs true λc r=>if r=true then do let ok <-isTrue c env (eval c env);pure (ForInStep.yield ok)else pure (ForInStep.yield r)) (λok s4=>
      if ok=true then wpAny (model prog w) A (eval elt env) (λy s5=>wpAny (model prog w) A (call (.builtin "list.append") [acc,y]) (λ_ s6=>∃m,m<n/\J m s6) (λ_ _=>False) s5) (λ_ _=>False) s4
      else ∃m,m<n/\J m s4) (λ_ _=>False) s3) (λ_ _=>False) s2) (λ_ _=>False) s1) (λ_ _=>False) s)
  (n:Nat)(h:J n s):codeAny (model prog w) A (.compLoop (.ListComp elt [⟨target,iter,ifs,0⟩] scope pos) 0 it acc env) R s:=by
 have no:∀{α:Type}{t:Sem α}{Q:α->Shared->Prop}{E:Value->Shared->Prop}{s:Shared},wpAny (model prog w) A t Q (λ_ _=>False) s->wpAny (model prog w) A t Q E s:=
  λq=>W4 q (λ_ _ z=>z) λ_ _ z=>z.elim
 refine codeAny_loop rfl J (λn s hJ=>?_) n h;refine wpAny_noted (m:=compTurn (.ListComp elt [⟨target,iter,ifs,0⟩] scope pos) 0 it acc env) ?_;rw[compTurn_list];refine Zb (Ud (Zb (no (thn (turn n s hJ) λr s1 q1=>?_))));cases r with
 |none=>exact Zf q1
 |some v=>
  refine no ?_;refine Zb (thn q1 λ_ s2 q2=>Zb (thn q2 λ_ s3 q3=>Zb (thn q3 λok s4 q4=>?_)));cases ok with
  |false=>exact Zf ⟨rfl,q4⟩
  |true=>exact Zb (Zb (thn q4 λy s5 q5=>Zb (thn q5 λ_ s6 q6=>Zf (Zf ⟨rfl,q6⟩))))
def c1q(J:It)(tt:TT)(te:TE)(σ:St)(Q:VK)(D:Addr)(H1:Hp):Prop:=∃W:Nat->Nat->List V->Hp->Prop,(∃m,W 0 m [] (upd H1 D (.lst [])))/\
 ∀i m ys H',W i m ys H'->(J.stop i H'/\Q (.ref D) H')\/(J.go i H'/\∀v H2,J.yld i H' v H2->tt (some v::σ) H2 λb H3=>
  if b=true then te (some v::σ) H3 λy H4=>H4 D=some (.lst ys)/\ys.length<sizeLine/\∃m',m'<m/\W (i+1) m' (ys++[y]) (upd H4 D (.lst (ys++[y])))
  else ∃m',m'<m/\W (i+1) m' ys H3)
def tComp(wi:TI)(tt:TT)(te:TE):TE:=λσ H Q=>wi σ H λJ H1=>∀D,H1 D=none->c1q J tt te σ Q D H1
theorem c0p{elt iter:Expr}{x:Str}{N':List Str}{px:Pos}{ifs:List Expr}{scope:Scope}{pos:Pos}{tt:TT}{te:TE}(hc:X.calm=true)(S:b3t X scope x N')
  (ht:∀C s H fp pn,PTs (a2n X scope x N' C s H fp pn) ifs tt)(he:∀C s H fp pn,PE (a2n X scope x N' C s H fp pn) elt te){Q:VK}{itv:Value}{s2:Shared}{RR:Value->Addr->Result->Shared->Prop}
  (h2:PIE X pj σ (.Name x px) (λJ H1=>∀D,H1 D=none->c1q J tt te σ Q D H1) itv s2)
  (hend:∀(D C:Addr)(H6:Hp)(s7:Shared)(m7:Str->Option Value),Inv X pj σ H6 s7->s7.heap.Ns C m7->FpOk X pj H6 C->Q (.ref D) H6->RR (.ref D) C (.ok .next) s7):
  wpAny (model X.prog X.w) X.A (newList []) (λacc s3=>wpAny (model X.prog X.w) X.A (newFunctionEnv scope X.env.globals (clOf X.env scope.names []) [] X.env.qual none .none (some X.env)) (λcenv s4=>
   codeAny (model X.prog X.w) X.A (.compStart (.ListComp elt [⟨.Name x px,iter,ifs,0⟩] scope pos) 0 itv acc { cenv with scope:=relabel scope X.env}) (RR acc cenv.locals) s4) X.xe s3) X.xe s2:=by
 obtain⟨it,fp,tn,J,H2,e,I2,T,st2,f2,hW⟩:=h2;subst e;have hlt:∀b∈fp,b<s2.heap.objs.size:=λb hb=>by
  obtain⟨o,ho,_⟩:=T.obj _ _ st2 b hb;exact Zq ho
 obtain⟨W,⟨m0,w0⟩,hturn⟩:=hW s2.heap.objs.size (I2.hok.fresh (Zm _));refine Xe ?_ (by show 0<=sizeLine;exact Z4 _);have I3:Inv X pj σ (upd H2 s2.heap.objs.size (.lst [])) { s2 with heap:=s2.heap.push { cls:=.type "list",data:=.seq ([]:List Value).toArray}}:=I2.lnew (t':=s2.toks) .nil (Z4 _);have f3:∀b∈fp,FpOk X pj (upd H2 s2.heap.objs.size (.lst [])) b:=λb hb=>by
  obtain⟨g0,g⟩:=f2 b hb;exact⟨by rw[a0d (Z2 (hlt b hb))];exact g0,g⟩
 have st3:tn 0 (s2.heap.push { cls:=.type "list",data:=.seq ([]:List Value).toArray}):=T.keep _ _ _ st2 λb _ o e=>Zh _ e
 have hlt3:∀b∈fp,b<(s2.heap.push { cls:=.type "list",data:=.seq ([]:List Value).toArray}).objs.size:=λb hb=>by rw[Wz];exact Xy (hlt b hb)
 generalize hs3:({ s2 with heap:=s2.heap.push { cls:=.type "list",data:=.seq ([]:List Value).toArray}}:Shared)=s3 at I3;have eh:s3.heap=s2.heap.push { cls:=.type "list",data:=.seq ([]:List Value).toArray}:=by rw[<-hs3]
 rw[<-eh]at st3 hlt3
 show wpAny _ _ (newFunctionEnv scope X.env.globals (clOf X.env scope.names []) [] X.env.qual none .none (some X.env)) _ _ _
 refine Sk S.nocell (by intro y hy;simp at hy) (λh4 hns4 hsb4=>?_) S.kind;have hk4:∀b o,s3.heap.get? b=some o->h4.get? b=some o:=λb o e=>(hsb4.2 b (Z2 (Zq e))).trans (Zh _ e)
 have I4:=Inv.compIn (tk:=s3.toks+([]:List (Str×Value)).length) S I3 f3 hlt3 hns4 hk4;have st4:tn 0 h4:=T.keep _ _ _ st3 λb _ o e=>hk4 b o e
 have fx:∀{H':Hp},(∀b∈fp,H' b=none)->∀b∈fp,FpOk (a2n X scope x N' s3.heap.objs.size s3 (upd H2 s2.heap.objs.size (.lst [])) fp (X.pn++pj)) [] H' b:=λ{H'} hn b hb=>by
  obtain⟨_,g1,g2,g3,g4,g5⟩:=f3 b hb;refine⟨hn b hb,Z2 (hlt3 b hb),I4.ok.exfs b hb,.inl hb,λy c e=>(I4.ok.exf b hb).2 y c e,λp hp=>g5 p ?_⟩;have hp:p∈(X.pn++pj)++[]:=hp;rwa[Y5]at hp
 have loop:∀s5:Shared,(∃(i n:Nat)(o:Option V)(ys:List V)(H5:Hp),Inv (a2n X scope x N' s3.heap.objs.size s3 (upd H2 s2.heap.objs.size (.lst [])) fp (X.pn++pj)) [] (o::σ) H5 s5/\tn i s5.heap/\(∀b∈fp,H5 b=none)/\W i n ys H5)->
   codeAny (model X.prog X.w) X.A (.compLoop (.ListComp elt [⟨.Name x px,iter,ifs,0⟩] scope pos) 0 (.ref it) (.ref s2.heap.objs.size) (compEnvC scope (clOf X.env scope.names []) s3.heap.objs.size X.env))
    (RR (.ref s2.heap.objs.size) s3.heap.objs.size) s5:=by
  rintro s5 ⟨i5,n5,o5,ys5,H5,I5,st5,fr5,w5⟩
  refine c0o (λn s'=>∃(i:Nat)(o:Option V)(ys:List V)(H5:Hp),Inv (a2n X scope x N' s3.heap.objs.size s3 (upd H2 s2.heap.objs.size (.lst [])) fp (X.pn++pj)) [] (o::σ) H5 s'/\tn i s'.heap/\(∀b∈fp,H5 b=none)/\W i n ys H5) ?_ n5 ⟨i5,o5,ys5,H5,I5,st5,fr5,w5⟩
  rintro n s6 ⟨i,o,ys,H6,I6,st6,fr6,w6⟩
  rcases hturn i n ys H6 w6 with⟨stop,qn⟩|⟨go,step⟩
  ·refine thn (T.done (a2n X scope x N' s3.heap.objs.size s3 (upd H2 s2.heap.objs.size (.lst [])) fp (X.pn++pj)) rfl rfl rfl hc i [] s6 _ H6 _ I6 (fx fr6) st6 stop) λr s7 ⟨hr,I7⟩=>?_
   subst hr;obtain⟨m7,hn7,_⟩:=id I7.loc;have I8:Inv X pj σ H6 s7:=I3.call' I7.os I7.base I7.hok I7.bare λb hb=>by
    obtain⟨_,g1,g2,g3,g4,g5⟩:=f3 b hb;exact⟨g3,g1,g4,g5⟩
   have f8:FpOk X pj H6 s3.heap.objs.size:=I3.fpOk (Zm _) I7.free;exact hend _ _ H6 s7 m7 I8 hn7 f8 qn
  ·refine thn (T.item (a2n X scope x N' s3.heap.objs.size s3 (upd H2 s2.heap.objs.size (.lst [])) fp (X.pn++pj)) rfl rfl rfl hc i [] s6 _ H6 _ I6 (fx fr6) st6 go) λr s7 ⟨u,hr,h7⟩=>?_
   subst hr;refine thn h7 λ_ s8 z9=>?_
   obtain⟨v,H8,I8,r8,y8,st8,fr8⟩:=z9;have I8':=I8.pinned (fx fr8) (T.obj _ _ st8);refine Up (b2b I8' (i:=0) (Yn.mpr ⟨S.nin,S.nd⟩) rfl (.inl (Xx S.loc)) r8 (λs9 I9=>?_) (.inr (Xx S.loc)));have I9:Inv (a2n X scope x N' s3.heap.objs.size s3 (upd H2 s2.heap.objs.size (.lst [])) fp (X.pn++pj)) ([]++b1c fp s8.heap) (some v::σ) H8 s9:=I9;refine thn (ht _ _ _ _ _ _ s9 (some v::σ) H8 _ _ I9 (step v H8 y8)) λb s10 z9=>?_
   obtain⟨H10,I10,q10⟩:=z9;have back:∀{s':Shared}{H':Hp}{ys':List V}{m':Nat},Inv (a2n X scope x N' s3.heap.objs.size s3 (upd H2 s2.heap.objs.size (.lst [])) fp (X.pn++pj)) ([]++b1c fp s8.heap) (some v::σ) H' s'->W (i+1) m' ys' H'->
     ∃(i:Nat)(o:Option V)(ys:List V)(H5:Hp),Inv (a2n X scope x N' s3.heap.objs.size s3 (upd H2 s2.heap.objs.size (.lst [])) fp (X.pn++pj)) [] (o::σ) H5 s'/\tn i s'.heap/\(∀b∈fp,H5 b=none)/\W i m' ys H5:=λ{s' H' ys' m'} I' w'=>by
    refine⟨i+1,some v,ys',H',I'.unpinned,T.keep _ _ _ st8 λb hb o e=>(I'.pin (b,o) (Z3 _ (Z3 _ (a6n hb e)))).1,λb hb=>?_,w'⟩;obtain⟨o,e,d⟩:=T.obj _ _ st8 b hb;exact(I'.pin (b,o) (Z3 _ (Z3 _ (a6n hb e)))).2.1
   cases b with
   |false=>
    rw[if_neg Zo]at q10 ⊢;obtain⟨m',hm,w'⟩:=q10;exact⟨m',hm,back I10 w'⟩
   |true=>
    rw[if_pos rfl]at q10 ⊢;refine thn (he _ _ _ _ _ _ s10 (some v::σ) H10 _ I10 q10) λy s11 z9=>?_
    obtain⟨yv,H11,I11,r11,hD,hz,m',hm,w'⟩:=z9;have ap:=b3s (X:=a2n X scope x N' s3.heap.objs.size s3 (upd H2 s2.heap.objs.size (.lst [])) fp (X.pn++pj)) _ s11 (some v::σ) H11 (.ref s2.heap.objs.size) [yv] (.ref s2.heap.objs.size) [y] (λ_ H'=>W (i+1) m' (ys++[yv]) H') I11 rfl (.cons r11 .nil) ⟨_,ys,yv,rfl,rfl,hD,hz,w'⟩;exact thn ap λ_ s12 ⟨_,H12,I12,_,w12⟩=>⟨m',hm,back I12 w12⟩
 have l4:=loop { s3 with heap:=h4,toks:=s3.toks+([]:List (Str×Value)).length} ⟨0,m0,none,[],_,I4,st4,λb hb=>(f3 b hb).1,w0⟩;exact T4 l4 (T.self _ _ _ _ _ st4 l4)
theorem a4e{elt iter:Expr}{x:Str}{N':List Str}{px:Pos}{ifs:List Expr}{scope:Scope}{pos:Pos}{wi:TI}{tt:TT}{te:TE}(hc:X.calm=true)(hi:PI X (.Name x px) iter wi)(S:b3t X scope x N')
  (ht:∀C s H fp pn,PTs (a2n X scope x N' C s H fp pn) ifs tt)(he:∀C s H fp pn,PE (a2n X scope x N' C s H fp pn) elt te)(hs:∀x,foldedSetIterable iter X.env x=pure x:=by intro _;rfl):
  PE X (.ListComp elt [⟨.Name x px,iter,ifs,0⟩] scope pos) (tComp wi tt te):=by
 intro pj s σ H Q I h;have hcells:∀y∈scope.names,y.2=.free->∃c,X.env.cells.lookup y.1=some c:=λy hy hk=>I.ok.has y.1 (S.free y hy hk)
 rw[eval_ListComp];refine Vx (use:=none) rfl hs (b2g hcells) S.kind S.names (thn (hi pj s σ H _ I h) λxv s1 h1=>thn h1 λitv s2 h2=>?_);refine c0p (RR:=λacc C=>compPost (model X.prog X.w) X.A X.xe none (EP X pj σ Q) acc C) hc S ht he h2 λD C H6 s7 m7 I8 hn7 f8 qn=>?_
 refine⟨m7,hn7,λh' hs'=>?_⟩;obtain⟨g0,g1,g2,g3,g4,g5⟩:=f8;exact⟨.ref D,H6,I8.turned (t':=s7.toks) (λb o hb e=>(hs'.2 b hb).trans e) g0 g1 g3 g4 g5,rfl,qn⟩
theorem c5x{elt iter:Expr}{x y:Str}{N':List Str}{i:Nat}{px py:Pos}{ifs:List Expr}{scope:Scope}{pos spos:Pos}{wi:TI}{tt:TT}{te:TE}(hN:X.N.Nodup)(hiy:X.N[i]? =some y)(hy:Loc X.env.scope y)(hc:X.calm=true)(hi:PI X (.Name x px) iter wi)(S:b3t X scope x N')
  (ht:∀C s H fp pn,PTs (a2n X scope x N' C s H fp pn) ifs tt)(he:∀C s H fp pn,PE (a2n X scope x N' C s H fp pn) elt te)
  (hsw:swapsWith (.ListComp elt [⟨.Name x px,iter,ifs,0⟩] scope pos) (some (.Name y py)) spos.line X.env=pure true:=by rfl)(hs:∀x,foldedSetIterable iter X.env x=pure x:=by intro _;rfl)
  (hf:X.fn y=true\/X.env.scope.names.lookup y=some .local:=by first|exact .inl rfl|exact .inr rfl|assumption):
  PS X (.Assign [.Name y py] (.ListComp elt [⟨.Name x px,iter,ifs,0⟩] scope pos) spos) (tAsg (tComp wi tt te) (b2c i)):=by
 intro pj s σ H D I h;have hcells:∀y∈scope.names,y.2=.free->∃c,X.env.cells.lookup y.1=some c:=λy hy hk=>I.ok.has y.1 (S.free y hy hk)
 rw[exec_Assign_Name_used _ _ _ _ hsw];refine Zb (Ud (Zb ?_))
 show wpAny _ X.A (do let _ <-comprehension (.ListComp elt [⟨.Name x px,iter,ifs,0⟩] scope pos) scope X.env _ (newList []) false (eval iter X.env) (some (assign (.Name y py) X.env))) _ _ s
 refine Zb (thn (Vx (use:=some (assign (.Name y py) X.env)) (Q:=λ_ s'=>SP X pj D .next s') rfl hs (b2g hcells) S.kind S.names
  (thn (hi pj s σ H _ I h) λxv s1 h1=>thn h1 λitv s2 h2=>?_)) λ_ s' hq=>Zf (Zf hq))
 refine c0p (RR:=λacc C=>compPost (model X.prog X.w) X.A X.xe (some (assign (.Name y py) X.env)) (λ_ s'=>SP X pj D .next s') acc C) hc S ht he h2 λL C H6 s7 m7 I8 hn7 f8 qn=>?_
 obtain⟨g0,g1,g2,g3,g4,g5⟩:=f8
 show wpAny _ X.A (assign (.Name y py) X.env (.ref L)) _ _ _
 refine Up (c0h I8 hN hiy hy (v:=.ref L) (u:=.ref L) rfl (λs8 I9 hch=>?_) hf);obtain⟨a,hsb,ha⟩:=hch;have hCa:C≠a:=by
  rcases ha with z|z
  ·rw[z];exact g1
  ·exactλw=>g4 _ _ z w.symm
 refine⟨m7,hn7.sameBut hsb hCa,λh' hs'=>?_⟩;exact⟨_,H6,I9.turned (t':=s8.toks) (λb o hb e=>(hs'.2 b hb).trans e) g0 g1 g3 g4 g5,qn⟩
end
def c9c(sc scope:Scope)(N N':List Str)(x:Str):Bool:=
 decide (scope.names.lookup x=some .local)&&scope.names.all (λy=>decide (y.2≠.cell))&&decide (scope.kind=.function)&&scope.names.all (λy=>decide (y.2=.local->scope.names.lookup y.1=some .local))&&
 scope.names.all (λy=>decide (y.2=.free->sc.names.lookup y.1=some .cell\/sc.names.lookup y.1=some .free))&&decide (x∉N')&&decide N'.Nodup&&decide (N'.length=N.length)&&
 (List.range N'.length).all (λi=>match N'[i]? with|some y=>decide (N[i]? =some y\/scope.names.lookup y=none)|none=>true)&&scope.names.all (λy=>decide (y.2=.local->y.1=x\/y.1∉N'))
theorem a3p{X:Cx}{scope:Scope}{x:Str}(sc:Scope)(N N':List Str)(hsc:X.env.scope=sc)(hN:X.N=N)(h:c9c sc scope N N' x=true):b3t X scope x N':=by
 subst hsc hN;unfold c9c at h;simp only[Xd,Xn,Ur]at h;obtain⟨⟨⟨⟨⟨⟨⟨⟨⟨h1,h2⟩,h3⟩,h4⟩,h5⟩,h6⟩,h7⟩,h7'⟩,h8'⟩,h8⟩:=h;refine⟨h1,h2,h3,h4,h5,h6,h7,h7',λi y e=>?_,h8⟩;have hi:i<N'.length:=(Zy.mp e).1;have z:=h8' i (Y2.mpr hi);rw[e]at z;exact Z5 z
def Its(x:Str):It:=⟨λi _=>i<x.cps.size,λi H v H'=>H'=H/\∃c,x.cps[i]? =some c/\v=.str ⟨#[c]⟩,λi _=>x.cps.size=i⟩
theorem c2k{P:Program}{w:World}{K:FG}{tg:Expr}{it:Addr}{x:Str}{t:Tok}{ty:String}
  (hty:["enumerate","zip","dict_itemiterator","dict_reverseitemiterator","odict_iterator","itertools.zip_longest","itertools.pairwise"].contains ty=false)
  (hW:∀A':Around,A'.handled=none->Walks P w A' it [it] [it] x.cps.size (SignAt x) (λi h=>h.IsStrIter it ty x t i))
  (hself:∀(A:Around)(i:Nat)(s:Shared)(Q:Value->Shared->Prop)(E:Value->Shared->Prop),s.heap.IsStrIter it ty x t i->Q (.ref it) s->wpAny (model P w) A (pyIter (.ref it)) Q E s):
  Turn P w K tg (Its x) [it] it (λi h=>h.IsStrIter it ty x t i) where
 mem:=by simp
 obj:=λi h st b hb=>by
  have e:b=it:=by simpa using hb
  subst e;obtain⟨o,e,c,d⟩:=st;exact⟨o,e,λv z=>by rw[d]at z;cases z⟩
 keep:=λi h h' st k=>by
  obtain⟨o,e,r⟩:=st;exact⟨o,k it qz o e,r⟩
 item:=by
  intro X hP hw hK hc i pj s σ H E I hf st hg;subst hP hw hK;obtain⟨f0,f1,f2,f3,f4,f5⟩:=hf it qz;refine(hW X.A (I.ok.hd hc)).item i s _ _ hg st λv h' tk hv st' kk=>?_
  obtain⟨c,u,hx,rfl⟩:=hv;have I1:Inv X pj σ H { s with heap:=h',toks:=tk}:=I.turned (λb o hb e=>kk b o (by simpa using hb) e) f0 f1 f3 f4 f5;obtain⟨o,e,c',d⟩:=id st';exact⟨_,rfl,c1p (s:={ s with heap:=h',toks:=tk}) e c' d hty ⟨.str ⟨#[c]⟩,H,I1,⟨u,rfl⟩,⟨rfl,c,hx,rfl⟩,st',λb hb=>(hf b hb).1⟩⟩
 done:=by
  intro X hP hw hK hc i pj s σ H E I hf st hg;subst hP hw hK;obtain⟨f0,f1,f2,f3,f4,f5⟩:=hf it qz;have hg:x.cps.size=i:=hg;subst hg;exact(hW X.A (I.ok.hd hc)).done s _ _ st λh' tk kk=>⟨rfl,I.turned (λb o hb e=>kk b o (by simpa using hb) e) f0 f1 f3 f4 f5⟩
 self:=hself
section
variable{X:Cx}{tg:Expr}
def iStr(tl:TE):TI:=λσ H R=>tl σ H λv H1=>∃x,v=.str x/\R (Its x) H1
theorem pi_str{l:Expr}{tl:TE}(hl:PE X l tl):PI X tg l (iStr tl):=by
 intro pj s σ H R I h;refine thn (hl pj s σ H _ I h) λv s1 z9=>?_
 obtain⟨z,H1,I1,r1,q1⟩:=z9;obtain⟨x,e,q⟩:=q1;subst e;obtain⟨t,rfl⟩:=r1;have fp:∀b∈[s1.heap.objs.size],FpOk X pj H1 b:=λb hb=>by
  have e:b=s1.heap.objs.size:=by simpa using hb
  subst e;exact I1.fpOk (Zm _) (I1.hok.fresh (Zm _))
 cases ha:x.cps.all (· <128)
 ·refine wpAny_pyIter_wide ha ?_;exact⟨s1.heap.objs.size,[s1.heap.objs.size],_,_,H1,rfl,I1.kept (t':=s1.toks) λb o e=>Zh _ e,c2k (ty:="str_iterator") (t:=t) qd (λA' hA=>Walks.strWide hA _ x t) (λ_ _ _ _ _ st hq=>wpAny_pyIter_striter_wide st hq),⟨_,Zu _ rfl,rfl,rfl⟩,fp,q⟩
 ·refine wpAny_pyIter_ascii ha ?_;exact⟨s1.heap.objs.size,[s1.heap.objs.size],_,_,H1,rfl,I1.kept (t':=s1.toks) λb o e=>Zh _ e,c2k (ty:="str_ascii_iterator") (t:=t) qd (λA' hA=>Walks.strAscii hA _ x t) (λ_ _ _ _ _ st hq=>wpAny_pyIter_striter_ascii st hq),⟨_,Zu _ rfl,rfl,rfl⟩,fp,q⟩
end
structure Row(J:It)(n:Nat)(vs:Nat->V)(Ok:Hp->Prop):Prop where
 go:∀i H,i<n->Ok H->J.go i H
 yld:∀i H v H',i<n->Ok H->J.yld i H v H'->H'=H/\v=vs i
 stop:∀H,Ok H->J.stop n H
theorem a5w(lo:Int)(n:Nat):Row (Itr lo n) n (λi=>.int (lo+i)) (λ_=>True):=⟨λi H h _=>h,λi H v H' _ _ h=>h,λH _=>Zm n⟩
theorem row_str(x:Str):Row (Its x) x.cps.size (λi=>.str ⟨#[x.cps.getD i 0]⟩) (λ_=>True):=⟨λi H h _=>h,λi H v H' hi _ h=>by
 obtain⟨e,c,hc,rfl⟩:=h;refine⟨e,?_⟩;have:x.cps.getD i 0=c:=by rw[Wf,hc];rfl
 rw[this],λH _=>rfl⟩
theorem a1i{K:FG}{a:Addr}{xs:List V}:Row (Itl K a) xs.length (λi=>xs.getD i .non) (λH=>SqL K H a xs):=⟨λi H h q=>⟨xs,xs[i],q,by simp[h]⟩,λi H v H' hi q h=>by
 obtain⟨e,y⟩:=h;refine⟨e,?_⟩;have:=y xs q
 rw[Yd,this];rfl,λH q=>⟨xs,q,Zm _⟩⟩
theorem b5g{K:FG}{a:Addr}{xs:List V}:Row (Itt K a) xs.length (λi=>xs.getD i .non) (λH=>SqT K H a xs):=⟨λi H h q=>⟨xs,xs[i],q,by simp[h]⟩,λi H v H' hi q h=>by
 obtain⟨e,y⟩:=h;refine⟨e,?_⟩;have:=y xs q
 rw[Yd,this];rfl,λH q=>⟨xs,q,Zm _⟩⟩
def ForW(J:It)(g:TG)(tb:TS)(D:Ends)(σ:St)(H:Hp):Prop:=∃W:Nat->Nat->St->Hp->Prop,(∃m,W 0 m σ H)/\∀i m σ H,W i m σ H->
   (J.stop i H/\D.nx σ H)\/(J.go i H/\∃N:St->Hp->Prop,(∀σ' H',N σ' H'->∃m',m'<m/\W (i+1) m' σ' H')/\∀x H',J.yld i H x H'->g x σ H' λσ2 H2=>tb { D with nx:=N,ct:=N,bk:=D.nx} σ2 H2)
theorem a1s{J:It}{n:Nat}{vs:Nat->V}{Ok:Hp->Prop}(R:Row J n vs Ok){g:TG}{tb:TS}{D:Ends}{σ:St}{H:Hp}(Pv:Nat->St->Hp->Prop)(h0:Pv 0 σ H)(hok:∀i σ H,Pv i σ H->Ok H)
  (hs:∀i σ H,i<n->Pv i σ H->g (vs i) σ H λσ2 H2=>tb { D with nx:=Pv (i+1),ct:=Pv (i+1),bk:=D.nx} σ2 H2)(hd:∀σ H,Pv n σ H->D.nx σ H):
  ForW J g tb D σ H:=by
 refine⟨λi m σ H=>m=n-i/\i<=n/\Pv i σ H,⟨n,qz,Z4 _,h0⟩,?_⟩
 rintro i m σ H ⟨rfl,hi,p⟩
 by_cases hlt:i<n
 ·refine .inr ⟨R.go i H hlt (hok i σ H p),Pv (i+1),λσ' H' p'=>⟨n-(i+1),qo,rfl,hlt,p'⟩,λx H' y=>?_⟩;obtain⟨e1,e2⟩:=R.yld i H x H' hlt (hok i σ H p) y;subst e1 e2;exact hs i σ _ hlt p
 ·have e:i=n:=by omega
  subst e;exact .inl ⟨R.stop H (hok i σ H p),hd σ H p⟩
theorem a2q{J:It}{n:Nat}{vs:Nat->V}{Ok:Hp->Prop}(R:Row J n vs Ok){te:TE}{Q:VK}{σ:St}{H1:Hp}{D:Addr}(Pv:Nat->List V->Hp->Prop)(hn:n<=sizeLine)(h0:Pv 0 [] (upd H1 D (.lst [])))(hok:∀i ys H,Pv i ys H->Ok H)
  (hs:∀i ys H (Q':VK),i<n->ys.length=i->Pv i ys H->(∀y H4,H4 D=some (.lst ys)->Pv (i+1) (ys++[y]) (upd H4 D (.lst (ys++[y])))->Q' y H4)->te (some (vs i)::σ) H Q')
  (hd:∀ys H,ys.length=n->Pv n ys H->Q (.ref D) H):
  c1q J tYes te σ Q D H1:=by
 refine⟨λi m ys H=>m=n-i/\i<=n/\ys.length=i/\Pv i ys H,⟨n,qz,Z4 _,rfl,h0⟩,?_⟩
 rintro i m ys H ⟨rfl,hi,hl,p⟩
 by_cases hlt:i<n
 ·refine .inr ⟨R.go i H hlt (hok i ys H p),λv H2 y=>?_⟩;obtain⟨e1,e2⟩:=R.yld i H v H2 hlt (hok i ys H p) y;subst e1 e2;exact hs i ys _ _ hlt hl p λv H4 q1 q2=>⟨q1,qo,n-(i+1),qo,rfl,hlt,by simp[hl],q2⟩
 ·have e:i=n:=by omega
  subst e;exact .inl ⟨R.stop H (hok _ ys H p),hd ys H hl p⟩
def mVar(i:Nat):TE:=λσ H Q=>match σ[i]? with|some (some v)=>Q v H|_=>False
def mB(Q:Bool->Hp->Prop):VK:=λz H'=>match z with| .bl k=>Q k H'|_=>False
theorem c1r(Q:Bool->Hp->Prop):mB Q=λz H'=>∃k,z=.bl k/\Q k H':=by
 funext z H'
 cases z<;>simp[mB]
section
variable{X:Cx}{a b c e:Expr}{ta tb tc te:TE}{pos:Pos}
theorem mv(i:Nat){x:Str}{pos:Pos}(hN:X.N[i]? =some x:=by rfl)(hv:Vis X.env.scope x:=by first|exact Or.inl rfl|exact Or.inr (Or.inl rfl)|exact Or.inr (Or.inr rfl))(hd:(x==("__debug__":Str))=false:=by decide)
  (hcd:(x==("__classdict__":Str))=false:=by decide):PE X (.Name x pos) (mVar i):=by
 intro pj s σ H Q I h;refine pe_var hN hv hd hcd pj s σ H Q I ?_;unfold mVar at h;split at h
 ·rename_i v q;exact⟨v,q,h⟩
 ·exact h.elim
def m2(C:Int->Int->Prop)(g:Int->Int->V):R2:=λx y H Q=>match x,y with
 | .int i,.int j=>C i j/\Q (g i j) H
 |_,_=>False
def m20(g:Int->Int->V):R2:=λx y H Q=>match x,y with
 | .int i,.int j=>Q (g i j) H
 |_,_=>False
theorem m2_to{C:Int->Int->Prop}{g:Int->Int->V}{x y:V}{H:Hp}{Q:VK}(h:m2 C g x y H Q):rI C g x y H Q:=by
 cases x<;>cases y<;>first|exact(show False from h).elim|exact⟨_,_,rfl,rfl,h⟩
theorem b3u{g:Int->Int->V}{x y:V}{H:Hp}{Q:VK}(h:m20 g x y H Q):rI0 g x y H Q:=by
 cases x<;>cases y<;>first|exact(show False from h).elim|exact⟨_,_,rfl,rfl,h⟩
theorem OpR.imp{f:Value->Value->Sem Value}{r r':R2}(h:OpR X f r)(k:∀x y H Q,r' x y H Q->r x y H Q):OpR X f r':=λpj s σ H x y v u Q I rx ry q=>h pj s σ H x y v u Q I rx ry (k x y H Q q)
def mAdd(K:W.Frag):R2:=λx y H Q=>match x,y with
 | .int i,.int j=>Q (.int (i+j)) H
 | .str i,.str j=>i.length+j.length<=sizeLine/\Q (.str (i++j)) H
 | .ref p,.ref q=>(∃xs ys,H p=some (.lst xs)/\H q=some (.lst ys)/\xs.length+ys.length<=sizeLine/\∀d,H d=none->Q (.ref d) (upd H d (.lst (xs++ys))))\/
   ∃xs ys,SqT K H p xs/\SqT K H q ys/\xs≠[]/\xs.length+ys.length<=sizeLine/\(ys=[]->Q (.ref p) H)/\(ys≠[]->∀d,H d=none->Q (.ref d) (upd H d (.tup (xs++ys))))
 |_,_=>False
theorem mo_add:OpR X (binaryOp .Add) (mAdd X.K):=by
 refine(op_add.or (c6y.or (op_cat.or op_catT))).imp λx y H Q h=>?_
 cases x<;>cases y<;>first
  |exact(show False from h).elim
  |exact .inl ⟨_,_,rfl,rfl,h⟩
  |exact .inr (.inl ⟨_,_,rfl,rfl,h⟩)
  | (rcases h with⟨xs,ys,h1,h2,h3,h4⟩|⟨xs,ys,h1,h2,h3,h4,h5⟩
     ·exact .inr (.inr (.inl ⟨_,_,xs,ys,rfl,rfl,h1,h2,h3,h4⟩))
     ·exact .inr (.inr (.inr ⟨_,_,xs,ys,rfl,rfl,h1,h2,h3,h4,h5⟩)))
theorem b3v:OpR X (binaryOp .Sub) (m20 λi j=>.int (i-j)):=op_sub.imp λ_ _ _ _ h=>b3u h
def mMul:R2:=λx y H Q=>match x,y with
 | .int i,.int j=>IntMulOk i j/\Q (.int (i*j)) H
 | .ref l,.int k=>∃xs,H l=some (.lst xs)/\-(2^63)<=k/\k<2^63/\xs.length*k.toNat<=sizeLine/\∀p,H p=none->Q (.ref p) (upd H p (.lst (List.replicate k.toNat xs).flatten))
 |_,_=>False
theorem op_mulW:OpR X (binaryOp .Mult) (rI (λi j=>IntMulOk i j) λi j=>.int (i*j)):=opI λ_ _ _ _ _ _ _ hc q=>mul_int q hc
theorem c2l:OpR X (binaryOp .Mult) mMul:=by
 refine(op_mulW.or op_rep).imp λx y H Q h=>?_
 cases x<;>cases y<;>first
  |exact(show False from h).elim
  |exact .inl ⟨_,_,rfl,rfl,h⟩
  | (obtain⟨xs,h1,h2,h3,h4,h5⟩:=h;exact .inr ⟨_,_,xs,rfl,rfl,h1,h2,h3,h4,h5⟩)
theorem a7h:OpR X (binaryOp .Mod) (m2 (λ_ j=>0<j) λi j=>.int (i%j)):=op_mod.imp λ_ _ _ _ h=>m2_to h
theorem c9d:OpR X (binaryOp .Pow) (m2 CPow λi j=>.int (i^j.toNat)):=op_pow.imp λ_ _ _ _ h=>m2_to h
theorem c1s:OpR X (compareOp .Lt) (m20 λi j=>.bl (decide (i<j))):=op_lt.imp λ_ _ _ _ h=>b3u h
theorem mo_le:OpR X (compareOp .LtE) (m20 λi j=>.bl (decide (i<=j))):=op_le.imp λ_ _ _ _ h=>b3u h
theorem mo_gt:OpR X (compareOp .Gt) (m20 λi j=>.bl (decide (j<i))):=op_gt.imp λ_ _ _ _ h=>b3u h
theorem mo_ge:OpR X (compareOp .GtE) (m20 λi j=>.bl (decide (j<=i))):=op_ge.imp λ_ _ _ _ h=>b3u h
def mEq(n:Bool):R2:=λx y H Q=>match x,y with
 | .int i,.int j=>Q (.bl (n^^decide (i=j))) H
 | .str i,.str j=>Q (.bl (n^^decide (i=j))) H
 | .bl i,.bl j=>Q (.bl (n^^decide (i=j))) H
 | .non,.non=>Q (.bl (n^^true)) H
 | .non,.int _=>Q (.bl n) H
 | .non,.str _=>Q (.bl n) H
 | .non,.bl _=>Q (.bl n) H
 | .int _,.non=>Q (.bl n) H
 | .str _,.non=>Q (.bl n) H
 | .bl _,.non=>Q (.bl n) H
 | .int _,.str _=>Q (.bl n) H
 | .str _,.int _=>Q (.bl n) H
 | .bl _,.str _=>Q (.bl n) H
 | .str _,.bl _=>Q (.bl n) H
 |_,_=>False
theorem a2a:OpR X (compareOp .Eq) (mEq false):=by
 refine op_eq.imp λx y H Q h=>?_
 cases x<;>cases y<;>first
  |exact(show False from h).elim
  |exact⟨rfl,by simpa using(show Q _ H from h)⟩
theorem mo_ne:OpR X (compareOp .NotEq) (mEq true):=by
 refine op_ne.imp λx y H Q h=>?_
 cases x<;>cases y<;>first
  |exact(show False from h).elim
  |exact⟨rfl,by simpa using(show Q _ H from h)⟩
def c1t(t:TE):TT:=λσ H Q=>t σ H (mB Q)
theorem c2m(t:TE):c1t t=tTest t:=by
 funext σ H Q
 show t σ H (mB Q)=t σ H _
 rw[c1r]
theorem a0y{op:CmpOp}{r:R2}(ho:OpR X (compareOp op) r)(ha:PE X a ta)(hb:PE X b tb)(hm:behindInMarks op b=false):PT X (.Compare a [op] [b] pos) (c1t (tOp r ta tb)):=by
 rw[c2m];exact pt_cmpR ho ha hb hm
def b7o(r r':R2)(ta tb tc:TE):TE:=λσ H Q=>ta σ H λx H1=>tb σ H1 λy H2=>r x y H2 (mB λk H3=>if k=true then tc σ H3 λw' H4=>r' y w' H4 Q else Q (.bl false) H3)
theorem c9e(r r':R2)(ta tb tc:TE):b7o r r' ta tb tc=c2c r r' ta tb tc:=by
 funext σ H Q
 unfold b7o c2c;simp only[c1r]
theorem d2f{op op':CmpOp}{r r':R2}(ho:OpR X (compareOp op) r)(ho':OpR X (compareOp op') r')(ha:PE X a ta)(hb:PE X b tb)(hc:PE X c tc)
  (hm:lastMarks [op,op'] [b,c]=false:=by with_unfolding_all rfl):PT X (.Compare a [op,op'] [b,c] pos) (c1t (b7o r r' ta tb tc)):=by
 rw[c2m,c9e];exact d1u ho ho' ha hb hc hm
def mTru(K:W.Frag)(Q:Bool->Hp->Prop):VK:=λx H=>match x with
 | .non=>Q false H
 | .bl b=>Q b H
 | .int i=>Q (decide (i≠0)) H
 | .str y=>y.length<=sizeLine/\Q (decide (y.length≠0)) H
 | .ref p=>(∃xs,SqL K H p xs/\Q (!xs.isEmpty) H)\/(∃xs,SqT K H p xs/\Q (!xs.isEmpty) H)\/∃kvs,H p=some (.dK kvs)/\Q (!kvs.isEmpty) H
 |_=>False
theorem mTru_to{K:FG}{Q:Bool->Hp->Prop}{x:V}{H:Hp}(h:mTru K Q x H):∃k,TruV K x H k/\Q k H:=by
 cases x with
 |non=>exact⟨_,rfl,h⟩
 |bl b=>exact⟨_,rfl,h⟩
 |int i=>
  have h:Q (decide (i≠0)) H:=h;refine⟨i !=0,rfl,?_⟩;have e:(i !=0)=decide (i≠0):=by
   rw[Xo];simp
  rw[e];exact h
 |str y=>
  obtain⟨h1,h⟩:y.length<=sizeLine/\Q (decide (y.length≠0)) H:=h;refine⟨((y.length:Int) !=0),⟨h1,rfl⟩,?_⟩;have e:((y.length:Int) !=0)=decide (y.length≠0):=by
   rw[Xo];simp
  rw[e];exact h
 |ref p=>
  rcases h with⟨xs,h1,h2⟩|⟨xs,h1,h2⟩|⟨xs,h1,h2⟩
  ·exact⟨_,.inl ⟨xs,h1,rfl⟩,h2⟩
  ·exact⟨_,.inr (.inl ⟨xs,h1,rfl⟩),h2⟩
  ·exact⟨_,.inr (.inr ⟨xs,h1,rfl⟩),h2⟩
 |_=>exact(show False from h).elim
def mTrue(K:W.Frag)(ta:TE):TT:=λσ H Q=>ta σ H (mTru K Q)
theorem mt_tru(ha:PE X a ta)(he:∀whole,isTrue a X.env whole=(do let v <-whole;standAt a.pos;holding [v] (truthy v)):=by intro _;rfl):PT X a (mTrue X.K ta):=by
 intro pj s σ H Q I h;exact isTrue_plain (thn (ha pj s σ H _ I h) λv s1 ⟨x,H1,I1,r1,q1⟩=>tru_ok pj s1 σ H1 x v Q I1 r1 (mTru_to q1)) (he _)
def c1u(ta tb:TE):TE:=λσ H Q=>ta σ H (mB λc H1=>if c=true then tb σ H1 Q else Q (.bl false) H1)
def mOrV(ta tb:TE):TE:=λσ H Q=>ta σ H (mB λc H1=>if c=true then Q (.bl true) H1 else tb σ H1 Q)
variable{rest:List Expr}
theorem b7p(ha:PE X a ta)(hb:PE X (.BoolOp .And (b::rest) pos) tb):PE X (.BoolOp .And (a::b::rest) pos) (c1u ta tb):=by
 have e:c1u ta tb=tAndV ta tb:=by funext σ H Q;unfold c1u tAndV;rw[c1r]
 rw[e];exact pe_and ha hb
theorem me_or(ha:PE X a ta)(hb:PE X (.BoolOp .Or (b::rest) pos) tb):PE X (.BoolOp .Or (a::b::rest) pos) (mOrV ta tb):=by
 have e:mOrV ta tb=tOrV ta tb:=by funext σ H Q;unfold mOrV tOrV;rw[c1r]
 rw[e];exact pe_or ha hb
def mIx(K:W.Frag):R2:=λx y H Q=>match x,y with
 | .ref p,.int i=>(∃xs v,SqL K H p xs/\atI xs i=some v/\Q v H)\/∃xs v,SqT K H p xs/\atI xs i=some v/\Q v H
 | .str z,.int i=>z.length<=sizeLine/\∃c,atI z.cps.toList i=some c/\Q (.str ⟨#[c]⟩) H
 |_,_=>False
theorem mi_seq:IxR X (mIx X.K):=by
 intro value slice pj s σ H x y v u Q I rx ry h hs;refine ix_seq value slice pj s σ H x y v u Q I rx ry ?_ hs;cases x<;>cases y<;>first
  |exact(show False from h).elim
  | (rcases h with⟨xs,v,h1,h2,h3⟩|⟨xs,v,h1,h2,h3⟩
     ·exact .inl ⟨_,xs,_,v,rfl,rfl,h1,h2,h3⟩
     ·exact .inr (.inl ⟨_,xs,_,v,rfl,rfl,h1,h2,h3⟩))
  | (obtain⟨h1,c,h2,h3⟩:=h;exact .inr (.inr ⟨_,_,c,rfl,rfl,h1,h2,h3⟩))
def inS(i j:Str):Bool:=!(Builtin.Str.occurrences j i 0 j.length 1).isEmpty
def mInS(n:Bool):R2:=λx y H Q=>match x,y with
 | .str i,.str j=>Q (.bl (n^^inS i j)) H
 |_,_=>False
theorem b7q:OpR X (compareOp .In) (mInS false):=c8l.imp λx y H Q h=>by
 cases x<;>cases y<;>first|exact(show False from h).elim|exact⟨_,_,rfl,rfl,by simpa[mInS,inS]using h⟩
def mI(R:Option Int->Hp->Prop):VK:=λx H1=>match x with| .int i=>R (some i) H1|_=>False
def c1v(t:TE):TO:=λσ H Q=>t σ H (mI Q)
theorem a9h(h:PE X e te):PO X (some e) (c1v te):=by
 have q:c1v te=tPart te:=by
  funext σ H Q
  unfold c1v tPart
  congr 1
  funext x H1
  cases x<;>simp[mI]
 rw[q];exact po_some h
def mLen(K:W.Frag):List V->Hp->VK->Prop:=λvs H Q=>match vs with
 | [.str y]=>y.length<=sizeLine/\Q (.int y.length) H
 | [.ref p]=>(∃xs,SqL K H p xs/\Q (.int xs.length) H)\/∃xs,SqT K H p xs/\Q (.int xs.length) H
 |_=>False
theorem mc_len:a2w X (.builtin "len") (mLen X.K):=by
 intro pj s σ H xs us Q I r h;refine d1v pj s σ H xs us Q I r ?_;rcases xs with _|⟨x,_|⟨y,ys⟩⟩
 ·exact(show False from h).elim
 ·cases x with
  |str y=>
   have h:y.length<=sizeLine/\Q (.int y.length) H:=h;exact⟨_,_,rfl,⟨h.1,rfl⟩,h.2⟩
  |ref p=>
   have h:(∃xs,SqL X.K H p xs/\Q (.int xs.length) H)\/∃xs,SqT X.K H p xs/\Q (.int xs.length) H:=h;rcases h with⟨ys,h1,h2⟩|⟨ys,h1,h2⟩
   ·exact⟨_,_,rfl,.inl ⟨ys,h1,rfl⟩,h2⟩
   ·exact⟨_,_,rfl,.inr ⟨ys,h1,rfl⟩,h2⟩
  |_=>exact(show False from h).elim
 ·cases x<;>exact(show False from h).elim
theorem c2n(K:FG)(t:Value):W.kitOne K t t=some true:=by
 unfold W.kitOne;rw[if_pos qz]
theorem c5y:∀{bs:List Bool}{us:List Value},Vals (bs.map V.bl) us->us=bs.map Value.bool
 | [],_,.nil=>rfl
 |b::bs,_,.cons r t=>by
  have r:_=Value.bool b:=r;rw[Zt,r,c5y t]
theorem all_range(bs:List Bool):((List.range bs.length).all λi=>bs.getD i true)=bs.all id:=by
 rw[Xo,Xn,Xn]
 constructor
 ·intro h x hx;obtain⟨i,hi,e⟩:=S2 hx;have:=h i (Y2.mpr hi);rw[Yd,Za hi]at this
  simpa[e]using this
 ·intro h i hi;have hi:=Y2.mp hi;rw[Yd,Za hi];exact h _ (Z6 hi)
def mAll(K:W.Frag)(f:List Bool->Bool):List V->Hp->VK->Prop:=λvs H Q=>match vs with
 | [.ref p]=>∃bs:List Bool,SqL K H p (bs.map V.bl)/\Q (.bl (f bs)) H
 |_=>False
theorem c9f{pj:List (Addr×Obj)}{s:Shared}{σ:St}{H:Hp}{p:Addr}{bs:List Bool}{Q:VK}(hc:X.calm=true)(I:Inv X pj σ H s)(hs:SqL X.K H p (bs.map V.bl))(f:(Nat->Bool)->Nat->Bool)(q:Q (.bl (f (λi=>bs.getD i true) bs.length)) H){E:Value->Shared->Prop}:
  wpAny (model X.prog X.w) X.A.in1 (pyIter (.ref p)) (λit s2=>∃J fp wr n P St tr,it=.ref J/\Walks X.prog X.w X.A.in1 J fp wr n P St/\St 0 s2.heap/\TruthOf X.prog X.w X.A.in1 P tr/\
   ∀h' tk,(∀b o,b∉wr->s2.heap.get? b=some o->h'.get? b=some o)->EP X pj σ Q (.bool (f tr n)) { s2 with heap:=h',toks:=tk}) E s:=by
 obtain⟨its,r,pl,hz⟩:=I.list hs;have e:=c5y r;subst e;have hl:p<s.heap.objs.size:=by
  obtain⟨o,n,h1,_⟩:=pl;exact Zq h1
 refine Vs pl.isList ?_
 refine⟨s.heap.objs.size,[s.heap.objs.size,p],[s.heap.objs.size],(bs.map Value.bool).toArray.size,_,_,λi=>bs.getD i true,rfl,Walks.list (A:=X.A.in1) (show X.A.in1.handled=none from I.ok.hd hc) s.heap.objs.size p (Z2 hl) (bs.map Value.bool).toArray,
  ⟨⟨_,Zu _ rfl,rfl,rfl⟩,pl.isList.at λo e=>Zh _ e⟩,λi v s' Q' E' hv hq=>?_,λh' tk hk=>?_⟩
 ·have hv:(bs.map Value.bool).toArray[i]? =some v:=hv
  rw[V6,Zv]at hv;cases e:bs[i]? with
  |none=>rw[e]at hv;cases hv
  |some b=>
   rw[e]at hv;have hv:Value.bool b=v:=Zl hv;subst hv;have hq:Q' (bs.getD i true) s':=hq;rw[Yd,e]at hq;exact Y8 hq
 ·refine⟨.bl _,H,I.kept (λb o e=>hk b o ?_ (Zh _ e)),rfl,by simpa using q⟩;intro z;have z:b=s.heap.objs.size:=by simpa using z
  exact absurd (Zq e) (by rw[z];exact Y3 _)
theorem mc_all(hc:X.calm=true):a2w X (.builtin "all") (mAll X.K λbs=>bs.all id):=by
 intro pj s σ H xs us Q I r h;unfold mAll at h;split at h
 ·obtain⟨u,rfl,r1⟩:=vals1 r;cases r1;obtain⟨bs,hs,q⟩:=h;exact call_all_walk (c9f hc I hs (λtr n=>(List.range n).all tr) (by rw[all_range];exact q))
 ·exact h.elim
end
section
variable{X:Cx}{a b c e:Expr}{ta tb tc te:TE}{pos:Pos}
def b9f:V->List V->Hp->VK->Prop:=λx vs H Q=>match x,vs with
 | .ref l,[y]=>∃xs,H l=some (.lst xs)/\xs.length<sizeLine/\Q .non (upd H l (.lst (xs++[y])))
 |_,_=>False
theorem a2d:MtR X "list.append" b9f:=by
 intro pj s σ H x xs v us Q I rx rs h;refine b3s pj s σ H x xs v us Q I rx rs ?_;unfold b9f at h;split at h
 ·obtain⟨ys,h1,h2,h3⟩:=h;exact⟨_,ys,_,rfl,rfl,h1,h2,h3⟩
 ·exact h.elim
def mPop:V->List V->Hp->VK->Prop:=λx vs H Q=>match x,vs with
 | .ref l,[]=>∃xs y,H l=some (.lst (xs++[y]))/\Q y (upd H l (.lst xs))
 |_,_=>False
theorem b3w:MtR X "list.pop" mPop:=by
 intro pj s σ H x xs v us Q I rx rs h;refine mt_pop pj s σ H x xs v us Q I rx rs ?_;unfold mPop at h;split at h
 ·obtain⟨ys,y,h1,h2⟩:=h;exact⟨_,_,y,rfl,rfl,h1,qz,by rw[List.dropLast_concat];exact h2⟩
 ·exact h.elim
def mUn(g:Int->Int):V->Hp->VK->Prop:=λx H Q=>match x with| .int i=>Q (.int (g i)) H|_=>False
theorem mu_neg:UnR X (unaryOp .USub) (mUn λi=>-i):=by
 intro pj s σ H x v Q I rx h;refine un_neg pj s σ H x v Q I rx ?_;cases x<;>first|exact(show False from h).elim|exact⟨_,rfl,h⟩
end
section
variable{X:Cx}
theorem a7w{x:Str}{z:Str}{tk:Tok}{pos:Pos}(hg:Gl X x)(hm:X.mg x=some (.str z tk))(hd:(x==("__debug__":Str))=false:=by decide):PE X (.Name x pos) (tC (.str z)):=c5p hg hm ⟨tk,rfl⟩ hd
theorem a9i{x:Str}{z:Int}{tk:Tok}{pos:Pos}(hg:Gl X x)(hm:X.mg x=some (.int z tk))(hd:(x==("__debug__":Str))=false:=by decide):PE X (.Name x pos) (tC (.int z)):=c5p hg hm ⟨tk,rfl⟩ hd
end
section
variable{X:Cx}{a b c e o:Expr}{es:List Expr}{ta tb tc te to:TE}{t:TA}{pos:Pos}{tg l:Expr}{tl:TE}
theorem c2o{x:Str}{n:String}{pos:Pos}(hg:Gl X x)(hm:X.mg x=none)(hv:bootBuiltins x=some (.type n))(hn:x≠"__name__":=by decide)(hd:(x==("__debug__":Str))=false:=by decide):PE X (.Name x pos) (tC (.ty n)):=pe_bltn hg hm hv rfl hn hd
theorem a2b(K:FG)(h:X.K=K):OpR X (binaryOp .Add) (mAdd K):=h▸mo_add
theorem a3t(K:FG)(h:X.K=K)(ha:PE X a ta)(he:∀whole,isTrue a X.env whole=(do let v <-whole;standAt a.pos;holding [v] (truthy v)):=by intro _;rfl):PT X a (mTrue K ta):=h▸mt_tru ha he
theorem a0h(K:FG)(h:X.K=K):IxR X (mIx K):=h▸mi_seq
theorem a3u(K:FG)(h:X.K=K):a2w X (.builtin "len") (mLen K):=h▸mc_len
theorem kc_all(K:FG)(h:X.K=K)(hc:X.calm=true):a2w X (.builtin "all") (mAll K λbs=>bs.all id):=h▸mc_all hc
theorem a1l(K:FG)(h:X.K=K)(hl:PE X l tl):PI X tg l (iList K tl):=h▸pi_list hl
theorem b5h(K:FG)(h:X.K=K)(hl:PE X l tl):PI X tg l (iTup K tl):=h▸pi_tup hl
theorem b3x(K:FG)(h:X.K=K){name:Str}{apos cpos:Pos}{T id:String}{r:V->List V->Hp->VK->Prop}(pa:PlainAttrs T)(slot:Slot T name id)(hty:typeOf (.builtin id)=pure (.type "method_descriptor"))(hm:MtR X id r)(ho:PE X o to)
  (hbase:attributeBase o name X.env (eval o X.env)=eval o X.env:=by rfl)(hline:(apos.endLine==cpos.line)=true:=by rfl):PE X (.Call (.Attribute o name apos) [] [] cpos) (tBM0 K T r to):=h▸pe_bm0 pa slot hty hm ho hbase hline
theorem a2y(K:FG)(h:X.K=K){name:Str}{apos cpos:Pos}{T id:String}{r:V->List V->Hp->VK->Prop}(pa:PlainAttrs T)(slot:Slot T name id)(hty:typeOf (.builtin id)=pure (.type "method_descriptor"))(hm:MtR X id r)(ho:PE X o to)(ha:PA X (e::es) t)
  (hbase:attributeBase o name X.env (eval o X.env)=eval o X.env:=by rfl)
  (hfew:((backTo cpos (starEach (e::es) X.env)).all (λx=>!x.1)&&(backToKw cpos (keywordEach [] X.env)).all (λx=>x.1.isSome)
   &&decide ((e::es).length+([]:List Keyword).length+(if([]:List Keyword).isEmpty then 0 else 1)<30))=true:=by rfl)
  (hline:(apos.endLine==cpos.line)=true:=by rfl)(hs:starEach (e::es) X.env=(false,eval e X.env)::starEach es X.env:=by rfl)(hplain:(backTo cpos (starEach es X.env)).any (·.1)=false:=by rfl):
  PE X (.Call (.Attribute o name apos) (e::es) [] cpos) (tBM K T r to t):=h▸pe_bm pa slot hty hm ho ha hbase hfew hline hs hplain
theorem xor_n{b c:Bool}(h:(false^^b)=c):b=c:=by cases b<;>exact h
end
theorem a7i{α:Type}{xs:List α}{i:Int}(h0:0<=i)(h1:i<(xs.length:Int)):∃v,atI xs i=some v/\xs[i.toNat]? =some v:=by
 have hk:i.toNat<xs.length:=by omega
 have ek:i=((i.toNat:Nat):Int):=by omega
 have q:xs[i.toNat]? =some xs[i.toNat]:=Za hk
 refine⟨xs[i.toNat],?_,q⟩;have:=a7e q;rw[<-ek]at this;exact this
theorem a0l{H:Hp}{p:Addr}(h:H p=none)(o:HO):Same H (upd H p o):=λb u q=>by rw[a0d (a0p q h)];exact q
theorem a0x{H H':Hp}{p:Addr}{o:HO}(e:Same H H')(h:H p=none):Same H (upd H' p o):=λb u q=>by rw[a0d (a0p q h)];exact e b u q
theorem Same.tup{K:FG}{H H':Hp}{a:Addr}{xs:List V}(e:Same H H')(h:SqT K H a xs):SqT K H' a xs:=by
 rcases h with(h|⟨o,h⟩)|h
 ·exact .inl (.inl (e _ _ h))
 ·exact .inl (.inr ⟨o,e _ _ h⟩)
 ·exact .inr h
theorem c5c{i j:Int}(h:-(2^64)<j/\j<2^64):IntMulOk i j:=CMul.ok (.inr h)
theorem b7r{i j:Int}(h:-(2^64)<i/\i<2^64):IntMulOk i j:=CMul.ok (.inl h)
section
variable{K:W.Frag}{σ:St}{H:Hp}{Q:VK}{D:Ends}{ta tb tc te:TE}{t u:TS}{A B:TT}{P:Bool->Hp->Prop}{v x y:V}{i j:Int}{n:Nat}{b:Bool}{p q:Str}
theorem mVar_i(h:σ[n]? =some (some v))(k:Q v H):mVar n σ H Q:=by unfold mVar;rw[h];exact k
theorem tC_i(k:Q v H):tC v σ H Q:=k
theorem tOp_i{r:R2}(k:ta σ H λx H1=>tb σ H1 λy H2=>r x y H2 Q):tOp r ta tb σ H Q:=k
theorem tUn_i{r:V->Hp->VK->Prop}(k:ta σ H λx H1=>r x H1 Q):tUn r ta σ H Q:=k
theorem mUn_i{g:Int->Int}(k:Q (.int (g i)) H):mUn g (.int i) H Q:=k
theorem m20_i{g:Int->Int->V}(k:Q (g i j) H):m20 g (.int i) (.int j) H Q:=k
theorem m2_i{C:Int->Int->Prop}{g:Int->Int->V}(c:C i j)(k:Q (g i j) H):m2 C g (.int i) (.int j) H Q:=⟨c,k⟩
theorem mAdd_i(k:Q (.int (i+j)) H):mAdd K (.int i) (.int j) H Q:=k
theorem c2p(c:p.length+q.length<=sizeLine)(k:Q (.str (p++q)) H):mAdd K (.str p) (.str q) H Q:=⟨c,k⟩
theorem c2q(c:IntMulOk i j)(k:Q (.int (i*j)) H):mMul (.int i) (.int j) H Q:=⟨c,k⟩
theorem mEq_i(k:Q (.bl (b^^decide (i=j))) H):mEq b (.int i) (.int j) H Q:=k
theorem mEq_s(k:Q (.bl (b^^decide (p=q))) H):mEq b (.str p) (.str q) H Q:=k
theorem mInS_i(k:Q (.bl (b^^inS p q)) H):mInS b (.str p) (.str q) H Q:=k
theorem mB_i(k:P b H):mB P (.bl b) H:=k
theorem mTest_i(k:ta σ H (mB P)):c1t ta σ H P:=k
theorem mTrue_i(k:ta σ H (mTru K P)):mTrue K ta σ H P:=k
theorem mTru_b(k:P b H):mTru K P (.bl b) H:=k
theorem d2g{r r':R2}(k:ta σ H λx H1=>tb σ H1 λy H2=>r x y H2 (mB λk H3=>if k=true then tc σ H3 λw' H4=>r' y w' H4 Q else Q (.bl false) H3)):b7o r r' ta tb tc σ H Q:=k
theorem mAndV_i(k:ta σ H (mB λc H1=>if c=true then tb σ H1 Q else Q (.bl false) H1)):c1u ta tb σ H Q:=k
theorem mOrV_i(k:ta σ H (mB λc H1=>if c=true then Q (.bl true) H1 else tb σ H1 Q)):mOrV ta tb σ H Q:=k
theorem tIf_i(k:A σ H λc H1=>if c=true then ta σ H1 Q else tb σ H1 Q):tIf A ta tb σ H Q:=k
theorem tAnd_i(k:A σ H λc H1=>if c=true then B σ H1 P else P false H1):tAnd A B σ H P:=k
theorem tOr_i(k:A σ H λc H1=>if c=true then P true H1 else B σ H1 P):tOr A B σ H P:=k
theorem tNot_i(k:A σ H λc H1=>P (!c) H1):tNot A σ H P:=k
theorem tSeq_i(k:t { D with nx:=u D} σ H):tSeq t u D σ H:=k
theorem a9j(k:D.nx σ H):tNext D σ H:=k
theorem tRet_i(k:te σ H D.rt):tRet te D σ H:=k
theorem tIfS_i(k:A σ H λb H1=>if b=true then t D σ H1 else u D σ H1):tIfS A t u D σ H:=k
theorem tAsg_i{g:TG}(k:te σ H λx H1=>g x σ H1 D.nx):tAsg te g D σ H:=k
theorem tDrop_i(k:te σ H λ_ H1=>D.nx σ H1):tDrop te D σ H:=k
theorem b9g{N:St->Hp->Prop}(k:N (σ.set n (some v)) H):b2c n v σ H N:=k
theorem tCB_i{r:List V->Hp->VK->Prop}{a:TA}(k:a σ H λvs H1=>r vs H1 Q):tCB r a σ H Q:=k
theorem tCons_i{a:TA}{R:List V->Hp->Prop}(k:ta σ H λx H1=>a σ H1 λxs H2=>R (x::xs) H2):tCons ta a σ H R:=k
theorem tNil_i{R:List V->Hp->Prop}(k:R [] H):tNil σ H R:=k
theorem tBM_i{T:String}{r:V->List V->Hp->VK->Prop}{a:TA}(k:ta σ H λx H1=>tyV K T x H1/\a σ H1 λxs H2=>r x xs H2 Q):tBM K T r ta a σ H Q:=k
theorem tBM0_i{T:String}{r:V->List V->Hp->VK->Prop}(k:ta σ H λx H1=>tyV K T x H1/\r x [] H1 Q):tBM0 K T r ta σ H Q:=k
theorem tTup_i{a:TA}(k:a σ H λxs H1=>xs.length<=sizeLine/\∀p,H1 p=none->Q (.ref p) (upd H1 p (.tup xs))):tTup a σ H Q:=k
theorem tLst_i{a:TA}(k:a σ H λxs H1=>xs.length<=sizeLine/\∀p,H1 p=none->Q (.ref p) (upd H1 p (.lst xs))):tLst a σ H Q:=k
theorem tSl_i{r:V->Option Int->Option Int->Hp->VK->Prop}{tl th:TO}(k:te σ H λx H1=>tl σ H1 λl H2=>th σ H2 λu H3=>r x l u H3 Q):tSl r te tl th σ H Q:=k
theorem c9g{R:Option Int->Hp->Prop}(k:R none H):c5v σ H R:=k
theorem mPart_i{R:Option Int->Hp->Prop}(k:te σ H (mI R)):c1v te σ H R:=k
theorem mI_i{R:Option Int->Hp->Prop}(k:R (some i) H):mI R (.int i) H:=k
theorem mLen_s(c:p.length<=sizeLine)(k:Q (.int p.length) H):mLen K [.str p] H Q:=⟨c,k⟩
theorem a5x{a:Addr}{xs:List V}(c:SqL K H a xs)(k:Q (.int xs.length) H):mLen K [.ref a] H Q:=.inl ⟨xs,c,k⟩
theorem c2r{a:Addr}{xs:List V}(c:SqT K H a xs)(k:Q (.int xs.length) H):mLen K [.ref a] H Q:=.inr ⟨xs,c,k⟩
theorem a1j{a:Addr}{xs:List V}(c:SqL K H a xs)(e:atI xs i=some v)(k:Q v H):mIx K (.ref a) (.int i) H Q:=.inl ⟨xs,v,c,e,k⟩
theorem a0m{a:Addr}{xs:List V}(c:SqT K H a xs)(e:atI xs i=some v)(k:Q v H):mIx K (.ref a) (.int i) H Q:=.inr ⟨xs,v,c,e,k⟩
theorem mIx_s{c:Nat}(z:p.length<=sizeLine)(e:atI p.cps.toList i=some c)(k:Q (.str ⟨#[c]⟩) H):mIx K (.str p) (.int i) H Q:=⟨z,c,e,k⟩
theorem a1w{a:Addr}{xs:List V}(e:H a=some (.lst xs))(c:xs.length<sizeLine)(k:Q .non (upd H a (.lst (xs++[v])))):b9f (.ref a) [v] H Q:=⟨xs,e,c,k⟩
theorem iteB{c d:Prop}(h1:b=true->c)(h2:b=false->d):if b=true then c else d:=by
 cases b with
 |true=>exact h1 rfl
 |false=>exact h2 rfl
theorem d2h{sp:Sp}{E:XK}{a:TA}(k:a σ H λvs H1=>sp vs H1 Q E):tCall sp [] E a σ H Q:=by
 unfold tCall;have e:(λ(vs:List V) (H1:Hp)=>sp (vs++[]) H1 Q E)=λvs H1=>sp vs H1 Q E:=by funext vs H1;rw[Y5]
 rw[e];exact k
theorem tFor_i{wi:TI}{g:TG}(k:wi σ H λJ H1=>ForW J g t D σ H1):tFor wi g t D σ H:=k
theorem iStr_i{R:It->Hp->Prop}(k:ta σ H λv H1=>∃x,v=.str x/\R (Its x) H1):iStr ta σ H R:=k
theorem iList_i{R:It->Hp->Prop}(k:ta σ H λx H1=>∃a,x=.ref a/\(∃xs,SqL K H1 a xs)/\R (Itl K a) H1):iList K ta σ H R:=k
theorem iTup_i{R:It->Hp->Prop}(k:ta σ H λx H1=>∃a,x=.ref a/\(∃xs,SqT K H1 a xs)/\R (Itt K a) H1):iTup K ta σ H R:=k
theorem iRng1_i{a:TA}{R:It->Hp->Prop}(k:a σ H λvs H1=>∃j:Int,vs=[.int j]/\-(2^62)<=j/\j<2^62/\R (Itr 0 j.toNat) H1):iRng1 a σ H R:=k
theorem tComp_i{wi:TI}{tt:TT}(k:wi σ H λJ H1=>∀D,H1 D=none->c1q J tt te σ Q D H1):tComp wi tt te σ H Q:=k
theorem b6i(Post:St->Hp->Prop)(h1:∀σ' H',Post σ' H'->u D σ' H')(h2:(∀σ' H',Post σ' H'->u D σ' H')->t { D with nx:=u D} σ H):tSeq t u D σ H:=h2 h1
end
mutual
inductive Den(K:W.Frag)(H:Hp):V->PyData->Prop
 |non:Den K H .non .none
 |bl (b:Bool):Den K H (.bl b) (.bool b)
 |int (i:Int):Den K H (.int i) (.int i)
 |str (x:Str):Den K H (.str x) (.str x)
 |tup {a:Addr} {us:List V} {ds:List PyData}:SqT K H a us->DenL K H us ds->Den K H (.ref a) (.tuple ds)
inductive DenL(K:W.Frag)(H:Hp):List V->List PyData->Prop
 |nil:DenL K H [] []
 |cons {u:V} {us:List V} {d:PyData} {ds:List PyData}:Den K H u d->DenL K H us ds->DenL K H (u::us) (d::ds)
end
mutual
theorem Den.monoT{K:FG}{H H':Hp}(e:∀a xs,SqT K H a xs->SqT K H' a xs):∀{v:V}{d:PyData},Den K H v d->Den K H' v d
 |_,_,.non=>.non
 |_,_,.bl b=>.bl b
 |_,_,.int i=>.int i
 |_,_,.str x=>.str x
 |_,_,.tup h l=>.tup (e _ _ h) (DenL.monoT e l)
theorem DenL.monoT{K:FG}{H H':Hp}(e:∀a xs,SqT K H a xs->SqT K H' a xs):∀{v:List V}{d:List PyData},DenL K H v d->DenL K H' v d
 |_,_,.nil=>.nil
 |_,_,.cons h l=>.cons (Den.monoT e h) (DenL.monoT e l)
end
theorem Den.mono{K:FG}{H H':Hp}(e:Same H H'){v:V}{d:PyData}(h:Den K H v d):Den K H' v d:=h.monoT λ_ _ q=>e.tup q
theorem DenL.mono{K:FG}{H H':Hp}(e:Same H H'){v:List V}{d:List PyData}(h:DenL K H v d):DenL K H' v d:=h.monoT λ_ _ q=>e.tup q
theorem b9h{K:FG}{H:Hp}{p:Addr}{ys:List V}{o:HO}(h:H p=some (.lst ys)):∀a xs,SqT K H a xs->SqT K (upd H p o) a xs:=λa xs q=>by
 rcases q with(q|⟨o',q⟩)|q
 ·exact .inl (.inl (by rw[a0d (a0z q h (λz=>by cases z))];exact q))
 ·exact .inl (.inr ⟨o',by rw[a0d (a0z q h (λz=>by cases z))];exact q⟩)
 ·exact .inr q
theorem Den.lst{K:FG}{H:Hp}{p:Addr}{ys:List V}{o:HO}(h:H p=some (.lst ys)){v:V}{d:PyData}(q:Den K H v d):Den K (upd H p o) v d:=q.monoT (b9h h)
theorem DenL.lst{K:FG}{H:Hp}{p:Addr}{ys:List V}{o:HO}(h:H p=some (.lst ys)){v:List V}{d:List PyData}(q:DenL K H v d):DenL K (upd H p o) v d:=q.monoT (b9h h)
section
variable{K:W.Frag}{H:Hp}
theorem DenL.length:∀{us:List V}{ds:List PyData},DenL K H us ds->us.length=ds.length
 |_,_,.nil=>rfl
 |_,_,.cons _ l=>by rw[length_cons,length_cons,DenL.length l]
theorem DenL.get:∀{us:List V}{ds:List PyData}{i:Nat}{u:V},DenL K H us ds->us[i]? =some u->∃d,ds[i]? =some d/\Den K H u d
 |_,_,_,_,.nil,e=>by simp at e
 |_,_,0,_,.cons h _,e=>by simp at e;subst e;exact⟨_,rfl,h⟩
 |_,_,i+1,u,.cons _ l,e=>by
  obtain⟨d,h1,h2⟩:=DenL.get (i:=i) (u:=u) l (by simpa using e);exact⟨d,by simpa using h1,h2⟩
theorem DenL.append:∀{us vs:List V}{ds es:List PyData},DenL K H us ds->DenL K H vs es->DenL K H (us++vs) (ds++es)
 |_,_,_,_,.nil,l=>l
 |_,_,_,_,.cons h t,l=>.cons h (DenL.append t l)
theorem DenL.take:∀{us:List V}{ds:List PyData}(n:Nat),DenL K H us ds->DenL K H (us.take n) (ds.take n)
 |_,_,0,_=>.nil
 |_,_,_+1,.nil=>.nil
 |_,_,n+1,.cons h t=>.cons h (DenL.take n t)
theorem DenL.drop:∀{us:List V}{ds:List PyData}(n:Nat),DenL K H us ds->DenL K H (us.drop n) (ds.drop n)
 |_,_,0,l=>l
 |_,_,_+1,.nil=>.nil
 |_,_,n+1,.cons _ t=>DenL.drop n t
end
section
variable{X:Cx}{pj:List (Addr×Obj)}{σ:St}{H:Hp}{s:Shared}
theorem a2v:∀{ds:List PyData}{i:Nat}{d:PyData},ds[i]? =some d->d.depth<=PyData.depthAll ds
 | [],_,_,e=>by simp at e
 |x::r,0,d,e=>by simp at e;subst e;unfold PyData.depthAll;omega
 |x::r,i+1,d,e=>by
  have:=a2v (ds:=r) (i:=i) (d:=d) (by simpa using e);unfold PyData.depthAll;omega
end
section
variable{X:Cx}{a b c e:Expr}{ta tb tc te:TE}{pos:Pos}{tg l:Expr}{tl:TE}
theorem a2z{k:Nat}{A:Around}(hr:Room k A):A.units+150<cLine:=by have:=hr.un;omega
def mSlL(K:W.Frag):V->Option Int->Option Int->Hp->VK->Prop:=λx lo hi H Q=>∃a xs,x=.ref a/\SqL K H a xs/\∀p,H p=none->Q (.ref p) (upd H p (.lst (cutV xs lo hi)))
theorem a9k(K:FG)(h:X.K=K):SlR X (mSlL K):=h▸sl_list
def mTup(K:W.Frag):List V->Hp->VK->Prop:=λvs H Q=>∃p ys,vs=[.ref p]/\((SqL K H p ys/\∀l,H l=none->Q (.ref l) (upd H l (.tup ys)))\/(SqT K H p ys/\Q (.ref p) H))
theorem c2s(K:FG)(h:X.K=K):a2w X (.type "tuple") (mTup K):=h▸c1i
def mLst(K:W.Frag):List V->Hp->VK->Prop:=λvs H Q=>∃p ys,vs=[.ref p]/\(SqL K H p ys\/SqT K H p ys)/\∀l,H l=none->Q (.ref l) (upd H l (.lst ys))
theorem b5i(K:FG)(h:X.K=K):a2w X (.type "list") (mLst K):=h▸c2h
end
open PySem.AutoSeq1 in
open PySem.MeetsSeq PySem.MeetsSeq2 PySem.MeetsSeq3 in
theorem c7c(l:Addr)(items:Array Value)(n:Nat)(b:Addr)(items2:Array Value)(n2:Nat)(dd:Option Addr)(sl:Array (Option Value))(hs0:¬(!items.isEmpty&&Builtin.List.listTooLong (items.size+items2.size))=true)(hs1:items.size<=sizeLine)(hs2:items.size+items2.size<=sizeLine+1):
  Meets (Builtin.«list.extend» ⟨[.ref l,.ref b],[]⟩) (λ_ R s=>s.heap.get? l=some { cls:=.type "list",dict:=none,data:=.seq items n,slots:=#[]}/\s.heap.get? b=some { cls:=.type "tuple",dict:=dd,data:=.seq items2 n2,slots:=sl}/\
   R (.ok (.ret Value.none)) { s with heap:=s.heap.update l (Obj.mapSeq λx=>x++items2),toks:=s.toks}):=
 .of_wp λprog w A R s h=>by
  obtain⟨hp,g,d,tk,os⟩:=s;obtain⟨hl,hb,h⟩:=h;have f1:=idx_int;have f2:=PySem.AutoSeq1.sub_tuple_tuple;have f3:=PySem.AutoSeq1.sub_list_list;have f4:=PySem.AutoSeq1.sub_tuple_list;have f5:=PySem.AutoSeq1.sub_list_tuple;have hz':(items++items2).size<=sizeLine+1:=by rw[Array.size_append];exact hs2
  wp_walk using(V4 hl rfl (hz:=hs1) (_hz':=hz')),wpAny_loadPart' hl,wpAny_loadPart' hb
  exact⟨_,rfl,h⟩
section
variable{X:Cx}
def mExt(K:W.Frag):V->List V->Hp->VK->Prop:=λx vs H Q=>∃l b xs zs,x=.ref l/\vs=[.ref b]/\H l=some (.lst xs)/\(H b=some (.lst zs)\/SqT K H b zs)/\xs.length+zs.length<=sizeLine/\Q .non (upd H l (.lst (xs++zs)))
theorem b0m(K:FG)(hK:X.K=K):MtR X "list.extend" (mExt K):=by
 subst hK;intro pj s σ H x vs v us Q I rx rv h;obtain⟨l,b,xs,zs,e1,e2,hH,hB,hz,q⟩:=h;rcases hB with hB|hB
 ·exact c8t pj s σ H x vs v us Q I rx rv ⟨l,b,xs,zs,e1,e2,hH,hB,hz,q⟩
 ·subst e1 e2;cases rx;obtain⟨u,rfl,ru⟩:=rv.one;cases ru;obtain⟨z,its,n,r,hl,e⟩:=I.lstM hH;obtain⟨its2,r2,pl,z2⟩:=I.tuple hB;obtain⟨⟨cls,dd,data,sl⟩,ho,hc,n2,hd⟩:=pl;simp only at hc hd;subst hc hd;have hl2:=r2.length;have hsz:its.toArray.size+its2.toArray.size<=sizeLine:=by rw[Zj,Zj];omega
  have hlong:¬(!its.toArray.isEmpty&&Builtin.List.listTooLong (its.toArray.size+its2.toArray.size))=true:=by
   rw[b6e hsz,Ti];exact Zo
  refine Vk X8 ⟨_,e,rfl⟩ S7 (Su _ _) (c7c l its.toArray n b its2.toArray n2 dd sl hlong (by rw[Zj];omega) qo) ⟨e,ho,?_⟩;refine⟨.non,_,I.lset (its':=its++its2) hH e qz (r.append r2) ?_,rfl,q⟩;rw[Zk];omega
end
section
variable{X:Cx}
theorem c2t{K:FG}{H:Hp}{a:Addr}{us:List V}{ds:List PyData}{lo hi:Option Int}(hl:DenL K H us ds):DenL K H (cutV us lo hi) ((ds.drop (HT.sIx ds.length 0 lo)).take (HT.sIx ds.length ds.length hi-HT.sIx ds.length 0 lo)):=by
 unfold cutV;rw[hl.length];exact(hl.drop _).take _
end
section
variable{σ:St}{H:Hp}{D:Ends}{t:TS}{c:TT}
def c9h(c:TT)(t:TS)(D:Ends)(σ:St)(H:Hp):Prop:=c2b c t D σ H
theorem d2i(k:c9h c t D σ H):c2b c t D σ H:=k
theorem a4s(Pv:Nat->St->Hp->Prop)(n:Nat)(h0:Pv n σ H)
  (hs:∀n σ H (R:Bool->Hp->Prop),Pv n σ H->(∀H1,(∀(D':Ends),D'.rt=D.rt->D'.bk=D.nx->(∀σ' H' m,m<n->Pv m σ' H'->D'.nx σ' H')->(∀σ' H' m,m<n->Pv m σ' H'->D'.ct σ' H')->t D' σ H1)->R true H1)->(∀H1,D.nx σ H1->R false H1)->c σ H R):c9h c t D σ H:=by
 refine⟨Pv,⟨n,h0⟩,λm σ H p=>?_⟩;refine hs m σ H _ p (λH1 k=>?_) (λH1 k=>k);exact⟨λσ' H'=>∃m',m'<m/\Pv m' σ' H',λ_ _ h=>h,k _ rfl rfl (λ_ _ m' hm hp=>⟨m',hm,hp⟩) (λ_ _ m' hm hp=>⟨m',hm,hp⟩)⟩
end
theorem kit_ty{K:FG}{T n:String}{b:Bool}(h:(if(Value.type T==Value.type n)=true then some true else if W.kitMeta n=true then(fastBuiltinMro T).map (·.contains (.type n))else none)=some b):W.kitOne K (.type T) (.type n)=some b:=h
section
variable{X:Cx}{a:Expr}{ta:TE}
def tyN(K:W.Frag)(H:Hp):V->String->Prop
 | .non,T=>T="NoneType"
 | .bl _,T=>T="bool"
 | .int _,T=>T="int"
 | .str _,T=>T="str"
 | .ref p,T=>(T="list"/\∃xs,SqL K H p xs)\/(T="tuple"/\∃xs,SqT K H p xs)\/(T="dict"/\∃kvs,H p=some (.dK kvs))
 |_,_=>False
def mIs(K:W.Frag):List V->Hp->VK->Prop:=λvs H Q=>∃x n T b,vs=[x,.ty n]/\tyN K H x T/\(∀K':W.Frag,W.kitOne K' (.type T) (.type n)=some b)/\Q (.bl b) H
theorem kc_is(K:FG)(hK:X.K=K):a2w X (.builtin "isinstance") (mIs K):=by
 subst hK;intro pj s σ H xs us Q I r h;obtain⟨x,n,T,b,rfl,ht,hk,q⟩:=h;obtain⟨u,w',rfl,r1,r2⟩:=vals2 r;cases r2;have fin:∀tk,EP X pj σ Q (.bool b) { s with toks:=tk}:=λtk=>⟨.bl b,H,I.tok _,rfl,q⟩
 cases x with
 |non=>cases ht;exact a8r I r1 .non (hk _) fin
 |bl y=>cases ht;exact a8r I r1 (.bl y) (hk _) fin
 |int i=>cases ht;exact a8r I r1 (.int i) (hk _) fin
 |str z=>cases ht;exact a8r I r1 (.str z) (hk _) fin
 |ref p=>
  cases r1;rcases ht with⟨rfl,xs,hs⟩|⟨rfl,xs,hs⟩|⟨rfl,kvs,hs⟩
  ·obtain⟨its,_,⟨o,n',h1,h2,_⟩,_⟩:=I.list hs;exact X2 Sm I.kIn ⟨o,h1,h2⟩ (hk _) (λz=>nomatch z) fin
  ·obtain⟨its,_,⟨o,h1,h2,_⟩,_⟩:=I.tuple hs;exact X2 W.kitx_tuple I.kIn ⟨o,h1,h2⟩ (hk _) (λz=>nomatch z) fin
  ·exact a8r (x:=.ref p) I rfl (.dK hs) (hk _) fin
 |_=>exact(show False from ht).elim
end
section
variable{K:W.Frag}{H:Hp}{Q:VK}{i:Int}{p:Str}{b:Bool}{a:Addr}{xs:List V}
theorem is_str(k:Q (.bl true) H):mIs K [.str p,.ty "str"] H Q:=⟨_,_,_,true,rfl,rfl,λ_=>c2n _ _,k⟩
theorem is_int(k:Q (.bl true) H):mIs K [.int i,.ty "int"] H Q:=⟨_,_,_,true,rfl,rfl,λ_=>c2n _ _,k⟩
theorem c5d(k:Q (.bl false) H):mIs K [.int i,.ty "bool"] H Q:=⟨_,_,_,false,rfl,rfl,λ_=>kit_ty qk,k⟩
theorem c5z{α:Type}{xs:List α}{i:Int}{v:α}(h:atI xs i=some v):v∈xs:=by
 obtain⟨j,_,e,_⟩:=b5c h;exact Zn e
theorem ints_at{ns:List Int}{i:Int}{v:V}(h:atI (ns.map V.int) i=some v):∃n,v=.int n:=by
 have:=c5z h;obtain⟨n,_,e⟩:=Z1.mp this;exact⟨n,e.symm⟩
theorem b7s{lo hi:Option Int}(c:SqL K H a xs)(k:∀p,H p=none->Q (.ref p) (upd H p (.lst (cutV xs lo hi)))):mSlL K (.ref a) lo hi H Q:=⟨a,xs,rfl,c,k⟩
theorem mTup_l(c:SqL K H a xs)(k:∀l,H l=none->Q (.ref l) (upd H l (.tup xs))):mTup K [.ref a] H Q:=⟨a,xs,rfl,.inl ⟨c,k⟩⟩
theorem c9i(c:SqL K H a xs)(k:∀l,H l=none->Q (.ref l) (upd H l (.lst xs))):mLst K [.ref a] H Q:=⟨a,xs,rfl,.inl c,k⟩
theorem mExt_t{zs:List V}{l:Addr}(e:H l=some (.lst xs))(c:SqT K H a zs)(z:xs.length+zs.length<=sizeLine)(k:Q .non (upd H l (.lst (xs++zs)))):mExt K (.ref l) [.ref a] H Q:=⟨l,a,xs,zs,rfl,rfl,e,.inr c,z,k⟩
theorem c9j{zs:List V}{l:Addr}(e:H l=some (.lst xs))(c:H a=some (.lst zs))(z:xs.length+zs.length<=sizeLine)(k:Q .non (upd H l (.lst (xs++zs)))):mExt K (.ref l) [.ref a] H Q:=⟨l,a,xs,zs,rfl,rfl,e,.inl c,z,k⟩
theorem b3y{l:Addr}{v:V}(e:H l=some (.lst (xs++[v])))(k:Q v (upd H l (.lst xs))):mPop (.ref l) [] H Q:=⟨xs,v,e,k⟩
theorem b1g{q:Addr}{ys:List V}(e1:H a=some (.lst xs))(e2:H q=some (.lst ys))(z:xs.length+ys.length<=sizeLine)(k:∀d,H d=none->Q (.ref d) (upd H d (.lst (xs++ys)))):mAdd K (.ref a) (.ref q) H Q:=.inl ⟨xs,ys,e1,e2,z,k⟩
end
abbrev a5h:Str:=ofString "abcdefghijklmnopqrstuvwxyz"
abbrev c9k:Str:=ofString "ABCDEFGHIJKLMNOPQRSTUVWXYZ"
abbrev figS:Str:=ofString "0123456789"
abbrev one(c:Nat):Str:=⟨#[c]⟩
abbrev a4f(K:W.Frag):Sp:=λvs H Q _=>match vs with| [.ref a,.int k]=>∃ns:List Int,SqL K H a (ns.map V.int)/\0<=k/\k<=1000/\∀v,Q (.int v) H|_=>False
theorem ln{n:Nat}(h:n<=100000):n<=sizeLine:=by rw[Yw];omega
theorem ln1{n:Nat}(h:n<100000):n<sizeLine:=by rw[Yw];omega
section
variable{X:Cx}{e:Expr}{te:TE}{pos:Pos}
def mAug(i:Nat)(te:TE)(ti:TIp):TS:=λD σ H=>∃x,σ[i]? =some (some x)/\te σ H λy H1=>ti x y H1 λz H2=>D.nx (σ.set i (some z)) H2
theorem mps_aug{i:Nat}{x:Str}{op:Operator}{ti:TIp}{pos':Pos}(hN:X.N.Nodup)(hi:X.N[i]? =some x)(hx:Loc X.env.scope x)(he:PE X e te)(ho:PIp X op ti)(hf:X.fn x=true\/X.env.scope.names.lookup x=some .local:=by first|exact .inl rfl|exact .inr rfl|assumption):
  PS X (.AugAssign (.Name x pos') op e pos) (mAug i te ti):=ps_aug hN hi hx he ho hf
def mIAdd:TIp:=λx y H Q=>match x,y with
 | .int i,.int j=>Q (.int (i+j)) H
 | .str i,.str j=>i.length+j.length<=sizeLine/\Q (.str (i++j)) H
 |_,_=>False
theorem b7t:PIp X .Add mIAdd:=by
 intro pj s σ H x y v u Q I rx ry h;refine(OpR.or iop_add c4y) pj s σ H x y v u Q I rx ry ?_;cases x<;>cases y<;>first
  |exact(show False from h).elim
  |exact .inl ⟨_,_,rfl,rfl,h⟩
  |exact .inr ⟨_,_,rfl,rfl,h.1,h.2⟩
end
section
variable{σ:St}{H:Hp}{Q:VK}{D:Ends}{te:TE}{n:Nat}{v:V}{i j:Int}
theorem mAug_i{ti:TIp}(h:σ[n]? =some (some v))(k:te σ H λy H1=>ti v y H1 λz H2=>D.nx (σ.set n (some z)) H2):mAug n te ti D σ H:=⟨v,h,k⟩
theorem mIAdd_i(k:Q (.int (i+j)) H):mIAdd (.int i) (.int j) H Q:=k
end
inductive Trm where
 |num(n:Int)
 |any(x:Str)
 |app(sg:Str)(ks:List Trm)
abbrev numS:Str:=ofString "num"
abbrev anyS:Str:=ofString "any"
abbrev appS:Str:=ofString "app"
mutual
def Trm.data:Trm->PyData
 | .num n=>.tuple [.str numS,.int n]
 | .any x=>.tuple [.str anyS,.str x]
 | .app sg ks=>.tuple [.str appS,.str sg,.tuple (Trm.dataL ks)]
def Trm.dataL:List Trm->List PyData
 | []=>[]
 |t::r=>t.data::Trm.dataL r
end
mutual
def Trm.size:Trm->Nat
 | .num _=>1
 | .any _=>1
 | .app _ ks=>1+Trm.sizeL ks
def Trm.sizeL:List Trm->Nat
 | []=>0
 |t::r=>t.size+Trm.sizeL r
end
theorem Trm.size_pos:∀t:Trm,1<=t.size
 | .num _=>Zm 1
 | .any _=>Zm 1
 | .app _ ks=>by unfold Trm.size;omega
mutual
theorem Trm.depth_le:∀t:Trm,t.data.depth<=2*t.size
 | .num _=>by simp[Trm.data,Trm.size,PyData.depth,PyData.depthAll]
 | .any _=>by simp[Trm.data,Trm.size,PyData.depth,PyData.depthAll]
 | .app _ ks=>by
  have:=Trm.depthL_le ks;simp only[Trm.data,Trm.size,PyData.depth,PyData.depthAll];omega
theorem Trm.depthL_le:∀ts:List Trm,PyData.depthAll (Trm.dataL ts)<=2*Trm.sizeL ts
 | []=>by simp[Trm.dataL,Trm.sizeL,PyData.depthAll]
 |t::r=>by
  have h1:=Trm.depth_le t;have h2:=Trm.depthL_le r;simp only[Trm.dataL,Trm.sizeL,PyData.depthAll];omega
end
theorem Trm.dataL_map:∀ts:List Trm,Trm.dataL ts=ts.map Trm.data
 | []=>rfl
 |t::r=>by rw[Trm.dataL,Trm.dataL_map r,Zt]
theorem Trm.sizeL_map:∀ts:List Trm,Trm.sizeL ts=(ts.map Trm.size).sum
 | []=>rfl
 |t::r=>by rw[Trm.sizeL,Trm.sizeL_map r,Zt,Yu]
theorem Trm.sizeL_app(a b:List Trm):Trm.sizeL (a++b)=Trm.sizeL a+Trm.sizeL b:=by
 rw[Trm.sizeL_map,Trm.sizeL_map,Trm.sizeL_map,Zi,Yz]
theorem Trm.len_le(ts:List Trm):ts.length<=Trm.sizeL ts:=by
 induction ts with
 |nil=>simp
 |cons t r ih=>
  have:=t.size_pos;rw[Trm.sizeL,length_cons];omega
section
variable{K:W.Frag}{H:Hp}{v:V}
theorem a3a{n:Int}(h:Den K H v (Trm.num n).data):∃a,v=.ref a/\SqT K H a [.str numS,.int n]:=by
 unfold Trm.data at h;cases h with
 |tup hs hl=>
  cases hl with
  |cons h1 hl=>
   cases hl with
   |cons h2 hl=>
    cases hl;cases h1;cases h2;exact⟨_,rfl,hs⟩
theorem a2r{x:Str}(h:Den K H v (Trm.any x).data):∃a,v=.ref a/\SqT K H a [.str anyS,.str x]:=by
 unfold Trm.data at h;cases h with
 |tup hs hl=>
  cases hl with
  |cons h1 hl=>
   cases hl with
   |cons h2 hl=>
    cases hl;cases h1;cases h2;exact⟨_,rfl,hs⟩
theorem a2g{sg:Str}{ks:List Trm}(h:Den K H v (Trm.app sg ks).data):∃a b us,v=.ref a/\SqT K H a [.str appS,.str sg,.ref b]/\SqT K H b us/\DenL K H us (Trm.dataL ks):=by
 unfold Trm.data at h;cases h with
 |tup hs hl=>
  cases hl with
  |cons h1 hl=>
   cases hl with
   |cons h2 hl=>
    cases hl with
    |cons h3 hl=>
     cases hl;cases h1;cases h2;cases h3 with
     |tup hb hk=>exact⟨_,_,_,rfl,hs,hb,hk⟩
theorem b9i{a:Addr}{n:Int}(h:SqT K H a [.str numS,.int n]):Den K H (.ref a) (Trm.num n).data:=by
 unfold Trm.data;exact .tup h (.cons (.str _) (.cons (.int _) .nil))
theorem a9l{a:Addr}{x:Str}(h:SqT K H a [.str anyS,.str x]):Den K H (.ref a) (Trm.any x).data:=by
 unfold Trm.data;exact .tup h (.cons (.str _) (.cons (.str _) .nil))
theorem a3q{a b:Addr}{sg:Str}{ks:List Trm}{us:List V}(h:SqT K H a [.str appS,.str sg,.ref b])(hb:SqT K H b us)(hk:DenL K H us (Trm.dataL ks)):Den K H (.ref a) (Trm.app sg ks).data:=by
 unfold Trm.data;exact .tup h (.cons (.str _) (.cons (.str _) (.cons (.tup hb hk) .nil)))
theorem a7x{t:Trm}(h:Den K H v t.data):∃a us ds,v=.ref a/\SqT K H a us/\DenL K H us ds/\t.data=.tuple ds:=by
 cases t with
 |num n=>unfold Trm.data at h ⊢;cases h with|tup hs hl=>exact⟨_,_,_,rfl,hs,hl,rfl⟩
 |any x=>unfold Trm.data at h ⊢;cases h with|tup hs hl=>exact⟨_,_,_,rfl,hs,hl,rfl⟩
 |app sg ks=>unfold Trm.data at h ⊢;cases h with|tup hs hl=>exact⟨_,_,_,rfl,hs,hl,rfl⟩
theorem DenL.snoc{us:List V}{ds:List PyData}{d:PyData}(h:DenL K H us (ds++[d])):∃us' u,us=us'++[u]/\DenL K H us' ds/\Den K H u d:=by
 induction ds generalizing us with
 |nil=>
  cases h with
  |cons h1 h2=>
   cases h2;exact⟨[],_,rfl,.nil,h1⟩
 |cons x r ih=>
  cases h with
  |cons h1 h2=>
   obtain⟨us',u,rfl,a,b⟩:=ih h2;exact⟨_::us',u,rfl,.cons h1 a,b⟩
theorem DenL.nil_inv{us:List V}(h:DenL K H us []):us=[]:=by cases h;rfl
end
def b7u(n:Nat):List Nat:=(Nat.toDigits 10 n).map Char.toNat
theorem d2k{n k:Nat}(hk:1<=k)(h:n<10^k):(b7u n).length<=k:=by
 unfold b7u;rw[length_map];exact digits10_le hk h
theorem d2l(n:Nat):((toString (n:Int):String):Str)=⟨(b7u n).toArray⟩:=text_ofNat n
section
variable{X:Cx}
theorem c2u(K:FG)(h:X.K=K):OpR X (compareOp .In) (rIn K false):=h▸c8r
end
section
variable{X:Cx}
def rDIn(n:Bool):R2:=λx y H Q=>∃a o,y=.ref a/\DGet H a x o/\Q (.bl (n^^o.isSome)) H
theorem c9l(hu:X.A.units+1<cLine):OpR X (compareOp .In) (rDIn false):=by
 intro pj s σ H x y v u Q I rx ry h;obtain⟨a,o,rfl,g,q⟩:=h;cases ry;exact d_in hu I g rx λs3 I3=>⟨.bl _,H,I3,rfl,by simpa using q⟩
theorem ko_ninD(hu:X.A.units+1<cLine):OpR X (compareOp .NotIn) (rDIn true):=by
 intro pj s σ H x y v u Q I rx ry h;obtain⟨a,o,rfl,g,q⟩:=h;cases ry;exact d_notIn hu I g rx λs3 I3=>⟨.bl _,H,I3,rfl,by simpa using q⟩
end
section
variable{σ:St}{H:Hp}{Q:VK}{D:Ends}{td ty tx tv:TE}
theorem tDGet_i(k:td σ H λx H1=>ty σ H1 λy H2=>∃a v,x=.ref a/\DGet H2 a y (some v)/\Q v H2):tDGet td ty σ H Q:=k
theorem d2m(k:td σ H λx H1=>∃a,x=.ref a/\IsD H1 a/\ty σ H1 λy H2=>tx σ H2 λz H3=>∃o,DGet H3 a y o/\Q (o.getD z) H3):c8x td ty tx σ H Q:=k
theorem sDPut_i(k:tv σ H λv H1=>td σ H1 λx H2=>ty σ H2 λy H3=>∃a H4,x=.ref a/\DPut H3 a y v H4/\D.nx σ H4):sDPut td ty tv D σ H:=k
end
section
variable{X:Cx}
def mIsN(n:Bool):R2:=λx y H Q=>y=.non/\Q (.bl (n^^decide (x=.non))) H
theorem c9m:OpR X (compareOp .Is) (mIsN false):=op_isN.imp λ_ _ _ _ h=>⟨h.1,by have:=h.2;rwa[Zp]at this⟩
theorem isN_non{n:Bool}{H:Hp}{Q:VK}(k:Q (.bl (!n)) H):mIsN n .non .non H Q:=⟨rfl,by rw[Zw rfl,Bool.xor_true];exact k⟩
theorem isN_ref{n:Bool}{a:Addr}{H:Hp}{Q:VK}(k:Q (.bl n) H):mIsN n (.ref a) .non H Q:=⟨rfl,by rw[Zs (λz=>by cases z),Bool.xor_false];exact k⟩
def mInt:List V->Hp->VK->Prop:=λvs H Q=>match vs with
 | [.int i]=>Q (.int i) H
 | [.bl b]=>Q (.int (if b then 1 else 0)) H
 |_=>False
theorem b7v:a2w X (.type "int") mInt:=by
 intro pj s σ H xs us Q I r h;refine c8m pj s σ H xs us Q I r ?_;unfold mInt at h;split at h
 ·exact .inl ⟨_,rfl,h⟩
 ·exact .inr ⟨_,rfl,h⟩
 ·exact h.elim
theorem mInt_b{b:Bool}{H:Hp}{Q:VK}(k:Q (.int (if b then 1 else 0)) H):mInt [.bl b] H Q:=k
end
def But(p:Addr)(H H':Hp):Prop:=∀b o,b≠p->H b=some o->H' b=some o
theorem sIx_to(n:Nat)(m:Int)(h:0<=m):HT.sIx n n (some m)=min m.toNat n:=by
 unfold HT.sIx;have e:¬(m<0):=by omega
 simp only[e,Vb]
theorem sIx_none(n k:Nat):HT.sIx n k none=k:=rfl
section
variable{X:Cx}{pj:List (Addr×Obj)}{σ:St}{H:Hp}{s:Shared}{h':Heap}
theorem Inv.turnedLaid{t':Nat}{ch:List Addr}{T:Addr}{o:HO}(I:Inv X pj σ H s)(hf:∀b∈ch,FpOk X pj H b)(k:∀b u,b∉ch->s.heap.get? b=some u->h'.get? b=some u)(hT:s.heap.objs.size<=T)
  (new:a1v X.prog X.w (upd H T o) h' T o):Inv X pj σ (upd H T o) { s with heap:=h',toks:=t'}:=by
 have hn:H T=none:=I.hok.fresh hT;have nin:∀b u,H b=some u->b∉ch:=λb u e hb=>by rw[(hf b hb).1]at e;cases e
 have neT:∀b u,s.heap.get? b=some u->b≠T:=λb u e=>Z2 (Yc (Zq e) hT)
 refine I.step (g':=s.gens) (d':=s.drawn) (ch:=ch) (λb hb=>⟨(hf b hb).2.2.2.1,(hf b hb).2.1,(hf b hb).2.2.2.2.1,(hf b hb).2.2.2.2.2⟩) (λb u _ _ hc e _=>k b u hc e) (λb u _ _ hc e _=>⟨u.slots,k b u hc e⟩)
  (λb u hc e n=>by rw[a0d (neT b u e)];exact n) (λb u hc e=>⟨u,k b u hc e⟩) (λb xs q=>by rw[a0d (a0p q hn)];exact q) (λb u xs q=>by rw[a0d (a0p q hn)];exact q) (λb ps q=>⟨#[],by rw[a0d (a0p q hn),q];simp⟩) (λm hm=>?_) (λb u e=>?_) I.bare
 ·obtain⟨q,es,ep,ho,r⟩:=hm;exact⟨q,es,ep,k _ q (λhb=>(hf _ hb).2.1 rfl) ho,r⟩
 ·by_cases hb:b=T
  ·subst hb;rw[a0c]at e;cases e;exact new
  ·rw[a0d hb]at e;refine(I.hok b u e).stay (λc v hc q=>k c v ?_ q) (λc q=>by rw[a0d (a0p q hn)];exact q) λc xs q=>by rw[a0d (a0p q hn)];exact q
   rcases hc with z|z
   ·rw[z];exact nin b u e
   ·exact nin c _ z
end
def Ite(K:W.Frag)(a:Addr)(n:Nat):It:=⟨λi H=>i<n/\∃xs,SqL K H a xs/\xs.length=n,λi H v H'=>∃T x,H T=none/\v=.ref T/\H'=upd H T (.tup [.int i,x])/\∀xs,SqL K H a xs->xs[i]? =some x,λi H=>i=n/\∃xs,SqL K H a xs/\xs.length=n⟩
theorem c9n{P:Program}{w:World}{K:FG}{elts:List Expr}{k:Nat}{pos:Pos}(a e it:Addr)(n:Nat)(hei:e≠it)(hai:a≠it)(hae:a≠e):
  Turn P w K (.Tuple elts k pos) (Ite K a n) [e,it] e (λi h=>(∃old,IsEnum h e it (i:Nat) old)/\h.IsListIter it a i) where
 mem:=by simp
 obj:=λi h st b hb=>by
  obtain⟨⟨old,h1⟩,o,h2,h3,h4⟩:=st;simp only[Zg,Yk,Xv]at hb;rcases hb with rfl|rfl
  ·exact⟨_,h1,λv z=>by have z':Data.fields _=Data.cell v:=z;cases z'⟩
  ·exact⟨o,h2,λv z=>by rw[h4]at z;cases z⟩
 keep:=λi h h' st hk=>⟨let⟨old,q⟩:=st.1;⟨old,hk e qz _ q⟩,st.2.at λo q=>hk it qz o q⟩
 item:=by
  intro X hP hw hK hc i pj s σ H E I hf st hg;subst hP hw hK;obtain⟨hi,xs,hq,hl⟩:=hg;obtain⟨its,rv,p,hz⟩:=I.list hq;have hlen:=rv.length;have D:=Draws.list (prog:=X.prog) (w:=X.w) (A:=X.A.in1) (show X.A.in1.handled=none from I.ok.hd hc) it a hai its.toArray;have W:=WalksT.enumerateD D e hei (by simp only[Zg,Yk,Xv,not_or];exact⟨hei,Ne.symm hae⟩) qz;refine W.item i s _ _ (by rw[Zj];omega) ⟨st.1,st.2,p.isList⟩ λT vals h1 tk hPt hT htup hmid hk1=>?_
  obtain⟨t,x,hx,rfl⟩:=hPt;refine⟨.ref T,rfl,W.go elts k pos i T { s with heap:=h1,toks:=tk} _ _ hmid λh2 hst2 hk2=>?_⟩;have hx2:its[i]? =some x:=by simpa using hx
  have hix:i<xs.length:=by omega
  obtain⟨u,hu,ru⟩:=rv.get (Za hix);rw[hu]at hx2;cases hx2;have hk:∀b u,b∉[e,it]->s.heap.get? b=some u->h2.get? b=some u:=λb u hb q=>hk2 b u hb (hk1 b u hb q)
  have hTn:T∉[e,it]:=by
   obtain⟨_,_,z1,z2⟩:=hmid;simp only[Zg,Yk,Xv,not_or];exact⟨z1,z2⟩
  have hTup:IsTup h2 T #[.int i t,x]:=by
   obtain⟨o,h3,h4⟩:=htup;exact⟨o,hk2 T o hTn h3,h4⟩
  refine⟨.ref T,upd H T (.tup [.int i,xs[i]]),I.turnedLaid (ch:=[e,it]) hf hk hT ⟨by simp[Yw],[.int i t,x],.cons ⟨t,rfl⟩ (.cons ru .nil),hTup⟩,rfl,?_,?_,λb hb=>?_⟩
  ·exact⟨T,xs[i],I.hok.fresh hT,rfl,rfl,λys hy=>by rw[I.list_inj hy hq];exact Za hix⟩
  ·exact⟨by simpa using hst2.1,hst2.2.1⟩
  ·have nb:b≠T:=λz=>hTn (by rw[<-z];exact hb)
   rw[a0d nb];exact(hf b hb).1
 done:=by
  intro X hP hw hK hc i pj s σ H E I hf st hg;subst hP hw hK;obtain⟨hi,xs,hq,hl⟩:=hg;subst hi;obtain⟨its,rv,p,hz⟩:=I.list hq;obtain⟨old,h1⟩:=st.1;obtain⟨f0,f1,f2,f3,f4,f5⟩:=hf it qz;have hlen:=rv.length;exact wpAny_pyNext_enum_end (I.ok.hd hc) h1 st.2 p.isList (by simp;omega) λh' eb=>⟨rfl,I.turned (t':=s.toks) (λb o hb q=>eb b o hb q) f0 f1 f3 f4 f5⟩
 self:=λ_ _ _ _ _ st h=>by
  obtain⟨⟨old,h1⟩,_⟩:=st;exact wpAny_pyIter_enum h1 h
section
variable{X:Cx}
def iEnum(K:W.Frag)(ta:TA):TI:=λσ H R=>ta σ H λvs H1=>∃a xs,vs=[.ref a]/\SqL K H1 a xs/\R (Ite K a xs.length) H1
theorem c2v(K:FG)(hK:X.K=K){elts:List Expr}{k:Nat}{tpos:Pos}{a:Expr}{ta:TA}{p pos:Pos}(hg:Gl X "enumerate")(hm:X.mg "enumerate"=none)(ha:PA X [a] ta)(hs:starEach [a] X.env=[(false,eval a X.env)]:=by rfl):PI X (.Tuple elts k tpos) (.Call (.Name "enumerate" p) [a] [] pos) (iEnum K ta):=by
 subst hK;intro pj s σ H R I h;refine Call_ (a9t I hg hm boot_enumerate (Xp (thn (ha pos pj s σ H _ I h) λus s1 ⟨vs,H1,I1,r1,q1⟩=>?_) hs rfl));obtain⟨l,xs,e,hq,q⟩:=q1;subst e;cases r1 with
 |cons r rr=>
  cases rr;cases r;obtain⟨its,rv,pl,hz⟩:=I1.list hq;have hlt:l<s1.heap.objs.size:=by obtain⟨o,ho,_⟩:=pl.isList;exact Zq ho
  refine call_enumerate_list pl.isList λh' he hit hsz hk=>wpAny_pyIter_enum he ?_
  refine⟨_,[s1.heap.objs.size+1,s1.heap.objs.size],_,_,H1,rfl,I1.kept (t':=s1.toks) hk,c9n l (s1.heap.objs.size+1) s1.heap.objs.size xs.length (Nat.succ_ne_self _) (Z2 hlt) (Z2 (Xy hlt)),⟨⟨_,he⟩,hit⟩,λb hb=>?_,q⟩;simp only[Zg,Yk,Xv]at hb;rcases hb with rfl|rfl
  ·exact I1.fpOk (Wh _) (I1.hok.fresh (Wh _))
  ·exact I1.fpOk (Zm _) (I1.hok.fresh (Zm _))
end
theorem iEnum_i{K:FG}{σ:St}{H:Hp}{ta:TA}{R:It->Hp->Prop}(k:ta σ H λvs H1=>∃a xs,vs=[.ref a]/\SqL K H1 a xs/\R (Ite K a xs.length) H1):iEnum K ta σ H R:=k
open PySem PySem.Spec PyProof.Rows PySem.W
section
variable{X:Cx}
theorem b6b{α β:Type}{R:α->β->Prop}:∀{xs:List α}{ys:List β},Paired R xs ys->∀(i:Nat)(y:β),ys[i]? =some y->∃x,xs[i]? =some x/\R x y
 |_,_,.nil,i,x,h=>by simp at h
 |_,_,.cons r t,0,x,h=>by simp at h;subst h;exact⟨_,rfl,r⟩
 |_,_,.cons r t,i+1,x,h=>by simpa using b6b t i x (by simpa using h)
theorem kV_rel{P:Program}{w:World}{k:Key}{u:Value}(h:(a1r P w).is k u=true):RelV (kV k) u:=by
 cases u with
 |int i t=>
  cases k with
  |inl j=>
   have e:(Sum.inl i:Key)=Sum.inl j:=(a1r P w).inj _ _ _ (b0s P w i t) h;cases e;exact⟨t,rfl⟩
  |inr x=>exact nomatch (show(Sum.inl i:Key)=Sum.inr x from(a1r P w).inj _ _ _ (b0s P w i t) h)
 |str x t=>
  cases k with
  |inr j=>
   have e:(Sum.inr x:Key)=Sum.inr j:=(a1r P w).inj _ _ _ (b0t P w x t) h;cases e;exact⟨t,rfl⟩
  |inl i=>exact nomatch (show(Sum.inr x:Key)=Sum.inl i from(a1r P w).inj _ _ _ (b0t P w x t) h)
 |_=>cases k<;>exact absurd (show false=true from h) Zo
def mLstK:List V->Hp->VK->Prop:=λvs H Q=>∃a kvs,vs=[.ref a]/\Rd H a (.dK kvs)/\∀p:Addr,H p=none->Q (.ref p) (upd H p (.lst (kvs.map λkv=>kV kv.1)))
theorem b6c:∀{xs:List V}{us:List Value},us.length=xs.length->(∀(j:Nat)(v:Value),us[j]? =some v->∃x,xs[j]? =some x/\RelV x v)->Vals xs us
 | [],[],_,_=>.nil
 |x::r,u::t,hl,h=>by
  obtain⟨y,h1,h2⟩:=h 0 u rfl
  simp at h1
  subst h1;exact .cons h2 (b6c (by simpa using hl) λj v e=>by simpa using h (j+1) v (by simpa using e))
 | [],_::_,hl,_=>by simp at hl
 |_::_,[],hl,_=>by simp at hl
theorem d2n(hc:X.calm=true):a2w X (.type "list") mLstK:=by
 intro pj s σ H vs us Q I r h;obtain⟨a,kvs,rfl,ha,q⟩:=h;obtain⟨u,rfl,r1⟩:=vals1 r;cases r1;obtain⟨z,lo,xs,rel,dd⟩:=a8j I.hok ha;obtain⟨ep,dd⟩:=dd.dictAt;have hlx:=rel.length;refine kdl_call (kdl_dict (knd:=a1r X.prog X.w) lo) (I.ok.hd hc) dd qo λh' tk acc c hk hS hacc=>?_
 refine⟨.ref s.heap.objs.size,_,I.laid (a:=s.heap.objs.size) (o:=.lst (kvs.map λkv=>kV kv.1)) (t':=tk) hk (Zm _) ⟨by simp;omega,acc.toList,c,?_,by simpa using hS⟩,rfl,q _ (I.hok.fresh (Zm _))⟩;refine b6c (by rw[Y1,hacc.1,length_map,hlx]) λj v e=>?_
 obtain⟨k,x,h1,h2⟩:=hacc.2 j v (by rw[<-Wc];exact e);obtain⟨kv,h3,h4,h5⟩:=b6b rel j (k,x) h1;refine⟨kV k,by rw[Zv,h3];exact Yv (λz=>some (kV z)) h4,?_⟩;exact kV_rel h2
end
open PySem.AutoSeq1 (wpAny_loadPart')
section
variable{X:Cx}
theorem b5j(K:FG)(hK:X.K=K){pos:Pos}{es:List Expr}{k:Nat}{t:TGs}{n:Nat}(hc:X.calm=true)(h:PGs X es t)
  (hn:(assignEach es X.env).length=n:=by rfl)(hst:(assignEach es X.env).findIdx? (·.1)=none:=by rfl):PG X (.Tuple es k pos) (gTup K n t):=hK▸c8h hc h hn hst
end
section
variable{K:W.Frag}{σ:St}{H:Hp}{Q:VK}{D:Ends}{a:Addr}{xs:List V}{n:Nat}
theorem b7w{t:TGs}{N:St->Hp->Prop}(hs:SqT K H a xs)(hl:xs.length=n)(k:t xs σ H N):gTup K n t (.ref a) σ H N:=⟨a,xs,rfl,hs,hl,k⟩
theorem gCons_i{t:TG}{u:TGs}{v:V}{r:List V}{N:St->Hp->Prop}(k:t v σ H λσ' H'=>u r σ' H' N):gCons t u (v::r) σ H N:=⟨v,r,rfl,k⟩
theorem gNil_i{N:St->Hp->Prop}(k:N σ H):gNil [] σ H N:=⟨rfl,k⟩
end
section
variable{X:Cx}
theorem a2c{A:Around}{s:Shared}{a b:Key}{u v:Value}(ra:RelV (kV a) u)(rb:RelV (kV b) v):SeqAt.EqAt A s u v (decide (a=b)):=by
 cases a with
 |inl i=>
  obtain⟨t,rfl⟩:=ra;cases b with
  |inl j=>
   obtain⟨t',rfl⟩:=rb;rw[c8c];have:=Wu (A:=A) (s:=s) i t j t'
   simpa[PyData.eqv]using this
  |inr y=>
   obtain⟨t',rfl⟩:=rb;rw[c8e];exact Vn i t y t'
 |inr x=>
  obtain⟨t,rfl⟩:=ra;cases b with
  |inl j=>
   obtain⟨t',rfl⟩:=rb;rw[c8f];exact Vl x t j t'
  |inr y=>
   obtain⟨t',rfl⟩:=rb;rw[c8d];have:=Wt (A:=A) (s:=s) x t y t';have e:(x==y)=decide (x=y):=by
    by_cases h:x=y
    ·subst h;simp
    ·rw[Zs h];exact Y7.mpr h
   rw[<-e]
   simpa[PyData.eqv]using this
theorem all_eq(k1 k2:List Key):((List.range (min k1.length k2.length)).all (λj=>decide (k1[j]? =k2[j]?))&&(k1.length==k2.length))=decide (k1=k2):=by
 by_cases h:k1=k2
 ·subst h
  simp
 ·rw[Zs h];cases hl:(k1.length==k2.length)with
  |false=>rw[Ti]
  |true=>
   have hl:k1.length=k2.length:=eq_of_beq hl;rw[Bool.and_true];refine Bool.eq_false_iff.mpr λz=>h ?_
   apply List.ext_getElem?
   intro j
   by_cases hj:j<k1.length
   ·exact Z5 (Xn.mp z j (Y2.mpr qo))
   ·rw[W0 qo,W0 qo]
end
open PySem PySem.W
abbrev newS:String:="ValueError.__new__"
structure XCls(K:Frag)(C:Addr)(bm:List Value):Prop where
 obj:∃nm q N bs sn sub ab col dd k0 k1 k2 k3 k5,K.lookup C=some (excClassObj nm q C N bs bm true sn sub ab col dd k0 k1 k2 k3 k5 newS)
 hasV:bm.contains (.type "ValueError")=true
 hasB:bm.contains (.type "BaseException")=true
 noA:bm.contains (.type "AttributeError")=false
 noN:bm.contains (.type "NameError")=false
section
variable{X:Cx}{pj:List (Addr×Obj)}{σ:St}{H:Hp}{s:Shared}{pos apos np:Pos}{a b o e value:Expr}{es:List Expr}{t:TA}{te ta tv:TE}{f x:Str}
structure XAttr(K:Frag)(C:Addr):Prop where
 ga:findIn K (.ref C) "__getattribute__"=some (some (.builtin "BaseException.__getattribute__"))
 gx:findIn K (.ref C) "__getattr__"=some none
 sa:findIn K (.ref C) "__setattr__"=some (some (.builtin "object.__setattr__"))
end
section
variable{X:Cx}{CX:CXT}{k:Nat}{f C:Addr}{fd:FuncData}{ps:List Str}{sp:Sp}{dvs:List V}{ds:List Value}{E:XK}{x m:Str}{p pos apos np:Pos}{e o:Expr}{es:List Expr}{ta te:TE}{t:TA}{bm:List Value}
structure XMk(K:Frag)(C:Addr)(bm:List Value)(f:Addr):Prop where
 cls:XCls K C bm
 init:findIn K (.ref C) "__init__"=some (some (.ref f))
 fn:typeIn K (.ref f)=some (.type "function")
 kp:keepIn K (.ref C)=true
structure XClsM(K:Frag)(C:Addr)(m:Str)(f:Addr):Prop where
 ga:specialIn K (.ref C) "__getattribute__"=some (some (.builtin "type.__getattribute__"))
 rd:readsIn K C (.type "type")=true
 at_:findCls K (.ref C) (.type "type") m=some (.val (.ref f))
 kp:keepIn K (.ref f)=true
end
end L2
namespace Att
open PySem PySem.W PySem.Calls PyProof.Rows
end Att
namespace L2
open PySem PySem.Spec PyProof.Rows
open PySem PySem.Spec PyProof.Rows PySem.W
section
variable{X:Cx}
theorem b9j(K:Frag)(h:X.K=K):OpR X (compareOp .NotIn) (rIn K true):=h▸c2g
end
theorem b6j(x:Str):∀xs:List Str,inV (.str x) (xs.map V.str)=decide (x∈xs)
 | []=>by simp[inV]
 |y::r=>by
  have ih:=b6j x r;unfold inV at ih ⊢;rw[Zt,Xr,ih]
  show((y==x)||decide (x∈r))=decide (x∈y::r)
  by_cases h:y=x
  ·subst h;simp
  ·have h2:x≠y:=λz=>h z.symm
   simp[h,h2]
theorem c2w(xs:List Str):(xs.map V.str).all a4v=true:=by
 rw[Xn];intro v hv;obtain⟨x,_,rfl⟩:=Z1.mp hv;rfl
theorem in_strs{K:Frag}{H:Hp}{Q:VK}{p:Addr}{x:Str}(xs:List Str)(h:SqL K H p (xs.map V.str)\/SqT K H p (xs.map V.str))(k:Q (.bl (decide (x∈xs))) H):rIn K false (.str x) (.ref p) H Q:=⟨p,_,rfl,h,rfl,c2w xs,by rw[b6j];exact k⟩
theorem d2o{K:Frag}{H:Hp}{Q:VK}{p:Addr}{x:Str}(xs:List Str)(h:SqL K H p (xs.map V.str)\/SqT K H p (xs.map V.str))(k:Q (.bl (!decide (x∈xs))) H):rIn K true (.str x) (.ref p) H Q:=⟨p,_,rfl,h,rfl,c2w xs,by rw[b6j];exact k⟩
structure XIs(K:Frag)(C:Addr):Prop where
 ha:findIn K (.ref C) "__class__"=some (some (.builtin "object.__class__"))
 hn:specialIn K (.builtin "object.__class__") "__get__"=some (some (.builtin "getset_descriptor.__get__"))
 htk:takesIn K (.builtin "object.__class__")=some true
 hm:mroIn K C (.type "object")=some true
section
variable{X:Cx}{es rest:List Expr}{k:Nat}{pos:Pos}{env:Env}{te:TE}{t:TA}
def notStar:Expr->Bool
 | .Starred _ _=>false
 |_=>true
theorem d2p{e:Expr}(h:notStar e=true):starEach (e::rest) env=(false,eval e env)::starEach rest env:=by
 cases e<;>first|rfl|cases h
theorem a0a{e:Expr}(ha:PE X e te)(hr:PA X rest t)(h:notStar e=true:=by rfl):PA X (e::rest) (tCons te t):=pa_cons ha hr (d2p h)
theorem b1h{n:Option Expr}{l:Nat}:swapsWith (.Tuple es k pos) n l env=pure false:=rfl
theorem a5y{n:Option Expr}{l:Nat}:swapsWith (.List es pos) n l env=pure false:=rfl
theorem b3z{a b:Expr}{op:Operator}{n:Option Expr}{l:Nat}:swapsWith (.BinOp a op b pos) n l env=pure false:=rfl
theorem b4a{a b:Expr}{n:Option Expr}{l:Nat}:swapsWith (.Subscript a b pos) n l env=pure false:=rfl
theorem a1h{a:Expr}{kw:List Keyword}{n:Option Expr}{l:Nat}:swapsWith (.Call a es kw pos) n l env=pure false:=rfl
end
namespace FD
end FD
section
variable{prog:Program}{w:World}{A:Around}{R:Result->Shared->Prop}
def c2x{K:Type}[DecidableEq K](knd:PySem.KeyKind prog w K)(ts:List Addr)(kvs:List (K×Value))(h:Heap):Prop:=∀(i:Nat)(T:Addr),ts[i]? =some T->∃(kk:K)(key val:Value),kvs[i]? =some (kk,val)/\knd.is kk key=true/\IsTup h T #[key,val]
theorem c2x.keep{K:Type}[DecidableEq K]{knd:PySem.KeyKind prog w K}{ts:List Addr}{kvs:List (K×Value)}{h h':Heap}(x:c2x knd ts kvs h)(k:∀T∈ts,∀o,h.get? T=some o->h'.get? T=some o):c2x knd ts kvs h':=λi T e=>by
 obtain⟨kk,key,val,e1,e2,o,ho,r⟩:=x i T e;exact⟨kk,key,val,e1,e2,o,k T (Zn e) o ho,r⟩
end
section
variable{X:Cx}
def mDictK:List V->Hp->VK->Prop:=λvs H Q=>∃(a:Addr)(kvs:List (Key×V)),vs=[.ref a]/\H a=some (.dK kvs)/\∀p,H p=none->Q (.ref p) (upd H p (.dK kvs))
theorem d2q:a2w X (.type "dict") mDictK:=by
 intro pj s σ H xs us Q I r h;obtain⟨a,kvs,rfl,ha,q⟩:=h;obtain⟨u,rfl,r1⟩:=vals1 r;obtain rfl:u=Value.ref a:=r1;exact d2d I (.inl ha) λp s' hp I'=>⟨.ref p,_,I',rfl,q p hp⟩
end
abbrev Rws:=List (Str×Trm)
def a2l(K:Frag)(H:Hp)(kvs:List (Key×V))(rows:Rws):Prop:=Paired (λ(p:Key×V) (q:Str×Trm)=>p.1=Sum.inr q.1/\Den K H p.2 q.2.data) kvs rows
def a0w(rows:Rws)(x:Str):Option Trm:=(rows.find? λr=>decide (r.1=x)).map (·.2)
def putR(rows:Rws)(x:Str)(t:Trm):Rws:=if(rows.any λr=>decide (r.1=x))=true then rows.map (λr=>if r.1=x then(r.1,t)else r)else rows++[(x,t)]
section
variable{K:Frag}{H H':Hp}{kvs:List (Key×V)}{rows:Rws}
theorem a2l.mono(h:a2l K H kvs rows)(s:Same H H'):a2l K H' kvs rows:=Paired.mapP h λ_ _ z=>⟨z.1,z.2.mono s⟩
theorem a2l.monoT(h:a2l K H kvs rows)(e:∀a xs,SqT K H a xs->SqT K H' a xs):a2l K H' kvs rows:=Paired.mapP h λ_ _ z=>⟨z.1,z.2.monoT e⟩
theorem a2l.len(h:a2l K H kvs rows):kvs.length=rows.length:=Y0 h
theorem key_inr(a b:Str):((Sum.inr a:Key)=Sum.inr b)↔a=b:=⟨λh=>V7 h,λh=>by rw[h]⟩
theorem a2l.get:∀{kvs:List (Key×V)}{rows:Rws},a2l K H kvs rows->∀x:Str,(a0w rows x=none/\valV kvs (Sum.inr x)=none)\/∃t v,a0w rows x=some t/\valV kvs (Sum.inr x)=some v/\Den K H v t.data
 | [],[],_,x=>.inl ⟨rfl,rfl⟩
 | (k,v)::kr,(y,t)::rr,.cons h r,x=>by
  obtain⟨e1,e2⟩:=h;have e1:k=Sum.inr y:=e1;subst e1
  by_cases hx:y=x
  ·subst hx;refine .inr ⟨t,v,?_,?_,e2⟩
   ·simp[a0w]
   ·simp[valV]
  ·have ih:=a2l.get r x;have n1:a0w ((y,t)::rr) x=a0w rr x:=by simp[a0w,hx]
   have n2:valV ((Sum.inr y,v)::kr) (Sum.inr x)=valV kr (Sum.inr x):=by simp[valV,hx]
   rw[n1,n2];exact ih
theorem a2l.any:∀{kvs:List (Key×V)}{rows:Rws},a2l K H kvs rows->∀x:Str,(kvs.any λkv=>decide (kv.1=Sum.inr x))=rows.any λr=>decide (r.1=x)
 | [],[],_,x=>rfl
 | (k,v)::kr,(y,t)::rr,.cons h r,x=>by
  have e1:k=Sum.inr y:=h.1;subst e1;rw[Xr,Xr,a2l.any r x]
  congr 1
  exact Xl.mpr (key_inr y x)
theorem a2l.put(h:a2l K H kvs rows){x:Str}{v:V}{t:Trm}(d:Den K H v t.data):a2l K H (putK kvs (Sum.inr x) v) (putR rows x t):=by
 unfold putK putR;rw[h.any x]
 split
 ·rename_i hz0;clear hz0
  induction kvs generalizing rows with
  |nil=>cases rows with|nil=>exact .nil|cons _ _=>cases h
  |cons p r ih=>
   cases rows with
   |nil=>cases h
   |cons q m=>
    cases h with
    |cons e f=>
     refine .cons ?_ (ih f)
     dsimp only
     obtain⟨e1,e2⟩:=e
     by_cases hx:q.1=x
     ·rw[if_pos hx,if_pos (by rw[e1,hx])];exact⟨e1,d⟩
     ·rw[if_neg hx,if_neg (by rw[e1];exactλz=>hx (V7 z))];exact⟨e1,e2⟩
 ·rename_i hz0;clear hz0
  induction kvs generalizing rows with
  |nil=>cases rows with|nil=>exact .cons ⟨rfl,d⟩ .nil|cons _ _=>cases h
  |cons p r ih=>
   cases rows with
   |nil=>cases h
   |cons q m=>
    cases h with
    |cons e f=>exact .cons e (ih f)
theorem c2y:∀{rows:Rws}{x:Str}{t:Trm},a0w rows x=some t->(x,t)∈rows
 | [],x,t,h=>by simp[a0w]at h
 | (y,u)::r,x,t,h=>by
  by_cases hx:y=x
  ·have:u=t:=by simpa[a0w,hx]using h
   subst this hx;exact Ze
  ·exact Zc _ (c2y (by simpa[a0w,hx]using h))
theorem any_iff{rows:Rws}{x:Str}:(rows.any λr=>decide (r.1=x))=true↔x∈rows.map (·.1):=by
 simp[X4]
theorem b6k{rows:Rws}{x:Str}{t:Trm}(h:x∉rows.map (·.1)):putR rows x t=rows++[(x,t)]:=by
 unfold putR;rw[if_neg (λz=>h (any_iff.mp z))]
end
mutual
def eqb:Trm->Trm->Bool
 | .num a,.num b=>decide (a=b)
 | .any x,.any y=>decide (x=y)
 | .app s ks,.app r ls=>decide (s=r)&&eqbL ks ls
 |_,_=>false
def eqbL:List Trm->List Trm->Bool
 | [],[]=>true
 |a::r,b::m=>eqb a b&&eqbL r m
 |_,_=>false
end
theorem a8s{p:Prop}(h:¬p):false=true↔p:=⟨λz=>Bool.noConfusion z,λz=>absurd z h⟩
mutual
theorem a4g:∀t u:Trm,eqb t u=true↔t=u
 | .num a,.num b=>Ri.trans ⟨λh=>h▸rfl,λh=>Trm.num.inj h⟩
 | .num a,.any y=>a8s nofun
 | .num a,.app _ _=>a8s nofun
 | .any x,.num b=>a8s nofun
 | .any x,.any y=>Ri.trans ⟨λh=>h▸rfl,λh=>Trm.any.inj h⟩
 | .any x,.app _ _=>a8s nofun
 | .app _ _,.num b=>a8s nofun
 | .app _ _,.any y=>a8s nofun
 | .app s ks,.app r ls=>(Vd (x:=decide (s=r)) (y:=eqbL ks ls)).trans ⟨λ⟨h,k⟩=>Z5 h▸(a9y ks ls).mp k▸rfl,λh=>⟨Zw (Trm.app.inj h).1,(a9y ks ls).mpr (Trm.app.inj h).2⟩⟩
theorem a9y:∀t u:List Trm,eqbL t u=true↔t=u
 | [],[]=>⟨λ_=>rfl,λ_=>rfl⟩
 | [],_::_=>a8s nofun
 |_::_,[]=>a8s nofun
 |a::r,b::m=>(Vd (x:=eqb a b) (y:=eqbL r m)).trans ⟨λ⟨h,k⟩=>(a4g a b).mp h▸(a9y r m).mp k▸rfl,λh=>⟨(a4g a b).mpr (Ts h).1,(a9y r m).mpr (Ts h).2⟩⟩
end
theorem a6z(t:Trm):eqb t t=true:=(a4g t t).mpr rfl
theorem c9o{t u:Trm}:eqb t u=false↔t≠u:=by
 rw[<-Bool.not_eq_true,ne_eq,a4g]
theorem c2z:∀ks ls:List Trm,((List.range (min ks.length ls.length)).all (λj=>match ks[j]?,ls[j]? with|some a,some b=>eqb a b|_,_=>true)&&(ks.length==ls.length))=eqbL ks ls
 | [],[]=>by simp[eqbL]
 | [],_::_=>by simp[eqbL]
 |_::_,[]=>by simp[eqbL]
 |a::r,b::m=>by
  have ih:=c2z r m
  show _=(eqb a b&&eqbL r m)
  rw[<-ih,length_cons,length_cons,Nat.succ_min_succ,T9,W9,List.all_map,Bool.and_assoc]
  congr 1
  congr 1
  ·simp
mutual
theorem Trm.data_inj:∀{t u:Trm},t.data=u.data->t=u
 | .num a,.num b,h=>by simp[Trm.data]at h;rw[h]
 | .num a,.any y,h=>by simp[Trm.data]at h
 | .num a,.app _ _,h=>by simp[Trm.data]at h
 | .any x,.num b,h=>by simp[Trm.data]at h
 | .any x,.any y,h=>by simp[Trm.data]at h;rw[h]
 | .any x,.app _ _,h=>by simp[Trm.data]at h
 | .app _ _,.num b,h=>by simp[Trm.data]at h
 | .app _ _,.any y,h=>by simp[Trm.data]at h
 | .app s ks,.app r ls,h=>by
  simp only[Trm.data,PyData.tuple.injEq,Tb,PyData.str.injEq,and_true,true_and]at h;rw[h.1,Trm.dataL_inj h.2]
theorem Trm.dataL_inj:∀{t u:List Trm},Trm.dataL t=Trm.dataL u->t=u
 | [],[],_=>rfl
 | [],_::_,h=>by simp[Trm.dataL]at h
 |_::_,[],h=>by simp[Trm.dataL]at h
 |a::r,b::m,h=>by
  simp only[Trm.dataL,Tb]at h;rw[Trm.data_inj h.1,Trm.dataL_inj h.2]
end
section
variable{X:Cx}{pj:List (Addr×Obj)}{σ:St}{H:Hp}{s:Shared}
mutual
theorem b5k(I:Inv X pj σ H s):∀{v:V}{d d':PyData},Den X.K H v d->Den X.K H v d'->d=d'
 |_,_,_,.non,h=>by cases h;rfl
 |_,_,_,.bl b,h=>by cases h;rfl
 |_,_,_,.int i,h=>by cases h;rfl
 |_,_,_,.str x,h=>by cases h;rfl
 |_,_,_,.tup hs hl,h=>by
  cases h with
  |tup hs' hl'=>
   have e:=I.tuple_inj hs hs';subst e;rw[b6l I hl hl']
theorem b6l(I:Inv X pj σ H s):∀{v:List V}{d d':List PyData},DenL X.K H v d->DenL X.K H v d'->d=d'
 |_,_,_,.nil,h=>by cases h;rfl
 |_,_,_,.cons h l,h'=>by
  cases h' with
  |cons g m=>rw[b5k I h g,b6l I l m]
end
theorem c0q(I:Inv X pj σ H s){A:Around}{a b:Addr}{us us':List V}(hs:SqT X.K H a us)(hs':SqT X.K H b us')(hab:a≠b)(e:Nat->Bool)(hu:A.units+1<cLine)
  (items:∀j x x' w w',us[j]? =some x->us'[j]? =some x'->RelV x w->RelV x' w'->SeqAt.EqAt A.in1 s w w' (e j)):SeqAt.EqAt A s (.ref a) (.ref b) ((List.range (min us.length us'.length)).all e&&(us.length==us'.length)):=by
 obtain⟨its,rv,p,_⟩:=I.tuple hs;obtain⟨its',rv',p',_⟩:=I.tuple hs';have l1:=rv.length;have l2:=rv'.length
 have key:=Us (A:=A) (e:=e) (show s.heap.IsTuple a its.toArray from p) (show s.heap.IsTuple b its'.toArray from p') qo (λj h1 h2=>by
  have h1:j<its.length:=by simpa using h1
  have h2:j<its'.length:=by simpa using h2
  have x1:us[j]? =some us[j]:=Za qo
  have x2:us'[j]? =some us'[j]:=Za qo
  obtain⟨w1,y1,z1⟩:=rv.get x1;obtain⟨w2,y2,z2⟩:=rv'.get x2;have q1:its.toArray[j]=w1:=by
   have:=Za h1;rw[y1]at this
   simpa using(Zl this).symm
  have q2:its'.toArray[j]=w2:=by
   have:=Za h2;rw[y2]at this
   simpa using(Zl this).symm
  rw[q1,q2]
  exact items j _ _ _ _ x1 x2 z1 z2)
 rw[Zj,Zj,<-l1,<-l2]at key;exact Vm hab key
def eT(t t':Trm):Nat->Bool
 |0=>match t,t' with| .num _,.num _=>true| .any _,.any _=>true| .app _ _,.app _ _=>true|_,_=>false
 |1=>match t,t' with| .num a,.num b=>decide (a=b)| .any x,.any y=>decide (x=y)| .app r _,.app q _=>decide (r=q)| .any x,.app q _=>decide (x=q)| .app r _,.any y=>decide (r=y)|_,_=>false
 |2=>match t,t' with| .app _ ks,.app _ ls=>eqbL ks ls|_,_=>true
 |_=>true
def lenT:Trm->Nat
 | .app _ _=>3
 |_=>2
theorem two_b(x:Bool):((true&&(x&&true))&&true)=x:=by cases x<;>rfl
theorem thr_b(x y:Bool):((true&&(x&&(y&&true)))&&true)=(x&&y):=by cases x<;>cases y<;>rfl
theorem c3a(t t':Trm):((List.range (min (lenT t) (lenT t'))).all (eT t t')&&(lenT t==lenT t'))=eqb t t':=by
 cases t<;>cases t'<;>first|rfl|exact two_b _|exact thr_b _ _
theorem d2r{ks:List Trm}{t:Trm}(h:t∈ks):t.size<=Trm.sizeL ks:=by
 obtain⟨a,b,rfl⟩:=Xm h;rw[Trm.sizeL_app,Trm.sizeL];omega
theorem b6m(I:Inv X pj σ H s)(n:Nat)(ih:∀(A:Around)(t t':Trm)(v v':V)(u u':Value),t.size<=n->A.units+2*n+4<cLine->Den X.K H v t.data->Den X.K H v' t'.data->RelV v u->RelV v' u'->SeqAt.EqAt A s u u' (eqb t t'))
  (A:Around)(t t':Trm){a a':Addr}(h:Den X.K H (.ref a) t.data)(h':Den X.K H (.ref a') t'.data)(hz:t.size<=n+1)(hu:A.units+2*(n+1)+4<cLine):
  ∃us us',SqT X.K H a us/\SqT X.K H a' us'/\us.length=lenT t/\us'.length=lenT t'/\∀j x x' w w',us[j]? =some x->us'[j]? =some x'->RelV x w->RelV x' w'->SeqAt.EqAt A.in1 s w w' (eT t t' j):=by
 cases t with
 |num m=>
  obtain⟨a0,e0,hs⟩:=a3a h;cases e0;cases t' with
  |num m'=>
   obtain⟨a0',e0',hs'⟩:=a3a h';cases e0';refine⟨_,_,hs,hs',rfl,rfl,λj y y' w w' h1 h2 r1 r2=>?_⟩
   match j,h1,h2 with
    |0,h1,h2=>
     simp only[Zx,Z9]at h1 h2;subst h1 h2;have:=a2c (A:=A.in1) (s:=s) (a:=Sum.inr numS) (b:=Sum.inr numS) r1 r2;rw[show decide ((Sum.inr numS:Key)=Sum.inr numS)=true from qk]at this;exact this
    |1,h1,h2=>
     simp only[Yp,Zx,Z9]at h1 h2;subst h1 h2;have:=a2c (A:=A.in1) (s:=s) (a:=Sum.inl m) (b:=Sum.inl m') r1 r2;have e9:decide ((Sum.inl m:Key)=Sum.inl m')=decide (m=m'):=by
      refine Xl.mpr ⟨λh=>?_,λh=>by rw[h]⟩
      injection h
     rw[e9]at this;exact this
    |j+2,h1,h2=>simp at h1
  |any x'=>
   obtain⟨a0',e0',hs'⟩:=a2r h';cases e0';refine⟨_,_,hs,hs',rfl,rfl,λj y y' w w' h1 h2 r1 r2=>?_⟩
   match j,h1,h2 with
    |0,h1,h2=>
     simp only[Zx,Z9]at h1 h2;subst h1 h2;have:=a2c (A:=A.in1) (s:=s) (a:=Sum.inr numS) (b:=Sum.inr anyS) r1 r2;rw[show decide ((Sum.inr numS:Key)=Sum.inr anyS)=false from qk]at this;exact this
    |1,h1,h2=>
     simp only[Yp,Zx,Z9]at h1 h2;subst h1 h2;have:=a2c (A:=A.in1) (s:=s) (a:=Sum.inl m) (b:=Sum.inr x') r1 r2;have e9:decide ((Sum.inl m:Key)=Sum.inr x')=false:=Zs (λh=>by cases h);rw[e9]at this;exact this
    |j+2,h1,h2=>simp at h1
  |app sg' ks'=>
   obtain⟨a0',b',ku',e0',hs',hb',hk'⟩:=a2g h';cases e0';refine⟨_,_,hs,hs',rfl,rfl,λj y y' w w' h1 h2 r1 r2=>?_⟩
   match j,h1,h2 with
    |0,h1,h2=>
     simp only[Zx,Z9]at h1 h2;subst h1 h2;have:=a2c (A:=A.in1) (s:=s) (a:=Sum.inr numS) (b:=Sum.inr appS) r1 r2;rw[show decide ((Sum.inr numS:Key)=Sum.inr appS)=false from qk]at this;exact this
    |1,h1,h2=>
     simp only[Yp,Zx,Z9]at h1 h2;subst h1 h2;have:=a2c (A:=A.in1) (s:=s) (a:=Sum.inl m) (b:=Sum.inr sg') r1 r2;have e9:decide ((Sum.inl m:Key)=Sum.inr sg')=false:=Zs (λh=>by cases h);rw[e9]at this;exact this
    |j+2,h1,h2=>simp at h1
 |any x=>
  obtain⟨a0,e0,hs⟩:=a2r h;cases e0;cases t' with
  |num m'=>
   obtain⟨a0',e0',hs'⟩:=a3a h';cases e0';refine⟨_,_,hs,hs',rfl,rfl,λj y y' w w' h1 h2 r1 r2=>?_⟩
   match j,h1,h2 with
    |0,h1,h2=>
     simp only[Zx,Z9]at h1 h2;subst h1 h2;have:=a2c (A:=A.in1) (s:=s) (a:=Sum.inr anyS) (b:=Sum.inr numS) r1 r2;rw[show decide ((Sum.inr anyS:Key)=Sum.inr numS)=false from qk]at this;exact this
    |1,h1,h2=>
     simp only[Yp,Zx,Z9]at h1 h2;subst h1 h2;have:=a2c (A:=A.in1) (s:=s) (a:=Sum.inr x) (b:=Sum.inl m') r1 r2;have e9:decide ((Sum.inr x:Key)=Sum.inl m')=false:=Zs (λh=>by cases h);rw[e9]at this;exact this
    |j+2,h1,h2=>simp at h1
  |any x'=>
   obtain⟨a0',e0',hs'⟩:=a2r h';cases e0';refine⟨_,_,hs,hs',rfl,rfl,λj y y' w w' h1 h2 r1 r2=>?_⟩
   match j,h1,h2 with
    |0,h1,h2=>
     simp only[Zx,Z9]at h1 h2;subst h1 h2;have:=a2c (A:=A.in1) (s:=s) (a:=Sum.inr anyS) (b:=Sum.inr anyS) r1 r2;rw[show decide ((Sum.inr anyS:Key)=Sum.inr anyS)=true from qk]at this;exact this
    |1,h1,h2=>
     simp only[Yp,Zx,Z9]at h1 h2;subst h1 h2;have:=a2c (A:=A.in1) (s:=s) (a:=Sum.inr x) (b:=Sum.inr x') r1 r2;have e9:decide ((Sum.inr x:Key)=Sum.inr x')=decide (x=x'):=by
      refine Xl.mpr ⟨λh=>?_,λh=>by rw[h]⟩
      injection h
     rw[e9]at this;exact this
    |j+2,h1,h2=>simp at h1
  |app sg' ks'=>
   obtain⟨a0',b',ku',e0',hs',hb',hk'⟩:=a2g h';cases e0';refine⟨_,_,hs,hs',rfl,rfl,λj y y' w w' h1 h2 r1 r2=>?_⟩
   match j,h1,h2 with
    |0,h1,h2=>
     simp only[Zx,Z9]at h1 h2;subst h1 h2;have:=a2c (A:=A.in1) (s:=s) (a:=Sum.inr anyS) (b:=Sum.inr appS) r1 r2;rw[show decide ((Sum.inr anyS:Key)=Sum.inr appS)=false from qk]at this;exact this
    |1,h1,h2=>
     simp only[Yp,Zx,Z9]at h1 h2;subst h1 h2;have:=a2c (A:=A.in1) (s:=s) (a:=Sum.inr x) (b:=Sum.inr sg') r1 r2;have e9:decide ((Sum.inr x:Key)=Sum.inr sg')=decide (x=sg'):=by
      refine Xl.mpr ⟨λh=>?_,λh=>by rw[h]⟩
      injection h
     rw[e9]at this;exact this
    |j+2,h1,h2=>simp at h1
 |app sg ks=>
  obtain⟨a0,b,ku,e0,hs,hb,hk⟩:=a2g h;cases e0;cases t' with
  |num m'=>
   obtain⟨a0',e0',hs'⟩:=a3a h';cases e0';refine⟨_,_,hs,hs',rfl,rfl,λj y y' w w' h1 h2 r1 r2=>?_⟩
   match j,h1,h2 with
    |0,h1,h2=>
     simp only[Zx,Z9]at h1 h2;subst h1 h2;have:=a2c (A:=A.in1) (s:=s) (a:=Sum.inr appS) (b:=Sum.inr numS) r1 r2;rw[show decide ((Sum.inr appS:Key)=Sum.inr numS)=false from qk]at this;exact this
    |1,h1,h2=>
     simp only[Yp,Zx,Z9]at h1 h2;subst h1 h2;have:=a2c (A:=A.in1) (s:=s) (a:=Sum.inr sg) (b:=Sum.inl m') r1 r2;have e9:decide ((Sum.inr sg:Key)=Sum.inl m')=false:=Zs (λh=>by cases h);rw[e9]at this;exact this
    |j+2,h1,h2=>simp at h2
  |any x'=>
   obtain⟨a0',e0',hs'⟩:=a2r h';cases e0';refine⟨_,_,hs,hs',rfl,rfl,λj y y' w w' h1 h2 r1 r2=>?_⟩
   match j,h1,h2 with
    |0,h1,h2=>
     simp only[Zx,Z9]at h1 h2;subst h1 h2;have:=a2c (A:=A.in1) (s:=s) (a:=Sum.inr appS) (b:=Sum.inr anyS) r1 r2;rw[show decide ((Sum.inr appS:Key)=Sum.inr anyS)=false from qk]at this;exact this
    |1,h1,h2=>
     simp only[Yp,Zx,Z9]at h1 h2;subst h1 h2;have:=a2c (A:=A.in1) (s:=s) (a:=Sum.inr sg) (b:=Sum.inr x') r1 r2;have e9:decide ((Sum.inr sg:Key)=Sum.inr x')=decide (sg=x'):=by
      refine Xl.mpr ⟨λh=>?_,λh=>by rw[h]⟩
      injection h
     rw[e9]at this;exact this
    |j+2,h1,h2=>simp at h2
  |app sg' ks'=>
   obtain⟨a0',b',ku',e0',hs',hb',hk'⟩:=a2g h';cases e0';refine⟨_,_,hs,hs',rfl,rfl,λj y y' w w' h1 h2 r1 r2=>?_⟩
   match j,h1,h2 with
    |0,h1,h2=>
     simp only[Zx,Z9]at h1 h2;subst h1 h2;have:=a2c (A:=A.in1) (s:=s) (a:=Sum.inr appS) (b:=Sum.inr appS) r1 r2;rw[show decide ((Sum.inr appS:Key)=Sum.inr appS)=true from qk]at this;exact this
    |1,h1,h2=>
     simp only[Yp,Zx,Z9]at h1 h2;subst h1 h2;have:=a2c (A:=A.in1) (s:=s) (a:=Sum.inr sg) (b:=Sum.inr sg') r1 r2;have e9:decide ((Sum.inr sg:Key)=Sum.inr sg')=decide (sg=sg'):=by
      refine Xl.mpr ⟨λh=>?_,λh=>by rw[h]⟩
      injection h
     rw[e9]at this;exact this
    |2,h1,h2=>
     simp only[Yp,Zx,Z9]at h1 h2;subst h1 h2;obtain rfl:w=Value.ref b:=r1;obtain rfl:w'=Value.ref b':=r2
     show SeqAt.EqAt A.in1 s (.ref b) (.ref b') (eqbL ks ks')
     by_cases hbb:b=b'
     ·subst hbb;have e1:=I.tuple_inj hb hb';subst e1;have e2:=Trm.dataL_inj (b6l I hk hk');subst e2;rw[(a9y ks ks).mpr rfl];exact Xj _
     ·have l1:=hk.length;have l2:=hk'.length;rw[Trm.dataL_map,length_map]at l1 l2
      have:=c0q I (A:=A.in1) hb hb' hbb (λj=>match ks[j]?,ks'[j]? with|some a,some b=>eqb a b|_,_=>true) (by show A.units+1+1<cLine;omega) (λj y y' z z' g1 g2 q1 q2=>by
       obtain⟨d,e1,d1⟩:=hk.get g1;obtain⟨d',e2,d2⟩:=hk'.get g2;rw[Trm.dataL_map,Zv]at e1 e2;cases f1:ks[j]? with
       |none=>rw[f1]at e1;cases e1
       |some k1=>
        cases f2:ks'[j]? with
        |none=>rw[f2]at e2;cases e2
        |some k2=>
         rw[f1]at e1;rw[f2]at e2;cases e1;cases e2;have hs1:=d2r (Zn f1);simp only[Trm.size]at hz
         exact ih A.in1.in1 k1 k2 y y' z z' qo (by show A.units+1+1+2*n+4<cLine;omega) d1 d2 q1 q2)
      rw[l1,l2,c2z]at this;exact this
    |j+3,h1,h2=>simp at h1
theorem b6n(I:Inv X pj σ H s):∀(n:Nat)(A:Around)(t t':Trm)(v v':V)(u u':Value),t.size<=n->A.units+2*n+4<cLine->Den X.K H v t.data->Den X.K H v' t'.data->RelV v u->RelV v' u'->SeqAt.EqAt A s u u' (eqb t t'):=by
 intro n
 induction n with
 |zero=>
  intro A t t' v v' u u' hz;have:=t.size_pos;omega
 |succ n ih=>
  intro A t t' v v' u u' hz hu h h' r r';obtain⟨a,_,_,rfl,_⟩:=a7x h;obtain⟨a',_,_,rfl,_⟩:=a7x h';obtain rfl:u=Value.ref a:=r;obtain rfl:u'=Value.ref a':=r'
  by_cases hab:a=a'
  ·subst hab;have e1:=Trm.data_inj (b5k I h h');rw[e1,a6z];exact Xj _
  obtain⟨us,us',hs,hs',l1,l2,it⟩:=b6m I n ih A t t' h h' hz hu;have key:=c0q I (A:=A) hs hs' hab (eT t t') qo it;rw[l1,l2,c3a]at key;exact key
end
section
variable{X:Cx}
def mEqT(K:Frag)(n:Bool):R2:=λx y H Q=>∃(t t':Trm),Den K H x t.data/\Den K H y t'.data/\t.size<=70/\Q (.bl (n^^eqb t t')) H
theorem c9p(K:Frag)(hK:X.K=K)(hu:X.A.units+150<cLine):OpR X (compareOp .Eq) (mEqT K false):=by
 subst hK;intro pj s σ H x y v u Q I rx ry h;obtain⟨t,t',h,h',hz,k⟩:=h;obtain⟨a,_,_,rfl,_⟩:=a7x h;obtain⟨a',_,_,rfl,_⟩:=a7x h';cases rx;cases ry;obtain⟨us,us',hs,hs',l1,l2,it⟩:=b6m I 69 (b6n I 69) X.A t t' h h' qo qo;obtain⟨its,rv,p1,_⟩:=I.tuple hs;obtain⟨its',rv',p2,_⟩:=I.tuple hs';have m1:=rv.length;have m2:=rv'.length;refine SeqAt.eq_tupleAt (e:=eT t t') (show s.heap.IsTuple a its.toArray from p1) (show s.heap.IsTuple a' its'.toArray from p2) qo (λj h1 h2=>?_) ?_
 ·have h1:j<its.length:=by simpa using h1
  have h2:j<its'.length:=by simpa using h2
  have x1:us[j]? =some us[j]:=Za qo
  have x2:us'[j]? =some us'[j]:=Za qo
  obtain⟨w1,y1,z1⟩:=rv.get x1;obtain⟨w2,y2,z2⟩:=rv'.get x2;have q1:its.toArray[j]=w1:=by
   have:=Za h1;rw[y1]at this
   simpa using(Zl this).symm
  have q2:its'.toArray[j]=w2:=by
   have:=Za h2;rw[y2]at this
   simpa using(Zl this).symm
  rw[q1,q2];exact it j _ _ _ _ x1 x2 z1 z2
 ·rw[Zj,Zj,<-m1,<-m2,l1,l2,c3a];rw[Zp]at k;exact⟨.bl _,H,I,rfl,k⟩
theorem ko_neT(K:Frag)(hK:X.K=K)(hu:X.A.units+150<cLine):OpR X (compareOp .NotEq) (mEqT K true):=by
 subst hK;intro pj s σ H x y v u Q I rx ry h;obtain⟨t,t',h,h',hz,k⟩:=h;obtain⟨a,_,_,rfl,_⟩:=a7x h;obtain⟨a',_,_,rfl,_⟩:=a7x h';cases rx;cases ry;obtain⟨us,us',hs,hs',l1,l2,it⟩:=b6m I 69 (b6n I 69) X.A t t' h h' qo qo;obtain⟨its,rv,p1,_⟩:=I.tuple hs;obtain⟨its',rv',p2,_⟩:=I.tuple hs';have m1:=rv.length;have m2:=rv'.length;refine Sy (e:=eT t t') (show s.heap.IsTuple a its.toArray from p1) (show s.heap.IsTuple a' its'.toArray from p2) qo (λj h1 h2=>?_) X.prog X.w _ _ ?_
 ·have h1:j<its.length:=by simpa using h1
  have h2:j<its'.length:=by simpa using h2
  have x1:us[j]? =some us[j]:=Za qo
  have x2:us'[j]? =some us'[j]:=Za qo
  obtain⟨w1,y1,z1⟩:=rv.get x1;obtain⟨w2,y2,z2⟩:=rv'.get x2;have q1:its.toArray[j]=w1:=by
   have:=Za h1;rw[y1]at this
   simpa using(Zl this).symm
  have q2:its'.toArray[j]=w2:=by
   have:=Za h2;rw[y2]at this
   simpa using(Zl this).symm
  rw[q1,q2];exact it j _ _ _ _ x1 x2 z1 z2
 ·rw[Zj,Zj,<-m1,<-m2,l1,l2,c3a];rw[Bool.true_xor]at k;exact⟨.bl _,H,I,rfl,k⟩
theorem c9q{K:Frag}{H:Hp}{Q:VK}{x y:V}{n:Bool}{t t':Trm}(h:Den K H x t.data)(h':Den K H y t'.data)(hz:t.size<=70)(k:Q (.bl (n^^eqb t t')) H):mEqT K n x y H Q:=⟨t,t',h,h',hz,k⟩
end
section
variable{prog:Program}{w:World}{A:Around}{E:Value->Shared->Prop}{s:Shared}
abbrev c9r(h:Heap)(z TI TO:Addr)(f0:Value)(f1:Bool):Prop:=
 h.get? z=some { cls:=.type "zip",dict:=none,data:=.fields #[f0,.bool f1,.bool false,.ref TI,.ref TO],slots:=#[]}
end
section
variable{prog:Program}{w:World}{A:Around}{E:Value->Shared->Prop}{s:Shared}
def ZS(h:Heap)(z TI TO i1 i2 t1 t2 S:Addr)(i:Nat):Prop:=
 ((IsZip h z TI TO .none/\∃a b,IsPair h TO a b)\/∃(T:Addr)(f1:Bool)(o:Obj),c9r h z TI TO (rawInt T) f1/\h.get? T=some o/\T≠z/\T≠TO/\T≠i1/\T≠i2/\T≠S)/\IsPair h TI (.ref i1) (.ref i2)/\h.IsTupleIter i1 t1 i/\h.IsTupleIter i2 t2 i
end
section
variable{X:Cx}
def mNeKs(K:W.Frag):R2:=λx y H Q=>∃(p:Addr)(k1:List Key),x=.ref p/\SqT K H p (k1.map kV)/\((y=.non/\Q (.bl true) H)\/∃(q:Addr)(k2:List Key),y=.ref q/\SqT K H q (k2.map kV)/\Q (.bl (!decide (k1=k2))) H)
theorem ko_neKs(K:FG)(hK:X.K=K)(hu:X.A.units+150<cLine):OpR X (compareOp .NotEq) (mNeKs K):=by
 subst hK;intro pj s σ H x y v u Q I rx ry h;obtain⟨p,k1,rfl,hp,h⟩:=h;cases rx;obtain⟨its,rv,p1,_⟩:=I.tuple hp;rcases h with⟨rfl,k⟩|⟨q,k2,rfl,hq,k⟩
 ·cases ry;exact SeqAt.RcNeAt.tuple_none (show s.heap.IsTuple p its.toArray from p1) qo X.prog X.w _ _ ⟨.bl true,H,I,rfl,k⟩
 cases ry;obtain⟨its',rv',p2,_⟩:=I.tuple hq;have l1:=rv.length;have l2:=rv'.length;rw[length_map]at l1 l2;refine Sy (e:=λj=>decide (k1[j]? =k2[j]?)) (show s.heap.IsTuple p its.toArray from p1) (show s.heap.IsTuple q its'.toArray from p2) qo (λj h1 h2=>?_) X.prog X.w _ _ ?_
 ·have g1:j<its.length:=by simpa using h1
  have g2:j<its'.length:=by simpa using h2
  have j1:j<k1.length:=by omega
  have j2:j<k2.length:=by omega
  obtain⟨w1,y1,z1⟩:=rv.get (show(k1.map kV)[j]? =some (kV k1[j]) by rw[Zv,Za j1];rfl);obtain⟨w2,y2,z2⟩:=rv'.get (show(k2.map kV)[j]? =some (kV k2[j]) by rw[Zv,Za j2];rfl);have q1:its.toArray[j]=w1:=by
   have:=Za g1;rw[y1]at this
   simpa using(Zl this).symm
  have q2:its'.toArray[j]=w2:=by
   have:=Za g2;rw[y2]at this
   simpa using(Zl this).symm
  rw[q1,q2];have e0:decide (k1[j]? =k2[j]?)=decide (k1[j]=k2[j]):=by rw[Za j1,Za j2];exact Xl.mpr ⟨λh=>Zl h,λh=>by rw[h]⟩
  rw[e0];exact a2c z1 z2
 ·rw[Zj,Zj,<-l1,<-l2,all_eq];exact⟨.bl _,H,I,rfl,k⟩
end
theorem c7d:typeLookup (.type "list_reverseiterator") "__len__"=pure none:=by rw[Xi,Yx];kernel_rfl
theorem d2s:typeLookup (.type "list_reverseiterator") "__length_hint__"=pure (some (.builtin "list_reverseiterator.__length_hint__")):=by rw[Xi,Yx];kernel_rfl
theorem c9s:typeLookup (.type "reversed") "__len__"=pure none:=by rw[Xi,Yx];kernel_rfl
theorem b6o:Manifest.owners.lookup (String.ofList ['d','e','s','r','e','v','e','r'].reverse)=some Manifest.sig_reversed:=by kernel_rfl
theorem a5z:Slot "reversed" "__next__" "reversed.__next__":=
 .of (owner:="reversed") (n:="__next__") (by rw[Xi,Yx];kernel_rfl) qk qk qk
  (by first|exact .inl (by decide+kernel)|exact .inr qk) (by rw[Xf];kernel_rfl)
theorem b3i:entryFor table "reversed.__next__"=some Builtin.«reversed.__next__»:=U0 (by kernel_rfl)
theorem b1i(a:Value):argsOk "reversed.__next__" ⟨[a],[]⟩:=by
 unfold argsOk;rw[signature?_of (id:="reversed.__next__") (n:=['_','_','t','x','e','n','_','_']) (o:=['d','e','s','r','e','v','e','r']) (by kernel_rfl) b6o];kernel_rfl
theorem b4b:Slot "reversed" "__iter__" "reversed.__iter__":=
 .of (owner:="reversed") (n:="__iter__") (by rw[Xi,Yx];kernel_rfl) qk qk qk
  (by first|exact .inl (by decide+kernel)|exact .inr qk) (by rw[Xf];kernel_rfl)
theorem b9k(a:Value):argsOk "reversed.__iter__" ⟨[a],[]⟩:=by
 unfold argsOk;rw[signature?_of (id:="reversed.__iter__") (n:=['_','_','r','e','t','i','_','_']) (o:=['d','e','s','r','e','v','e','r']) (by kernel_rfl) b6o];kernel_rfl
theorem c1j:entryFor table "reversed.__iter__"=some Builtin.«dict_keyiterator.__iter__»:=
 Te (id':="dict_keyiterator.__iter__") (by kernel_rfl) (by first|rfl|decide+kernel| (unfold String.splitOn;simp+decide [String.splitOnAux])) qk (by kernel_rfl)
theorem a9z:Slot "reversed" "__length_hint__" "reversed.__length_hint__":=
 .of (owner:="reversed") (n:="__length_hint__") (by rw[Xi,Yx];kernel_rfl) qk qk qk
  (by first|exact .inl (by decide+kernel)|exact .inr qk) (by rw[Xf];kernel_rfl)
theorem c1k:entryFor table "reversed.__length_hint__"=some Builtin.«reversed.__length_hint__»:=U0 (by kernel_rfl)
theorem b9l(a:Value):argsOk "reversed.__length_hint__" ⟨[a],[]⟩:=by
 unfold argsOk;rw[signature?_of (id:="reversed.__length_hint__") (n:="__length_hint__".toList.reverse) (o:=['d','e','s','r','e','v','e','r']) (by kernel_rfl) b6o];kernel_rfl
theorem c3b:Slot "reversed" "__init__" "object.__init__":=
 .of (owner:="object") (n:="__init__") (by rw[Xi,Yx];kernel_rfl) qk qk qk
  (by first|exact .inl (by decide+kernel)|exact .inr qk) (by rw[Xf];kernel_rfl)
theorem c9t:TypeCalled "reversed" "reversed.__new__" "object.__init__":=
 ⟨qk,qk,⟨_,_,F.mro_reversed⟩,madeBy_type F.mro_reversed F.lookup_reversed_new qk,qk,by rw[Xf];kernel_rfl,c3b⟩
theorem c7e:typeLookup (.type "tuple") "__reversed__"=pure none:=by rw[Xi,Yx];kernel_rfl
def IsRv(h:Heap)(a t:Addr)(i:Int):Prop:=∃o,h.get? a=some o/\o.cls=.type "reversed"/\o.data=.fields #[.ref t,rawInt i]
theorem IsRv.typeIs{s:Shared}{a t:Addr}{i:Int}(x:IsRv s.heap a t i):s.TypeIs (.ref a) "reversed":=let⟨o,ho,hc,_⟩:=x;⟨o,ho,hc⟩
theorem IsRv.at{h h':Heap}{a l:Addr}{i:Int}(x:IsRv h a l i)(e:∀o,h.get? a=some o->h'.get? a=some o):IsRv h' a l i:=let⟨o,ho,r⟩:=x;⟨o,e _ ho,r⟩
def b7x(t:Addr)(i:Int):Obj:={ cls:=.type "reversed",data:=.fields #[.ref t,rawInt i]}
theorem c9u(t:Addr)(items:Array Value)(hn:(items.size:Int)<2^63):
  Meets (Builtin.«reversed.__new__» ⟨[.type "reversed",.ref t],[]⟩) (λ_ R s=>IsTup s.heap t items/\∀tk,R (.ok (.ret (.ref s.heap.objs.size))) { s with heap:=s.heap.push (b7x t ((items.size:Int)-1)),toks:=tk}):=
 .of_wp λprog w A R s h=>by
  obtain⟨ht,h⟩:=h;unfold Builtin.«reversed.__new__»;refine Zb (X5 (newClass_reversed _) ?_)
  try dsimp only
  refine Zb (X5 (a:=()) (by first|rfl|kernel_rfl) ?_);refine Zb (X5 (a:=()) (by first|rfl|kernel_rfl) ?_)
  try dsimp only
  refine Zb (Ym ht.typeIs c7e ?_)
  try dsimp only
  refine Zb ?_
  show wpAny _ _ (isInstance (Value.ref t) (.type "dict")>>=_) _ _ _
  refine Zb (X1 (T:="tuple") (b:=false) ht.typeIs (by rw[Xf];kernel_rfl) ?_);refine Yg (λhab=>absurd hab qd) (λ_=>?_);refine Zb (Ym ht.typeIs Ug.lookup ?_);refine Yg (λ_=>?_) (λhab=>absurd qk hab);refine Zf ?_;refine Yg (λhab=>absurd hab qd) (λ_=>?_);refine Zb (len_tuple ht hn ?_);refine Zb (m:=asInt? _) (Zf ?_);refine Zb ?_
  show wpAny _ _ (newObj (.type "reversed") (.fields #[.ref t,rawInt ((items.size:Int)-1)])) _ _ _
  refine Xe (Zf ⟨_,rfl,?_⟩);exact h _
section
variable{prog:Program}{w:World}{A:Around}{E:Value->Shared->Prop}{s:Shared}
theorem b5y{t:Addr}{items:Array Value}{Q:Value->Shared->Prop}(ht:IsTup s.heap t items)(hn:(items.size:Int)<2^63)
  (h:∀tk,Q (.ref s.heap.objs.size) { s with heap:=s.heap.push (b7x t ((items.size:Int)-1)),toks:=tk}):wpAny (model prog w) A (call (.type "reversed") [.ref t]) Q E s:=by
 refine callType_new c9t qd (F.typeCall_reversed_1 _) (F.newCall_reversed_1 _) (λobj=>F.args_object_init_2 obj _) F.entry_reversed_new (c9u t items hn) ⟨ht,λtk=>?_⟩;exact⟨⟨_,Zu _ rfl,rfl⟩,h tk⟩
theorem c3c{it t:Addr}{i:Nat}{items:Array Value}{x:Value}{Q:Option Value->Shared->Prop}(hit:IsRv s.heap it t (i:Int))(ht:IsTup s.heap t items)(hi:(i:Int)<2^63)(hx:items[i]? =some x)
  (hQ:∀h' tk,IsRv h' it t ((i:Int)-1)->Heap.SameBut it s.heap h'->Q (some x) { s with heap:=h',toks:=tk}):wpAny (model prog w) A (pyNext (.ref it)) Q E s:=by
 obtain⟨o,ho,hc,hd⟩:=id hit;unfold pyNext
 refine Zb (W7 (wpAny_callSpecial?_slot (name:=ofString "__next__") hit.typeIs a5z
  (Yq a5z hit.typeIs b3i ?_ (b1i _))))
 unfold Builtin.«reversed.__next__»;refine Zb (X5 (a:=(Value.ref it,[])) rfl ?_)
 try dsimp only
 refine Zb (Va ho hd (x:=.ref t) rfl ?_);refine Zb (Va ho hd (x:=rawInt (i:Int)) rfl ?_)
 show wpAny _ _ (if(i:Int)<0 then _ else _) _ _ s
 rw[if_neg qo];refine Zb (Ym ht.typeIs Ug.lookup ?_);refine Yg (λhab=>absurd hab qd) (λ_=>?_);refine Zb (wpAny_mkInt ?_);have hlt:i<items.size:=by
  rcases Nat.lt_or_ge i items.size with z|z
  ·exact z
  ·rw[Array.getElem?_eq_none z]at hx;cases hx
 have hj:seqIndex? (i:Int) items.size=some i:=by
  unfold seqIndex?
  simp
  omega
 refine Zb (W7 (getItem_tuple (s:={ s with toks:=s.toks+1}) (j:=i) ht qo hi hj hx ?_));refine Zb (Va ho hd (x:=rawInt (i:Int)) rfl ?_)
 show wpAny _ _ (setField (.ref it) 1 (rawInt ((i:Int)-1))>>=λ_=>ret x) _ _ _
 refine Zb (Td ho hd qz ?_);refine Zf ⟨x,rfl,Zf (hQ _ _ ?_ (X0 ..))⟩
 exact⟨_,Xb _ ho (Sh (Vo hd _)),(Obj.cls_mapFields ..).trans hc,by
  rw[Vo hd];simp⟩
theorem c5e{it t:Addr}{Q:Option Value->Shared->Prop}(hh:A.handled=none)(hit:IsRv s.heap it t (-1))
  (hQ:∀h',Heap.ExtBut it s.heap h'->Q none { s with heap:=h'}):wpAny (model prog w) A (pyNext (.ref it)) Q E s:=by
 obtain⟨o,ho,hc,hd⟩:=id hit;unfold pyNext
 refine Zb (W7 (wpAny_callSpecial?_slot (name:=ofString "__next__") hit.typeIs a5z
  (Yq a5z hit.typeIs b3i ?_ (b1i _))))
 unfold Builtin.«reversed.__next__»;refine Zb (X5 (a:=(Value.ref it,[])) rfl ?_)
 try dsimp only
 refine Zb (Va ho hd (x:=.ref t) rfl ?_);refine Zb (Va ho hd (x:=rawInt (-1)) rfl ?_)
 show wpAny _ _ (if(-1:Int)<0 then _ else _) _ _ s
 rw[if_pos qd];refine Zb (Wg ?_);refine Zb ?_
 show wpAny _ _ (setField (.ref it) 1 (rawInt (-1))>>=λ_=>setField (.ref it) 0 .none) _ _ _
 refine Zb (Td ho hd qz ?_);have ho1:=Xb (Obj.mapFields (·.setIfInBounds 1 (rawInt (-1)))) ho (Sh (Vo hd _));have hd1:(Obj.mapFields (λx=>x.setIfInBounds 1 (rawInt (-1))) o).data=.fields #[.ref t,rawInt (-1)]:=by rw[Vo hd];simp
 refine Td ho1 hd1 qz ?_;refine Zb ?_
 show wpAny _ _ (newExc (.type "StopIteration") []>>=_) _ _ _
 refine Zb ?_;simp only[newExc,newTuple];refine Zb (Xe ?_ (by size_fits));refine Zb (m:=firstArgMember _ _) (X5 (a:=Value.none) (by first|rfl| (simp only[firstArgMember];rfl)) ?_);refine Xe ?_ (by size_fits);simp only[raiseNew];refine Zb (wpAny_handled ?_)
 first|rw[show A.in1.handled=none from hh]|rw[hh]
 refine Zb (Zf (wpAny_throw ?_));refine Zb (X1 (T:="StopIteration") (b:=true) ⟨_,Zu _ rfl,rfl⟩ isSubtype_stop ?_);refine Zf (hQ _ (λb u hb e=>?_));exact Zh _ (Zh _ ((Xq _ _ (Ne.symm hb)).trans ((Xq _ _ (Ne.symm hb)).trans e)))
theorem iter_rv{it t:Addr}{i:Int}{Q:Value->Shared->Prop}(hit:IsRv s.heap it t i)(h:Q (.ref it) s):wpAny (model prog w) A (pyIter (.ref it)) Q E s:=by
 refine Uo hit.typeIs b4b (Yq b4b hit.typeIs c1j ?_ (b9k _))
 show wpAny _ _ (ret (.ref it)) _ _ s
 exact Zf ⟨_,rfl,"reversed",_,hit.typeIs,a5z.lookup,h⟩
theorem d2t{r:Addr}{Q:Bool->Shared->Prop}(hT:s.TypeIs (.ref r) "list_reverseiterator")(h:Q false s):wpAny (model prog w) A (Builtin.List.listLengthHint (.ref r)) Q E s:=by
 unfold Builtin.List.listLengthHint;refine Zb (Ym hT c7d ?_)
 show wpAny _ _ (specialOf (Value.ref r) (ofString "__length_hint__")>>=_) _ _ _
 refine Zb (Ym hT d2s ?_);generalize hid:("list_reverseiterator.__length_hint__":String)=id0
 wp_delta
 rw[show splitId id0=some ("list_reverseiterator","__length_hint__")from by subst hid;decide+kernel];subst hid;refine Zb (X1 (T:="list_reverseiterator") (b:=true) hT (by rw[Xf];kernel_rfl) ?_);refine Yg (λhab=>absurd hab qd) (λ_=>?_);refine Yg (λ_=>?_) (λhab=>absurd qk hab);refine Yg (λhab=>absurd hab qk) (λ_=>?_);exact Zf h
theorem hint_rv{r t:Addr}{i:Int}{items:Array Value}{Q:Bool->Shared->Prop}(hit:IsRv s.heap r t i)(ht:IsTup s.heap t items)(hi:i=(items.size:Int)-1)(hn:items.size<=2^24)(h:∀b tk,Q b { s with toks:=tk}):wpAny (model prog w) A (Builtin.List.listLengthHint (.ref r)) Q E s:=by
 have hT:=hit.typeIs;obtain⟨o,ho,hc,hd⟩:=id hit;unfold Builtin.List.listLengthHint;refine Zb (Ym hT c9s ?_)
 show wpAny _ _ (specialOf (Value.ref r) (ofString "__length_hint__")>>=_) _ _ _
 refine Zb (Ym hT a9z.lookup ?_);generalize hid:("reversed.__length_hint__":String)=id0
 wp_delta
 rw[show splitId id0=some ("reversed","__length_hint__")from by subst hid;decide+kernel];subst hid;refine Zb (X1 (T:="reversed") (b:=true) hT (by rw[Xf];kernel_rfl) ?_);refine Yg (λhab=>absurd hab qd) (λ_=>?_);refine Yg (λhab=>absurd hab qk) (λ_=>?_);refine Zb (Wg ?_);refine Zb (X5 (a9z.bind _) ?_);refine Zb (W7 (Yq a9z hT c1k ?_ (b9l _)));unfold Builtin.«reversed.__length_hint__»;refine Zb (X5 (a:=Value.ref r) rfl ?_);refine Zb (Va ho hd (x:=.ref t) rfl ?_);refine Yg (λhab=>absurd hab Zo) (λ_=>?_);refine Zb (len_tuple ht qo ?_);refine Zb (m:=asInt? _) (Zf ?_);refine Zb (Va ho hd (x:=rawInt i) rfl ?_)
 show wpAny _ _ (if(items.size:Int)<i+1 then _ else _) _ _ _
 rw[if_neg qo];refine Zb (wpAny_mkInt (Zf ⟨_,rfl,?_⟩));refine Zb (m:=asInt? _) (Zf ?_);have e1:Builtin.List.listFitsIndex (i+1)=true:=by simp[Builtin.List.listFitsIndex];omega
 have e2:Builtin.List.listTooLong (i+1).toNat=false:=by simp[Builtin.List.listTooLong,Yw];omega
 refine Yg (λhab=>absurd hab (by rw[e1];decide)) (λ_=>?_);refine Yg (λhab=>absurd hab qo) (λ_=>?_);refine Yg (λhab=>absurd hab (by rw[e2];decide)) (λ_=>?_);exact Zf (h _ _)
theorem d2u(hh:A.handled=none)(I t:Addr)(hne:t≠I)(items:Array Value)(hn:items.size<=2^24):
  Walks prog w A I [I,t] [I] items.size (λi v=>items[items.size-1-i]? =some v) (λi h=>i<=items.size/\IsRv h I t ((items.size:Int)-1-(i:Int))/\IsTup h t items) where
 sub:=λb hb=>by simp at hb;simp[hb]
 frame:=λ_ _ _ x hk=>⟨x.1,x.2.1.at λo e=>hk I qz o e,let⟨o,ho,r⟩:=x.2.2;⟨o,hk t qz o ho,r⟩⟩
 item:=λi s Q E hi x hQ=>by
  have e:(items.size:Int)-1-(i:Int)=((items.size-1-i:Nat):Int):=by omega
  have hit:=x.2.1;rw[e]at hit;have hx:items[items.size-1-i]? =some (items[items.size-1-i]'(by omega)):=Wp qo
  refine c3c hit x.2.2 qo hx λh' tk hit' hs'=>?_
  have e2:((items.size-1-i:Nat):Int)-1=(items.size:Int)-1-((i+1:Nat):Int):=by omega
  rw[e2]at hit';exact hQ _ h' tk hx ⟨hi,hit',let⟨o,ho,r⟩:=x.2.2;⟨o,(hs'.2 t hne).trans ho,r⟩⟩ λb o hb eo=>hs'.extBut b o (λh=>hb (by simp[h])) eo
 done:=λs Q E x hQ=>by
  have e:(items.size:Int)-1-(items.size:Int)= -1:=by omega
  have hit:=x.2.1;rw[e]at hit;exact c5e hh hit λh' he'=>hQ h' s.toks λb o hb eo=>he' b o (λh=>hb (by simp[h])) eo
 self:=λ_ _ _ _ x hQ=>iter_rv x.2.1 hQ
theorem b4c{Q:Value->Shared->Prop}{T:String}{I:Addr}{fp wr:List Addr}{n:Nat}{P:Nat->Value->Prop}{St:Nat->Heap->Prop}(W:Walks prog w A.in1.in1 I fp wr n P St)(hn:n<=sizeLine)
  (hT:∀(s':Shared),St 0 s'.heap->s'.TypeIs (.ref I) T)(h2:(Value.type T==Value.type "list")=false)(h3:(Value.type T==Value.type "tuple")=false)
  (hint:∀{A':Around}{E':Value->Shared->Prop}(s':Shared)(Q':Bool->Shared->Prop),St 0 s'.heap->(∀b tk,Q' b { s' with toks:=tk})->wpAny (model prog w) A' (Builtin.List.listLengthHint (.ref I)) Q' E' s')
  (hst:St 0 s.heap)(hfp:∀b∈fp,b<s.heap.objs.size)(hI:I∈fp)
  (hQ:∀h' tk acc' c',(∀b o,b∉wr->s.heap.get? b=some o->h'.get? b=some o)->
   h'.get? s.heap.objs.size=some { cls:=.type "list",dict:=none,data:=.seq acc' c',slots:=#[]}->ItemsOf P acc' n->Q (.ref s.heap.objs.size) { s with heap:=h',toks:=tk}):
  wpAny (model prog w) A (call (.type "list") [.ref I]) Q E s:=by
 have hSf:s.heap.objs.size∉fp:=λhm=>Y3 _ (hfp _ hm)
 have hSI:s.heap.objs.size≠I:=λe=>hSf (e▸hI)
 refine callType_codes (Q₁:=λobj s₁=>obj=.ref s.heap.objs.size/\s₁={ s with heap:=s.heap.push { cls:=.type "list",data:=.seq #[]}}) F.called_list (F.typeCall_list_1 _) F.entry_list_init
  (code_list_new _ ⟨rfl,rfl⟩) λobj s₁ h₁=>?_
 obtain⟨rfl,rfl⟩:=h₁;have hS:(s.heap.push { cls:=.type "list",data:=.seq #[]}).get? s.heap.objs.size=some { cls:=.type "list",data:=.seq #[]}:=Zu _ rfl;refine⟨⟨_,hS,rfl⟩,F.args_list_init_2 _ _,?_⟩;generalize hSS:s.heap.objs.size=S at hS hSf hSI hQ ⊢
 show wpAny _ _ (do let old <-Builtin.List.listItems (.ref S);Builtin.List.listUpdate (.ref S) (λ_=>#[]);letGo old.toList.reverse;Builtin.List.listExtendWith (.ref S) (.ref I) .none) _ _ _
 refine Zb ?_;unfold Builtin.List.listItems;refine Zb (wpAny_seqItems hS rfl (Zf ?_))
 show wpAny _ _ (updateSeq S (λ_=>#[])>>=λ_=>letGo (#[]:Array Value).toList.reverse>>=λ_=>Builtin.List.listExtendWith (.ref S) (.ref I) .none) _ _ _
 refine Zb (V4 hS rfl ?_);have hS₁:=Xb (Obj.mapSeq (λ_=>(#[]:Array Value))) hS rfl;have k1:∀b o,b≠S->s.heap.get? b=some o->((s.heap.push { cls:=.type "list",data:=.seq #[]}).update S (Obj.mapSeq (λ_=>(#[]:Array Value)))).get? b=some o:=
  λb o hb e=>(Xq _ _ (Ne.symm hb)).trans (Zh _ e)
 refine Zb (wpAny_letGo ?_);generalize ((s.heap.push { cls:=.type "list",data:=.seq #[]}).update S (Obj.mapSeq (λ_=>(#[]:Array Value))))=hp1 at hS₁ k1 ⊢;have neS:∀b∈fp,b≠S:=λb hb e=>hSf (e▸hb)
 have st1:St 0 hp1:=W.frame 0 _ _ hst λb hb o e=>k1 b o (neS b hb) e
 unfold Builtin.List.listExtendWith;refine Zb (wpAny_typeOf (hT { s with heap:=hp1} st1) ?_);have g1:Builtin.List.listSameRef (.ref S) (.ref I)=false:=by simp[Builtin.List.listSameRef,hSI]
 simp only[g1,h2,h3,Bool.or_false,Xw,Vb];refine Zb (W.self 0 { s with heap:=hp1} _ _ st1 ?_);refine Zb (Yi (hint { s with heap:=hp1} _ st1 λb tk=>?_));have key:∀(h:Heap)(c₁:Nat),(∀b o,b≠S->s.heap.get? b=some o->h.get? b=some o)->h.get? S=some { cls:=.type "list",data:=.seq #[] c₁}->
   codeAny (model prog w) A.in1 (.builtin "list.extend.loop" ⟨[.ref S,.ref I,.none],[]⟩) (wants (λr s'=>r=.none/\Q (.ref S) s') E) { s with heap:=h,toks:=tk}:=by
  intro h c₁ hk hS₂;refine codeAny_extend_loopS W.toS hn S hSf .none n 0 _ #[] c₁ rfl (Z4 _) (W.frame 0 _ _ hst λb hb o e=>hk b o (neS b hb) e) hS₂ (ItemsOf.nil _) λs' acc' c' hm hS' hacc=>?_
  rw[Moved.eq_with hm];refine⟨rfl,hQ s'.heap s'.toks acc' c' (λb o hb e=>hm.heap b o (λhmem=>?_) (hk b o (λz=>?_) e)) hS' hacc⟩
  ·rcases Zg.mp hmem with e'|hmem
   ·have:=Zq e;rw[e',hSS]at this;exact Y3 _ this
   ·exact hb hmem
  ·have:=Zq e;rw[z,hSS]at this;exact Y3 _ this
 refine Yg (λ_=>?_) (λ_=>Zf ⟨W8 S6 _,key _ _ k1 hS₁⟩);refine Zb (Wg ?_);refine Zb ?_
 show wpAny _ _ (updateSeq S (·.push .none)>>=λ_=>updateSeq S (·.pop)) _ _ _
 refine Zb (V4 hS₁ rfl ?_);have hS₂:=Xb (Obj.mapSeq (·.push Value.none)) hS₁ rfl;refine V4 (hz:=by seq_fits) hS₂ rfl ?_;have hS₃:=Xb (Obj.mapSeq (·.pop)) hS₂ rfl;exact Zf ⟨W8 S6 _,key _ _ (λb o hb e=>(Xq _ _ (Ne.symm hb)).trans ((Xq _ _ (Ne.symm hb)).trans (k1 b o hb e))) hS₃⟩
end
theorem c9v{its:List Value}{acc:Array Value}(h:ItemsOf (λi v=>its.toArray[its.toArray.size-1-i]? =some v) acc its.toArray.size):acc=its.reverse.toArray:=by
 obtain⟨h1,h2⟩:=h
 apply Array.ext'
 rw[List.toList_toArray]
 apply List.ext_getElem?
 intro j;have hs:acc.toList.length=its.length:=by rw[Y1,h1,Zj]
 by_cases hj:j<its.length
 ·have hj':j<acc.size:=by rw[<-Y1];omega
  have e:=h2 j acc[j] (Wp hj');rw[List.getElem?_reverse hj,Wc,Wp hj'];rw[Zj,V6]at e;exact e.symm
 ·rw[W0 qo,W0 (by rw[Xh];omega)]
section
variable{X:Cx}
def c3d(K:W.Frag)(ta:TA):TE:=λσ H Q=>ta σ H λvs H1=>∃a xs,vs=[.ref a]/\(SqL K H1 a xs\/SqT K H1 a xs)/\xs.length<=100000/\∀p,H1 p=none->Q (.ref p) (upd H1 p (.lst xs.reverse))
theorem b2i(K:FG)(hK:X.K=K)(hc:X.calm=true){a:Expr}{ta:TA}{p1 p2 pos1 pos2:Pos}(hg:Gl X "list")(hm:X.mg "list"=none)(hg2:Gl X "reversed")(hm2:X.mg "reversed"=none)(ha:PA X [a] ta)
  (hs:starEach [a] X.env=[(false,eval a X.env)]:=by rfl)
  (hs1:starEach [Expr.Call (.Name "reversed" p2) [a] [] pos2] X.env=[(false,eval (.Call (.Name "reversed" p2) [a] [] pos2) X.env)]:=by rfl):
  PE X (.Call (.Name "list" p1) [.Call (.Name "reversed" p2) [a] [] pos2] [] pos1) (c3d K ta):=by
 subst hK;intro pj s σ H Q I h;refine Call_ (a9t I hg hm Ub (Xp ?_ hs1 rfl));rw[hs1]
 show wpAny _ _ (spliced ((false,eval (.Call (.Name "reversed" p2) [a] [] pos2) X.env)::backTo pos1 (starEach [] X.env))) _ _ s
 refine Vr ?_;refine Call_ (a9t I hg2 hm2 boot_reversed (Xp (thn (ha pos2 pj s σ H _ I h) λus s1 ⟨vs,H1,I1,r1,q1⟩=>?_) hs rfl));obtain⟨l,xs,e,hq,hlen,q⟩:=q1;subst e;have fin:∀(its:List Value)(h':Heap)(tk:Nat)(acc':Array Value)(c':Nat),Vals xs its->(∀b o,s1.heap.get? b=some o->h'.get? b=some o)->h'.get? (s1.heap.objs.size+1)=some { cls:=.type "list",dict:=none,data:=.seq acc' c',slots:=#[]}->ItemsOf (λi v=>its.toArray[its.toArray.size-1-i]? =some v) acc' its.toArray.size->EP X pj σ Q (.ref (s1.heap.objs.size+1)) { s1 with heap:=h',toks:=tk}:=by
  intro its h' tk acc' c' rv hk hS hacc;have ea:=c9v hacc;subst ea;have fr:H1 (s1.heap.objs.size+1)=none:=I1.hok.fresh (Nat.le_add_right _ _);refine⟨.ref _,upd H1 (s1.heap.objs.size+1) (.lst xs.reverse),I1.laid (t':=tk) hk (Nat.le_add_right _ _) ⟨by rw[Xh,Yw];omega,its.reverse,c',rv.reverse,hS⟩,rfl,q _ fr⟩
 have keepA:∀(o0:Obj)(h':Heap),(∀b o,b∉[s1.heap.objs.size]->(s1.heap.push o0).get? b=some o->h'.get? b=some o)->∀b o,s1.heap.get? b=some o->h'.get? b=some o:=λo0 h' hk b o e=>hk b o (λz=>by
  rw[Zd.mp z]at e
  exact Y3 _ (Zq e)) (Zh _ e)
 cases r1 with
 |cons r rr=>
  cases rr;cases r;rcases hq with hq|hq
  ·obtain⟨its,rv,pl,hz⟩:=I1.list hq;have hlen':=rv.length;have hL:s1.heap.IsList l its.toArray:=pl.isList;have hlt:l<s1.heap.objs.size:=by obtain⟨o,ho,_⟩:=hL;exact Zq ho
   refine call_reversed_list hL ?_;refine Vw ?_;have zz:(s1.heap.push (revObj l ((its.toArray.size:Int)-1))).objs.size=s1.heap.objs.size+1:=Wz ..;have st0:0<=its.toArray.size/\(s1.heap.push (revObj l ((its.toArray.size:Int)-1))).IsRevIter s1.heap.objs.size l ((its.toArray.size:Int)-1-((0:Nat):Int))/\(s1.heap.push (revObj l ((its.toArray.size:Int)-1))).IsList l its.toArray:=by
    refine⟨Z4 _,?_,hL.at λo e=>Zh _ e⟩;have e1:(its.toArray.size:Int)-1-((0:Nat):Int)=(its.toArray.size:Int)-1:=by omega
    rw[e1];exact⟨_,Zu _ rfl,rfl,rfl⟩
   have W:=Walks.listRev (prog:=X.prog) (w:=X.w) (A:=X.A.in1.in1) (I1.ok.hd hc) s1.heap.objs.size l (Z2 hlt) its.toArray;refine b4c (T:="list_reverseiterator") W (by rw[Zj,<-hlen',Yw];omega) (λs' st=>st.2.1.typeIs) qd qd (λs' Q' st k=>d2t st.2.1.typeIs (k false s'.toks)) st0 (λb hb=>?_) qz (λh' tk acc' c' hk hS hacc=>?_)
   ·rw[zz];simp only[Zg,Yk,Xv]at hb;rcases hb with rfl|rfl
    ·exact Wl _
    ·exact Xy hlt
   ·rw[zz]at hS ⊢;exact fin its h' tk acc' c' rv (keepA _ h' hk) hS hacc
  ·obtain⟨its,rv,pl,hz⟩:=I1.tuple hq;have hlen':=rv.length;have hlt:l<s1.heap.objs.size:=pl.lt;refine b5y pl (by rw[Zj,<-hlen'];omega) (λtk0=>?_);refine Vw ?_;have zz:(s1.heap.push (b7x l ((its.toArray.size:Int)-1))).objs.size=s1.heap.objs.size+1:=Wz ..;have st0:0<=its.toArray.size/\IsRv (s1.heap.push (b7x l ((its.toArray.size:Int)-1))) s1.heap.objs.size l ((its.toArray.size:Int)-1-((0:Nat):Int))/\IsTup (s1.heap.push (b7x l ((its.toArray.size:Int)-1))) l its.toArray:=by
    refine⟨Z4 _,?_,pl.push _⟩;have e1:(its.toArray.size:Int)-1-((0:Nat):Int)=(its.toArray.size:Int)-1:=by omega
    rw[e1];exact⟨_,Zu _ rfl,rfl,rfl⟩
   have hsz:its.toArray.size<=2^24:=by rw[Zj,<-hlen'];omega
   have W:=d2u (prog:=X.prog) (w:=X.w) (A:=X.A.in1.in1) (I1.ok.hd hc) s1.heap.objs.size l (Z2 hlt) its.toArray hsz;refine b4c (T:="reversed") W (by rw[Zj,<-hlen',Yw];omega) (λs' st=>st.2.1.typeIs) qd qd (λs' Q' st k=>hint_rv st.2.1 st.2.2 qo hsz k) st0 (λb hb=>?_) qz (λh' tk acc' c' hk hS hacc=>?_)
   ·rw[zz];simp only[Zg,Yk,Xv]at hb;rcases hb with rfl|rfl
    ·exact Wl _
    ·exact Xy hlt
   ·rw[zz]at hS ⊢;exact fin its h' tk acc' c' rv (keepA _ h' hk) hS hacc
theorem c7f{K:FG}{σ:St}{H:Hp}{ta:TA}{Q:VK}(k:ta σ H λvs H1=>∃a xs,vs=[.ref a]/\(SqL K H1 a xs\/SqT K H1 a xs)/\xs.length<=100000/\∀p,H1 p=none->Q (.ref p) (upd H1 p (.lst xs.reverse))):c3d K ta σ H Q:=k
end
section
variable{X:Cx}{pos:Pos}{e e2:Expr}{te te2:TE}
def tF2n(a:Str)(te:TE):TE:=λσ H Q=>te σ H λx H1=>∃i:Int,x=.int i/\i.natAbs.log2<1920/\(ofString (toString i)).length<=1000/\Q (.str (a++ofString (toString i))) H1
theorem pe_f2n{a:Str}{j1 p1 p2}(he:PE X e te)(ha:a.length<=1000:=by decide+kernel):PE X (.JoinedStr [.Constant (.str a) j1 p1,.FormattedValue e (-1) none p2] pos) (tF2n a te):=by
 intro pj s σ H Q I h;have z9:100000<=sizeLine:=by decide
 have ea:∀x:Str,Str.empty++x=x:=λx=>by apply Str.ext';show(#[]:Array Nat)++x.cps=x.cps;simp
 refine JoinedStr_many (Vj (Uk ?_));have hz:(Str.empty++a).length<=sizeLine:=by rw[ea];omega
 refine⟨hz,Vj (Ua (thn (he pj _ σ H _ (I.tok _) h) λv s1 z9=>?_))⟩;obtain⟨x,H1,I1,r1,q1⟩:=z9;rw[ea];obtain⟨i,rfl,hl,hy,q⟩:=q1;obtain⟨t,rfl⟩:=r1;refine Sg hl ?_;generalize ofString (toString i)=y at hy q ⊢;refine⟨by rw[Wq];omega,?_⟩;refine joinParts_nil ?_ (by rw[Wq];omega);exact⟨.str (a++y),H1,(I1.tok _).tok _,⟨_,rfl⟩,q⟩
theorem tF2n_i{a:Str}{σ:St}{H:Hp}{Q:VK}(k:te σ H λx H1=>∃i:Int,x=.int i/\i.natAbs.log2<1920/\(ofString (toString i)).length<=1000/\Q (.str (a++ofString (toString i))) H1):tF2n a te σ H Q:=k
def tF3n(b:Str)(te te2:TE):TE:=λσ H Q=>te σ H λx H1=>∃y,x=.str y/\y.length<=5000/\te2 σ H1 λx2 H2=>∃i:Int,x2=.int i/\i.natAbs.log2<1920/\(ofString (toString i)).length<=1000/\Q (.str (y++b++ofString (toString i))) H2
theorem pe_f3n{b:Str}{j2 p1 p2 p3}(he:PE X e te)(he2:PE X e2 te2)(hb:b.length<=1000:=by decide+kernel):PE X (.JoinedStr [.FormattedValue e (-1) none p1,.Constant (.str b) j2 p2,.FormattedValue e2 (-1) none p3] pos) (tF3n b te te2):=by
 intro pj s σ H Q I h;have z9:100000<=sizeLine:=by decide
 have ea:∀x:Str,Str.empty++x=x:=λx=>by apply Str.ext';show(#[]:Array Nat)++x.cps=x.cps;simp
 refine JoinedStr_many (Vj (Ua (thn (he pj _ σ H _ I h) λv s1 z9=>?_)));obtain⟨x,H1,I1,r1,q1⟩:=z9;obtain⟨y,rfl,hl,q1⟩:=q1;obtain⟨t,rfl⟩:=r1;refine formatField_str (λt' tk=>?_) qo
 show(Str.empty++y).length<=sizeLine/\_
 rw[ea];refine⟨qo,?_⟩
 show wpAny _ _ (joinParts y [eval (.Constant (.str b) j2 p2) X.env,eval (.FormattedValue e2 (-1) none p3) X.env]) _ _ _
 refine Vj (Uk ⟨by rw[Wq];omega,?_⟩);refine Vj (Ua (thn (he2 pj _ σ H1 _ ((I1.tok _).tok _) q1) λv2 s2 z9=>?_));obtain⟨x2,H2,I2,r2,q2⟩:=z9;obtain⟨i,rfl,hl2,hy,q⟩:=q2;obtain⟨t2,rfl⟩:=r2;refine Sg hl2 ?_;generalize ofString (toString i)=z at hy q ⊢;refine⟨by rw[Wq,Wq];omega,?_⟩;refine joinParts_nil ?_ (by rw[Wq,Wq];omega);exact⟨.str (y++b++z),H2,(I2.tok _).tok _,⟨_,rfl⟩,q⟩
theorem tF3n_i{b:Str}{σ:St}{H:Hp}{Q:VK}(k:te σ H λx H1=>∃y,x=.str y/\y.length<=5000/\te2 σ H1 λx2 H2=>∃i:Int,x2=.int i/\i.natAbs.log2<1920/\(ofString (toString i)).length<=1000/\Q (.str (y++b++ofString (toString i))) H2):tF3n b te te2 σ H Q:=k
end
section
variable{K:W.Frag}{σ:St}{H:Hp}{Q:VK}{D:Ends}{ta tv:TE}{t:TA}{f m:Str}{C:Addr}{sp:Sp}{dvs:List V}{E:XK}
theorem tFld_i(k:ta σ H λx H1=>∃a C dx fs v,x=.ref a/\H1 a=some (.ins C dx fs)/\Cls K C/\a1k K C f/\fs.lookup f=some v/\Q v H1):tFld K ta f σ H Q:=k
theorem sFld_i(k:tv σ H λy H1=>ta σ H1 λx H2=>∃a C dx fs,x=.ref a/\H2 a=some (.ins C dx fs)/\Cls K C/\a1k K C f/\fs.length<1000/\D.nx σ (upd H2 a (.ins C dx (putF f y fs)))):sFld K ta tv f D σ H:=k
theorem tMeth_i(k:ta σ H λx H1=>∃a dx fs,x=.ref a/\H1 a=some (.ins C dx fs)/\fs.lookup m=none/\t σ H1 λvs H2=>sp (x::(vs++dvs)) H2 Q E):tMeth C m sp dvs E ta t σ H Q:=k
theorem tMake_i(k:t σ H λvs H1=>∀x dx,H1 x=none->H1 dx=none->dx≠x->sp (.ref x::(vs++dvs)) (upd (upd H1 dx (.own x)) x (.ins C dx [])) (λv H2=>v=.non/\Q (.ref x) H2) E):tMake C sp dvs E t σ H Q:=k
theorem c9w{rd:V->V->Hp->VK->Prop}(k:ta σ H λx H1=>∃a C dx fs v,x=.ref a/\H1 a=some (.ins C dx fs)/\Cls K C/\a1k K C f/\fs.lookup f=some v/\
 tv σ H1 λy H2=>rd v y H2 λz H3=>∃dx' fs',H3 a=some (.ins C dx' fs')/\fs'.length<1000/\D.nx σ (upd H3 a (.ins C dx' (putF f z fs')))):c5u K ta tv rd f D σ H:=k
end
theorem d2v{P:Program}{w:World}{A:Around}{E:Value->Shared->Prop}{s:Shared}{a:Addr}{its:Array Value}{Q:Int->Shared->Prop}(hu:A.units<cLine)(ht:IsTup s.heap a its)
  (each:∀x∈its.toList,∀(tk:Nat)(B:Int->Shared->Prop)(E':Value->Shared->Prop),(∀i tk',B i { s with toks:=tk'})->wpAny (model P w) A.in1 (pyHash x) B E' { s with toks:=tk})(k:∀i tk,Q i { s with toks:=tk}):wpAny (model P w) A (pyHash (.ref a)) Q E s:=by
 obtain⟨⟨oc,od,odt,osl⟩,ho,hc,n,hd⟩:=ht
 dsimp only at hc hd
 subst hc hd;have ty:s.TypeIs (.ref a) "tuple":=⟨_,ho,rfl⟩;have sl:=F.slot_tuple_hash;unfold pyHash pyHashByItsType;refine Zb (wpAny_cRoomFor_or (.inr hu) (Zb (Ym ty sl.lookup ?_)));rw[if_neg (show ¬(some (Value.builtin "tuple.__hash__")==some Value.none)=true by rw[Vz];exact Zo)];refine Zb (Ym ty sl.lookup (Zb (wpAny_callSpecialIfBoundUnlessNone?_slot ty sl (Yq sl ty Rt ?_ (S8 _)))))
 (show wpAny _ _ (Builtin.Tuple.tupleItemsOf (.ref a)>>=_) _ _ s;refine Zb (S9 ho rfl (Zb ?_)))
 rw[<-Ul];refine Uy _ (λrest (_:Array Int) s1=>(∀x∈rest,x∈its.toList)/\∃tk,s1={ s with toks:=tk}) _ (λx rest b s1 hx=>?_) (λb s1 hx=>?_) _ _ ⟨λx h=>h,s.toks,rfl⟩
 ·obtain⟨hr,tk,rfl⟩:=hx;refine Zb (each x (hr x Ze) tk _ _ λi tk1=>?_)
  first
   |exact Zf ⟨λy hy=>hr y (Zc _ hy),_,rfl⟩
   |exact Zb (Zf (Zf ⟨λy hy=>hr y (Zc _ hy),_,rfl⟩))
 ·obtain⟨_,tk,rfl⟩:=hx
  show wpAny _ _ (retInt _) _ _ _
  refine wpAny_ret_mkInt ?_
  show wpAny _ _ (pyHashByItsType.reduced _) Q E _
  unfold pyHashByItsType.reduced
  split
  ·exact Zf (k _ _)
  ·exact Zb (Wg (Zf (k _ _)))
section
variable{X:Cx}{pj:List (Addr×Obj)}{σ:St}{H:Hp}{s:Shared}
def a1t:PyData->Bool
 | .int _=>true
 | .str _=>true
 | .tuple ds=>hashyL ds
 |_=>false
where hashyL:List PyData->Bool
 | []=>true
 |d::r=>a1t d&&hashyL r
theorem c3e(I:Inv X pj σ H s):∀(n:Nat)(A:Around)(E:Value->Shared->Prop)(tk0:Nat)(d:PyData)(v:V)(u:Value)(Q:Int->Shared->Prop),d.depth<=n->a1t d=true->A.units+n<cLine->Den X.K H v d->RelV v u->(∀i tk,Q i { s with toks:=tk})->wpAny (model X.prog X.w) A (pyHash u) Q E { s with toks:=tk0}:=by
 intro n
 induction n with
 |zero=>
  intro A E tk0 d v u Q hd hh hu h r k;cases h with
  |non=>cases hh
  |bl b=>cases hh
  |int i=>
   obtain⟨t,rfl⟩:=r;exact Wk (k _ _)
  |str x=>
   obtain⟨t,rfl⟩:=r;exact W3 (k _ _)
  |tup _ _=>simp[PyData.depth]at hd
 |succ n ih=>
  intro A E tk0 d v u Q hd hh hu h r k;cases h with
  |non=>cases hh
  |bl b=>cases hh
  |int i=>
   obtain⟨t,rfl⟩:=r;exact Wk (k _ _)
  |str x=>
   obtain⟨t,rfl⟩:=r;exact W3 (k _ _)
  | @tup a us ds hs hl=>
   cases r;obtain⟨its,rv,p,_⟩:=I.tuple hs;have hd':PyData.depthAll ds<=n:=by simp only[PyData.depth]at hd;omega
   have hall:∀ds:List PyData,a1t.hashyL ds=true->∀(j:Nat)(e:PyData),ds[j]? =some e->a1t e=true:=λds=>by
    induction ds with
    |nil=>intro _ j e z;simp at z
    |cons x r ih2=>
     intro hz j e z;have hz:(a1t x&&a1t.hashyL r)=true:=hz;rw[Xd]at hz;cases j with
     |zero=>simp at z;subst z;exact hz.1
     |succ j=>exact ih2 hz.2 j e (by simpa using z)
   refine d2v (s:={ s with toks:=tk0}) (its:=its.toArray) qo p (λx hx tk B E' kB=>?_) (λi tk=>k i tk);obtain⟨j,hj⟩:=Xa.mp (show x∈its by simpa using hx);have l1:=rv.length;have l2:=hl.length;have hjl:=(Zy.mp hj).1;have x1:us[j]? =some us[j]:=Za qo
   obtain⟨e,e1,d1⟩:=hl.get x1;obtain⟨w1,y1,z1⟩:=rv.get x1;rw[hj]at y1;cases y1;exact ih A.in1 E' tk e _ x B (Ye (a2v e1) hd') (hall ds hh j e e1) (by show A.units+1+n<cLine;omega) d1 z1 kB
end
section
variable{P:Program}{w:World}{A:Around}{E:Value->Shared->Prop}{s:Shared}{d a:Addr}{o:Obj}{ep:Nat}
theorem b7y{i:Int}{Q:Option Nat->Shared->Prop}(ho:s.heap.get? d=some o)(hd:o.data=.dict #[] ep)(k:Q none s):wpAny (model P w) A (dictFind d (.ref a) i) Q E s:=by
 unfold dictFind
 (with_reducible refine Yi (Zb (wpAny_dictEntries ho hd ?_)))
 dsimp only
 have e1:placesWithHash (#[]:Array DictEntry).size (λj=>(#[]:Array DictEntry)[j]?.map (·.hash)) i=[]:=rfl;rw[e1];rw[if_neg (show ¬((Value.ref a::([]:List Nat).filterMap (λj=>(#[]:Array DictEntry)[j]?.map (·.key))).all carriedByValue)=true by simp[carriedByValue])];rw[if_neg qz,if_neg qz];refine Zb ?_;unfold tableMayTell;rw[if_pos qz];refine Zf ?_;rw[if_neg qz];exact Zb (Zf (Zf k))
theorem c9x{Q:Option Value->Shared->Prop}(ho:s.heap.get? d=some o)(hd:o.data=.dict #[] ep)
  (hash:∀(B:Int->Shared->Prop),(∀i tk,B i { s with toks:=tk})->wpAny (model P w) A (pyHash (.ref a)) B E s)(k:∀tk,Q none { s with toks:=tk}):wpAny (model P w) A (dictGet d (.ref a)) Q E s:=by
 unfold dictGet
 (with_reducible refine Yi (Zb (hash _ λi tk=>?_)))
 exact Zb (b7y (s:={ s with toks:=tk}) ho hd (Zf (k tk)))
theorem c5f{Q:Value->Shared->Prop}(hx:o.ExactDict)(hlo:(d==sysModules)=false)(ho:s.heap.get? d=some o)(hd:o.data=.dict #[] ep)
  (hash:∀(B:Int->Shared->Prop)(E':Value->Shared->Prop),(∀i tk,B i { s with toks:=tk})->wpAny (model P w) A.in1 (pyHash (.ref a)) B E' s)(k:∀tk,Q (.bool true) { s with toks:=tk}):wpAny (model P w) A (compareOp .NotIn (.ref a) (.ref d)) Q E s:=by
 have ty:s.TypeIs (.ref d) "dict":=⟨o,ho,hx.1⟩
 show wpAny _ _ (do return .bool (!(<-contains (.ref d) (.ref a)))) Q E s
 refine Zb ?_;unfold contains
 (with_reducible refine Yi (Zb (Ym ty X7.lookup ?_)))
 rw[if_neg (show ¬(some (Value.builtin "dict.__contains__")==some Value.none)=true by rw[Vz];exact Zo)];refine Zb (wpAny_callSpecialUnlessNone?_slot (name:=ofString "__contains__") ty X7 (Yq X7 ty Sx ?_ (Rj _ _)))
 show wpAny _ _ (dictGet d (.ref a)>>=_) _ _ s
 refine Zb (c9x ho hd (λB kB=>hash B _ kB) λtk=>?_)
 show wpAny _ _ (Builtin.Dict.pendingKey? d (.ref a)>>=_) _ _ _
 exact Zb (T1 hlo (Zf ⟨_,rfl,Y8 (Zf (k tk))⟩))
theorem c9y{v:Value}{Q:Unit->Shared->Prop}(hx:o.ExactDict)(ho:s.heap.get? d=some o)(hd:o.data=.dict #[] ep)
  (hash:∀(B:Int->Shared->Prop)(E':Value->Shared->Prop),(∀i tk,B i { s with toks:=tk})->wpAny (model P w) A.in1 (pyHash (.ref a)) B E' s)
  (k:∀h' tk,(∃o',h'.get? d=some o'/\o'.ExactDict/\∃es ep',o'.data=.dict es ep')->Heap.SameBut d s.heap h'->Q () { s with heap:=h',toks:=tk}):wpAny (model P w) A (setItem (.ref d) (.ref a) v) Q E s:=by
 have ty:s.TypeIs (.ref d) "dict":=⟨o,ho,hx.1⟩;unfold setItem
 (with_reducible refine Yi (Zb (wpAny_sequenceKey ty qd ?_)))
 refine Zb (wpAny_callSpecial?_slot (name:=ofString "__setitem__") ty slot_dict_setitem (Yq slot_dict_setitem ty entry_dict_setitem ?_ (args_dict_setitem _ _ _)))
 show wpAny _ _ (Builtin.Dict.notOrdered "__setitem__" _>>=_) _ _ s
 refine Zb (Sf ty ?_)
 show wpAny _ _ (dictSet d (.ref a) v>>=_) _ _ s
 refine Zb ?_;unfold dictSet
 (with_reducible refine Yi (Zb (hash _ _ λi tk=>?_)))
 unfold dictSetHashed
 (with_reducible refine Yi (Zb (b7y (s:={ s with toks:=tk}) ho hd ?_)))
 refine Zb (Wg (Sj (hz:=by simp) (s:={ s with toks:=tk}) ho hd (Zf ⟨.none,rfl,Zf (k _ tk ⟨_,Xb _ ho (Sz (Vc hd _)),hx.mapDictKeys _,_,_,Vc hd _⟩ (X0 ..))⟩)))
end
section
variable{X:Cx}
theorem c9z{pj:List (Addr×Obj)}{σ:St}{H:Hp}{s:Shared}{q:Addr}(I:Inv X pj σ H s)(h:H q=some (.dK [])):∃ep o,(q==sysModules)=false/\s.heap.get? q=some o/\o.ExactDict/\o.data=.dict #[] ep:=by
 obtain⟨_,lo,vs,rel,dd⟩:=dk_of I.hok h;cases rel;obtain⟨ep,o,es,ho,hx,hd,hk,hpr,hn⟩:=dd.dictAt;have e:es= #[]:=by
  have:=hpr.length;exact Array.eq_empty_of_size_eq_zero (by simpa using this)
 rw[e]at hd;exact⟨ep,o,lo,ho,hx,hd⟩
def mNinE(K:Frag):R2:=λx y H Q=>∃(p q:Addr)(d:PyData),x=.ref p/\y=.ref q/\H q=some (.dK [])/\Den K H (.ref p) d/\a1t d=true/\d.depth<=140/\Q (.bl true) H
theorem ko_ninE(K:Frag)(hK:X.K=K)(hu:X.A.units+150<cLine):OpR X (compareOp .NotIn) (mNinE K):=by
 subst hK;intro pj s σ H x y v u Q I rx ry h;obtain⟨p,q,d,rfl,rfl,hq,hd,hh,hz,k⟩:=h;obtain rfl:v=Value.ref p:=rx;obtain rfl:u=Value.ref q:=ry;obtain⟨ep,o,lo,ho,hx,hdat⟩:=c9z I hq;refine c5f hx lo ho hdat (λB E' kB=>?_) λtk=>⟨.bl true,H,I.tok _,rfl,k⟩
 exact c3e I 140 X.A.in1 E' s.toks d _ _ B hz hh (by show X.A.units+1+140<cLine;omega) hd rfl kB
abbrev OpD(a:Addr):HO:=.ext λh=>∃o,h.get? a=some o/\o.ExactDict
def rSetE(K:Frag):V->V->V->Hp->(Hp->Prop)->Prop:=λo i v H Q=>∃(q p:Addr)(d:PyData),o=.ref q/\i=.ref p/\H q=some (.dK [])/\Den K H (.ref p) d/\a1t d=true/\d.depth<=140/\Q (upd H q (OpD q))
theorem d2w(K:Frag)(hK:X.K=K)(hu:X.A.units+150<cLine):PSet X (rSetE K):=by
 subst hK;intro pj s σ H o i v ov iv u Q I ro ri rv h;obtain⟨q,p,d,rfl,rfl,hq,hd,hh,hz,k⟩:=h;obtain rfl:ov=Value.ref q:=ro;obtain rfl:iv=Value.ref p:=ri;obtain⟨ep,o,lo,ho,hx,hdat⟩:=c9z I hq;refine c9y hx ho hdat (λB E' kB=>c3e I 140 X.A.in1 E' s.toks d _ _ B hz hh (by show X.A.units+1+140<cLine;omega) hd rfl kB) λh' tk new sb=>?_
 obtain⟨o',ho',hx',_⟩:=new;refine⟨_,I.write (o:=OpD q) (t':=tk) (h':=h') (x:=q) (e:=q) (by rw[hq];exact True.intro) (.inl rfl) (λb u hb e=>(sb.2 b hb).trans e) ⟨o',ho'⟩ ⟨⟨o',ho',hx'⟩,⟨o',ho'⟩,λh1 h2 ⟨o2,e1,e2⟩ k2=>⟨o2,k2 _ e1,e2⟩⟩,k⟩
end
section
variable{X:Cx}{e:Expr}{ta:TE}{f:Str}{pos:Pos}
theorem b1j(K:Frag)(hK:X.K=K)(he:PE X e ta)(hb:attributeBase e f X.env (eval e X.env)=eval e X.env):PE X (.Attribute e f pos) (tFld K ta f):=hK▸a0v he hb
end
theorem gSub_i{to ti:TE}{t:TSet}{v:V}{σ:St}{H:Hp}{N:St->Hp->Prop}(k:to σ H λo H1=>ti σ H1 λi H2=>t o i v H2 λH3=>N σ H3):gSub to ti t v σ H N:=k
section
variable{X:Cx}
def mIns:V->List V->Hp->VK->Prop:=λx vs H Q=>∃l i y xs,x=.ref l/\vs=[.int i,y]/\H l=some (.lst xs)/\0<=i/\i.toNat<=xs.length/\xs.length<100000/\Q .non (upd H l (.lst (xs.take i.toNat++y::xs.drop i.toNat)))
theorem d0a:MtR X "list.insert" mIns:=by
 intro pj s σ H x vs v us Q I rx rv h;obtain⟨l,i,y,xs,rfl,rfl,hH,h0,h1,hz,q⟩:=h;cases rx;obtain⟨u,w,rfl,r1,r2⟩:=vals2 rv;obtain⟨t,rfl⟩:=r1;obtain⟨z,its,n,r,hl,e⟩:=I.lstM hH;have hlen:=r.length;refine Vk Rr ⟨_,e,rfl⟩ F.entry_list_insert (F.args_list_insert_3 _ _ _) (PySem.AutoSeq1.list_insert_list_int_val_1 l its.toArray n i t w ?_ (by rw[Zj];exact ln qo)) ⟨e,?_⟩
 ·have:Builtin.List.listFitsIndex i=true:=by
   unfold Builtin.List.listFitsIndex;rw[Xd];exact⟨Zw qo,Zw qo⟩
  rw[this]
  simp
 refine⟨.non,_,I.lset (its':=its.take i.toNat++w::its.drop i.toNat) hH e ?_ ((Vals.take _ r).append (.cons r2 (Vals.drop _ r))) ?_,rfl,q⟩
 ·show(its.toArray.extract 0 (if i<0 then(i+(its.toArray.size:Int)).toNat else min i.toNat its.toArray.size)).push w++its.toArray.extract (if i<0 then(i+(its.toArray.size:Int)).toNat else min i.toNat its.toArray.size)=_
  rw[if_neg qo,V5 (by rw[Zj];omega)]
  apply Array.toList_inj.mp
  simp
  rw[Y6 (by rw[W6];omega)]
 ·rw[Zk,length_cons,Ys,W6];exact ln qo
end
open PySem PySem.Spec PyProof.Rows PySem.W PySem.NumText PySem.Calls
theorem su0{us:List Value}{P:List Value->Prop}(hl:us.length=0)(h:P []):P us:=by cases us with|nil=>exact h|cons a r=>cases hl
theorem su1{us:List Value}{P:List Value->Prop}(hl:us.length=1)(h:∀a,P [a]):P us:=by cases us with|nil=>cases hl|cons a r=>exact su0 (P:=λr=>P (a::r)) (V1 hl) (h a)
theorem su2{us:List Value}{P:List Value->Prop}(hl:us.length=2)(h:∀a b,P [a,b]):P us:=by cases us with|nil=>cases hl|cons a r=>exact su1 (P:=λr=>P (a::r)) (V1 hl) (h a)
theorem su3{us:List Value}{P:List Value->Prop}(hl:us.length=3)(h:∀a b c,P [a,b,c]):P us:=by cases us with|nil=>cases hl|cons a r=>exact su2 (P:=λr=>P (a::r)) (V1 hl) (h a)
theorem su4{us:List Value}{P:List Value->Prop}(hl:us.length=4)(h:∀a b c d,P [a,b,c,d]):P us:=by cases us with|nil=>cases hl|cons a r=>exact su3 (P:=λr=>P (a::r)) (V1 hl) (h a)
theorem su5{us:List Value}{P:List Value->Prop}(hl:us.length=5)(h:∀a b c d e,P [a,b,c,d,e]):P us:=by cases us with|nil=>cases hl|cons a r=>exact su4 (P:=λr=>P (a::r)) (V1 hl) (h a)
section
variable{K:Frag}{fd:FuncData}{a b c d e f:Str}
theorem bi1(h:∀x,bindArgs fd ⟨[x],[]⟩=pure [(a,x)]):Binds K fd [a] []:=.all λus hl=>su1 (P:=λus=>bindArgs fd ⟨us,[]⟩=pure (([a]:List Str).zip us)) hl h
theorem bi2(h:∀x y,bindArgs fd ⟨[x,y],[]⟩=pure [(a,x),(b,y)]):Binds K fd [a,b] []:=.all λus hl=>su2 (P:=λus=>bindArgs fd ⟨us,[]⟩=pure (([a,b]:List Str).zip us)) hl h
theorem bi3(h:∀x y z,bindArgs fd ⟨[x,y,z],[]⟩=pure [(a,x),(b,y),(c,z)]):Binds K fd [a,b,c] []:=.all λus hl=>su3 (P:=λus=>bindArgs fd ⟨us,[]⟩=pure (([a,b,c]:List Str).zip us)) hl h
theorem bi4(h:∀x y z u,bindArgs fd ⟨[x,y,z,u],[]⟩=pure [(a,x),(b,y),(c,z),(d,u)]):Binds K fd [a,b,c,d] []:=.all λus hl=>su4 (P:=λus=>bindArgs fd ⟨us,[]⟩=pure (([a,b,c,d]:List Str).zip us)) hl h
theorem bi5(h:∀x y z u v,bindArgs fd ⟨[x,y,z,u,v],[]⟩=pure [(a,x),(b,y),(c,z),(d,u),(e,v)]):Binds K fd [a,b,c,d,e] []:=.all λus hl=>su5 (P:=λus=>bindArgs fd ⟨us,[]⟩=pure (([a,b,c,d,e]:List Str).zip us)) hl h
end
section
variable{K:Frag}
theorem na_of{C:Addr}{x:Str}(h:findIn K (.ref C) x=some none):a1k K C x:=h
theorem is_fn{f:Addr}(h:typeIn K (.ref f)=some (.type "function")):isFn K (.ref f)=true:=V0.mpr h
end
def a3r(X:Cx)(scope:Scope)(x x2:Str)(N':List Str)(C:Addr)(s:Shared)(H:Hp)(fp:List Addr)(pn:List (Addr×Obj)):Cx:={ a2n X scope x N' C s H fp pn with N:=x::x2::N'}
section
variable{X:Cx}{pj:List (Addr×Obj)}{σ:St}{H:Hp}{s:Shared}
structure b5l(X:Cx)(scope:Scope)(x x2:Str)(N':List Str):Prop where
 loc:scope.names.lookup x=some .local
 loc2:scope.names.lookup x2=some .local
 ne:x≠x2
 nocell:∀y∈scope.names,y.2≠.cell
 kind:scope.kind=.function
 names:∀y∈scope.names,y.2=.local->scope.names.lookup y.1=some .local
 free:∀y∈scope.names,y.2=.free->X.env.kindOf y.1=some .cell\/X.env.kindOf y.1=some .free
 nin:x∉N'
 nin2:x2∉N'
 nd:N'.Nodup
 len:N'.length=X.N.length
 sub:∀(i:Nat)(y:Str),N'[i]? =some y->X.N[i]? =some y\/scope.names.lookup y=none
 only:∀y∈scope.names,y.2=.local->y.1=x\/y.1=x2\/y.1∉N'
theorem Inv.compIn2{scope:Scope}{x x2:Str}{N':List Str}{fp:List Addr}{h1:Heap}{tk:Nat}{m:Str->Option Value}(S:b5l X scope x x2 N')(I:Inv X pj σ H s)(hf:∀b∈fp,FpOk X pj H b)(hfl:∀b∈fp,b<s.heap.objs.size)
  (hn:h1.Ns s.heap.objs.size m)(hsb:∀b o,s.heap.get? b=some o->h1.get? b=some o):
  Inv (a3r X scope x x2 N' s.heap.objs.size s H fp (X.pn++pj)) [] (none::none::σ) H { s with heap:=h1,toks:=tk}:=by
 have hcells:∀y∈scope.names,y.2=.free->∃c,X.env.cells.lookup y.1=some c:=λy hy hk=>I.ok.has y.1 (S.free y hy hk)
 have sub:∀y c,(clOf X.env scope.names []).lookup y=some c->X.env.cells.lookup y=some c:=λy c e=>b2h _ _ y c hcells (λz d q=>by simp at q) e
 have lk:∀(y:Str)(k:NameKind),(relabel scope X.env).names.lookup y=some k->k=.cell\/k=.free->scope.names.lookup y=some .free:=λy k e hk=>by
  rw[a3n]at e;cases q:scope.names.lookup y with
  |none=>rw[q]at e;cases e
  |some k0=>
   rw[q]at e;have e':(if(k0==NameKind.free&&X.env.scope.kind==.function&&X.env.kindOf y==some .cell)=true then NameKind.cell else k0)=k:=Zl e
   by_cases hc:(k0==NameKind.free&&X.env.scope.kind==.function&&X.env.kindOf y==some .cell)=true
   ·simp only[Xd]at hc;rw[eq_of_beq hc.1.1]
   ·rw[if_neg hc]at e';subst e';rcases hk with hk|hk
    ·exact absurd hk (S.nocell _ (Yh q))
    ·rw[hk]
 have lt:∀{b:Addr}{o:Obj},s.heap.get? b=some o->b≠s.heap.objs.size:=λe=>Z2 (Zq e)
 refine⟨⟨I.ok.mod,by show(relabel scope X.env).kind=_;exact S.kind,I.ok.glob,I.ok.blt,Zm _,λy z c e1 e2=>I.ok.inj y z c (sub y c e1) (sub z c e2),λy hy=>?_,λy c hz=>(by cases hz),I.ok.hd,I.ok.frames,.inl rfl,
  λb hb=>⟨Z2 (hfl b hb),λy c e=>(hf b hb).2.2.2.2.1 y c (sub y c e)⟩,I.bs,Ye I.ok.bsz I.sz,λb o e hb=>?_,λb hb hz=>?_,I.stack,I.stkFree⟩,
  rfl,I.bare,Un.kept hsb,⟨m,hn,λi y v h1 h2 h3=>?_⟩,λy c e=>?_,I.hok.fresh (Zm _),λy c e=>I.freeC y c (sub y c e),λp hp=>?_,I.hok.kept hsb,?_⟩
 ·have hy:(relabel scope X.env).names.lookup y=some .cell\/(relabel scope X.env).names.lookup y=some .free:=hy;have q:scope.names.lookup y=some .free:=hy.elim (λz=>lk y _ z (.inl rfl)) λz=>lk y _ z (.inr rfl)
  exact a7v _ _ y (Yh q)
 ·obtain⟨_,_,_,f3,_,_⟩:=hf b hb;rcases f3 with f3|f3
  ·exact I.ok.noex b o e f3
  ·exact absurd (Yc (Zq e) (Ye I.ok.bsz f3)) (Y3 _)
 ·have hz:b∈frs X.stack:=hz;obtain⟨_,f1,f2,_⟩:=hf b hb;rcases Zg.mp (I.stkSub b hz)with z|z
  ·exact f1 z
  ·exact f2 z
 ·rcases i with _|_|i
  ·simp at h2
  ·simp at h2
  ·have h1:N'[i]? =some y:=by simpa[a3r]using h1
   have h2:σ[i]? =some (some v):=by simpa using h2
   have hne:N'[i]? ≠some x:=λz=>S.nin (Zn z)
   have hne2:N'[i]? ≠some x2:=λz=>S.nin2 (Zn z)
   have h3:Vis (relabel scope X.env) y:=h3;obtain⟨m',hn',hl'⟩:=I.loc;have q:scope.names.lookup y=some .free:=by
    rcases h3 with z|z|z
    ·exfalso
     rw[a3n]at z;cases q:scope.names.lookup y with
     |none=>rw[q]at z;cases z
     |some k0=>
      rw[q]at z;have e':(if(k0==NameKind.free&&X.env.scope.kind==.function&&X.env.kindOf y==some .cell)=true then NameKind.cell else k0)=.local:=Zl z
      by_cases hc:(k0==NameKind.free&&X.env.scope.kind==.function&&X.env.kindOf y==some .cell)=true
      ·rw[if_pos hc]at e';cases e'
      ·rw[if_neg hc]at e';subst e';rcases S.only _ (Yh q) rfl with w|w|w
       ·exact hne (by rw[h1];exact Yv some w)
       ·exact hne2 (by rw[h1];exact Yv some w)
       ·exact w (Zn h1)
    ·exact lk y _ z (.inl rfl)
    ·exact lk y _ z (.inr rfl)
   obtain⟨c,hc⟩:=a7v (env:=X.env) scope.names [] y (Yh q);have hk:X.env.kindOf y=some .cell\/X.env.kindOf y=some .free:=S.free _ (Yh q) rfl;have h1':X.N[i]? =some y:=(S.sub i y h1).resolve_right λz=>by rw[q]at z;cases z
   obtain⟨u,r,l⟩:=hl' i y v h1' h2 (.inr hk);refine⟨u,r,?_⟩;have kd:(compEnvC scope (clOf X.env scope.names []) s.heap.objs.size X.env).kindOf y=some .cell\/(compEnvC scope (clOf X.env scope.names []) s.heap.objs.size X.env).kindOf y=some .free:=by
    rcases h3 with z|z|z
    ·exfalso
     rw[a3n,q]at z;have e':(if(NameKind.free==NameKind.free&&X.env.scope.kind==.function&&X.env.kindOf y==some .cell)=true then NameKind.cell else NameKind.free)=.local:=Zl z
     by_cases hc:(NameKind.free==NameKind.free&&X.env.scope.kind==.function&&X.env.kindOf y==some .cell)=true
     ·rw[if_pos hc]at e';cases e'
     ·rw[if_neg hc]at e';cases e'
    ·exact .inl z
    ·exact .inr z
   rcases l with⟨a,_⟩|⟨_,c',hc',ic⟩
   ·rcases hk with k|k<;>(rw[k]at a;cases a)
   ·have e:X.env.cells.lookup y=some c:=sub y c hc;rw[e]at hc';cases hc';obtain⟨o,ho,hd⟩:=ic;exact .inr ⟨kd,c,hc,⟨o,hsb _ _ ho,hd⟩⟩
 ·obtain⟨v,o,ho,hd⟩:=I.cell y c (sub y c e);exact⟨v,o,hsb _ _ ho,hd⟩
 ·have hp:p∈X.pn++pj:=by
   have hp:p∈(X.pn++pj)++[]:=hp;rwa[Y5]at hp
  obtain⟨e,n,ne,nf,d⟩:=I.pin p hp;refine⟨hsb _ _ e,n,lt e,λhz=>?_,d⟩;have hz:p.1∈frs X.stack:=hz;rcases Zg.mp (I.stkSub _ hz)with z|z
  ·exact ne z
  ·exact nf z
 ·show(none::none::σ).length=(x::x2::N').length
  rw[length_cons,length_cons,length_cons,length_cons,I.len,S.len]
def b7z(K:W.Frag)(J:It)(te:TE)(σ:St)(Q:VK)(D:Addr)(H1:Hp):Prop:=∃W:Nat->Nat->List V->Hp->Prop,(∃m,W 0 m [] (upd H1 D (.lst [])))/\
 ∀i m ys H',W i m ys H'->(J.stop i H'/\Q (.ref D) H')\/(J.go i H'/\∀v H2,J.yld i H' v H2->∃a y1 y2,v=.ref a/\SqT K H2 a [y1,y2]/\te (some y1::some y2::σ) H2 λy H4=>H4 D=some (.lst ys)/\ys.length<sizeLine/\∃m',m'<m/\W (i+1) m' (ys++[y]) (upd H4 D (.lst (ys++[y]))))
def d0b(K:W.Frag)(wi:TI)(te:TE):TE:=λσ H Q=>wi σ H λJ H1=>∀D,H1 D=none->b7z K J te σ Q D H1
theorem c7g{elt iter:Expr}{x x2:Str}{N':List Str}{px px2 pt:Pos}{kt:Nat}{scope:Scope}{pos:Pos}{te:TE}(hc:X.calm=true)(S:b5l X scope x x2 N')
  (he:∀C s H fp pn,PE (a3r X scope x x2 N' C s H fp pn) elt te){Q:VK}{itv:Value}{s2:Shared}{RR:Value->Addr->Result->Shared->Prop}
  (h2:PIE X pj σ (.Tuple [.Name x px,.Name x2 px2] kt pt) (λJ H1=>∀D,H1 D=none->b7z X.K J te σ Q D H1) itv s2)
  (hend:∀(D C:Addr)(H6:Hp)(s7:Shared)(m7:Str->Option Value),Inv X pj σ H6 s7->s7.heap.Ns C m7->FpOk X pj H6 C->Q (.ref D) H6->RR (.ref D) C (.ok .next) s7):
  wpAny (model X.prog X.w) X.A (newList []) (λacc s3=>wpAny (model X.prog X.w) X.A (newFunctionEnv scope X.env.globals (clOf X.env scope.names []) [] X.env.qual none .none (some X.env)) (λcenv s4=>
   codeAny (model X.prog X.w) X.A (.compStart (.ListComp elt [⟨.Tuple [.Name x px,.Name x2 px2] kt pt,iter,[],0⟩] scope pos) 0 itv acc { cenv with scope:=relabel scope X.env}) (RR acc cenv.locals) s4) X.xe s3) X.xe s2:=by
 obtain⟨it,fp,tn,J,H2,e,I2,T,st2,f2,hW⟩:=h2;subst e;have hlt:∀b∈fp,b<s2.heap.objs.size:=λb hb=>by
  obtain⟨o,ho,_⟩:=T.obj _ _ st2 b hb;exact Zq ho
 obtain⟨W,⟨m0,w0⟩,hturn⟩:=hW s2.heap.objs.size (I2.hok.fresh (Zm _));refine Xe ?_ (by show 0<=sizeLine;exact Z4 _);have I3:Inv X pj σ (upd H2 s2.heap.objs.size (.lst [])) { s2 with heap:=s2.heap.push { cls:=.type "list",data:=.seq ([]:List Value).toArray}}:=I2.lnew (t':=s2.toks) .nil (Z4 _);have f3:∀b∈fp,FpOk X pj (upd H2 s2.heap.objs.size (.lst [])) b:=λb hb=>by
  obtain⟨g0,g⟩:=f2 b hb;exact⟨by rw[a0d (Z2 (hlt b hb))];exact g0,g⟩
 have st3:tn 0 (s2.heap.push { cls:=.type "list",data:=.seq ([]:List Value).toArray}):=T.keep _ _ _ st2 λb _ o e=>Zh _ e
 have hlt3:∀b∈fp,b<(s2.heap.push { cls:=.type "list",data:=.seq ([]:List Value).toArray}).objs.size:=λb hb=>by rw[Wz];exact Xy (hlt b hb)
 generalize hs3:({ s2 with heap:=s2.heap.push { cls:=.type "list",data:=.seq ([]:List Value).toArray}}:Shared)=s3 at I3;have eh:s3.heap=s2.heap.push { cls:=.type "list",data:=.seq ([]:List Value).toArray}:=by rw[<-hs3]
 rw[<-eh]at st3 hlt3
 show wpAny _ _ (newFunctionEnv scope X.env.globals (clOf X.env scope.names []) [] X.env.qual none .none (some X.env)) _ _ _
 refine Sk S.nocell (by intro y hy;simp at hy) (λh4 hns4 hsb4=>?_) S.kind;have hk4:∀b o,s3.heap.get? b=some o->h4.get? b=some o:=λb o e=>(hsb4.2 b (Z2 (Zq e))).trans (Zh _ e)
 have I4:=Inv.compIn2 (tk:=s3.toks+([]:List (Str×Value)).length) S I3 f3 hlt3 hns4 hk4;have st4:tn 0 h4:=T.keep _ _ _ st3 λb _ o e=>hk4 b o e
 have fx:∀{H':Hp},(∀b∈fp,H' b=none)->∀b∈fp,FpOk (a3r X scope x x2 N' s3.heap.objs.size s3 (upd H2 s2.heap.objs.size (.lst [])) fp (X.pn++pj)) [] H' b:=λ{H'} hn b hb=>by
  obtain⟨_,g1,g2,g3,g4,g5⟩:=f3 b hb;refine⟨hn b hb,Z2 (hlt3 b hb),I4.ok.exfs b hb,.inl hb,λy c e=>(I4.ok.exf b hb).2 y c e,λp hp=>g5 p ?_⟩;have hp:p∈(X.pn++pj)++[]:=hp;rwa[Y5]at hp
 have loop:∀s5:Shared,(∃(i n:Nat)(o o2:Option V)(ys:List V)(H5:Hp),Inv (a3r X scope x x2 N' s3.heap.objs.size s3 (upd H2 s2.heap.objs.size (.lst [])) fp (X.pn++pj)) [] (o::o2::σ) H5 s5/\tn i s5.heap/\(∀b∈fp,H5 b=none)/\W i n ys H5)->
   codeAny (model X.prog X.w) X.A (.compLoop (.ListComp elt [⟨.Tuple [.Name x px,.Name x2 px2] kt pt,iter,[],0⟩] scope pos) 0 (.ref it) (.ref s2.heap.objs.size) (compEnvC scope (clOf X.env scope.names []) s3.heap.objs.size X.env))
    (RR (.ref s2.heap.objs.size) s3.heap.objs.size) s5:=by
  rintro s5 ⟨i5,n5,o5,o25,ys5,H5,I5,st5,fr5,w5⟩
  refine c0o (λn s'=>∃(i:Nat)(o o2:Option V)(ys:List V)(H5:Hp),Inv (a3r X scope x x2 N' s3.heap.objs.size s3 (upd H2 s2.heap.objs.size (.lst [])) fp (X.pn++pj)) [] (o::o2::σ) H5 s'/\tn i s'.heap/\(∀b∈fp,H5 b=none)/\W i n ys H5) ?_ n5 ⟨i5,o5,o25,ys5,H5,I5,st5,fr5,w5⟩
  rintro n s6 ⟨i,o,o2,ys,H6,I6,st6,fr6,w6⟩
  rcases hturn i n ys H6 w6 with⟨stop,qn⟩|⟨go,step⟩
  ·refine thn (T.done (a3r X scope x x2 N' s3.heap.objs.size s3 (upd H2 s2.heap.objs.size (.lst [])) fp (X.pn++pj)) rfl rfl rfl hc i [] s6 _ H6 _ I6 (fx fr6) st6 stop) λr s7 ⟨hr,I7⟩=>?_
   subst hr;obtain⟨m7,hn7,_⟩:=id I7.loc;have I8:Inv X pj σ H6 s7:=I3.call' I7.os I7.base I7.hok I7.bare λb hb=>by
    obtain⟨_,g1,g2,g3,g4,g5⟩:=f3 b hb;exact⟨g3,g1,g4,g5⟩
   have f8:FpOk X pj H6 s3.heap.objs.size:=I3.fpOk (Zm _) I7.free;exact hend _ _ H6 s7 m7 I8 hn7 f8 qn
  ·refine thn (T.item (a3r X scope x x2 N' s3.heap.objs.size s3 (upd H2 s2.heap.objs.size (.lst [])) fp (X.pn++pj)) rfl rfl rfl hc i [] s6 _ H6 _ I6 (fx fr6) st6 go) λr s7 ⟨u,hr,h7⟩=>?_
   subst hr;refine thn h7 λ_ s8 z9=>?_
   obtain⟨v,H8,I8,r8,y8,st8,fr8⟩:=z9;have I8':=I8.pinned (fx fr8) (T.obj _ _ st8);obtain⟨aT,y1,y2,ev,hsT,step⟩:=step v H8 y8;have nd2:(x::x2::N').Nodup:=Yn.mpr ⟨λz=>(Zg.mp z).elim S.ne S.nin,Yn.mpr ⟨S.nin2,S.nd⟩⟩;have g1:PG (a3r X scope x x2 N' s3.heap.objs.size s3 (upd H2 s2.heap.objs.size (.lst [])) fp (X.pn++pj)) (.Name x px) (b2c 0):=a1d nd2 rfl (.inl (Xx S.loc)) (.inr (Xx S.loc));have g2:PG (a3r X scope x x2 N' s3.heap.objs.size s3 (upd H2 s2.heap.objs.size (.lst [])) fp (X.pn++pj)) (.Name x2 px2) (b2c 1):=a1d nd2 rfl (.inl (Xx S.loc2)) (.inr (Xx S.loc2));have g3:=c8h (X:=a3r X scope x x2 N' s3.heap.objs.size s3 (upd H2 s2.heap.objs.size (.lst [])) fp (X.pn++pj)) (k:=kt) (pos:=pt) (n:=2) hc (a2p g1 (a2p g2 a9f));refine thn (g3 _ s8 _ H8 v u (λσ' H'=>σ'=some y1::some y2::σ/\H'=H8) I8' r8 ⟨aT,[y1,y2],ev,hsT,rfl,y1,[y2],rfl,?_⟩) λ_ s9 ⟨σ9,H9,I9,e9,e9'⟩=>?_
   ·show gCons (b2c 1) gNil [y2] (some y1::o2::σ) H8 _
    exact⟨y2,[],rfl,rfl,rfl,rfl⟩
   subst e9 e9';refine wpAny_tests_nil ?_;rw[if_pos rfl];refine thn (he _ _ _ _ _ _ s9 (some y1::some y2::σ) H9 _ I9 step) λy s11 z9=>?_
   obtain⟨yv,H11,I11,r11,hD,hz,m',hm,w'⟩:=z9;have ap:=b3s (X:=a3r X scope x x2 N' s3.heap.objs.size s3 (upd H2 s2.heap.objs.size (.lst [])) fp (X.pn++pj)) _ s11 (some y1::some y2::σ) H11 (.ref s2.heap.objs.size) [yv] (.ref s2.heap.objs.size) [y] (λ_ H'=>W (i+1) m' (ys++[yv]) H') I11 rfl (.cons r11 .nil) ⟨_,ys,yv,rfl,rfl,hD,hz,w'⟩;refine thn ap λ_ s12 ⟨_,H12,I12,_,w12⟩=>⟨m',hm,i+1,some y1,some y2,_,H12,I12.unpinned,T.keep _ _ _ st8 λb hb o e=>(I12.pin (b,o) (Z3 _ (Z3 _ (a6n hb e)))).1,λb hb=>?_,w12⟩
   obtain⟨o,e,d⟩:=T.obj _ _ st8 b hb;exact(I12.pin (b,o) (Z3 _ (Z3 _ (a6n hb e)))).2.1
 have l4:=loop { s3 with heap:=h4,toks:=s3.toks+([]:List (Str×Value)).length} ⟨0,m0,none,none,[],_,I4,st4,λb hb=>(f3 b hb).1,w0⟩;exact T4 l4 (T.self _ _ _ _ _ st4 l4)
end
def c6a(sc scope:Scope)(N N':List Str)(x x2:Str):Bool:=
 decide (scope.names.lookup x=some .local)&&decide (scope.names.lookup x2=some .local)&&decide (x≠x2)&&scope.names.all (λy=>decide (y.2≠.cell))&&decide (scope.kind=.function)&&scope.names.all (λy=>decide (y.2=.local->scope.names.lookup y.1=some .local))&&
 scope.names.all (λy=>decide (y.2=.free->sc.names.lookup y.1=some .cell\/sc.names.lookup y.1=some .free))&&decide (x∉N')&&decide (x2∉N')&&decide N'.Nodup&&decide (N'.length=N.length)&&
 (List.range N'.length).all (λi=>match N'[i]? with|some y=>decide (N[i]? =some y\/scope.names.lookup y=none)|none=>true)&&scope.names.all (λy=>decide (y.2=.local->y.1=x\/y.1=x2\/y.1∉N'))
theorem d2x{X:Cx}{scope:Scope}{x x2:Str}(sc:Scope)(N N':List Str)(hsc:X.env.scope=sc)(hN:X.N=N)(h:c6a sc scope N N' x x2=true):b5l X scope x x2 N':=by
 subst hsc hN;unfold c6a at h;simp only[Xd,Xn,Ur]at h;obtain⟨⟨⟨⟨⟨⟨⟨⟨⟨⟨⟨⟨h1,g1⟩,g2⟩,h2⟩,h3⟩,h4⟩,h5⟩,h6⟩,g3⟩,h7⟩,h7'⟩,h8'⟩,h8⟩:=h;refine⟨h1,g1,g2,h2,h3,h4,h5,h6,g3,h7,h7',λi y e=>?_,h8⟩;have hi:i<N'.length:=(Zy.mp e).1;have z:=h8' i (Y2.mpr hi);rw[e]at z;exact Z5 z
theorem d2y{K:FG}{wi:TI}{te:TE}{σ:St}{H:Hp}{Q:VK}(k:wi σ H λJ H1=>∀D,H1 D=none->b7z K J te σ Q D H1):d0b K wi te σ H Q:=k
theorem kt_at{H:Hp}{kvs:List (List Key×V)}{xs:List (List Key×Addr×Value)}(h:KT H kvs xs):kvs.length=xs.length:=by
 induction h with
 |nil=>rfl
 |cons _ _ ih=>rw[length_cons,length_cons,ih]
section
variable{prog:Program}{w:World}{K:Type}[DecidableEq K]{knd:HeapKind prog w K}{A:Around}{E:Value->Shared->Prop}{s:Shared}
theorem d0c{d a:Addr}{xs:List (K×Addr×Value)}{k:K}{v:Value}{Q:Value->Shared->Prop}(hu:knd.room A)(hkey:knd.is s.heap k a)(hm:s.heap.DictOfH knd d xs)(hsz:xs.length<=sizeLine)
  (h1:∀p,atKey xs k=some p->Q p.2 { s with toks:=s.toks+knd.draws k})
  (h2:atKey xs k=none->∀h',h'.DictOfH knd d (storedH xs k a v)->Heap.SameBut d s.heap h'->Q v { s with heap:=h',toks:=s.toks+knd.draws k}):
  wpAny (model prog w) A (dictSetDefault d (.ref a) v) Q E s:=by
 obtain⟨o,es,ep,ho,hc,hd,he,his,hn⟩:=hm;unfold dictSetDefault
 try with_reducible refine Yi ?_
 refine Zb (knd.pyHash hu hkey ?_);refine Zb (wpAny_dictFind_heap (s:={ s with toks:=s.toks+knd.draws k}) hu hkey ho hd he his hn ?_ ?_)
 ·intro hno;have hnot:k∉xs.map (·.1):=not_mem_keys_of_get hno
  refine Zb (Wg (Zb (Sj (hz:=by have e:=size_of_entries he;omega) (s:={ s with toks:=s.toks+knd.draws k}) ho hd (Zf (h2 (Vu hno) _ ⟨_,_,ep+1,Xb _ ho (Sz (Vc hd _)),
   hc.mapDictKeys _,Vc hd _,?_,?_,?_⟩ (X0 ..))))))
  ·rw[U7 (Vu hno)]
   simp[he,entryOfKey]
  ·rw[U7 (Vu hno)];intro x hx;rcases Zr.mp hx with hx|hx
   ·exact knd.keeps (his x hx) ho hd (X0 ..)
   ·simp only[Zd]at hx;subst hx;exact knd.keeps hkey ho hd (X0 ..)
  ·rw[U7 (Vu hno)];rw[Zi,Yb];refine⟨hn,qz,?_⟩;intro x hx y hy;simp only[Zt,Uw,Zd]at hy;subst hy;exactλe=>hnot (e▸hx)
 ·intro j p hj;refine Zb (wpAny_dictEntries (s:={ s with toks:=s.toks+knd.draws k}) ho hd ?_);rw[entry_at he j,hj];exact Zb (Wg (Zf (h1 p (atKey_of_get hn hj))))
theorem c5g(knd:HeapKind prog w K){k:K}{b:Addr}(d:Addr)(hd:(d==sysModules)=false)(dflt:Value):
  MeetsIn prog w (Builtin.«dict.setdefault» ⟨[.ref d,.ref b,dflt],[]⟩) (λA R s=>knd.room A.in1/\∃xs,knd.is s.heap k b/\s.heap.DictOfH knd d xs/\xs.length<=sizeLine/\
   (∀p,atKey xs k=some p->R (.ok (.ret p.2)) { s with toks:=s.toks+knd.draws k})/\
   (atKey xs k=none->∀h',h'.DictOfH knd d (storedH xs k b dflt)->Heap.SameBut d s.heap h'->R (.ok (.ret dflt)) { s with heap:=h',toks:=s.toks+knd.draws k})):=
 .of_wp λA R s ⟨hu,xs,hk,hm,hz,h1,h2⟩=>by
  unfold Builtin.«dict.setdefault»;refine Zb ?_;unfold Builtin.Dict.keyAndDefault;refine Zb (Sf hm.typeIs ?_)
  show wpAny _ _ (pure (d,Value.ref b,some dflt)) _ _ s
  refine Zf ?_
  show wpAny _ _ (if(d==sysModules)=true then _ else(dictSetDefault d (.ref b) dflt>>=_)) _ _ s
  rw[if_neg (by rw[hd];exact Zo)];exact Zb (d0c hu hk hm hz (λp hp=>Zf ⟨p.2,rfl,h1 p hp⟩) λhn h' hm' hs'=>Zf ⟨dflt,rfl,h2 hn h' hm' hs'⟩)
end
section
variable{X:Cx}
def c3f:V->List V->Hp->VK->Prop:=λx vs H Q=>∃(a b:Addr)(kvs:List (List Key×V))(k:List Key)(d:V),x=.ref a/\vs=[.ref b,d]/\H a=some (.dT kvs)/\H b=some (.tup (k.map kV))/\kvs.length<sizeLine/\(∀v,valV kvs k=some v->Q v H)/\(valV kvs k=none->Q d (upd H a (.dT (putK kvs k d))))
theorem d2z(hu:X.A.units+150<cLine):MtR X "dict.setdefault" c3f:=by
 intro pj s σ H x vs v us Q I rx rv h;obtain⟨a,b,kvs,k,d,rfl,rfl,ha,hb,hz,q1,q2⟩:=h;cases rx;obtain⟨u,u',rfl,r1,r2⟩:=vals2 rv;cases r1;obtain⟨z1,d1,xs,rel,dd⟩:=dt_of I.hok ha;have hl:=kt_at rel;refine T5 Sd dd.typeIs F.entry_dict_setdefault (F.args_dict_setdefault_3 _ _ _) (c5g (tupleKind (a1r X.prog X.w)) (k:=k) a d1 u')
  ⟨X6 qo,xs,a9x I.hok hb,dd,qo,λp hp=>?_,λhn h' dd' hs=>?_⟩
 ·have hr:=rel.val k;rw[hp]at hr;cases hv:valV kvs k with
  |none=>rw[hv]at hr;cases hr
  |some y=>
   rw[hv]at hr;obtain⟨y',e1,r3⟩:=RelO.some_of hr;cases e1;exact⟨y,H,I.tok _,r3,q1 y hv⟩
 ·have hr:=rel.val k;rw[hn]at hr;cases hv:valV kvs k with
  |some y=>rw[hv]at hr;obtain⟨_,e1,_⟩:=RelO.some_of hr;cases e1
  |none=>
   refine⟨d,_,?_,r2,q2 hv⟩;have hl:(putK kvs k d).length<=sizeLine:=by have:=b0u kvs k d;omega
   obtain⟨o,es,ep,hq,h2,h3,h4,_,h5⟩:=dd';refine b5e I (by rw[ha];exact True.intro) hs ⟨o,hq⟩ ⟨hl,d1,_,(KT.put rel k hb r2).keeps λc ys ec=>?_,o,es,ep,hq,h2,h3,h4,h5⟩;rw[a0d (a0z ec ha (λz=>nomatch z))];exact ec
theorem d3a{a b:Addr}{kvs:List (List Key×V)}{k:List Key}{d:V}{H:Hp}{Q:VK}(ha:H a=some (.dT kvs))(hb:H b=some (.tup (k.map kV)))(hz:kvs.length<sizeLine)(q1:∀v,valV kvs k=some v->Q v H)(q2:valV kvs k=none->Q d (upd H a (.dT (putK kvs k d)))):c3f (.ref a) [.ref b,d] H Q:=⟨a,b,kvs,k,d,rfl,rfl,ha,hb,hz,q1,q2⟩
end
mutual
inductive Dx(K:W.Frag)(H:Hp):V->PyData->Prop
 |non:Dx K H .non .none
 |bl (b:Bool):Dx K H (.bl b) (.bool b)
 |int (i:Int):Dx K H (.int i) (.int i)
 |str (x:Str):Dx K H (.str x) (.str x)
 |tup {a:Addr} {us:List V} {ds:List PyData}:SqT K H a us->DxL K H us ds->Dx K H (.ref a) (.tuple ds)
 |lst {a:Addr} {us:List V} {ds:List PyData}:SqL K H a us->DxL K H us ds->Dx K H (.ref a) (.list ds)
inductive DxL(K:W.Frag)(H:Hp):List V->List PyData->Prop
 |nil:DxL K H [] []
 |cons {u:V} {us:List V} {d:PyData} {ds:List PyData}:Dx K H u d->DxL K H us ds->DxL K H (u::us) (d::ds)
end
mutual
theorem Den.dx{K:FG}{H:Hp}:∀{v:V}{d:PyData},Den K H v d->Dx K H v d
 |_,_,.non=>.non
 |_,_,.bl b=>.bl b
 |_,_,.int i=>.int i
 |_,_,.str x=>.str x
 |_,_,.tup h l=>.tup h (DenL.dx l)
theorem DenL.dx{K:FG}{H:Hp}:∀{v:List V}{d:List PyData},DenL K H v d->DxL K H v d
 |_,_,.nil=>.nil
 |_,_,.cons h l=>.cons (Den.dx h) (DenL.dx l)
end
mutual
theorem Dx.monoT{K:FG}{H H':Hp}(e:∀a xs,SqT K H a xs->SqT K H' a xs)(f:∀a xs,SqL K H a xs->SqL K H' a xs):∀{v:V}{d:PyData},Dx K H v d->Dx K H' v d
 |_,_,.non=>.non
 |_,_,.bl b=>.bl b
 |_,_,.int i=>.int i
 |_,_,.str x=>.str x
 |_,_,.tup h l=>.tup (e _ _ h) (DxL.monoT e f l)
 |_,_,.lst h l=>.lst (f _ _ h) (DxL.monoT e f l)
theorem DxL.monoT{K:FG}{H H':Hp}(e:∀a xs,SqT K H a xs->SqT K H' a xs)(f:∀a xs,SqL K H a xs->SqL K H' a xs):∀{v:List V}{d:List PyData},DxL K H v d->DxL K H' v d
 |_,_,.nil=>.nil
 |_,_,.cons h l=>.cons (Dx.monoT e f h) (DxL.monoT e f l)
end
section
variable{K:W.Frag}{H:Hp}
theorem DxL.length:∀{us:List V}{ds:List PyData},DxL K H us ds->us.length=ds.length
 |_,_,.nil=>rfl
 |_,_,.cons _ l=>by rw[length_cons,length_cons,DxL.length l]
theorem DxL.get:∀{us:List V}{ds:List PyData}{i:Nat}{u:V},DxL K H us ds->us[i]? =some u->∃d,ds[i]? =some d/\Dx K H u d
 |_,_,_,_,.nil,e=>by simp at e
 |_,_,0,_,.cons h _,e=>by simp at e;subst e;exact⟨_,rfl,h⟩
 |_,_,i+1,u,.cons _ l,e=>by
  obtain⟨d,h1,h2⟩:=DxL.get (i:=i) (u:=u) l (by simpa using e);exact⟨d,by simpa using h1,h2⟩
end
section
variable{X:Cx}{pj:List (Addr×Obj)}{σ:St}{H:Hp}{s:Shared}
theorem d3b(I:Inv X pj σ H s):∀(n:Nat)(A:Around)(d:PyData)(v v':V)(u u':Value),d.depth<=n->A.units+n<cLine->Dx X.K H v d->Dx X.K H v' d->RelV v u->RelV v' u'->SeqAt.EqAt A s u u' true:=by
 intro n
 induction n with
 |zero=>
  intro A d v v' u u' hd hu h h' r r';cases h with
  |non=>cases h';cases r;cases r';exact Xj _
  |bl b=>cases h';cases r;cases r';exact Xj _
  |int i=>
   cases h';obtain⟨t,rfl⟩:=r;obtain⟨t',rfl⟩:=r';have:=Wu (A:=A) (s:=s) i t i t'
   simpa using this
  |str x=>
   cases h';obtain⟨t,rfl⟩:=r;obtain⟨t',rfl⟩:=r';have:=Wt (A:=A) (s:=s) x t x t'
   simpa using this
  |tup _ _=>simp[PyData.depth]at hd
  |lst _ _=>simp[PyData.depth]at hd
 |succ n ih=>
  intro A d v v' u u' hd hu h h' r r';cases h with
  |non=>cases h';cases r;cases r';exact Xj _
  |bl b=>cases h';cases r;cases r';exact Xj _
  |int i=>
   cases h';obtain⟨t,rfl⟩:=r;obtain⟨t',rfl⟩:=r';have:=Wu (A:=A) (s:=s) i t i t'
   simpa using this
  |str x=>
   cases h';obtain⟨t,rfl⟩:=r;obtain⟨t',rfl⟩:=r';have:=Wt (A:=A) (s:=s) x t x t'
   simpa using this
  | @tup a us ds hs hl=>
   cases h' with
   | @tup b us' _ hs' hl'=>
    cases r;cases r'
    by_cases e:a=b
    ·subst e;exact Xj _
    ·obtain⟨its,rv,p,_⟩:=I.tuple hs;obtain⟨its',rv',p',_⟩:=I.tuple hs';have l1:=rv.length;have l2:=rv'.length;have l3:=hl.length;have l4:=hl'.length;have hd':PyData.depthAll ds<=n:=by simp only[PyData.depth]at hd;omega
     have key:=Us (A:=A) (e:=λ_=>true) (show s.heap.IsTuple a its.toArray from p) (show s.heap.IsTuple b its'.toArray from p') qo (λj h1 h2=>by
      have h1:j<its.length:=by simpa using h1
      have h2:j<its'.length:=by simpa using h2
      have x1:us[j]? =some us[j]:=Za qo
      have x2:us'[j]? =some us'[j]:=Za qo
      obtain⟨d,e1,d1⟩:=hl.get x1;obtain⟨d',e2,d2⟩:=hl'.get x2;rw[e1]at e2;cases e2;obtain⟨w1,y1,z1⟩:=rv.get x1;obtain⟨w2,y2,z2⟩:=rv'.get x2;have q1:its.toArray[j]=w1:=by
       have:=Za h1;rw[y1]at this
       simpa using(Zl this).symm
      have q2:its'.toArray[j]=w2:=by
       have:=Za h2;rw[y2]at this
       simpa using(Zl this).symm
      rw[q1,q2]
      exact ih A.in1 d _ _ _ _ (Ye (a2v e1) hd') (by show A.units+1+n<cLine;omega) d1 d2 z1 z2)
     have e3:its.toArray.size=its'.toArray.size:=by simp only[Zj];omega
     rw[e3]at key;have e4:((List.range (min its'.toArray.size its'.toArray.size)).all (λ_=>true)&&its'.toArray.size==its'.toArray.size)=true:=by simp
     rw[e4]at key;exact Vm e key
  | @lst a us ds hs hl=>
   cases h' with
   | @lst b us' _ hs' hl'=>
    cases r;cases r'
    by_cases e:a=b
    ·subst e;exact Xj _
    ·obtain⟨its,rv,p,_⟩:=I.list hs;obtain⟨its',rv',p',_⟩:=I.list hs';have l1:=rv.length;have l2:=rv'.length;have l3:=hl.length;have l4:=hl'.length;have hd':PyData.depthAll ds<=n:=by simp only[PyData.depth]at hd;omega
     have key:=SeqAt.RcAt.lists (A:=A) (e:=λ_=>true) p.isList p'.isList (by simp only[Zj];omega) qo (λj h1 h2=>by
      have h1:j<its.length:=by simpa using h1
      have h2:j<its'.length:=by simpa using h2
      have x1:us[j]? =some us[j]:=Za qo
      have x2:us'[j]? =some us'[j]:=Za qo
      obtain⟨d,e1,d1⟩:=hl.get x1;obtain⟨d',e2,d2⟩:=hl'.get x2;rw[e1]at e2;cases e2;obtain⟨w1,y1,z1⟩:=rv.get x1;obtain⟨w2,y2,z2⟩:=rv'.get x2;have q1:its.toArray[j]=w1:=by
       have:=Za h1;rw[y1]at this
       simpa using(Zl this).symm
      have q2:its'.toArray[j]=w2:=by
       have:=Za h2;rw[y2]at this
       simpa using(Zl this).symm
      rw[q1,q2]
      exact ih A.in1 d _ _ _ _ (Ye (a2v e1) hd') (by show A.units+1+n<cLine;omega) d1 d2 z1 z2)
     have e4:((List.range its.toArray.size).all (λ_=>true))=true:=by simp
     rw[e4]at key;exact Vm e key
end
section
variable{X:Cx}
def dEqX(K:W.Frag)(n:Bool):R2:=λx y H Q=>∃(p q:Addr)(us us':List V)(ds:List PyData),x=.ref p/\y=.ref q/\((SqT K H p us/\SqT K H q us')\/(SqL K H p us/\SqL K H q us'))/\DxL K H us ds/\DxL K H us' ds/\PyData.depthAll ds<=149/\Q (.bl (!n)) H
theorem c0r{pj:List (Addr×Obj)}{σ:St}{H:Hp}{s:Shared}(I:Inv X pj σ H s){A:Around}{us us':List V}{ds:List PyData}{its its':List Value}(hl:DxL X.K H us ds)(hl':DxL X.K H us' ds)(rv:Vals us its)(rv':Vals us' its')(hd:PyData.depthAll ds<=149)(hu:A.units+150<cLine):
  ∀j (h1:j<its.toArray.size) (h2:j<its'.toArray.size),SeqAt.EqAt A.in1 s its.toArray[j] its'.toArray[j] true:=λj h1 h2=>by
 have l1:=rv.length;have l2:=rv'.length;have l3:=hl.length;have l4:=hl'.length;have h1:j<its.length:=by simpa using h1
 have h2:j<its'.length:=by simpa using h2
 have x1:us[j]? =some us[j]:=Za qo
 have x2:us'[j]? =some us'[j]:=Za qo
 obtain⟨d,e1,d1⟩:=hl.get x1;obtain⟨d',e2,d2⟩:=hl'.get x2;rw[e1]at e2;cases e2;obtain⟨w1,y1,z1⟩:=rv.get x1;obtain⟨w2,y2,z2⟩:=rv'.get x2;have q1:its.toArray[j]=w1:=by
  have:=Za h1;rw[y1]at this
  simpa using(Zl this).symm
 have q2:its'.toArray[j]=w2:=by
  have:=Za h2;rw[y2]at this
  simpa using(Zl this).symm
 rw[q1,q2];exact d3b I 149 A.in1 d _ _ _ _ (Ye (a2v e1) hd) (by show A.units+1+149<cLine;omega) d1 d2 z1 z2
theorem ko_eqX(K:FG)(hK:X.K=K)(hu:X.A.units+150<cLine):OpR X (compareOp .Eq) (dEqX K false):=by
 subst hK;intro pj s σ H x y v u Q I rx ry h;obtain⟨p,q,us,us',ds,rfl,rfl,h,hl,hl',hd,k⟩:=h;cases rx;cases ry;rcases h with⟨hs,hs'⟩|⟨hs,hs'⟩
 ·obtain⟨its,rv,p1,_⟩:=I.tuple hs;obtain⟨its',rv',p2,_⟩:=I.tuple hs';have e3:its.toArray.size=its'.toArray.size:=by simp only[Zj];rw[<-rv.length,<-rv'.length,hl.length,hl'.length]
  refine SeqAt.eq_tupleAt (e:=λ_=>true) (show s.heap.IsTuple p its.toArray from p1) (show s.heap.IsTuple q its'.toArray from p2) qo (c0r I hl hl' rv rv' hd hu) ?_;rw[e3];exact⟨.bl true,H,I,by simp[RelV],k⟩
 ·obtain⟨its,rv,p1,_⟩:=I.list hs;obtain⟨its',rv',p2,_⟩:=I.list hs';have e3:its.toArray.size=its'.toArray.size:=by simp only[Zj];rw[<-rv.length,<-rv'.length,hl.length,hl'.length]
  refine SeqAt.eq_listAt (e:=λ_=>true) p1.isList p2.isList e3 qo (c0r I hl hl' rv rv' hd hu) ?_;exact⟨.bl true,H,I,by simp[RelV],k⟩
end
end L2
namespace L2.ZL
open PySem PySem.Spec PyProof.Rows PySem.W L2
section
variable{prog:Program}{w:World}{A:Around}{E:Value->Shared->Prop}{s:Shared}
def ZS(h:Heap)(z TI TO i1 i2 t1 t2 S:Addr)(i:Nat):Prop:=
 ((IsZip h z TI TO .none/\∃a b,IsPair h TO a b)\/∃(T:Addr)(f1:Bool)(o:Obj),c9r h z TI TO (rawInt T) f1/\h.get? T=some o/\T≠z/\T≠TO/\T≠i1/\T≠i2/\T≠S)/\IsPair h TI (.ref i1) (.ref i2)/\h.IsListIter i1 t1 i/\h.IsListIter i2 t2 i
end
end L2.ZL
namespace L2
open PySem PySem.Spec PyProof.Rows PySem.W
theorem c0s{K:FG}{a:Addr}{xs:List V}{g:TG}{tb:TS}{D:Ends}{σ:St}{H:Hp}(Pv:Nat->St->Hp->Prop)(h0:Pv 0 σ H)(hok:∀i σ H,Pv i σ H->SqL K H a xs)
  (hs:∀i σ H T,i<xs.length->Pv i σ H->H T=none->g (.ref T) σ (upd H T (.tup [.int i,xs.getD i .non])) λσ2 H2=>tb { D with nx:=Pv (i+1),ct:=Pv (i+1),bk:=D.nx} σ2 H2)(hd:∀σ H,Pv xs.length σ H->D.nx σ H):
  ForW (Ite K a xs.length) g tb D σ H:=by
 refine⟨λi m σ H=>m=xs.length-i/\i<=xs.length/\Pv i σ H,⟨xs.length,qz,Z4 _,h0⟩,?_⟩
 rintro i m σ H ⟨rfl,hi,p⟩
 have q1:=hok i σ H p
 by_cases hlt:i<xs.length
 ·refine .inr ⟨⟨hlt,xs,q1,rfl⟩,Pv (i+1),λσ' H' p'=>⟨xs.length-(i+1),qo,rfl,hlt,p'⟩,λx H' y=>?_⟩;obtain⟨T,u,hT,rfl,rfl,e1⟩:=y;have e1:=e1 xs q1;have f1:xs.getD i .non=u:=by rw[Yd,e1];rfl
  have:=hs i σ H T hlt p hT;rw[f1]at this;exact this
 ·have e:i=xs.length:=by omega
  subst e;exact .inl ⟨⟨rfl,xs,q1,rfl⟩,hd σ H p⟩
section
variable{prog:Program}{w:World}{A:Around}{E:Value->Shared->Prop}{s:Shared}
theorem drawL{it l:Addr}{items:Array Value}(hne:l≠it):∀(n i:Nat)(s:Shared)(Q:List Value->Shared->Prop),s.heap.IsListIter it l i->s.heap.IsList l items->i+n<=items.size->
  (∀h',h'.IsListIter it l (i+n)->Heap.SameBut it s.heap h'->Q ((items.toList.drop i).take n) { s with heap:=h'})->wpAny (model prog w) A (draw (.ref it) n) Q E s
 |0,i,s,Q,hit,_,_,hQ=>Zf (by simpa using hQ s.heap hit (Heap.SameBut.refl ..))
 |n+1,i,s,Q,hit,hl,hle,hQ=>by
  have hlt:i<items.size:=by omega
  show wpAny _ _ (pyNext (.ref it)>>=_) Q E s
  refine Zb (Tz hit hl (x:=items[i]) (by simp[hlt]) λh1 hit1 hs1=>?_);refine Zb (Yi (drawL hne n (i+1) _ _ hit1 (hl.extBut hs1.extBut hne) qo λh2 hit2 hs2=>Zf ?_));have hd:items.toList.drop i=items[i]::items.toList.drop (i+1):=by simp[Xk,hlt]
  have:=hQ h2 (by rw[show i+(n+1)=i+1+n by omega];exact hit2) (hs1.trans hs2);rw[hd,List.take_succ_cons]at this;exact this
theorem unpackL{l:Addr}{items:Array Value}{targets:List (Bool×(Value->Sem Unit))}{Q:Unit->Shared->Prop}(hh:A.handled=none)(hl:s.heap.IsList l items)(hn:targets.length=items.size)(hstar:targets.findIdx? (·.1)=none)
  (h:∀h',Heap.ExtBut s.heap.objs.size s.heap h'->wpAny (model prog w) A (assignInOrder (targets.map (·.2)) items.toList) Q E { s with heap:=h'}):
  wpAny (model prog w) A (unpack (.ref l) targets) Q E s:=by
 have hlt:l≠s.heap.objs.size:=by obtain⟨o,ho,_⟩:=hl;exact Z2 (Zq ho)
 unfold unpack;rw[hn,hstar];refine Zb (Yi ?_);unfold unpackItems;refine Zb ?_;unfold notIterableAtAll;refine Zb (Ym hl.typeIs F.slot_list_iter.lookup (Zf ?_));simp only[Xw,Vb];refine Zb (Yi (Vs hl ?_));refine Zb (Yi (drawL hlt items.size 0 _ _ ⟨_,Zu _ rfl,rfl,rfl⟩ (hl.push _) qo λh1 hit1 hs1=>?_));have hall:List.take items.size (List.drop 0 items.toList)=items.toList:=by
  rw[List.drop_zero];exact Y6 qz
 rw[hall,if_neg qz];have hl1:h1.IsList l items:=(hl.push _).extBut hs1.extBut hlt;refine Zb (Yi (Se hh hit1 hl1 qz λh2 he2=>?_));simp only[Option.isSome_none,Xw,Vb];exact Zf (h h2 λb o hb e=>he2 b o hb (hs1.extBut b o hb (Zh _ e)))
end
section
variable{X:Cx}
def gLsu(K:W.Frag)(n:Nat)(t:TGs):TG:=λv σ H Q=>∃a xs,v=.ref a/\SqL K H a xs/\xs.length=n/\t xs σ H Q
theorem kpg_lsu(K:FG)(hK:X.K=K){pos:Pos}{es:List Expr}{k:Nat}{t:TGs}{n:Nat}(hc:X.calm=true)(h:PGs X es t)
  (hn:(assignEach es X.env).length=n:=by rfl)(hst:(assignEach es X.env).findIdx? (·.1)=none:=by rfl):PG X (.Tuple es k pos) (gLsu K n t):=by
 subst hK;intro pj s σ H v u Q I r hw;obtain⟨a,xs,e1,hq,hl,hw⟩:=hw;subst e1;cases r;obtain⟨its,rv,ht,hz⟩:=I.list hq;rw[assign_Tuple];refine Zb (Ud (unpackL (I.ok.hd hc) ht.isList (by simp[hn,<-hl,rv.length]) hst λh' hx=>?_));have I1:Inv X pj σ H { s with heap:=h'}:=I.kept (t':=s.toks) λb o e=>hx b o (Z2 (Zq e)) e
 exact h pj _ σ H xs _ Q I1 (by simpa using rv) hw
theorem gLsu_i{K:FG}{σ:St}{H:Hp}{a:Addr}{xs:List V}{n:Nat}{t:TGs}{N:St->Hp->Prop}(hs:SqL K H a xs)(hl:xs.length=n)(k:t xs σ H N):gLsu K n t (.ref a) σ H N:=⟨a,xs,rfl,hs,hl,k⟩
end
open PySem PySem.Spec PyProof.Rows
section
variable{X:Cx}
theorem d3c{elt iter:Expr}{x x2:Str}{N':List Str}{kt:Nat}{px px2 pt:Pos}{scope:Scope}{pos:Pos}{wi:TI}{te:TE}(K:FG)(hK:X.K=K)(hc:X.calm=true)(hi:PI X (.Tuple [.Name x px,.Name x2 px2] kt pt) iter wi)(S:b5l X scope x x2 N')
  (he:∀C s H fp pn,PE (a3r X scope x x2 N' C s H fp pn) elt te)(hs:∀x,foldedSetIterable iter X.env x=pure x:=by intro _;rfl):
  PE X (.ListComp elt [⟨.Tuple [.Name x px,.Name x2 px2] kt pt,iter,[],0⟩] scope pos) (d0b K wi te):=by
 subst hK;intro pj s σ H Q I h;have hcells:∀y∈scope.names,y.2=.free->∃c,X.env.cells.lookup y.1=some c:=λy hy hk=>I.ok.has y.1 (S.free y hy hk)
 rw[eval_ListComp];refine Vx (use:=none) rfl hs (b2g hcells) S.kind S.names (thn (hi pj s σ H _ I h) λxv s1 h1=>thn h1 λitv s2 h2=>?_);refine c7g (RR:=λacc C=>compPost (model X.prog X.w) X.A X.xe none (EP X pj σ Q) acc C) hc S he h2 λD C H6 s7 m7 I8 hn7 f8 qn=>?_
 refine⟨m7,hn7,λh' hs'=>?_⟩;obtain⟨g0,g1,g2,g3,g4,g5⟩:=f8;exact⟨.ref D,H6,I8.turned (t':=s7.toks) (λb o hb e=>(hs'.2 b hb).trans e) g0 g1 g3 g4 g5,rfl,qn⟩
end
theorem d0d{K:FG}{J:It}{n:Nat}{vs:Nat->V}{Ok:Hp->Prop}(R:Row J n vs Ok){te:TE}{Q:VK}{σ:St}{H1:Hp}{D:Addr}(Pv:Nat->List V->Hp->Prop)(hn:n<=sizeLine)(h0:Pv 0 [] (upd H1 D (.lst [])))(hok:∀i ys H,Pv i ys H->Ok H)
  (hs:∀i ys H (Q':VK),i<n->ys.length=i->Pv i ys H->(∀y H4,H4 D=some (.lst ys)->Pv (i+1) (ys++[y]) (upd H4 D (.lst (ys++[y])))->Q' y H4)->∃a y1 y2,vs i=.ref a/\SqT K H a [y1,y2]/\te (some y1::some y2::σ) H Q')
  (hd:∀ys H,ys.length=n->Pv n ys H->Q (.ref D) H):b7z K J te σ Q D H1:=by
 refine⟨λi m ys H=>m=n-i/\i<=n/\ys.length=i/\Pv i ys H,⟨n,qz,Z4 _,rfl,h0⟩,?_⟩
 rintro i m ys H ⟨rfl,hi,hl,p⟩
 by_cases hlt:i<n
 ·refine .inr ⟨R.go i H hlt (hok i ys H p),λv H2 y=>?_⟩;obtain⟨e1,e2⟩:=R.yld i H v H2 hlt (hok i ys H p) y;subst e1 e2;exact hs i ys _ _ hlt hl p λv H4 q1 q2=>⟨q1,qo,n-(i+1),qo,rfl,hlt,by simp[hl],q2⟩
 ·have e:i=n:=by omega
  subst e;exact .inl ⟨R.stop H (hok _ ys H p),hd ys H hl p⟩
open PySem.AutoSeq1 (wpAny_loadPart')
theorem ps_try0{X:Cx}{body:List Stmt}{h0:ExceptHandler}{hs:List ExceptHandler}{pos:Pos}{tb:TS}(hx:∀v s,X.xe v s->False)(hb:PSs X body tb):PS X (.Try body (h0::hs) [] [] pos) tb:=by
 intro pj s σ H D I h;refine wpAny_Try_except (W4 (hb pj s σ H D I h) (λf s1 q=>?_) λv s1 z=>(hx v s1 z).elim);cases f with
 |next=>exact Ve q
 |brk=>exact q
 |cont=>exact q
 |ret _=>exact q
instance decD:DecidableEq PyData:=Classical.typeDecidableEq _
mutual
inductive HD(h:Heap):PyData->Value->Prop
 |int (i:Int) (t:Tok):HD h (.int i) (.int i t)
 |str (x:Str) (t:Tok):HD h (.str x) (.str x t)
 |tup {a:Addr} {its:Array Value} {ds:List PyData}:IsTup h a its->HDL h ds its.toList->HD h (.tuple ds) (.ref a)
inductive HDL(h:Heap):List PyData->List Value->Prop
 |nil:HDL h [] []
 |cons {d:PyData} {ds:List PyData} {u:Value} {us:List Value}:HD h d u->HDL h ds us->HDL h (d::ds) (u::us)
end
mutual
theorem HD.inj{h:Heap}:∀{d d':PyData}{u:Value},HD h d u->HD h d' u->d=d'
 |_,_,_,.int i t,g=>by cases g;rfl
 |_,_,_,.str x t,g=>by cases g;rfl
 |_,_,_,.tup p l,g=>by
  cases g with
  |tup p' l'=>
   obtain⟨o,e1,_,n,e2⟩:=p;obtain⟨o',e3,_,n',e4⟩:=p';rw[e1]at e3;cases e3;rw[e2]at e4
   injection e4 with e5 _
   subst e5;rw[HDL.inj l l']
theorem HDL.inj{h:Heap}:∀{d d':List PyData}{u:List Value},HDL h d u->HDL h d' u->d=d'
 |_,_,_,.nil,g=>by cases g;rfl
 |_,_,_,.cons a l,g=>by
  cases g with
  |cons b m=>rw[HD.inj a b,HDL.inj l m]
end
mutual
theorem HD.on{h h':Heap}(k:∀a its,IsTup h a its->IsTup h' a its):∀{d:PyData}{u:Value},HD h d u->HD h' d u
 |_,_,.int i t=>.int i t
 |_,_,.str x t=>.str x t
 |_,_,.tup p l=>.tup (k _ _ p) (HDL.on k l)
theorem HDL.on{h h':Heap}(k:∀a its,IsTup h a its->IsTup h' a its):∀{d:List PyData}{u:List Value},HDL h d u->HDL h' d u
 |_,_,.nil=>.nil
 |_,_,.cons a l=>.cons (HD.on k a) (HDL.on k l)
end
theorem HDL.len{h:Heap}:∀{d:List PyData}{u:List Value},HDL h d u->d.length=u.length
 |_,_,.nil=>rfl
 |_,_,.cons _ l=>by rw[length_cons,length_cons,HDL.len l]
theorem HDL.at{h:Heap}:∀{d:List PyData}{u:List Value}{j:Nat}{x:Value},HDL h d u->u[j]? =some x->∃e,d[j]? =some e/\HD h e x
 |_,_,j,x,.nil,e=>by simp at e
 |_,_,0,x,.cons a _,e=>by simp at e;subst e;exact⟨_,rfl,a⟩
 |_,_,j+1,x,.cons _ l,e=>by simpa using HDL.at l (by simpa using e)
mutual
def b8a(w:World):PyData->Int
 | .int i=>hashInt i
 | .str x=>hashStr w x
 | .tuple ds=>reduceHash (Builtin.Tuple.tupleHashOf (a6a w ds))
 |_=>0
def a6a(w:World):List PyData->List Int
 | []=>[]
 |d::r=>b8a w d::a6a w r
end
mutual
def b8b:PyData->Nat
 | .tuple ds=>a4h ds+1
 |_=>1
def a4h:List PyData->Nat
 | []=>0
 |d::r=>b8b d+a4h r
end
theorem b8c(w:World):∀(a b:List PyData),a6a w (a++b)=a6a w a++a6a w b
 | [],_=>rfl
 |x::r,b=>by rw[Xu,a6a,b8c,a6a];rfl
theorem b8d:∀(a b:List PyData),a4h (a++b)=a4h a+a4h b
 | [],b=>by rw[a4h];simp
 |x::r,b=>by rw[Xu,a4h,b8d,a4h];omega
theorem c3g{d:PyData}{ds:List PyData}(h:d∈ds):d.depth<=PyData.depthAll ds:=by
 obtain⟨j,hj⟩:=Xa.mp h;exact a2v hj
section
variable{prog:Program}{w:World}
theorem hd_hash:∀(n:Nat){A:Around}{E:Value->Shared->Prop}{s:Shared}{d:PyData}{u:Value}{Q:Int->Shared->Prop},d.depth<=n->A.units+n<cLine->HD s.heap d u->Q (b8a w d) { s with toks:=s.toks+b8b d}->wpAny (model prog w) A (pyHash u) Q E s:=by
 intro n
 induction n with
 |zero=>
  intro A E s d u Q hd hu h k;cases h with
  |int i t=>exact Wk k
  |str x t=>exact W3 k
  |tup _ _=>simp[PyData.depth]at hd
 |succ n ih=>
  intro A E s d u Q hd hu h k;cases h with
  |int i t=>exact Wk k
  |str x t=>exact W3 k
  | @tup a its ds ht hl=>
   have hd':PyData.depthAll ds<=n:=by simp only[PyData.depth]at hd;omega
   obtain⟨⟨oc,od,odt,osl⟩,ho,hc,nn,hdt⟩:=ht
   dsimp only at hc hdt
   subst hc hdt;have ty:s.TypeIs (.ref a) "tuple":=⟨_,ho,rfl⟩;have sl:=F.slot_tuple_hash;unfold pyHash pyHashByItsType;refine Zb (wpAny_cRoomFor_or (.inr qo) (Zb (Ym ty sl.lookup ?_)));rw[if_neg (show ¬(some (Value.builtin "tuple.__hash__")==some Value.none)=true by rw[Vz];exact Zo)];refine Zb (Ym ty sl.lookup (Zb (wpAny_callSpecialIfBoundUnlessNone?_slot ty sl (Yq sl ty Rt ?_ (S8 _)))))
   (show wpAny _ _ (Builtin.Tuple.tupleItemsOf (.ref a)>>=_) _ _ s;refine Zb (S9 ho rfl (Zb ?_)))
   rw[<-Ul];refine Uy _ (λrest (b:Array Int) s1=>∃done left,ds=done++left/\HDL s.heap left rest/\b.toList=a6a w done/\s1={ s with toks:=s.toks+a4h done}) _ (λx rest b s1 hx=>?_) (λb s1 hx=>?_) _ _ ⟨[],ds,rfl,hl,rfl,rfl⟩
   ·obtain⟨done,left,e1,hl1,hb,rfl⟩:=hx;cases hl1 with
    | @cons e left' _ _ g1 g2=>
    have he:e.depth<=n:=Ye (c3g (by rw[e1];simp)) hd';refine Zb (ih (s:={ s with toks:=s.toks+a4h done}) he (by show A.units+1+n<cLine;omega) g1 ?_);have fin:∃done' left'',ds=done'++left''/\HDL s.heap left'' rest/\(b.push (b8a w e)).toList=a6a w done'/\({ s with toks:=s.toks+a4h done+b8b e}:Shared)={ s with toks:=s.toks+a4h done'}:=⟨done++[e],left',by rw[e1];simp,g2,by rw[b8c,Array.toList_push,hb];rfl,by rw[b8d];simp[a4h,Tp]⟩
    first
     |exact Zf fin
     |exact Zb (Zf (Zf fin))
   ·obtain⟨done,left,e1,hl1,hb,rfl⟩:=hx;cases hl1;rw[Y5]at e1;subst e1
    show wpAny _ _ (retInt (Builtin.Tuple.tupleHashOf b.toList)) _ _ _
    rw[hb];refine wpAny_ret_mkInt ?_
    show wpAny _ _ (pyHashByItsType.reduced _) Q E _
    unfold pyHashByItsType.reduced;unfold b8a reduceHash at k;rw[b8b]at k
    by_cases hr:(decide (-(2:Int)^63<=Builtin.Tuple.tupleHashOf (a6a w ds))&&decide (Builtin.Tuple.tupleHashOf (a6a w ds)<2^63))=true
    ·rw[if_pos hr];rw[if_pos hr]at k;exact Zf (by simpa[Tp]using k)
    ·rw[if_neg hr];rw[if_neg hr]at k;exact Zb (Wg (Zf (by simpa[Tp]using k)))
theorem c6b:∀(a b:List PyData),((List.range (min a.length b.length)).all (λj=>match a[j]?,b[j]? with|some x,some y=>decide (x=y)|_,_=>true)&&(a.length==b.length))=decide (a=b)
 | [],[]=>by simp
 | [],_::_=>by simp
 |_::_,[]=>by simp
 |x::r,y::m=>by
  have ih:=c6b r m;have e:decide (x::r=y::m)=(decide (x=y)&&decide (r=m)):=by
   rw[<-Bool.decide_and];exact Xl.mpr qz
  rw[e,<-ih,length_cons,length_cons,Nat.succ_min_succ,T9,W9,List.all_map,Bool.and_assoc]
  congr 1
  congr 1
  simp
theorem hn_eq{s:Shared}:∀(n:Nat)(A:Around)(d d':PyData)(u u':Value),d.depth<=n->A.units+n<cLine->HD s.heap d u->HD s.heap d' u'->SeqAt.EqAt A s u u' (decide (d=d')):=by
 intro n;have sc:∀(A:Around)(d d':PyData)(u u':Value),(∀ds,d≠.tuple ds)->A.units<cLine->HD s.heap d u->HD s.heap d' u'->SeqAt.EqAt A s u u' (decide (d=d')):=by
  intro A d d' u u' nt hu h h';cases h with
  |int i t=>
   cases h' with
   |int j t'=>
    have:=Wu (A:=A) (s:=s) i t j t';rwa[show(i==j)=decide (PyData.int i=PyData.int j) by by_cases e:i=j<;>simp[e]]at this
   |str x t'=>
    have:=Vn (A:=A) (s:=s) i t x t';rwa[show false=decide (PyData.int i=PyData.str x)from(Zs qz).symm]at this
   |tup p l=>
    have:=SeqAt.EqAt.int_tuple (A:=A) (s:=s) i t p hu;rwa[show false=decide (PyData.int i=PyData.tuple _)from(Zs qz).symm]at this
  |str x t=>
   cases h' with
   |int j t'=>
    have:=Vl (A:=A) (s:=s) x t j t';rwa[show false=decide (PyData.str x=PyData.int j)from(Zs qz).symm]at this
   |str y t'=>
    have:=Wt (A:=A) (s:=s) x t y t';rwa[show(x==y)=decide (PyData.str x=PyData.str y) by by_cases e:x=y<;>simp[e]]at this
   |tup p l=>
    have:=SeqAt.EqAt.str_tuple (A:=A) (s:=s) x t p hu;rwa[show false=decide (PyData.str x=PyData.tuple _)from(Zs qz).symm]at this
  |tup _ _=>exact absurd rfl (nt _)
 induction n with
 |zero=>
  intro A d d' u u' hd hu h h';exact sc A d d' u u' (λds e=>by subst e;simp[PyData.depth]at hd) qo h h'
 |succ n ih=>
  intro A d d' u u' hd hu h h'
  by_cases nt:∀ds,d≠.tuple ds
  ·exact sc A d d' u u' nt qo h h'
  cases h with
  |int i t=>exact absurd (λds=>by simp) nt
  |str x t=>exact absurd (λds=>by simp) nt
  | @tup a its ds p l=>
   have hd':PyData.depthAll ds<=n:=by simp only[PyData.depth]at hd;omega
   cases h' with
   |int j t'=>
    have:=SeqAt.EqAt.tuple_int (A:=A) (s:=s) j t' p qo;rwa[show false=decide (PyData.tuple ds=PyData.int j)from(Zs qz).symm]at this
   |str y t'=>
    have:=SeqAt.EqAt.tuple_str (A:=A) (s:=s) y t' p qo;rwa[show false=decide (PyData.tuple ds=PyData.str y)from(Zs qz).symm]at this
   | @tup b its' ds' p' l'=>
    by_cases e:a=b
    ·subst e;have:=HD.inj (.tup p l) (.tup p' l');rw[this,Zw rfl];exact Xj _
    ·have l1:=l.len;have l2:=l'.len
     have key:=Us (A:=A) (e:=λj=>match ds[j]?,ds'[j]? with|some x,some y=>decide (x=y)|_,_=>true) (show s.heap.IsTuple a its from p) (show s.heap.IsTuple b its' from p') qo (λj h1 h2=>by
      obtain⟨x,x1,x2⟩:=l.at (j:=j) (x:=its[j]) (by simp[h1]);obtain⟨y,y1,y2⟩:=l'.at (j:=j) (x:=its'[j]) (by simp[h2]);simp only[x1,y1]
      exact ih A.in1 x y _ _ (Ye (a2v x1) hd') (by show A.units+1+n<cLine;omega) x2 y2)
     have e1:its.size=ds.length:=by rw[l1,Y1]
     have e2:its'.size=ds'.length:=by rw[l2,Y1]
     rw[e1,e2,c6b]at key;rw[show decide (PyData.tuple ds=PyData.tuple ds')=decide (ds=ds')from Xl.mpr qz];exact Vm e key
theorem d3d:∀(n:Nat){A:Around}{E:Value->Shared->Prop}{s:Shared}{d:PyData}{u:Value}{Q:Bool->Shared->Prop},d.depth<=n->HD s.heap d u->Q true s->wpAny (model prog w) A (eqIsQuiet n u) Q E s:=by
 intro n
 induction n with
 |zero=>
  intro A E s d u Q hd h k;cases h with
  |int i t=>rw[Vt _ rfl];exact Zf k
  |str x t=>rw[Vt _ rfl];exact Zf k
  |tup _ _=>simp[PyData.depth]at hd
 |succ n ih=>
  intro A E s d u Q hd h k;cases h with
  |int i t=>rw[Vt _ rfl];exact Zf k
  |str x t=>rw[Vt _ rfl];exact Zf k
  | @tup a its ds p l=>
   have hd':PyData.depthAll ds<=n:=by simp only[PyData.depth]at hd;omega
   obtain⟨o,ho,hc,m,hdt⟩:=p;have hT:s.TypeIs (.ref a) "tuple":=⟨o,ho,hc⟩;unfold eqIsQuiet;refine Zb (Ym hT F.slot_tuple_eq.lookup ?_)
   show wpAny _ _ (isInstance (.ref a) (.type "tuple")>>=_) _ _ s
   refine Zb (X1 hT isSubtype_tuple_tuple ?_);simp only[Bool.not_true,Xw,Vb];refine Zb (wpAny_seqItems ho hdt ?_);refine Zb ?_
   show wpAny _ _ (forIn its _ _) _ _ s
   rw[<-Ul];refine Uy _ (λrest r s'=>r.1=none/\s'=s/\∀v∈rest,∃e,e.depth<=n/\HD s.heap e v) _ ?_ ?_ _ _ ⟨rfl,rfl,λv hv=>?_⟩
   ·rintro v rest r s' ⟨hr,rfl,hall⟩
    obtain⟨e,e1,e2⟩:=hall v Ze;refine Zb (ih e1 e2 ?_);simp only[Bool.not_true,Xw,Vb];exact Zf ⟨rfl,rfl,λu hu'=>hall u (Zc _ hu')⟩
   ·rintro⟨r1,r2⟩ s' ⟨hr,rfl,_⟩
    simp only at hr;subst hr;exact Zf k
   ·obtain⟨j,hj⟩:=Xa.mp hv;obtain⟨e,e1,e2⟩:=l.at hj;exact⟨e,Ye (a2v e1) hd',e2⟩
end
def a7y(prog:Program)(w:World):HeapKind prog w PyData where
 is:=λh d a=>HD h d (.ref a)/\d.depth<=8
 hash:=b8a w
 draws:=b8b
 room:=λA=>A.units+8<cLine
 inj:=λhx hy=>hx.1.inj hy.1
 keeps:=λx ho hd hs=>⟨x.1.on λa its ⟨o',e1,e2,n,e3⟩=>⟨o',(hs.2 a λz=>by
  rw[z,ho]at e1;cases e1;rw[hd]at e3
  cases e3).trans e1,e2,n,e3⟩,x.2⟩
 pyHash:=λhu hk h=>hd_hash 8 hk.2 hu hk.1 h
 eqBool:=λhu hx hy h=>hn_eq 8 _ _ _ _ _ hx.2 hu hx.1 hy.1 _ _ _ _ h
 quiet:=λhk h=>d3d 8 hk.2 hk.1 h
section
variable{prog:Program}{w:World}{K:Type}[DecidableEq K]{knd:HeapKind prog w K}{A:Around}{E:Value->Shared->Prop}{s:Shared}{d a:Addr}{k:K}{xs:List (K×Addr×Value)}
theorem d3e(n:Bool){Q:Value->Shared->Prop}(hu:knd.room A.in1)(hkey:knd.is s.heap k a)(hd:(d==sysModules)=false)(hm:s.heap.DictOfH knd d xs)
  (h:Q (.bool (n^^(atKey xs k).isSome)) { s with toks:=s.toks+knd.draws k}):wpAny (model prog w) A (compareOp (if n=true then .NotIn else .In) (.ref a) (.ref d)) Q E s:=by
 have key:∀(R:Bool->Shared->Prop),R (atKey xs k).isSome { s with toks:=s.toks+knd.draws k}->wpAny (model prog w) A (contains (.ref d) (.ref a)) R E s:=λR hR=>by
  unfold contains
  try with_reducible refine Yi ?_
  refine Zb (Ym hm.typeIs X7.lookup ?_)
  show wpAny _ _ (if(some (Value.builtin "dict.__contains__")==some Value.none)=true then _ else _) _ E s
  rw[if_neg (by rw[Vz];exact Zo)];refine Zb (wpAny_callSpecialUnlessNone?_slot (name:=ofString "__contains__") hm.typeIs X7 (Yq X7 hm.typeIs Sx ?_ (Rj _ _)))
  show wpAny _ _ (dictGet d (.ref a)>>=_) _ _ s
  refine Zb (wpAny_dictGet_heap hu hkey hm ?_);cases hf:atKey xs k with
  |some p=>
   rw[hf]at hR
   show wpAny _ _ (ret (.bool true)) _ _ _
   exact Zf ⟨_,rfl,Y8 hR⟩
  |none=>
   rw[hf]at hR
   show wpAny _ _ (Builtin.Dict.pendingKey? d (.ref a)>>=_) _ _ _
   exact Zb (T1 hd (Zf ⟨_,rfl,Y8 hR⟩))
 cases n with
 |true=>
  show wpAny _ _ (do return .bool (!(<-contains (.ref d) (.ref a)))) Q E s
  refine Zb (key _ (Zf ?_))
  simpa using h
 |false=>
  show wpAny _ _ (do return .bool (<-contains (.ref d) (.ref a))) Q E s
  refine Zb (key _ (Zf ?_))
  simpa using h
end
abbrev NKv:=List (PyData×Addr×V)
abbrev NRel:PyData×Addr×V->PyData×Addr×Value->Prop:=λp q=>p.1=q.1/\p.2.1=q.2.1/\RelV p.2.2 q.2.2
def dnOb(P:Program)(w:World)(a:Addr)(kvs:NKv)(h:Heap):Prop:=∃xs:List (PyData×Addr×Value),Paired NRel kvs xs/\∃o es ep,h.get? a=some o/\o.ExactDict/\o.data=.dict es ep/\es.toList=xs.map (entryOfKey (a7y P w))
abbrev dnO(P:Program)(w:World)(a:Addr)(kvs:NKv):HO:=.ext (dnOb P w a kvs)
structure DnAt(K:Frag)(P:Program)(w:World)(H:Hp)(a:Addr)(kvs:NKv):Prop where
 ob:H a=some (dnO P w a kvs)
 lo:(a==sysModules)=false
 ln:kvs.length<=1000
 key:∀p∈kvs,Den K H (.ref p.2.1) p.1/\p.1.depth<=8/\a1t p.1=true
 nd:(kvs.map (·.1)).Nodup
def atN:NKv->PyData->Option V
 | [],_=>none
 |p::r,d=>if p.1=d then some p.2.2 else atN r d
section
variable{X:Cx}{pj:List (Addr×Obj)}{σ:St}{H H':Hp}{s:Shared}
mutual
theorem b4d(I:Inv X pj σ H s):∀{d:PyData}{v:V}{u:Value},Den X.K H v d->a1t d=true->RelV v u->HD s.heap d u
 |_,_,_,.non,g,_=>by cases g
 |_,_,_,.bl b,g,_=>by cases g
 |_,_,_,.int i,_,r=>by obtain⟨t,rfl⟩:=r;exact .int i t
 |_,_,_,.str x,_,r=>by obtain⟨t,rfl⟩:=r;exact .str x t
 |_,_,_,.tup hs hl,g,r=>by
  cases r;obtain⟨its,rv,p,_⟩:=I.tuple hs;exact .tup p (by simpa using c6c I hl g rv)
theorem c6c(I:Inv X pj σ H s):∀{d:List PyData}{v:List V}{u:List Value},DenL X.K H v d->a1t.hashyL d=true->Vals v u->HDL s.heap d u
 |_,_,_,.nil,_,r=>by cases r;exact .nil
 |_,_,_,.cons a l,g,r=>by
  cases r with
  |cons r1 r2=>
   have g:(a1t _&&a1t.hashyL _)=true:=g;rw[Xd]at g;exact .cons (b4d I a g.1 r1) (c6c I l g.2 r2)
end
theorem dn_of{a:Addr}{kvs:NKv}(I:Inv X pj σ H s)(D:DnAt X.K X.prog X.w H a kvs):∃xs,Paired NRel kvs xs/\s.heap.DictOfH (a7y X.prog X.w) a xs:=by
 obtain⟨⟨xs,rel,o,es,ep,h1,h2,h3,h4⟩,_⟩:=(show a1v X.prog X.w H s.heap a (dnO X.prog X.w a kvs)from I.hok a _ D.ob);refine⟨xs,rel,o,es,ep,h1,h2,h3,h4,λx hx=>?_,?_⟩
 ·have:∀{kvs xs},Paired NRel kvs xs->(∀p∈kvs,Den X.K H (.ref p.2.1) p.1/\p.1.depth<=8/\a1t p.1=true)->∀x∈xs,(a7y X.prog X.w).is s.heap x.1 x.2.1:=by
   intro kvs xs r
   induction r with
   |nil=>intro _ x hx;cases hx
   | @cons p q _ _ h _ ih=>
    intro g x hx;rcases Zg.mp hx with rfl|hx
    ·obtain⟨e1,e2,_⟩:=h;obtain⟨g1,g2,g3⟩:=g p (Ze ..);rw[<-e1,<-e2];exact⟨b4d I g1 g3 rfl,g2⟩
    ·exact ih (λp hp=>g p (Zc _ hp)) x hx
  exact this rel D.key x hx
 ·have:∀{kvs xs},Paired NRel kvs xs->xs.map (·.1)=kvs.map (·.1):=by
   intro kvs xs r
   induction r with
   |nil=>rfl
   |cons h _ ih=>rw[Zt,Zt,ih,h.1]
  rw[this rel];exact D.nd
theorem c3h{kvs:NKv}{xs:List (PyData×Addr×Value)}{d:PyData}(r:Paired NRel kvs xs):RelO (atN kvs d) ((atKey xs d).map (·.2)):=by
 induction r with
 |nil=>exact True.intro
 | @cons p q kvs xs h _ ih=>
  unfold atN atKey;rw[Y4];obtain⟨e1,e2,e3⟩:=h
  by_cases c:p.1=d
  ·rw[if_pos c,<-e1,Zw c];exact e3
  ·rw[if_neg c,<-e1,Zs c];exact ih
theorem DnAt.mono{K:Frag}{P:Program}{w:World}{a:Addr}{kvs:NKv}(D:DnAt K P w H a kvs)(kt:∀a xs,SqT K H a xs->SqT K H' a xs)(e:H' a=H a):DnAt K P w H' a kvs:=
 ⟨e.trans D.ob,D.lo,D.ln,λp hp=>⟨(D.key p hp).1.monoT kt,(D.key p hp).2⟩,D.nd⟩
def d0e(P:Program)(w:World):TE:=λ_ H Q=>∀p,H p=none->(p==sysModules)=false->Q (.ref p) (upd H p (dnO P w p []))
theorem d3f{pos:Pos}:PE X (.Dict [] [] pos) (d0e X.prog X.w):=λpj s σ H Q I h=>
 Uz ⟨.ref s.heap.objs.size,_,I.laid (a:=s.heap.objs.size) (o:=dnO X.prog X.w s.heap.objs.size []) (t':=s.toks) (λ_ _ q=>Zh _ q) (Zm _) ⟨⟨[],.nil,_,#[],0,Zu _ rfl,⟨rfl,rfl,rfl⟩,rfl,rfl⟩,⟨_,Zu _ rfl⟩,λh1 h2 ⟨xs,r,o,es,ep,e1,e2⟩ k=>⟨xs,r,o,es,ep,k _ e1,e2⟩⟩,rfl,h _ (I.hok.fresh (Zm _)) (Y7.mpr (Ne.symm (Z2 I.big)))⟩
def mInDn(K:Frag)(P:Program)(w:World)(n:Bool):R2:=λx y H Q=>∃(p q:Addr)(d:PyData)(kvs:NKv),x=.ref p/\y=.ref q/\DnAt K P w H q kvs/\Den K H (.ref p) d/\d.depth<=8/\a1t d=true/\Q (.bl (n^^(atN kvs d).isSome)) H
theorem d0f(n:Bool){x y:V}{v u:Value}{Q:VK}(hu:X.A.units+150<cLine)(I:Inv X pj σ H s)(rx:RelV x v)(ry:RelV y u)(h:mInDn X.K X.prog X.w n x y H Q):wpAny (model X.prog X.w) X.A (compareOp (if n=true then .NotIn else .In) v u) (EP X pj σ Q) X.xe s:=by
 obtain⟨p,q,d,kvs,rfl,rfl,D,hd,h8,hh,k⟩:=h;cases rx;cases ry;obtain⟨xs,rel,dd⟩:=dn_of I D;refine d3e (knd:=a7y X.prog X.w) (k:=d) n (by show X.A.units+1+8<cLine;omega) ⟨b4d I hd hh rfl,h8⟩ D.lo dd ⟨.bl _,H,I.tok _,rfl,?_⟩;have e:(atKey xs d).isSome=(atN kvs d).isSome:=by
  have r:=c3h (d:=d) rel;cases e1:atKey xs d with
  |none=>
   rw[e1]at r;cases e2:atN kvs d with
   |none=>rfl
   |some y=>rw[e2]at r;obtain⟨_,z,_⟩:=RelO.some_of r;cases z
  |some p=>
   rw[e1]at r;cases e2:atN kvs d with
   |none=>rw[e2]at r;exact r.elim
   |some y=>rfl
 rw[e];exact k
theorem ko_inDn(K:Frag)(P:Program)(w:World)(hK:X.K=K)(hP:X.prog=P)(hw:X.w=w)(hu:X.A.units+150<cLine):OpR X (compareOp .In) (mInDn K P w false):=by
 subst hK hP hw;intro pj s σ H x y v u Q I rx ry h;exact d0f false hu I rx ry h
theorem d3g(K:Frag)(P:Program)(w:World)(hK:X.K=K)(hP:X.prog=P)(hw:X.w=w)(hu:X.A.units+150<cLine):OpR X (compareOp .NotIn) (mInDn K P w true):=by
 subst hK hP hw;intro pj s σ H x y v u Q I rx ry h;exact d0f true hu I rx ry h
def d0g(K:Frag)(P:Program)(w:World)(td ty:TE):TE:=λσ H Q=>td σ H λx H1=>ty σ H1 λy H2=>∃(q p:Addr)(d:PyData)(kvs:NKv)(v:V),x=.ref q/\y=.ref p/\DnAt K P w H2 q kvs/\Den K H2 (.ref p) d/\d.depth<=8/\a1t d=true/\atN kvs d=some v/\Q v H2
theorem d3h{K:Frag}{P:Program}{w:World}{td ty:TE}{Q:VK}(k:td σ H λx H1=>ty σ H1 λy H2=>∃(q p:Addr)(d:PyData)(kvs:NKv)(v:V),x=.ref q/\y=.ref p/\DnAt K P w H2 q kvs/\Den K H2 (.ref p) d/\d.depth<=8/\a1t d=true/\atN kvs d=some v/\Q v H2):d0g K P w td ty σ H Q:=k
theorem d3i{o i:Expr}{pos:Pos}{td ty:TE}(K:Frag)(P:Program)(w:World)(hK:X.K=K)(hP:X.prog=P)(hw:X.w=w)(hu:X.A.units+150<cLine)(ho:PE X o td)(hi:PE X i ty)(hs:NoSl i):PE X (.Subscript o i pos) (d0g K P w td ty):=by
 subst hK hP hw;intro pj s σ H Q I h;refine c5w S5.lookup hs (thn (ho pj s σ H _ I h) λu s1 ⟨x,H1,I1,rx,q1⟩=>thn (hi pj s1 σ H1 _ I1 q1) λiv s2 z9=>?_);obtain⟨y,H2,I2,ry,q,p,d,kvs,z,rfl,rfl,D,hd,h8,hh,hz,k⟩:=z9;cases rx;cases ry;obtain⟨xs,rel,dd⟩:=dn_of I2 D;have r:=c3h (d:=d) rel;rw[hz]at r;obtain⟨z',e1,r1⟩:=RelO.some_of r;obtain⟨q',e2,e3⟩:=Xg.mp e1;subst e3;exact⟨dd.typeIs,Rc (knd:=a7y X.prog X.w) (k:=d) (by show X.A.units+1+8<cLine;omega) ⟨b4d I2 hd hh rfl,h8⟩ dd e2 ⟨z,H2,I2.tok _,r1,k⟩⟩
def rSetDn(K:Frag)(P:Program)(w:World):V->V->V->Hp->(Hp->Prop)->Prop:=λo i v H Q=>∃(q p:Addr)(d:PyData)(kvs:NKv),o=.ref q/\i=.ref p/\DnAt K P w H q kvs/\Den K H (.ref p) d/\d.depth<=8/\a1t d=true/\atN kvs d=none/\Q (upd H q (dnO P w q (kvs++[(d,p,v)])))
theorem Paired.snoc{α β:Type}{F:α->β->Prop}{x:α}{y:β}(g:F x y):∀{a:List α}{b:List β},Paired F a b->Paired F (a++[x]) (b++[y])
 |_,_,.nil=>.cons g .nil
 |_,_,.cons h t=>.cons h (Paired.snoc g t)
theorem d0h(K:Frag)(P:Program)(w:World)(hK:X.K=K)(hP:X.prog=P)(hw:X.w=w)(hu:X.A.units+150<cLine):PSet X (rSetDn K P w):=by
 subst hK hP hw;intro pj s σ H o i v ov iv u Q I ro ri rv h;obtain⟨q,p,d,kvs,rfl,rfl,D,hd,h8,hh,hz,k⟩:=h;cases ro;cases ri;obtain⟨xs,rel,dd⟩:=dn_of I D;have r:=c3h (d:=d) rel;rw[hz]at r;have e0:atKey xs d=none:=by
  cases e:atKey xs d with
  |none=>rfl
  |some y=>rw[e]at r;exact r.elim
 have hl:xs.length=kvs.length:=by
  have:∀{kvs xs},Paired NRel kvs xs->xs.length=kvs.length:=by
   intro kvs xs r
   induction r with
   |nil=>rfl
   |cons _ _ ih=>rw[length_cons,length_cons,ih]
  exact this rel
 have ln1:=D.ln;refine Ra (knd:=a7y X.prog X.w) (k:=d) (by show X.A.units+1+8<cLine;omega) ⟨b4d I hd hh rfl,h8⟩ dd (λh' dd' hs=>?_) (by rw[Yw];omega);rw[U7 e0]at dd';obtain⟨o',es,ep,h1,h2,h3,h4,_,_⟩:=dd';exact⟨_,b5e I (ob:=dnO X.prog X.w q (kvs++[(d,p,v)])) (by rw[D.ob];exact True.intro) hs ⟨_,h1⟩ ⟨⟨_,Paired.snoc ⟨rfl,rfl,rv⟩ rel,o',es,ep,h1,h2,h3,h4⟩,⟨_,h1⟩,λh1 h2 ⟨xs,r,o,es,ep,e1,e2⟩ k=>⟨xs,r,o,es,ep,k _ e1,e2⟩⟩,k⟩
theorem b2j{kvs:NKv}{d:PyData}:atN kvs d=none↔d∉kvs.map (·.1):=by
 induction kvs with
 |nil=>simp[atN]
 |cons p r ih=>
  rw[atN,Zt,Zg]
  by_cases c:p.1=d
  ·rw[if_pos c];exact⟨(λh=>nomatch h),(λh=>(h (.inl c.symm)).elim)⟩
  ·rw[if_neg c,ih];exact⟨λh z=>z.elim (λz=>c z.symm) h,λh z=>h (.inr z)⟩
theorem DnAt.put{K:Frag}{P:Program}{w:World}{q p:Addr}{kvs:NKv}{d:PyData}{v:V}(D:DnAt K P w H q kvs)(hd:Den K H (.ref p) d)(h8:d.depth<=8)(hh:a1t d=true)(hz:atN kvs d=none)(hl:kvs.length<1000)(kt:∀a xs,SqT K H a xs->SqT K (upd H q (dnO P w q (kvs++[(d,p,v)]))) a xs):DnAt K P w (upd H q (dnO P w q (kvs++[(d,p,v)]))) q (kvs++[(d,p,v)]):=by
 refine⟨a0c,D.lo,by rw[Zk];exact hl,λx hx=>?_,?_⟩
 ·rcases Zr.mp hx with hx|hx
  ·exact⟨(D.key x hx).1.monoT kt,(D.key x hx).2⟩
  ·rw[Zd.mp hx];exact⟨hd.monoT kt,h8,hh⟩
 ·rw[Zi];refine Yb.mpr ⟨D.nd,qz,λa ha b hb e=>?_⟩;rw[Wv,Zd]at hb;rw[e,hb]at ha;exact b2j.mp hz ha
end
end L2
namespace NZ
open PySem PySem.SetTable PyProof.Rows
abbrev bt(w:World):Bool:=w.params.followText "set-order"
abbrev z0(led:Bool):Obj:={ cls:=.type "set",dict:=none,data:=.set #[] 0 (.fresh 0 0 led)}
def tb1(led:Bool):SetTable:={ mask:=7,place:=#[0],dummies:=#[],finger:=0,led,moves:=0,plain:=true}
abbrev z1(led:Bool)(t:Tok):Obj:={ cls:=.type "set",dict:=none,data:=.set #[(0,.int 0 t)] 1 (tb1 led)}
theorem layZ{led:Bool}{x:Value}:layNew (.fresh 0 0 led) #[] 0 x=(#[(0,x)],tb1 led,false,false):=by
 cases led<;>rfl
def has1(led:Bool)(h:Heap)(a:Addr):Prop:=∃t,h.get? a=some (z1 led t)
section
variable{P:Program}{w:World}{A:Around}{E:Value->Shared->Prop}{s:Shared}{a:Addr}{led:Bool}
theorem add_z0{t:Tok}{Q:Bool->Shared->Prop}(ho:s.heap.get? a=some (z0 led))(h:∀h',h'.get? a=some (z1 led t)->Heap.SameBut a s.heap h'->Q true { s with heap:=h'}):wpAny (model P w) A (setAddHashed a (.int 0 t) 0) Q E s:=by
 unfold setAddHashed setAddHashedIn;refine Yi (Zb (Um (o:=z0 led) (es:=#[]) (ep:=0) (t:=.fresh 0 0 led) ho rfl (by cases led<;>rfl) ?_))
 dsimp only
 rw[show byScan (.int 0 t) #[]=true by simp[byScan,Value.scannable,scanBound]];simp only[↓reduceIte];unfold setAddByScan;refine Zb (Zb (Wg (Zb ?_)))
 show wpAny _ _ (pure ScanMet.absent) _ _ _
 refine Zf ?_
 dsimp only
 rw[layZ]
 dsimp only
 refine Zb (Zf ?_);rw[show(tb1 led).plain=true from rfl];simp only[↓reduceIte];refine Zb ?_;rw[hashByValue_scannable 8 rfl];refine Zf ?_;rw[show plainKind (.int 0 t)=true from rfl];simp only[↓reduceIte];refine Zb (wpAny_storeSet_of ho rfl ?_ (by rw[Yw];show 1<=_;decide));rw[show(!false&&(tb1 led).tooFull)=false by cases led<;>rfl];simp only[Xw,Vb];refine Zf (Zf (h _ ?_ (X0 ..)));have:=Xb (Obj.putSet #[(0,Value.int 0 t)] (tb1 led)) ho rfl;exact this
theorem add_z1{t t':Tok}{Q:Bool->Shared->Prop}(ho:s.heap.get? a=some (z1 led t))(h:Q false s):wpAny (model P w) A (setAddHashed a (.int 0 t') 0) Q E s:=by
 unfold setAddHashed setAddHashedIn;refine Yi (Zb (Um (o:=z1 led t) (es:=#[(0,.int 0 t)]) (ep:=1) (t:=tb1 led) ho rfl (by cases led<;>rfl) ?_))
 dsimp only
 rw[show byScan (.int 0 t') #[(0,.int 0 t)]=true by simp[byScan,Value.scannable,scanBound]];simp only[↓reduceIte];unfold setAddByScan;refine Zb (Zb (Wg (Zb ?_)));refine wpAny_setScan_of (knd:=intKind P w) (k:=0) (Rh _ _ _ _) ho rfl (by cases led<;>rfl) ?_ ?_
 ·intro e he;have he:e=(0,.int 0 t):=by simpa using he
  subst he;exact⟨⟨0,Rh _ _ _ _,show(0:Int)=hashInt 0 from qk⟩,rfl⟩
 ·have e:(#[((0:Int),Value.int 0 t)]:Array (Int×Value)).toList.findIdx? (λe=>(intKind P w).is 0 e.2)=some 0:=by
   simp[Rh]
  rw[e];exact Zf (Zf h)
end
section
variable{prog:Program}{w:World}{A:Around}{R:Result->Shared->Prop}{I:Addr}{fp wr:List Addr}{G:Array GenState->Array GenState->Prop}{n:Nat}{Pv:Nat->Value->Prop}{St:Nat->Shared->Prop}{led:Bool}
theorem loop_z(W:WalksS prog w A.in1 I fp wr G n Pv St)(hval:∀i v,Pv i v->∃t,v=.int 0 t)(S:Addr)(hSf:S∉fp):
  ∀(k i:Nat)(s:Shared),n-i=k->i<=n->St i s->((i=0/\s.heap.get? S=some (z0 led))\/has1 led s.heap S)->
   (∀s',Moved (S::wr) G s s'->((n=0/\s'.heap.get? S=some (z0 led))\/has1 led s'.heap S)->R (.ok (.ret .none)) s')->
   codeAny (model prog w) A (.builtin "set.update.loop" ⟨[.ref S,.ref I],[]⟩) R s:=by
 have hSw:S∉wr:=λh=>hSf (W.sub _ h)
 have hsub:∀b∈wr,b∈S::wr:=λb hb=>Zc _ hb
 intro k
 induction k with
 |zero=>
  intro i s hk hi hst hS hR;have hin:i=n:=by omega
  subst hin;refine Wr Tx ?_;rw[Wj Wx _]
  show wpAny _ A.in1 (pyNext (.ref I)>>=_) _ _ s
  refine Zb (W.done s _ _ hst λs' hm=>?_)
  show wpAny _ A.in1 (ret Value.none) _ _ s'
  exact Zf (hR s' (hm.mono hsub) (hS.imp (λz=>⟨z.1,hm.heap S _ hSw z.2⟩) λ⟨t,z⟩=>⟨t,hm.heap S _ hSw z⟩))
 |succ k ih=>
  intro i s hk hi hst hS hR;have hlt:i<n:=by omega
  refine Wr Tx ?_;rw[Wj Wx _]
  show wpAny _ A.in1 (pyNext (.ref I)>>=_) _ _ s
  refine Zb (W.item i s _ _ hlt hst λv s' hP hst' hm=>?_);obtain⟨t,rfl⟩:=hval i v hP
  show wpAny _ A.in1 (holding [Value.int 0 t] (setAdd S (.int 0 t))>>=_) _ _ s'
  refine Zb (Yi ?_);unfold setAdd;refine Yi ?_;refine Zb (Wk ?_);rw[show hashInt 0=0 from qk]
  have go:∀(h':Heap),has1 led h' S->Heap.SameBut S s'.heap h'->codeAny (model prog w) A (.builtin "set.update.loop" ⟨[.ref S,.ref I],[]⟩) R { s' with heap:=h',toks:=s'.toks+1}:=λh' h1 hsb=>ih (i+1) { s' with heap:=h',toks:=s'.toks+1} qo hlt (W.frame _ s' _ _ hst' (Wh _) λb hb o e=>(by
   rw[hsb.2 b (λh:b=S=>hSf (by rw[<-h];exact hb))];exact e)) (.inr h1) λs'' hm'' hS''=>hR s'' (Moved.trans W.gtrans ((hm.mono hsub).then_heap (Wh _) λb o hb e=>(by
   rw[hsb.2 b (λh:b=S=>hb (by rw[h];exact Ze))];exact e)) hm'') hS''
  rcases hS with⟨_,hS⟩|⟨t0,hS⟩
  ·refine add_z0 (s:={ s' with toks:=s'.toks+1}) (hm.heap S _ hSw hS) λh' g1 g2=>?_
   exact Zf ⟨W8 Wx _,go h' ⟨_,g1⟩ g2⟩
  ·refine add_z1 (s:={ s' with toks:=s'.toks+1}) (hm.heap S _ hSw hS) ?_;exact Zf ⟨W8 Wx _,go s'.heap ⟨_,hm.heap S _ hSw hS⟩ (Heap.SameBut.refl ..)⟩
end
section
variable{P:Program}{w:World}{A:Around}{E:Value->Shared->Prop}{s:Shared}
theorem new_z(a:Value){Q₁:Value->Shared->Prop}(h:Q₁ (.ref s.heap.objs.size) { s with heap:=s.heap.push (z0 (!bt w))}):
  codeAny (model P w) A (.call (.builtin "set.__new__") ⟨[.type "set",a],[]⟩) (wants Q₁ E) s:=by
 refine codeAny_of_tree ?_
 show wpAny _ A.in1 (do checkBuiltinCall "set.__new__" ⟨[.type "set",a],[]⟩;again (.builtin "set.__new__" ⟨[.type "set",a],[]⟩)) _ _ s
 refine Zb (X5 (F.newCall_set_1 a) (Zf ⟨W8 F.plain_set_new _,Wr F.entry_set_new ?_⟩));rw[Wj F.plain_set_new _];unfold Builtin.«set.__new__» Builtin.Frozenset.newClass;have hsub:=sub_set_self;obtain⟨hp,g,d,tk,os⟩:=s
 dsimp only
 wp_walk
 refine W5 (Zf ?_)
 dsimp only
 simp only[newObj];refine Zb (wpAny_alloc (Zf ?_));exact Zf h
theorem call_z{l:Addr}{items:Array Value}{Q:Value->Shared->Prop}(hh:A.handled=none)(hl:s.heap.IsList l items)(hi:∀(i:Nat)(v:Value),items[i]? =some v->∃t,v=Value.int 0 t)(hn:items.size≠0)
  (h:∀(h':Heap)(tk:Nat),has1 (!bt w) h' s.heap.objs.size->(∀b o,s.heap.get? b=some o->h'.get? b=some o)->Q (.ref s.heap.objs.size) { s with heap:=h',toks:=tk}):
  wpAny (model P w) A (call (.type "set") [.ref l]) Q E s:=by
 have c:=F.called_set;obtain⟨_,_,f1⟩:=c.mro;have f2:=c.made;have f3:=c.sub;have f4:=c.notType;have f5:=c.canCreate;have f6:=F.typeCall_set_1 (.ref l);refine Re (codeAny_of_tree (Zf ⟨Code.quiet_builtin _ qk,Wr F.entry_type_call ?_⟩));rw[Around.under_plain (weight_type_call_type "set" [.ref l] []) rfl];repeat any_goals first|assumption|wp_step
 refine Vh (new_z (.ref l) (E:=E) (Q₁:=λx s₁=>x=.ref s.heap.objs.size/\s₁={ s with heap:=s.heap.push (z0 (!bt w))}) ⟨rfl,rfl⟩) ?_
 rintro(e|f) s₁ hr
 ·exact hr
 cases f<;>first|exact hr.elim|skip
 obtain⟨rfl,rfl⟩:=hr;have g:(s.heap.push (z0 (!bt w))).get? s.heap.objs.size=some (z0 (!bt w)):=Zu _ rfl;have ty:Shared.TypeIs { s with heap:=s.heap.push (z0 (!bt w))} (.ref s.heap.objs.size) "set":=⟨_,g,rfl⟩;have f7:=c.init.lookup;have f8:=c.init.bind (.ref s.heap.objs.size);repeat any_goals first|assumption|wp_step
 refine Vh (codeAny_call_builtin (R:=wants (λr s₂=>r=.none/\Q (.ref s.heap.objs.size) s₂) E) c.init.plain F.entry_set_init (check_set_init_1 ty ?_)) ?_
 ·unfold Builtin.«set.__init__» noKeywords;generalize hU:Builtin.Frozenset.updateFrom=U;wp_walk;subst hU;obtain⟨⟨ocls,odict,odata,oslots⟩,ol,oc,nl,od⟩:=id hl;simp only at oc od;subst oc od;have ol':(s.heap.push (z0 (!bt w))).get? l=some _:=Zh _ ol;have q1:=F.sub_list_set;have q2:=F.sub_list_frozenset;have lS:l≠s.heap.objs.size:=Z2 (Zq ol);have q3:(Value.type "list"==Value.type "dict")=false:=by decide
  unfold Builtin.Frozenset.updateFrom;generalize hP:pyIter=PI;wp_walk;subst hP;refine Vs (hl.push _) (Zb (wpAny_runValue ?_));have nI:l≠(s.heap.push (z0 (!bt w))).objs.size:=Z2 (Zq ol');refine loop_z (led:=!bt w) (Walks.list (by simp[hh]) _ l nI items).toS hi s.heap.objs.size ?_ (items.size-0) 0 _ qo (Z4 _) ⟨⟨_,Zu _ rfl,rfl,rfl⟩,(hl.push _).push _⟩ (.inl ⟨rfl,Zh _ g⟩) ?_
  ·simp only[Zg,Yk,Xv,not_or];exact⟨Z2 (Zq g),Ne.symm lS⟩
  ·rintro⟨h',g',d',tk',os'⟩ hm hS'
   obtain rfl:g'=s.gens:=hm.gens;obtain rfl:d'=s.drawn:=hm.drawn;obtain rfl:os'=s.os:=hm.os;have hS':has1 (!bt w) h' s.heap.objs.size:=hS'.elim (λz=>absurd z.1 hn) id;refine Zf ?_
   show wpAny _ _ (ret Value.none) _ _ _
   refine Zf ⟨rfl,h h' tk' hS' λb o e=>hm.heap b o (λz=>?_) (Zh _ (Zh _ e))⟩;rcases Zg.mp z with z|z
   ·exact absurd (Zq e) (by rw[z];exact Y3 _)
   ·exact absurd (Zq (Zh (z0 (!bt w)) e)) (by rw[Zd.mp z];exact Y3 _)
 ·rintro(e|f) s₂ hr
  ·exact hr
  cases f<;>first|exact hr.elim|skip
  obtain⟨rfl,q⟩:=hr;repeat any_goals first|assumption|wp_step
end
end NZ
namespace NZ
open PySem PySem.SetTable PyProof.Rows PySem.W
theorem c3i:Manifest.owners.lookup (String.ofList ['r','o','t','a','r','e','t','i','_','t','e','s'].reverse)=some Manifest.sig_set_iterator:=by kernel_rfl
theorem a9m:Slot "set_iterator" "__next__" "set_iterator.__next__":=
 .of (owner:="set_iterator") (n:="__next__") (by rw[Xi,Yx];kernel_rfl) qk qk qk
  (by first|exact .inl (by decide+kernel)|exact .inr qk) (by rw[Xf];kernel_rfl)
theorem c3j:entryFor table "set_iterator.__next__"=some Builtin.«set_iterator.__next__»:=U0 (by kernel_rfl)
theorem c6d(a:Value):argsOk "set_iterator.__next__" ⟨[a],[]⟩:=by
 unfold argsOk;rw[signature?_of (id:="set_iterator.__next__") (n:=['_','_','t','x','e','n','_','_']) (o:=['r','o','t','a','r','e','t','i','_','t','e','s']) (by kernel_rfl) c3i];kernel_rfl
theorem c3k:Slot "set_iterator" "__iter__" "set_iterator.__iter__":=
 .of (owner:="set_iterator") (n:="__iter__") (by rw[Xi,Yx];kernel_rfl) qk qk qk
  (by first|exact .inl (by decide+kernel)|exact .inr qk) (by rw[Xf];kernel_rfl)
theorem d0i:entryFor table "set_iterator.__iter__"=some Builtin.«dict_keyiterator.__iter__»:=Te (id':="dict_keyiterator.__iter__") (by kernel_rfl) rfl qk (by kernel_rfl)
theorem d3j(a:Value):argsOk "set_iterator.__iter__" ⟨[a],[]⟩:=by
 unfold argsOk;rw[signature?_of (id:="set_iterator.__iter__") (n:=['_','_','r','e','t','i','_','_']) (o:=['r','o','t','a','r','e','t','i','_','t','e','s']) (by kernel_rfl) c3i];kernel_rfl
theorem d0j:entryFor table "set.__iter__"=some Builtin.«frozenset.__iter__»:=Te (id':="frozenset.__iter__") (by kernel_rfl) rfl qk (by kernel_rfl)
abbrev zi(a:Addr)(slot i:Int):Obj:={ cls:=.type "set_iterator",data:=.fields #[.int slot 0,.int i 0,.ref a,.int 1 0,.int 1 0]}
section
variable{P:Program}{w:World}{A:Around}{E:Value->Shared->Prop}{s:Shared}{a I:Addr}{led:Bool}
theorem has1.ty(h:has1 led s.heap a):s.TypeIs (.ref a) "set":=let⟨_,e⟩:=h;⟨_,e,rfl⟩
theorem hint_z{Q:Bool->Shared->Prop}(hT:s.TypeIs (.ref a) "set")(h:Q false s):wpAny (model P w) A (Builtin.List.listLengthHint (.ref a)) Q E s:=by
 unfold Builtin.List.listLengthHint;refine Zb (Ym hT F.slot_set_len.lookup ?_);generalize hid:("set.__len__":String)=id0
 wp_delta
 rw[show splitId id0=some ("set","__len__")from by subst hid;decide+kernel];subst hid;refine Zb (X1 (T:="set") (b:=true) hT (by rw[Xf];kernel_rfl) ?_);refine Yg (λhab=>absurd hab qd) (λ_=>?_);refine Yg (λ_=>?_) (λhab=>absurd qk hab);refine Zb (wpAny_typeOf hT ?_);exact Zf h
theorem a7z{Q:(Array (Int×Value)×Nat×SetTable)->Shared->Prop}{t:Tok}(ho:s.heap.get? a=some (z1 led t))(h:Q (#[(0,.int 0 t)],1,tb1 led) s):wpAny (model P w) A (setState a) Q E s:=
 Um (o:=z1 led t) (es:=#[(0,.int 0 t)]) (ep:=1) (t:=tb1 led) ho rfl (by cases led<;>rfl) h
theorem iter_z{Q:Value->Shared->Prop}(h1:has1 led s.heap a)(h:Q (.ref s.heap.objs.size) { s with heap:=s.heap.push (zi a 0 0)}):wpAny (model P w) A (pyIter (.ref a)) Q E s:=by
 have hT:=h1.ty;obtain⟨t,ho⟩:=h1;refine Uo hT F.slot_set_iter (Yq F.slot_set_iter hT d0j ?_ (F.args_set_iter_1 _));unfold Builtin.«frozenset.__iter__»;refine Zb ?_
 show wpAny _ _ (pure a) _ _ s
 refine Zf ?_;refine Zb ?_;unfold Builtin.Frozenset.sizeOf setEntries;refine Zb (Zb (a7z ho (Zf (Zf ?_))));refine Zb ?_;unfold setDrawn setsByText;refine Zb (a7z ho ?_);refine Zb (Zb (W5 (Zf ?_)));refine Zf ?_;refine Yg (λhc=>?_) (λ_=>?_)
 ·have hc:((!w.params.followText "set-order")&&(!(tb1 led).plain&&decide (1>1)))=true:=hc
  simp[tb1]at hc
 refine Zb (Zf ?_);refine Zb ?_;unfold setEpoch;refine Zb (a7z ho (Zf ?_));refine Zb (Xe ?_);exact Zf ⟨_,rfl,"set_iterator",_,⟨_,Zu _ rfl,rfl⟩,a9m.lookup,h⟩
theorem self_z{x y:Int}{Q:Value->Shared->Prop}(hI:s.heap.get? I=some (zi a x y))(h:Q (.ref I) s):wpAny (model P w) A (pyIter (.ref I)) Q E s:=by
 have hT:s.TypeIs (.ref I) "set_iterator":=⟨_,hI,rfl⟩;refine Uo hT c3k (Yq c3k hT d0i ?_ (d3j _))
 show wpAny _ _ (ret (.ref I)) _ _ s
 exact Zf ⟨_,rfl,"set_iterator",_,hT,a9m.lookup,h⟩
theorem fld_z{x y:Int}{k:Nat}{v:Value}{Q:Unit->Shared->Prop}(hI:s.heap.get? I=some (zi a x y))(hk:k<5)
  (h:∀h',h'.get? I=some { cls:=.type "set_iterator",data:=.fields ((#[.int x 0,.int y 0,.ref a,.int 1 0,.int 1 0]:Array Value).setIfInBounds k v)}->Heap.SameBut I s.heap h'->Q () { s with heap:=h'}):wpAny (model P w) A (setField (.ref I) k v) Q E s:=
 Rb hI hk h
theorem pick1{α:Type}(f:Nat->Nat)(e:α):pickOrder f #[e]= #[e]:=by
 simp[pickOrder,pickOrder.go,Nat.mod_one]
theorem walk_z{t:Tok}{Q:Array (Int×Value)->Shared->Prop}(ho:s.heap.get? a=some (z1 led t))(hb:bt w=true)(h:Q #[(0,.int 0 t)] s):wpAny (model P w) A (setWalk a) Q E s:=by
 unfold setWalk setsByText;refine Zb (a7z ho (Zb (Zb (W5 (Zf ?_)))))
 show wpAny _ _ (if bt w=true then _ else _) _ _ _
 rw[if_pos hb];refine Zb (W5 ?_);refine Zf ?_
 show Q (pickOrder _ #[(0,Value.int 0 t)]) s
 rw[pick1];exact h
theorem c0t{t:Tok}{k x:Nat}{Q:Option (Value×Nat)->Shared->Prop}(hl:bt w=true\/led=true)(hk:bt w=true\/k=x)(ho:s.heap.get? a=some (z1 led t))(h0:x=0->∀y:Nat,(bt w=true\/y=1)->Q (some (.int 0 t,y)) s)(h1:x=1->Q none s)(hx:x<2):wpAny (model P w) A (setNext a k x 1) Q E s:=by
 unfold setNext setsByText;refine Zb (a7z ho (Zb (Zb (W5 (Zf ?_)))))
 show wpAny _ _ (if bt w=true then _ else _) _ _ _
 by_cases hb:bt w=true
 ·rw[if_pos hb];refine Yg (λhc=>absurd hc qz) (λ_=>?_);refine Zb (walk_z ho hb ?_);rcases(by omega:x=0\/x=1)with e|e
  ·subst e;exact Zf (h0 rfl k (.inl hb))
  ·subst e;exact Zf (h1 rfl)
 ·rw[if_neg hb];have el:led=true:=hl.elim (λz=>absurd z hb) id;subst el;have ek:k=x:=hk.elim (λz=>absurd z hb) id;subst ek;refine Yg (λhc=>?_) (λ_=>?_)
  ·have hc:(!(tb1 true).plain&&decide (1>1))=true:=hc
   simp[tb1]at hc
  refine Zb ?_
  show wpAny _ _ (if(!(tb1 true).led&&_)=true then _ else _) _ _ _
  rw[if_neg (by show ¬(!true&&_)=true;simp)];refine Zf ?_;rcases(by omega:k=0\/k=1)with e|e
  ·subst e;exact Zf (h0 rfl 1 (.inr rfl))
  ·subst e;exact Zf (h1 rfl)
theorem next_z(hl:bt w=true\/led=true){Q:Option Value->Shared->Prop}(hI:s.heap.get? I=some (zi a 0 0))(h1:has1 led s.heap a)(hne:a≠I)
  (h:∀t h' x,h'.get? I=some (zi a x 1)->(bt w=true\/x=1)->has1 led h' a->(∀b o,b∉[I]->s.heap.get? b=some o->h'.get? b=some o)->Q (some (.int 0 t)) { s with heap:=h'}):wpAny (model P w) A (pyNext (.ref I)) Q E s:=by
 have hT:s.TypeIs (.ref I) "set_iterator":=⟨_,hI,rfl⟩;obtain⟨t,ho⟩:=h1;unfold pyNext;refine Zb (W7 (wpAny_callSpecial?_slot (name:=ofString "__next__") hT a9m (Yq a9m hT c3j ?_ (c6d _))));unfold Builtin.«set_iterator.__next__»;refine Zb ?_
 show wpAny _ _ (pure (Value.ref I,[])) _ _ s
 refine Zf ?_;refine Zb (wpAny_fieldsOf hI rfl ?_)
 dsimp only
 refine Zb ?_;unfold setEntries;refine Zb (a7z ho (Zf ?_));refine Yg (λhc=>?_) (λ_=>?_)
 ·exact absurd hc qz
 refine Zb (c0t (k:=0) (x:=0) hl (.inr rfl) ho (λ_ y hy=>?_) (λz=>by cases z) qd)
 dsimp only
 refine Zb (fld_z hI qd λh2 g1 g2=>?_);refine Zb (Rb (s:={ s with heap:=h2}) g1 qz λh3 g3 g4=>?_);refine Zf ⟨_,rfl,Zf (h t h3 (y:Int) ?_ (hy.imp id λz=>by rw[z];rfl) ⟨t,?_⟩ λb o nb e=>?_)⟩
 ·rw[g3]
  simp[rawInt]
 ·rw[g4.2 _ hne,g2.2 _ hne];exact ho
 ·have nb:b≠I:=λz=>nb (by rw[z];exact Zd.mpr rfl)
  rw[g4.2 _ nb,g2.2 _ nb];exact e
theorem end_z(hh:A.handled=none)(hl:bt w=true\/led=true){x:Int}{Q:Option Value->Shared->Prop}(hI:s.heap.get? I=some (zi a x 1))(hx:bt w=true\/x=1)(h1:has1 led s.heap a)
  (h:∀h',(∀b o,b∉[I]->s.heap.get? b=some o->h'.get? b=some o)->Q none { s with heap:=h'}):wpAny (model P w) A (pyNext (.ref I)) Q E s:=by
 have hT:s.TypeIs (.ref I) "set_iterator":=⟨_,hI,rfl⟩;obtain⟨t,ho⟩:=h1;unfold pyNext;refine Zb (W7 (wpAny_callSpecial?_slot (name:=ofString "__next__") hT a9m (Yq a9m hT c3j ?_ (c6d _))));unfold Builtin.«set_iterator.__next__»;refine Zb ?_
 show wpAny _ _ (pure (Value.ref I,[])) _ _ s
 refine Zf ?_;refine Zb (wpAny_fieldsOf hI rfl ?_)
 dsimp only
 refine Zb ?_;unfold setEntries;refine Zb (a7z ho (Zf ?_));refine Yg (λhc=>?_) (λ_=>?_)
 ·exact absurd hc qz
 refine Zb (c0t (k:=x.toNat) (x:=1) hl (hx.imp id λz=>by rw[z];rfl) ho (λz=>by cases z) (λ_=>?_) qd)
 dsimp only
 refine Zb (fld_z hI qd λh2 g1 g2=>?_);refine Zb ?_;simp only[newExc,newTuple];refine Zb (Xe ?_ (by size_fits));refine Zb (m:=firstArgMember _ _) (X5 (a:=Value.none) (by first|rfl| (simp only[firstArgMember];rfl)) ?_);refine Xe ?_ (by size_fits);simp only[raiseNew];refine Zb (wpAny_handled ?_);rw[show A.in1.handled=none from hh];refine Zb (Zf (wpAny_throw ?_));refine Zb (X1 (T:="StopIteration") (b:=true) ⟨_,Zu _ rfl,rfl⟩ isSubtype_stop ?_);refine Zf (h _ λb o nb e=>?_);have nb:b≠I:=λz=>nb (by rw[z];exact Zd.mpr rfl)
 exact Zh _ (Zh _ ((g2.2 _ nb).trans e))
theorem walks_z(hh:A.handled=none)(hl:bt w=true\/led=true)(hne:a≠I):Walks P w A I [I,a] [I] 1 (λ_ v=>∃t,v=.int 0 t) (λi h=>has1 led h a/\∃x:Int,h.get? I=some (zi a x i)/\((i=0/\x=0)\/(i=1/\(bt w=true\/x=1)))) where
 sub:=λb hb=>by simp at hb;simp[hb]
 frame:=λ_ h h' st hk=>by
  obtain⟨⟨t,e⟩,x,g,r⟩:=st;exact⟨⟨t,hk a qz _ e⟩,x,hk I qz _ g,r⟩
 item:=λi s Q E hi st hQ=>by
  obtain⟨g1,x,g2,g3⟩:=st;obtain rfl:i=0:=by omega
  obtain rfl:x=0:=g3.elim (λz=>z.2) (λz=>by have:=z.1;omega);exact next_z hl g2 g1 hne λt h' x e1 e2 e3 e4=>hQ _ h' s.toks ⟨t,rfl⟩ ⟨e3,x,e1,.inr ⟨rfl,e2⟩⟩ e4
 done:=λs Q E st hQ=>by
  obtain⟨g1,x,g2,g3⟩:=st;exact end_z hh hl g2 (g3.elim (λz=>by have:=z.1;omega) (λz=>z.2)) g1 λh' e=>hQ h' s.toks e
 self:=λi s Q E st hQ=>by
  obtain⟨g1,x,g2,g3⟩:=st;exact self_z g2 hQ
theorem src_z(hl:bt w=true\/led=true):KdlSrc P w "set" a a 1 (λ_ v=>∃t,v=.int 0 t) (λh=>has1 led h a) where
 type:=λ_ hm=>hm.ty
 there:=λ_ ⟨t,e⟩=>⟨Zq e,Zq e⟩
 keep:=λ_ _ ⟨t,e⟩ hk=>⟨t,hk a (.inl rfl) _ e⟩
 notList:=by decide
 notTuple:=by decide
 hint:=λ_ _ _ _ hm hq=>hint_z hm.ty hq
 iter:=λ_ _ hh hm=>⟨zi a 0 0,_,(λ_ _ hq=>iter_z hm hq),walks_z hh hl (by obtain⟨t,e⟩:=hm;exact Z2 (Zq e)),⟨by obtain⟨t,e⟩:=hm;exact⟨t,Zh _ e⟩,0,Zu _ rfl,.inl ⟨rfl,rfl⟩⟩⟩
end
end NZ
namespace L2
open PySem PySem.Spec PyProof.Rows PySem.W NZ
theorem d3k{P:Program}{w:World}{A:Around}{E:Value->Shared->Prop}{s:Shared}{a:Addr}{led:Bool}{Q:Value->Shared->Prop}(hl:bt w=true\/led=true)(hh:A.handled=none)(hm:has1 led s.heap a)
  (h:∀(D:Addr) h' tk (out:Array Value) e t,s.heap.objs.size<=D->(∀b o,s.heap.get? b=some o->h'.get? b=some o)->h'.get? D=some (seqObj "list" out e)->out.toList=[.int 0 t]->Q (.ref D) { s with heap:=h',toks:=tk}):
  wpAny (model P w) A (call (.builtin "sorted") [.ref a]) Q E s:=by
 refine Calls.call_function_entry kind_sorted plain_sorted entry_sorted (args_sorted1 _) ?_;unfold Builtin.«sorted»;refine Zb (m:=checkCount "sorted" 1 1 _) (Zf ?_);have col:∀{Q':List Value->Shared->Prop}{E':Value->Shared->Prop},(∀h' tk t,(∀b o,s.heap.get? b=some o->h'.get? b=some o)->s.heap.objs.size<h'.objs.size->Q' [.int 0 t] { s with heap:=h',toks:=tk})->wpAny (model P w) A.in1 (collect (.ref a)) Q' E' s:=by
  intro Q' E' hq;unfold collect;refine Zb (wpAny_runValue (Wr F.entry_proto_collect ?_));rw[Wj F.plain_proto_collect _]
  show wpAny _ A.in1.in1 (newList []>>=λl=>again (.builtin "list.__iadd__" ⟨[l,.ref a],[]⟩)) _ _ s
  refine Zb (Xe (Zf ⟨W8 F.plain_list_iadd _,Wr F.entry_list_iadd ?_⟩));rw[Wj F.plain_list_iadd _];have hlt:a<s.heap.objs.size:=by obtain⟨t,e⟩:=hm;exact Zq e
  have nw:(s.heap.push { cls:=.type "list",data:=.seq ([]:List Value).toArray}).get? s.heap.objs.size=some { cls:=.type "list",data:=.seq #[]}:=Zu _ rfl;have hm1:has1 led (s.heap.push { cls:=.type "list",data:=.seq ([]:List Value).toArray}) a:=by obtain⟨t,e⟩:=hm;exact⟨t,Zh _ e⟩
  show wpAny _ A.in1.in1 (Builtin.List.listExtendWith (.ref s.heap.objs.size) (.ref a) (.ref s.heap.objs.size)) _ _ _
  refine kdl_extend (R:=λr s1=>match r with
    |Except.ok (Flow.ret v)=>wpAny (model P w) A.in1 (match v with
     |Value.ref a=>do
      let o <-load a
      match o.data with
      |Data.seq xs _=>pure xs.toList
      |_=>unsupported "internal:collect"
     |_=>unsupported "internal:collect") Q' E' s1
    |Except.ok _=>False
    |Except.error e=>E' e s1) (A:=A.in1) (s:={ s with heap:=s.heap.push { cls:=.type "list",data:=.seq ([]:List Value).toArray}}) (src_z hl) hh hm1 s.heap.objs.size (T7 hlt) (T7 hlt) (.ref s.heap.objs.size) 0 nw (λh' tk acc c hk hS hacc=>?_) (by rw[Yw];decide)
  show wpAny _ A.in1 (load s.heap.objs.size>>=_) _ _ _
  obtain⟨a1,a2⟩:=hacc;obtain⟨t,et⟩:=a2 0 acc[0] (by simp[a1]);have ea:acc.toList=[.int 0 t]:=by
   have:acc.toList.length=1:=by simpa using a1
   match hq:acc.toList,this with
   | [x],_=>
    have:=Yv (λl=>l[0]?) hq
    simp[a1]at this
    rw[<-this,et]
  refine Zb (wpAny_load (s:={ s with heap:=h',toks:=tk}) hS (Zf ?_));rw[ea];exact hq h' tk t (λb o e=>hk b o (Z2 (Zq e)) (Zh _ e)) (Zq hS)
 refine Zb (col λh1 tk t keep big=>?_);refine Zb (wpAny_newList (hsz:=by rw[Yw];simp) ?_);have nw:(h1.push (seqObj "list" [Value.int 0 t].toArray 0)).get? h1.objs.size=some (seqObj "list" [Value.int 0 t].toArray 0):=Zu _ rfl
 show wpAny _ _ _ _ _ { s with heap:=h1.push (seqObj "list" [Value.int 0 t].toArray 0),toks:=tk}
 refine Zb (Yi (Yq slot_list_sort ⟨_,nw,rfl⟩ entry_list_sort (list_sort_tree (s:={ s with heap:=h1.push (seqObj "list" [Value.int 0 t].toArray 0),toks:=tk}) (ns:=[0]) nw (.cons 0 t .nil) qz λout ns' a1 a2 a3=>⟨_,rfl,?_⟩) (args_list_sort _)));obtain⟨e,he⟩:=sortedHeap_at (vs:=[Value.int 0 t]) (out:=out) nw;have e1:ns'=[0]:=by simpa using a2
 subst e1;obtain⟨t',eo⟩:∃t',out.toList=[.int 0 t']:=by
  generalize out.toList=l at a1;cases a1 with
  |cons n t' r=>cases r;exact⟨_,rfl⟩
 refine Zf ⟨_,rfl,h h1.objs.size _ tk _ e t' (Uv big) (λb o eb=>?_) he eo⟩;have hb:=Zq (keep b o eb);rw[sortedHeap_old (Z2 hb) (by rw[size_push'];exact Xy hb)];exact Zh _ (keep b o eb)
section
variable{X:Cx}
theorem c3l{pos:Pos}(P:Program)(w:World)(hP:X.prog=P)(hw:X.w=w):PE X (.Dict [] [] pos) (d0e P w):=by
 subst hP hw;exact d3f
abbrev zO(w:World)(a:Addr):HO:=.ext λh=>has1 (!bt w) h a
theorem bt_led(w:World):bt w=true\/(!bt w)=true:=by cases bt w<;>simp
def mSetZ(K:Frag)(w:World):List V->Hp->VK->Prop:=λvs H Q=>∃(p:Addr)(n:Nat),vs=[.ref p]/\SqL K H p (List.replicate (n+1) (V.int 0))/\∀q,H q=none->Q (.ref q) (upd H q (zO w q))
theorem mc_setZ(K:Frag)(w:World)(hK:X.K=K)(hw:X.w=w)(hc:X.calm=true):a2w X (.type "set") (mSetZ K w):=by
 subst hK hw;intro pj s σ H xs us Q I r h;obtain⟨p,n,rfl,hs,q⟩:=h;obtain⟨u,rfl,r1⟩:=vals1 r;cases r1;obtain⟨its,rv,pl,hz⟩:=I.list hs;have l1:=rv.length;rw[Si]at l1;refine call_z (I.ok.hd hc) pl.isList (λi v e=>?_) (by simp[<-l1]) λh' tk h1 k=>?_
 ·have hi:=(Tj.mp e).1;have hi:i<its.length:=by simpa using hi
  have x1:(List.replicate (n+1) (V.int 0))[i]? =some (.int 0):=by rw[Tu,if_pos qo]
  obtain⟨w1,y1,z1⟩:=rv.get x1;rw[V6,y1]at e;cases e;exact z1
 ·exact⟨.ref s.heap.objs.size,upd H s.heap.objs.size (zO X.w s.heap.objs.size),I.laid (o:=zO X.w s.heap.objs.size) (t':=tk) k (Zm _) ⟨h1,by obtain⟨t,e⟩:=h1;exact⟨_,e⟩,λh1 h2 ⟨t,e⟩ k=>⟨t,k _ e⟩⟩,rfl,q _ (I.hok.fresh (Zm _))⟩
def mSortZ(w:World):List V->Hp->VK->Prop:=λvs H Q=>∃(a:Addr),vs=[.ref a]/\H a=some (zO w a)/\∀p,H p=none->Q (.ref p) (upd H p (.lst [.int 0]))
theorem d3l(w:World)(hw:X.w=w)(hc:X.calm=true):a2w X (.builtin "sorted") (mSortZ w):=by
 subst hw;intro pj s σ H xs us Q I r h;obtain⟨a,rfl,ha,q⟩:=h;obtain⟨u,rfl,r1⟩:=vals1 r;cases r1;obtain⟨h1,_,_⟩:=(show a1v X.prog X.w H s.heap a (zO X.w a)from I.hok a _ ha);refine d3k (bt_led X.w) (I.ok.hd hc) h1 λD h' tk out e t big keep hD eo=>?_
 exact⟨.ref D,upd H D (.lst [.int 0]),I.laid (t':=tk) keep big ⟨by rw[Yw];decide,out.toList,e,by rw[eo];exact .cons ⟨t,rfl⟩ .nil,by simpa using hD⟩,rfl,q D (I.hok.fresh big)⟩
def mMaxL(K:Frag):List V->Hp->VK->Prop:=λvs H Q=>∃(p:Addr)(ns:List Int),vs=[.ref p]/\SqL K H p (ns.map V.int)/\ns≠[]/\∀m∈ns,Q (.int m) H
theorem kc_maxL(K:Frag)(hK:X.K=K)(hc:X.calm=true):a2w X (.builtin "max") (mMaxL K):=by
 subst hK;intro pj s σ H xs us Q I r h;obtain⟨p,ns,rfl,hs,hne,q⟩:=h;obtain⟨u,rfl,r1⟩:=vals1 r;cases r1;obtain⟨its,rv,pl,hz⟩:=I.list hs;have hi:IntsAre its ns:=intsAre_of rv;obtain⟨xs,e⟩:=hi.allInts.items;have hns:ns=xs.toList.map (·.1):=by rw[<-hi.numsOf,<-nums_intItems,<-e]
 have hsz:0<xs.size:=by
  rcases Rn xs.size with z|z
  ·exfalso
   refine hne ?_;have:xs.toList=[]:=List.eq_nil_of_length_eq_zero (by rw[Y1];exact z);rw[hns,this];rfl
  ·exact z
 have hl:=pl.isList;rw[e]at hl;refine max_intList (I.ok.hd hc) hl hsz λv h' tk hv hk=>?_
 obtain⟨t,rfl⟩:=intItems_at hv;refine⟨.int _,H,I.kept (t':=tk) hk,⟨t,rfl⟩,q _ ?_⟩;have hb:argBest (λi j=>decide (numAt xs i>numAt xs j)) (xs.size-1)<xs.size:=by
  have:=(Tj.mp hv).1
  simpa[intItems]using this
 rw[hns,numAt_eq];exact getD_mem (by rw[length_map,Y1];exact hb)
def mInTs(K:Frag)(n:Bool):R2:=λx y H Q=>∃(l:Addr)(t:Trm)(us:List V)(ts:List Trm),y=.ref l/\SqL K H l us/\DenL K H us (Trm.dataL ts)/\Den K H x t.data/\(∀u∈ts,u.size<=60)/\Q (.bl (n^^ts.any λu=>eqb u t)) H
theorem ko_inTs(K:Frag)(hK:X.K=K)(hu:X.A.units+150<cLine):OpR X (compareOp .In) (mInTs K false):=by
 subst hK;intro pj s σ H x y v u Q I rx ry h;obtain⟨l,t,us,ts,rfl,hs,hl,hx,hz,k⟩:=h;cases ry;obtain⟨its,rv,pl,_⟩:=I.list hs;have key:∀z,z∈its->∃t' y,t'∈ts/\RelV y z/\Den X.K H y t'.data:=λz hz'=>by
  obtain⟨j,hj⟩:=Xa.mp hz';have hjl:=(Zy.mp hj).1;have hj2:j<us.length:=by rw[rv.length];exact hjl
  have x1:us[j]? =some us[j]:=Za hj2
  obtain⟨w1,y1,z1⟩:=rv.get x1;rw[hj]at y1;cases y1;obtain⟨d,e1,d1⟩:=hl.get x1;rw[Trm.dataL_map,Zv]at e1;obtain⟨t',e2,e3⟩:=Xg.mp e1;exact⟨t',_,Zn e2,z1,by rw[e3];exact d1⟩
 have ev:∃e:Value->Bool,(∀z∈its,SeqAt.EqAt X.A.in1 s z v (e z))/\its.any e=ts.any (λu=>eqb u t):=by
  classical
  refine⟨λz=>decide (∃y,RelV y z/\Den X.K H y t.data),λz hz'=>?_,?_⟩
  ·obtain⟨t',y,hm,z1,d1⟩:=key z hz';have:=b6n I 60 X.A.in1 t' t _ _ _ _ (hz t' hm) (by show X.A.units+1+2*60+4<cLine;omega) d1 hx z1 rx;have e9:decide (∃y,RelV y z/\Den X.K H y t.data)=eqb t' t:=by
    by_cases c:t'=t
    ·subst c;rw[a6z];exact Zw ⟨y,z1,d1⟩
    ·rw[c9o.mpr c];refine Zs λ⟨y',r',d'⟩=>c ?_
     rw[<-z1.inj r']at d';exact Trm.data_inj (b5k I d1 d')
   show SeqAt.EqAt _ _ _ _ (decide _)
   rw[e9];exact this
  ·rw[Xo,X4,X4]
   constructor
   ·rintro⟨z,hz',hd⟩
    obtain⟨y,r1,d1⟩:=Z5 hd;obtain⟨t',y',hm,r2,d2⟩:=key z hz';rw[<-r1.inj r2]at d2;rw[Trm.data_inj (b5k I d2 d1)]at hm;exact⟨t,hm,a6z t⟩
   ·rintro⟨t0,hm,h0⟩
    rw[(a4g _ _).mp h0]at hm;obtain⟨j,hj⟩:=Xa.mp hm;have hl2:=hl.length;rw[Trm.dataL_map,length_map]at hl2;have hjl:=(Zy.mp hj).1;have hj2:j<us.length:=by rw[hl2];exact hjl
    have x1:us[j]? =some us[j]:=Za hj2
    obtain⟨w1,y1,z1⟩:=rv.get x1;obtain⟨d,e1,d1⟩:=hl.get x1;rw[Trm.dataL_map,Zv,hj]at e1;cases e1;exact⟨w1,Zn y1,Zw ⟨_,z1,d1⟩⟩
 obtain⟨e,e1,e2⟩:=ev;refine SeqAt.in_listAt e pl.isList (λz hz'=>e1 z (by simpa using hz')) ?_;have:its.toArray.any e=ts.any (λu=>eqb u t):=by rw[<-e2];simp
 rw[this];rw[Zp]at k;exact⟨.bl _,H,I,rfl,k⟩
end
end L2
namespace My
open PySem PySem.Spec PyProof.Rows L2
mutual
def ord:Trm->List Str->List Str
 | .any x,a=>if x∈a then a else a++[x]
 | .num _,a=>a
 | .app _ ks,a=>ordL ks a
def ordL:List Trm->List Str->List Str
 | [],a=>a
 |k::ks,a=>ordL ks (ord k a)
end
mutual
def ren(f:Str->Str):Trm->Trm
 | .any x=>.any (f x)
 | .num m=>.num m
 | .app s ks=>.app s (renL f ks)
def renL(f:Str->Str):List Trm->List Trm
 | []=>[]
 |k::ks=>ren f k::renL f ks
end
mutual
def vars:Trm->List Str
 | .any x=>[x]
 | .num _=>[]
 | .app _ ks=>a3j ks
def a3j:List Trm->List Str
 | []=>[]
 |k::ks=>vars k++a3j ks
end
theorem c3m:∀(a b:List Trm)(acc:List Str),ordL (a++b) acc=ordL b (ordL a acc)
 | [],b,acc=>by rw[Wa,ordL]
 |k::a,b,acc=>by rw[Xu,ordL,ordL,c3m a b]
theorem d3m(t:Trm)(acc:List Str):ordL [t] acc=ord t acc:=by rw[ordL,ordL]
mutual
theorem b5m:∀(t:Trm)(a:List Str)(x:Str),x∈ord t a↔x∈a\/x∈vars t
 | .any y,a,x=>by
  rw[ord,vars]
  split
  ·rename_i h
   constructor
   ·exact .inl
   ·rintro(z|z)
    ·exact z
    ·rw[Zd.mp z];exact h
  ·rw[Zr]
 | .num _,a,x=>by rw[ord,vars];simp
 | .app _ ks,a,x=>by rw[ord,vars];exact b6p ks a x
theorem b6p:∀(ts:List Trm)(a:List Str)(x:Str),x∈ordL ts a↔x∈a\/x∈a3j ts
 | [],a,x=>by rw[ordL,a3j];simp
 |k::ks,a,x=>by rw[ordL,a3j,b6p ks,b5m k,Zr,or_assoc]
end
mutual
theorem c6e:∀(t:Trm)(a:List Str),a.Nodup->(ord t a).Nodup
 | .any y,a,h=>by
  rw[ord]
  split
  ·exact h
  ·rename_i hy;exact Yb.mpr ⟨h,qz,λu hu v hv e=>hy (by rw[<-Zd.mp hv,<-e];exact hu)⟩
 | .num _,a,h=>by rw[ord];exact h
 | .app _ ks,a,h=>by rw[ord];exact b6q ks a h
theorem b6q:∀(ts:List Trm)(a:List Str),a.Nodup->(ordL ts a).Nodup
 | [],a,h=>by rw[ordL];exact h
 |k::ks,a,h=>by rw[ordL];exact b6q ks _ (c6e k a h)
end
mutual
theorem b9m:∀(t:Trm)(a:List Str),(ord t a).length<=a.length+t.size
 | .any y,a=>by
  rw[ord]
  split
  ·omega
  ·rw[Zk];simp[Trm.size]
 | .num _,a=>by rw[ord];omega
 | .app _ ks,a=>by rw[ord];have:=b6r ks a;simp only[Trm.size];omega
theorem b6r:∀(ts:List Trm)(a:List Str),(ordL ts a).length<=a.length+Trm.sizeL ts
 | [],a=>by rw[ordL];omega
 |k::ks,a=>by
  rw[ordL];have h1:=b9m k a;have h2:=b6r ks (ord k a);simp only[Trm.sizeL];omega
end
mutual
theorem b4e:∀(t:Trm)(f g:Str->Str),(∀x∈vars t,f x=g x)->ren f t=ren g t
 | .any y,f,g,h=>by rw[ren,ren,h y (by simp[vars])]
 | .num _,f,g,h=>by rw[ren,ren]
 | .app s ks,f,g,h=>by rw[ren,ren,b8e ks f g (by simpa only[vars]using h)]
theorem b8e:∀(ts:List Trm)(f g:Str->Str),(∀x∈a3j ts,f x=g x)->renL f ts=renL g ts
 | [],f,g,h=>by rw[renL,renL]
 |k::ks,f,g,h=>by
  rw[renL,renL,b4e k f g (λx hx=>h x (by rw[a3j];exact Zr.mpr (.inl hx))),b8e ks f g (λx hx=>h x (by rw[a3j];exact Zr.mpr (.inr hx)))]
end
mutual
theorem c3n:∀(t:Trm)(f:Str->Str),(ren f t).size=t.size
 | .any y,f=>by rw[ren,Trm.size,Trm.size]
 | .num _,f=>by rw[ren]
 | .app s ks,f=>by rw[ren,Trm.size,Trm.size,c0u ks f]
theorem c0u:∀(ts:List Trm)(f:Str->Str),Trm.sizeL (renL f ts)=Trm.sizeL ts
 | [],f=>by rw[renL]
 |k::ks,f=>by rw[renL,Trm.sizeL,Trm.sizeL,c3n k f,c0u ks f]
end
theorem a8a(f:Str->Str):∀ts:List Trm,renL f ts=ts.map (ren f)
 | []=>by rw[renL];rfl
 |k::ks=>by rw[renL,a8a f ks];rfl
abbrev As:=List (Str×Str)
def encS(as:As):List (Key×V):=as.map λr=>(Sum.inr r.1,V.str r.2)
def sub(as:As)(x:Str):Str:=((as.find? λr=>decide (r.1=x)).map (·.2)).getD x
theorem b9n(as:As):(encS as).length=as.length:=by simp[encS]
theorem b9o:∀(as:As)(x:Str),valV (encS as) (Sum.inr x)=((as.find? λr=>decide (r.1=x)).map (·.2)).map V.str
 | [],x=>rfl
 |r::as,x=>by
  by_cases e:r.1=x
  ·rw[show encS (r::as)=(Sum.inr r.1,V.str r.2)::encS as from rfl,b2d (by show Sum.inr r.1=Sum.inr x;rw[e]),Y4,Zw e];rfl
  ·rw[show encS (r::as)=(Sum.inr r.1,V.str r.2)::encS as from rfl,b2e (λz=>e (V7 z)),Y4,Zs e,b9o as x]
theorem d0k{as:As}{x:Str}(h:x∉as.map (·.1)):(as.find? λr=>decide (r.1=x))=none:=by
 rw[Ww];intro r hr e;exact h (Z1.mpr ⟨r,hr,Z5 e⟩)
theorem d0l{as:As}{x:Str}(h:x∈as.map (·.1)):∃y,(as.find? λr=>decide (r.1=x))=some (x,y):=by
 cases e:as.find? λr=>decide (r.1=x)with
 |none=>
  obtain⟨r,hr,z⟩:=Z1.mp h;exact absurd (Zw z) (Ww.mp e r hr)
 |some r=>
  have h2:decide (r.1=x)=true:=List.find?_some (p:=λr:Str×Str=>decide (r.1=x)) e;have:=Z5 h2;exact⟨r.2,by rw[<-this]⟩
theorem val_sub{as:As}{x:Str}(h:x∈as.map (·.1)):valV (encS as) (Sum.inr x)=some (.str (sub as x)):=by
 obtain⟨y,e⟩:=d0l h;rw[b9o,sub,e];rfl
theorem val_new{as:As}{x:Str}(h:x∉as.map (·.1)):valV (encS as) (Sum.inr x)=none:=by rw[b9o,d0k h];rfl
theorem put_enc{as:As}{x y:Str}(h:x∉as.map (·.1)):putK (encS as) (Sum.inr x) (.str y)=encS (as++[(x,y)]):=by
 rw[d2a _ (val_new h),encS,encS,Zi];rfl
def mkA(f:Nat->Str->Str):Nat->List Str->As
 |_,[]=>[]
 |i,x::u=>(x,f i x)::mkA f (i+1) u
theorem b0a(f:Nat->Str->Str):∀(i:Nat)(u:List Str),(mkA f i u).map (·.1)=u
 |_,[]=>rfl
 |i,x::u=>by rw[mkA,Zt,b0a f (i+1) u]
theorem b9p(f:Nat->Str->Str)(i:Nat)(u:List Str):(mkA f i u).length=u.length:=by
 rw[<-length_map (f:=λr:Str×Str=>r.1),b0a]
theorem c3o(f:Nat->Str->Str):∀(i:Nat)(u:List Str)(x:Str),mkA f i (u++[x])=mkA f i u++[(x,f (i+u.length) x)]
 |i,[],x=>rfl
 |i,y::u,x=>by
  rw[Xu,mkA,mkA,c3o f (i+1) u x,Xu,length_cons];rw[show i+1+u.length=i+(u.length+1) by omega]
theorem c6f(f:Nat->Str->Str):∀(u:List Str)(i j:Nat)(x:Str),u.Nodup->u[j]? =some x->sub (mkA f i u) x=f (i+j) x
 | [],i,j,x,hn,h=>by simp at h
 |y::u,i,0,x,hn,h=>by
  simp only[Zx,Z9]at h;subst h;rw[mkA,sub,Y4,Zw rfl];rfl
 |y::u,i,j+1,x,hn,h=>by
  have h':u[j]? =some x:=by simpa using h
  have hne:¬y=x:=λe=>by
   subst e;exact(Yn.mp hn).1 (Zn h')
  have:=c6f f u (i+1) j x (Yn.mp hn).2 h';rw[sub]at this;rw[mkA,sub,Y4,Zs hne,this,show i+1+j=i+(j+1) by omega]
theorem c6g{u:List Str}{x:Str}(h:x∈u):∃j:Nat,u[j]? =some x:=Xa.mp h
def tn(n:Nat):Str:=⟨(b7u n).toArray⟩
theorem sub_at(f:Nat->Str->Str){u:List Str}(hn:u.Nodup){j:Nat}{x:Str}(h:u[j]? =some x):sub (mkA f 0 u) x=f j x:=by
 rw[c6f f u 0 j x hn h,Uu]
theorem nod0(t:Trm):(ord t []).Nodup:=c6e t [] qz
theorem c6h{t:Trm}{x:Str}(h:x∈vars t):x∈ord t []:=(b5m t [] x).mpr (.inr h)
theorem ord_var{t:Trm}{x:Str}(h:x∈ord t []):x∈vars t:=by
 rcases(b5m t [] x).mp h with z|z
 ·simp at z
 ·exact z
def uS:Str:=ofString "U"
def dotS:Str:=ofString "."
def mrk(n:Nat)(x:Str):Str:=x++dotS++tn n
def anew(ts:List Trm):List Trm:=renL (sub (mkA (λj _=>uS++tn (j+1)) 0 (ordL ts []))) ts
theorem d3n{u:List Str}(hn:u.Nodup){i:Nat}(hi:i<u.length):u[i]∉u.take i:=λh=>by
 obtain⟨j,hj⟩:=c6g h;have hl:=(Zy.mp hj).1;rw[Ys]at hl;rw[Tr qo]at hj;have hj':=Zy.mp hj;have hp:=List.pairwise_iff_getElem.mp (Vp.mp hn) j i hj'.1 hi qo;exact hp hj'.2
theorem c6i(f:Nat->Str->Str){u:List Str}(hn:u.Nodup){i:Nat}(hi:i<u.length){y:Str}(hy:y=f i u[i]):putK (encS (mkA f 0 (u.take i))) (Sum.inr u[i]) (.str y)=encS (mkA f 0 (u.take (i+1))):=by
 rw[put_enc (by rw[b0a];exact d3n hn hi),We,Za hi]
 show _=encS (mkA f 0 (u.take i++[u[i]]))
 rw[c3o,Ys,V5 qo,Uu,hy]
theorem c0v{u:List Str}{i:Nat}(hi:i<u.length):(u.map V.str).getD i .non=.str u[i]:=by rw[Yd,Zv,Za hi];rfl
theorem mrk_sub{t:Trm}{n:Nat}:ren (sub (mkA (λ_ x=>mrk n x) 0 (ord t []))) t=ren (mrk n) t:=b4e t _ _ λx hx=>by
 obtain⟨j,hj⟩:=c6g (c6h hx);rw[sub_at _ (nod0 t) hj]
theorem nodL(ts:List Trm):(ordL ts []).Nodup:=b6q ts [] qz
theorem d3o{ts:List Trm}{x:Str}(h:x∈a3j ts):x∈ordL ts []:=(b6p ts [] x).mpr (.inr h)
theorem b9q{ts:List Trm}{t:Trm}(h:t∈ts):∀x∈vars t,x∈a3j ts:=λx hx=>by
 induction ts with
 |nil=>simp at h
 |cons a r ih=>
  rw[a3j,Zr];rcases Zg.mp h with z|z
  ·subst z;exact .inl hx
  ·exact .inr (ih z)
local macro_rules | `(tactic| walk_at "r") => `(tactic| first | decide | exact Zm _ | exact Nat.le_add_left_of_le qd | omega)
local macro_rules | `(tactic| walk_at "or1") => `(tactic| first | exact Or.inl rfl | exact Or.inr rfl)
local macro_rules | `(tactic| walk_at "q") => `(tactic| first | refine tAsg_i ?_ | refine b9g ?_ | refine tRet_i ?_ | refine tIfS_i ?_ | refine a9j ?_ | refine tDrop_i ?_ | refine mTest_i ?_ | refine mTrue_i ?_ | refine mTru_b ?_ | refine mB_i ?_ | refine tOp_i ?_ | refine tUn_i ?_ | refine mUn_i ?_ | refine m20_i ?_ | refine mAdd_i ?_ | refine mEq_i ?_ | refine mEq_s ?_ | refine mInS_i ?_ | (refine' mVar_i ?hv ?_; (case hv => with_unfolding_all rfl)) | refine tC_i ?_ | refine d2g ?_ | refine mAndV_i ?_ | refine mOrV_i ?_ | refine tIf_i ?_ | refine tAnd_i ?_ | refine tOr_i ?_ | refine tNot_i ?_ | refine tCB_i ?_ | refine d2h ?_ | refine tCons_i ?_ | refine tNil_i ?_ | refine tBM_i ?_ | refine tBM0_i ?_ | refine tTup_i ?_ | refine tLst_i ?_ | refine tSl_i ?_ | refine c9g ?_ | refine mPart_i ?_ | refine mI_i ?_ | refine is_str ?_ | refine is_int ?_ | refine c5d ?_ | refine isN_non ?_ | refine isN_ref ?_ | refine mInt_b ?_ | refine tDGet_i ?_ | refine d2m ?_ | refine sDPut_i ?_ | refine iEnum_i ?_ | refine gCons_i ?_ | refine gNil_i ?_ | refine d2i ?_ | (refine' mAug_i ?hw ?_; (case hw => with_unfolding_all rfl)) | refine mIAdd_i ?_ | refine d3h ?_ | refine tFor_i ?_ | refine tFld_i ?_ | refine sFld_i ?_ | refine c9w ?_ | refine tMeth_i ?_ | refine tMake_i ?_ | refine gSub_i ?_ | refine c7f ?_ | refine tF2n_i ?_ | refine tF3n_i ?_ | refine iStr_i ?_ | refine iList_i ?_ | refine iTup_i ?_ | refine iRng1_i ?_ | refine tComp_i ?_ | (refine m2_i ?hc ?_; (case hc => first | (show (0 : Int) < _; decide) | exact cdiv_i qd qd)))
local macro_rules | `(tactic| walk_at "s") => `(tactic| repeat (with_reducible first | refine tSeq_i ?_ | walk_at "q"))
local macro_rules | `(tactic| walk_at "m") => `(tactic| repeat (with_reducible walk_at "q"))
local macro_rules | `(tactic| ext) => `(tactic| walk_at "s")
local macro_rules | `(tactic| nofun) => `(tactic| walk_at "or1")
local macro_rules | `(tactic| ac_rfl) => `(tactic| walk_at "r")
noncomputable def top(i:Nat):Stmt:=PySem.Challenge.pw_goaltrail_k64_rings_of_asking_end.main.body.getD i (.Pass ⟨0,0,0,0⟩)
abbrev b2k:Stmt:=inClass (top 44) 0
abbrev a8b:Stmt:=inClass (top 45) 0
abbrev a4w:Stmt:=inClass (top 45) 1
abbrev a4x:Stmt:=inClass (top 45) 2
abbrev a6u:Stmt:=inClass (top 45) 3
abbrev a4y:Stmt:=inClass (top 45) 4
abbrev a6o:Stmt:=inClass (top 45) 5
abbrev b0b:Stmt:=inClass (top 60) 0
abbrev b0c:Stmt:=inClass (top 61) 0
abbrev a8c:Stmt:=inClass (top 62) 0
abbrev a6b:Stmt:=inClass (top 62) 1
abbrev a3b:Stmt:=inClass (top 62) 2
abbrev a6v:Stmt:=inClass (top 62) 3
abbrev a4z:Stmt:=inClass (top 62) 4
abbrev a5a:Stmt:=inClass (top 62) 5
abbrev a5n:Stmt:=inClass (top 62) 6
abbrev a5b:Stmt:=inClass (top 62) 7
abbrev a5o:Stmt:=inClass (top 62) 9
abbrev a3k:Stmt:=inClass (top 62) 10
abbrev b4f:Stmt:=top 13
abbrev s_a9:Stmt:=top 14
abbrev b2l:Stmt:=top 15
abbrev a8k:Stmt:=top 16
abbrev b4g:Stmt:=top 17
abbrev a8x:Stmt:=top 19
abbrev b0n:Stmt:=top 20
abbrev a8l:Stmt:=top 21
abbrev b6s:Stmt:=top 22
abbrev b2m:Stmt:=top 26
abbrev a5q:Stmt:=top 27
abbrev b4h:Stmt:=top 28
abbrev b4i:Stmt:=top 29
abbrev a8y:Stmt:=top 31
abbrev a7j:Stmt:=top 33
abbrev a8d:Stmt:=top 34
abbrev b0v:Stmt:=top 35
abbrev b6t:Stmt:=top 37
abbrev a8z:Stmt:=top 38
abbrev a9a:Stmt:=top 39
abbrev b2n:Stmt:=top 40
abbrev b6u:Stmt:=top 42
abbrev a7k:Stmt:=top 46
abbrev b2o:Stmt:=top 47
abbrev b8f:Stmt:=top 63
abbrev b0w:Stmt:=top 65
abbrev b6v:Stmt:=top 66
abbrev b0o:Stmt:=top 67
abbrev b2p:Stmt:=top 68
abbrev b4j:Stmt:=top 69
abbrev b0p:Stmt:=top 70
abbrev b0x:Stmt:=top 71
abbrev b9r:Stmt:=top 72
abbrev b0d:Stmt:=top 73
abbrev c1w:Stmt:=top 74
theorem c5h:a0r ["self","lefts","rights"] ["self","lefts","rights"] (a0i b2k):=qn
theorem b8g:a0r ["self","puts","noted"] ["self","puts","noted"] (a0i a8b):=qn
theorem a3c:a0r ["self","one","other","told","row"] ["self","one","other"] (a0i a4w):=qn
theorem a4i:a0r ["self","one","other","left","right"] ["self","one","other"] (a0i a4x):=qn
theorem b4k:a0r ["self","name","term"] ["self","name","term"] (a0i a6u):=qn
theorem b1k:a0r ["self","left","right"] ["self","left","right"] (a0i a4y):=qn
theorem b8h:a0r ["self"] ["self"] (a0i a6o):=qn
theorem c1l:a0r ["self","goal","layer"] ["self","goal","layer"] (a0i b0b):=qn
theorem c1m:a0r ["self","puts","done","reasons"] ["self","puts","done","reasons"] (a0i b0c):=qn
theorem b8i:a0r ["self","rules"] ["self","rules"] (a0i a8c):=qn
theorem b3k:a0r ["self","goal"] ["self","goal"] (a0i a6b):=qn
theorem a4b:a0r ["self","layer","table"] ["self"] (a0i a3b):=qn
theorem a6c:a0r ["self","table","rule","told"] ["self","table"] (a0i a6v):=qn
theorem b1l:a0r ["self"] ["self"] (a0i a4z):=qn
theorem a3d:a0r ["self","table","rule","puts","todo","going","goal"] ["self","table","rule","puts"] (a0i a5a):=qn
theorem b2q:a0r ["self","goal","going","told"] ["self","goal","going"] (a0i a5n):=qn
theorem a1z:a0r ["self","goal","going","number","found","place","answer","told"] ["self","goal","going"] (a0i a5b):=qn
theorem a7l:a0r ["self","goal","told"] ["self","goal"] (a0i a5o):=qn
theorem a4j:a0r ["self","table","number","going","term","ranks"] ["self","table","number","going"] (a0i a3k):=qn
theorem c7h:a0r ["name"] ["name"] (a0i b4f):=qn
theorem sc_a9:a0r ["sign","kids"] ["sign","kids"] (a0i s_a9):=qn
theorem c5i:a0r ["sign"] ["sign"] (a0i b2l):=qn
theorem c3p:a0r ["text","firsts"] ["text","firsts"] (a0i a8k):=qn
theorem c7i:a0r ["text"] ["text"] (a0i b4g):=qn
theorem a6p:a0r ["terms","found","todo","part"] ["terms"] (a0i a8x):=qn
theorem c7j:a0r ["term","names"] ["term","names"] (a0i b0n):=qn
theorem a7m:a0r ["terms","names","name","number"] ["terms"] (a0i a8l):=qn
theorem b4l:a0r ["term","n","names","name"] ["term","n"] (a0i b6s):=qn
theorem c5j:a0r ["term"] ["term"] (a0i b2m):=qn
theorem b0e:a0r ["rules","told"] ["rules"] (a0i a5q):=qn
theorem c7k:a0r ["goal"] ["goal"] (a0i b4h):=qn
theorem a7n:a0r ["rules","found","place","told","terms"] ["rules"] (a0i b4i):=qn
theorem a6q:a0r ["rules","found","told","goal"] ["rules"] (a0i a8y):=qn
theorem b0f:a0r ["leanings","leaning","ring"] ["leanings"] (a0i a7j):=qn
theorem a5r:a0r ["layers","leanings","raised","leaning","least"] ["layers","leanings"] (a0i a8d):=qn
theorem a6d:a0r ["rules","leanings","layers","told","leaning"] ["rules"] (a0i b0v):=qn
theorem b4m:a0r ["term","puts","at"] ["term","puts"] (a0i b6t):=qn
theorem a4k:a0r ["term","puts","most","count","todo","part"] ["term","puts","most"] (a0i a8z):=qn
theorem b9s:a0r ["term","puts"] ["term","puts"] (a0i a9a):=qn
theorem c0w:a0r ["term","puts","part"] ["term","puts"] (a0i b2n):=qn
theorem d0m:a0r ["term"] ["term"] (a0i b6u):=qn
theorem a5c:a0r ["name","term","puts","seen","todo","part"] ["name","term","puts"] (a0i a7k):=qn
theorem b0y:a0r ["one","other","puts","new","told"] ["one","other","puts"] (a0i b2o):=qn
theorem c6j:a0r ["rules","goal","filling"] ["rules","goal"] (a0i b8f):=qn
theorem c3q:a0r ["_law_script","_law_k"] ["_law_script","_law_k"] (a0i b0w):=qn
theorem c0x:a0r ["_law_cell","_law_k","_law_many","_law_by"] ["_law_cell","_law_k","_law_many"] (a0i b6v):=qn
theorem a2t:a0r ["_law_cell","_law_letters","_law_base","_law_at","_law_words_here","_law_k","_law_word","_law_j"] ["_law_cell"] (a0i b0o):=qn
theorem b6d:a0r ["_law_cell","_law_words_here","_law_places_here"] ["_law_cell","_law_words_here"] (a0i b2p):=qn
theorem a9c:a0r ["_law_script","_law_many","_law_links_here","_law_k","_law_cell"] ["_law_script","_law_many"] (a0i b4j):=qn
theorem a2u:a0r ["_law_script","_law_words_here","_law_places_here","_law_links_here","_law_shape","_law_x","_law_y","_law_z","_law_near","_law_far","_law_way","_law_rules_here","_law_k","_law_fact"] ["_law_script","_law_words_here","_law_places_here","_law_links_here","_law_shape"] (a0i b0p):=qn
theorem a6e:a0r ["_law_links_here","_law_at","_law_line","_law_k","_law_one","_law_other"] ["_law_links_here","_law_at"] (a0i b0x):=qn
theorem b2r:a0r ["_law_links_here","_law_words_here","_law_places_here","_law_asked","_law_due_here","_law_at","_law_other"] ["_law_links_here","_law_words_here","_law_places_here","_law_asked"] (a0i b9r):=qn
theorem a4t:a0r ["_law_rules_here","_law_words_here","_law_places_here","_law_asked","_law_due_here","_law_goal","_law_end","_law_tables","_law_rows","_law_row","_law_terms"] ["_law_rules_here","_law_words_here","_law_places_here","_law_asked","_law_due_here"] (a0i b0d):=qn
theorem a6f:a0r ["_law_script","_law_words_here","_law_places_here","_law_way","_law_links_here","_law_shape","_law_rules_here","_law_handed","_law_asked","_law_k"] ["_law_script"] (a0i c1w):=qn
set_option genInjectivity false in
structure Ad where
 k_a5:Addr
 k_a2:Addr
 k_a1:Addr
 k_a4:Addr
 k_a0:Addr
 a_c4:Addr
 d_c4:FuncData
 a_f7:Addr
 d_f7:FuncData
 a_e5:Addr
 d_e5:FuncData
 a_e8:Addr
 d_e8:FuncData
 a_c6:Addr
 d_c6:FuncData
 a_e6:Addr
 d_e6:FuncData
 a_c0:Addr
 d_c0:FuncData
 a_f5:Addr
 d_f5:FuncData
 a_c3:Addr
 d_c3:FuncData
 a_f6:Addr
 d_f6:FuncData
 a_f0:Addr
 d_f0:FuncData
 a_e9:Addr
 d_e9:FuncData
 a_f2:Addr
 d_f2:FuncData
 a_b9:Addr
 d_b9:FuncData
 a_f3:Addr
 d_f3:FuncData
 a_f1:Addr
 d_f1:FuncData
 a_f4:Addr
 d_f4:FuncData
 a_c1:Addr
 d_c1:FuncData
 a_e7:Addr
 d_e7:FuncData
 a_c2:Addr
 d_c2:FuncData
 a_a9:Addr
 d_a9:FuncData
 a_c9:Addr
 d_c9:FuncData
 a_d7:Addr
 d_d7:FuncData
 a_e3:Addr
 d_e3:FuncData
 a_b7:Addr
 d_b7:FuncData
 a_b0:Addr
 d_b0:FuncData
 a_b3:Addr
 d_b3:FuncData
 a_b2:Addr
 d_b2:FuncData
 a_b6:Addr
 d_b6:FuncData
 a_d3:Addr
 d_d3:FuncData
 a_a6:Addr
 d_a6:FuncData
 a_d8:Addr
 d_d8:FuncData
 a_c8:Addr
 d_c8:FuncData
 a_d9:Addr
 d_d9:FuncData
 a_c7:Addr
 d_c7:FuncData
 a_e1:Addr
 d_e1:FuncData
 a_a8:Addr
 d_a8:FuncData
 a_e0:Addr
 d_e0:FuncData
 a_b1:Addr
 d_b1:FuncData
 a_b5:Addr
 d_b5:FuncData
 a_b4:Addr
 d_b4:FuncData
 a_e2:Addr
 d_e2:FuncData
 a_b8:Addr
 d_b8:FuncData
 a_c5:Addr
 d_c5:FuncData
 a_a7:Addr
 d_a7:FuncData
 a_a3:Addr
 d_a3:FuncData
 a_d1:Addr
 d_d1:FuncData
 a_d4:Addr
 d_d4:FuncData
 a_e4:Addr
 d_e4:FuncData
 a_d2:Addr
 d_d2:FuncData
 a_d0:Addr
 d_d0:FuncData
 a_d5:Addr
 d_d5:FuncData
 a_d6:Addr
 d_d6:FuncData
 a_law:Addr
 d_law:FuncData
 t_g7:Tok
 t_g5:Tok
 t_h0:Tok
 t_g6:Tok
 t_g3:Tok
 t_g9:Tok
 t_h1:Tok
 t_h2:Tok
 t_g2:Tok
 t_g4:Tok
structure Txt(K:W.Frag)(mg:Str->Option Value)(t:Ad):Prop where
 m_a5:mg "Row"=some (.ref t.k_a5)
 cl_a5:Cls K t.k_a5
 no_a5_lefts:a1k K t.k_a5 "lefts"
 no_a5_rights:a1k K t.k_a5 "rights"
 no_a5_taken:a1k K t.k_a5 "taken"
 mk_a5:Mk K t.k_a5 t.a_c4
 m_a2:mg "Joining"=some (.ref t.k_a2)
 cl_a2:Cls K t.k_a2
 no_a2_puts:a1k K t.k_a2 "puts"
 no_a2_noted:a1k K t.k_a2 "noted"
 no_a2_rows:a1k K t.k_a2 "rows"
 no_a2_met:a1k K t.k_a2 "met"
 mk_a2:Mk K t.k_a2 t.a_f7
 me_e5:Meth K t.k_a2 "join_terms" t.a_e5
 me_e8:Meth K t.k_a2 "join_place" t.a_e8
 me_c6:Meth K t.k_a2 "put_for" t.a_c6
 me_e6:Meth K t.k_a2 "begin_kids" t.a_e6
 me_c0:Meth K t.k_a2 "path" t.a_c0
 m_a1:mg "Table"=some (.ref t.k_a1)
 cl_a1:Cls K t.k_a1
 no_a1_goal:a1k K t.k_a1 "goal"
 no_a1_layer:a1k K t.k_a1 "layer"
 no_a1_answers:a1k K t.k_a1 "answers"
 no_a1_known:a1k K t.k_a1 "known"
 mk_a1:Mk K t.k_a1 t.a_f5
 m_a4:mg "Going"=some (.ref t.k_a4)
 cl_a4:Cls K t.k_a4
 no_a4_puts:a1k K t.k_a4 "puts"
 no_a4_done:a1k K t.k_a4 "done"
 no_a4_reasons:a1k K t.k_a4 "reasons"
 mk_a4:Mk K t.k_a4 t.a_c3
 m_a0:mg "Filling"=some (.ref t.k_a0)
 cl_a0:Cls K t.k_a0
 no_a0_layers:a1k K t.k_a0 "layers"
 no_a0_rules:a1k K t.k_a0 "rules"
 no_a0_tables:a1k K t.k_a0 "tables"
 no_a0_places:a1k K t.k_a0 "places"
 no_a0_settled:a1k K t.k_a0 "settled"
 no_a0_many_answers:a1k K t.k_a0 "many_answers"
 no_a0_steps:a1k K t.k_a0 "steps"
 no_a0_changed:a1k K t.k_a0 "changed"
 mk_a0:Mk K t.k_a0 t.a_f6
 me_f0:Meth K t.k_a0 "fill_for" t.a_f0
 me_e9:Meth K t.k_a0 "go_over_all" t.a_e9
 me_f2:Meth K t.k_a0 "go_over" t.a_f2
 me_b9:Meth K t.k_a0 "count_step" t.a_b9
 me_f3:Meth K t.k_a0 "go_through" t.a_f3
 me_f1:Meth K t.k_a0 "goings_on" t.a_f1
 me_f4:Meth K t.k_a0 "by_answers" t.a_f4
 me_c1:Meth K t.k_a0 "table_for" t.a_c1
 me_e7:Meth K t.k_a0 "add_answer" t.a_e7
 F_c4:Fun K "__init__" "Row.__init__" b2k t.a_c4 t.d_c4
 b_c4:Binds K t.d_c4 ["self","lefts","rights"] []
 F_f7:Fun K "__init__" "Joining.__init__" a8b t.a_f7 t.d_f7
 b_f7:Binds K t.d_f7 ["self","puts","noted"] []
 F_e5:Fun K "join_terms" "Joining.join_terms" a4w t.a_e5 t.d_e5
 b_e5:Binds K t.d_e5 ["self","one","other"] []
 F_e8:Fun K "join_place" "Joining.join_place" a4x t.a_e8 t.d_e8
 b_e8:Binds K t.d_e8 ["self","one","other"] []
 F_c6:Fun K "put_for" "Joining.put_for" a6u t.a_c6 t.d_c6
 b_c6:Binds K t.d_c6 ["self","name","term"] []
 F_e6:Fun K "begin_kids" "Joining.begin_kids" a4y t.a_e6 t.d_e6
 b_e6:Binds K t.d_e6 ["self","left","right"] []
 F_c0:Fun K "path" "Joining.path" a6o t.a_c0 t.d_c0
 b_c0:Binds K t.d_c0 ["self"] []
 F_f5:Fun K "__init__" "Table.__init__" b0b t.a_f5 t.d_f5
 b_f5:Binds K t.d_f5 ["self","goal","layer"] []
 F_c3:Fun K "__init__" "Going.__init__" b0c t.a_c3 t.d_c3
 b_c3:Binds K t.d_c3 ["self","puts","done","reasons"] []
 F_f6:Fun K "__init__" "Filling.__init__" a8c t.a_f6 t.d_f6
 b_f6:Binds K t.d_f6 ["self","rules"] []
 F_f0:Fun K "fill_for" "Filling.fill_for" a6b t.a_f0 t.d_f0
 b_f0:Binds K t.d_f0 ["self","goal"] []
 F_e9:Fun K "go_over_all" "Filling.go_over_all" a3b t.a_e9 t.d_e9
 b_e9:Binds K t.d_e9 ["self"] []
 F_f2:Fun K "go_over" "Filling.go_over" a6v t.a_f2 t.d_f2
 b_f2:Binds K t.d_f2 ["self","table"] []
 F_b9:Fun K "count_step" "Filling.count_step" a4z t.a_b9 t.d_b9
 b_b9:Binds K t.d_b9 ["self"] []
 F_f3:Fun K "go_through" "Filling.go_through" a5a t.a_f3 t.d_f3
 b_f3:Binds K t.d_f3 ["self","table","rule","puts"] []
 F_f1:Fun K "goings_on" "Filling.goings_on" a5n t.a_f1 t.d_f1
 b_f1:Binds K t.d_f1 ["self","goal","going"] []
 F_f4:Fun K "by_answers" "Filling.by_answers" a5b t.a_f4 t.d_f4
 b_f4:Binds K t.d_f4 ["self","goal","going"] []
 F_c1:Fun K "table_for" "Filling.table_for" a5o t.a_c1 t.d_c1
 b_c1:Binds K t.d_c1 ["self","goal"] []
 F_e7:Fun K "add_answer" "Filling.add_answer" a3k t.a_e7 t.d_e7
 b_e7:Binds K t.d_e7 ["self","table","number","going"] []
 F_c2:Fun K "unknown" "unknown" b4f t.a_c2 t.d_c2
 b_c2:Binds K t.d_c2 ["name"] []
 m_c2:mg "unknown"=some (.ref t.a_c2)
 F_a9:Fun K "app" "app" s_a9 t.a_a9 t.d_a9
 b_a9:Binds K t.d_a9 ["sign","kids"] []
 m_a9:mg "app"=some (.ref t.a_a9)
 F_c9:Fun K "is_inner" "is_inner" b2l t.a_c9 t.d_c9
 b_c9:Binds K t.d_c9 ["sign"] []
 m_c9:mg "is_inner"=some (.ref t.a_c9)
 F_d7:Fun K "is_called" "is_called" a8k t.a_d7 t.d_d7
 b_d7:Binds K t.d_d7 ["text","firsts"] []
 m_d7:mg "is_called"=some (.ref t.a_d7)
 F_e3:Fun K "is_word" "is_word" b4g t.a_e3 t.d_e3
 b_e3:Binds K t.d_e3 ["text"] []
 m_e3:mg "is_word"=some (.ref t.a_e3)
 F_b7:Fun K "unknowns_of" "unknowns_of" a8x t.a_b7 t.d_b7
 b_b7:Binds K t.d_b7 ["terms"] []
 m_b7:mg "unknowns_of"=some (.ref t.a_b7)
 F_b0:Fun K "renamed" "renamed" b0n t.a_b0 t.d_b0
 b_b0:Binds K t.d_b0 ["term","names"] []
 m_b0:mg "renamed"=some (.ref t.a_b0)
 F_b3:Fun K "told_anew" "told_anew" a8l t.a_b3 t.d_b3
 b_b3:Binds K t.d_b3 ["terms"] []
 m_b3:mg "told_anew"=some (.ref t.a_b3)
 F_b2:Fun K "marked" "marked" b6s t.a_b2 t.d_b2
 b_b2:Binds K t.d_b2 ["term","n"] []
 m_b2:mg "marked"=some (.ref t.a_b2)
 F_b6:Fun K "is_named" "is_named" b2m t.a_b6 t.d_b6
 b_b6:Binds K t.d_b6 ["term"] []
 m_b6:mg "is_named"=some (.ref t.a_b6)
 F_d3:Fun K "check_no_keep" "check_no_keep" a5q t.a_d3 t.d_d3
 b_d3:Binds K t.d_d3 ["rules"] []
 m_d3:mg "check_no_keep"=some (.ref t.a_d3)
 F_a6:Fun K "word_of" "word_of" b4h t.a_a6 t.d_a6
 b_a6:Binds K t.d_a6 ["goal"] []
 m_a6:mg "word_of"=some (.ref t.a_a6)
 F_d8:Fun K "by_word" "by_word" b4i t.a_d8 t.d_d8
 b_d8:Binds K t.d_d8 ["rules"] []
 m_d8:mg "by_word"=some (.ref t.a_d8)
 F_c8:Fun K "leanings_of" "leanings_of" a8y t.a_c8 t.d_c8
 b_c8:Binds K t.d_c8 ["rules"] []
 m_c8:mg "leanings_of"=some (.ref t.a_c8)
 F_d9:Fun K "check_layered" "check_layered" a7j t.a_d9 t.d_d9
 b_d9:Binds K t.d_d9 ["leanings"] []
 m_d9:mg "check_layered"=some (.ref t.a_d9)
 F_c7:Fun K "raise_layers" "raise_layers" a8d t.a_c7 t.d_c7
 b_c7:Binds K t.d_c7 ["layers","leanings"] []
 m_c7:mg "raise_layers"=some (.ref t.a_c7)
 F_e1:Fun K "layers_of" "layers_of" b0v t.a_e1 t.d_e1
 b_e1:Binds K t.d_e1 ["rules"] []
 m_e1:mg "layers_of"=some (.ref t.a_e1)
 F_a8:Fun K "walked" "walked" b6t t.a_a8 t.d_a8
 b_a8:Binds K t.d_a8 ["term","puts"] []
 m_a8:mg "walked"=some (.ref t.a_a8)
 F_e0:Fun K "parts_up_to" "parts_up_to" a8z t.a_e0 t.d_e0
 b_e0:Binds K t.d_e0 ["term","puts","most"] []
 m_e0:mg "parts_up_to"=some (.ref t.a_e0)
 F_b1:Fun K "written_out" "written_out" a9a t.a_b1 t.d_b1
 b_b1:Binds K t.d_b1 ["term","puts"] []
 m_b1:mg "written_out"=some (.ref t.a_b1)
 F_b5:Fun K "put_in" "put_in" b2n t.a_b5 t.d_b5
 b_b5:Binds K t.d_b5 ["term","puts"] []
 m_b5:mg "put_in"=some (.ref t.a_b5)
 F_b4:Fun K "key_of" "key_of" b6u t.a_b4 t.d_b4
 b_b4:Binds K t.d_b4 ["term"] []
 m_b4:mg "key_of"=some (.ref t.a_b4)
 F_e2:Fun K "stands_within" "stands_within" a7k t.a_e2 t.d_e2
 b_e2:Binds K t.d_e2 ["name","term","puts"] []
 m_e2:mg "stands_within"=some (.ref t.a_e2)
 F_b8:Fun K "made_one" "made_one" b2o t.a_b8 t.d_b8
 b_b8:Binds K t.d_b8 ["one","other","puts"] []
 m_b8:mg "made_one"=some (.ref t.a_b8)
 F_c5:Fun K "fill" "fill" b8f t.a_c5 t.d_c5
 b_c5:Binds K t.d_c5 ["rules","goal"] []
 m_c5:mg "fill"=some (.ref t.a_c5)
 F_a7:Fun K "_law_cell_at" "_law_cell_at" b0w t.a_a7 t.d_a7
 b_a7:Binds K t.d_a7 ["_law_script","_law_k"] []
 m_a7:mg "_law_cell_at"=some (.ref t.a_a7)
 F_a3:Fun K "_law_pick" "_law_pick" b6v t.a_a3 t.d_a3
 b_a3:Binds K t.d_a3 ["_law_cell","_law_k","_law_many"] []
 m_a3:mg "_law_pick"=some (.ref t.a_a3)
 F_d1:Fun K "_law_words" "_law_words" b0o t.a_d1 t.d_d1
 b_d1:Binds K t.d_d1 ["_law_cell"] []
 m_d1:mg "_law_words"=some (.ref t.a_d1)
 F_d4:Fun K "_law_places" "_law_places" b2p t.a_d4 t.d_d4
 b_d4:Binds K t.d_d4 ["_law_cell","_law_words_here"] []
 m_d4:mg "_law_places"=some (.ref t.a_d4)
 F_e4:Fun K "_law_links" "_law_links" b4j t.a_e4 t.d_e4
 b_e4:Binds K t.d_e4 ["_law_script","_law_many"] []
 m_e4:mg "_law_links"=some (.ref t.a_e4)
 F_d2:Fun K "_law_rules" "_law_rules" b0p t.a_d2 t.d_d2
 b_d2:Binds K t.d_d2 ["_law_script","_law_words_here","_law_places_here","_law_links_here","_law_shape"] []
 m_d2:mg "_law_rules"=some (.ref t.a_d2)
 F_d0:Fun K "_law_reached" "_law_reached" b0x t.a_d0 t.d_d0
 b_d0:Binds K t.d_d0 ["_law_links_here","_law_at"] []
 m_d0:mg "_law_reached"=some (.ref t.a_d0)
 F_d5:Fun K "_law_due" "_law_due" b9r t.a_d5 t.d_d5
 b_d5:Binds K t.d_d5 ["_law_links_here","_law_words_here","_law_places_here","_law_asked"] []
 m_d5:mg "_law_due"=some (.ref t.a_d5)
 F_d6:Fun K "_law_told" "_law_told" b0d t.a_d6 t.d_d6
 b_d6:Binds K t.d_d6 ["_law_rules_here","_law_words_here","_law_places_here","_law_asked","_law_due_here"] []
 m_d6:mg "_law_told"=some (.ref t.a_d6)
 F_law:Fun K "law" "law" c1w t.a_law t.d_law
 b_law:Binds K t.d_law ["_law_script"] []
 m_law:mg "law"=some (.ref t.a_law)
 n_h9:mg "all"=none
 n_i1:mg "bool"=none
 n_i2:mg "dict"=none
 n_h5:mg "enumerate"=none
 n_g1:mg "int"=none
 n_g8:mg "isinstance"=none
 n_f8:mg "len"=none
 n_f9:mg "list"=none
 n_h6:mg "max"=none
 n_g0:mg "range"=none
 n_h3:mg "reversed"=none
 n_h8:mg "set"=none
 n_i0:mg "sorted"=none
 n_h7:mg "str"=none
 n_h4:mg "tuple"=none
 m_g7:mg "MOST_STEPS"=some (.int 300 t.t_g7)
 m_g5:mg "NOT"=some (.str "not" t.t_g5)
 m_h0:mg "MOST_TABLES"=some (.int 24 t.t_h0)
 m_g6:mg "MOST_ANSWERS"=some (.int 60 t.t_g6)
 m_g3:mg "SMALL"=some (.str "abcdefghijklmnopqrstuvwxyz" t.t_g3)
 m_g9:mg "GREAT"=some (.str "ABCDEFGHIJKLMNOPQRSTUVWXYZ" t.t_g9)
 m_h1:mg "FIGURES"=some (.str "0123456789" t.t_h1)
 m_h2:mg "MOST_LETTERS"=some (.int 12 t.t_h2)
 m_g2:mg "KEEP"=some (.str "keep" t.t_g2)
 m_g4:mg "MOST_PARTS"=some (.int 40 t.t_g4)
local macro_rules | `(tactic| exists $e:ident) => `(tactic| refine iteB (fun $e => ?_) (fun $e => ?_))
local macro_rules | `(tactic| exists $f:ident $a*) => `(tactic| (refine $f $a* ?_; walk_at "s"))
local macro_rules | `(tactic| exists $f:ident $a*, $sp:ident, $D, $H:ident, $Q:ident, $E:ident, $hr:ident, $h:ident) => `(tactic| (refine $f $a* (fun vs H Q E h => by unfold $sp at h; split at h <;> first | rfl | exact h.elim) (fun cdv A outer s $H vs $Q $E $hr $h => ?_); unfold $sp at $h:ident; split at $h:ident; rotate_left; exact ($h).elim; refine ⟨_, $D, ?_⟩))
mutual
def vin(xs:List Str):Trm->Prop
 | .num _=>True
 | .any x=>x∈xs
 | .app _ ks=>vinL xs ks
def vinL(xs:List Str):List Trm->Prop
 | []=>True
 |t::r=>vin xs t/\vinL xs r
end
theorem sIx_lo(n:Nat)(m:Int)(h:0<=m):HT.sIx n 0 (some m)=min m.toNat n:=by rw[<-sIx_to n m h];rfl
theorem c3r(us:List V)(m:Int)(h:0<=m):cutV us (some m) none=us.drop m.toNat:=by
 unfold cutV;rw[sIx_none,sIx_lo _ _ h]
 by_cases hm:m.toNat<=us.length
 ·rw[V5 hm,Y6 (by rw[W6];omega)]
 ·rw[Nat.min_eq_right qo,List.drop_length,List.drop_of_length_le qo]
  simp
theorem a3w(a b:List Trm):Trm.dataL (a++b)=Trm.dataL a++Trm.dataL b:=by rw[Trm.dataL_map,Trm.dataL_map,Trm.dataL_map,Zi]
theorem a1c{H H':Hp}{p:Addr}(s:Same H H')(h:H' p=none):H p=none:=by
 cases e:H p with
 |none=>rfl
 |some o=>rw[s _ _ e]at h;cases h
theorem d3p{K:FG}{p:Addr}{H H':Hp}{kv:List (Key×V)}(e:But p H H')(hp:H p=some (.dK kv)):∀a xs,SqT K H a xs->SqT K H' a xs:=λa xs h=>by
 rcases h with(h|⟨o,h⟩)|h
 ·exact .inl (.inl (e _ _ (λz=>by rw[z,hp]at h;cases h) h))
 ·exact .inl (.inr ⟨o,e _ _ (λz=>by rw[z,hp]at h;cases h) h⟩)
 ·exact .inr h
mutual
inductive Full(rows:Rws):Trm->Trm->Prop
 |num (n:Int):Full rows (.num n) (.num n)
 |no {x:Str}:a0w rows x=none->Full rows (.any x) (.any x)
 |yes {x:Str} {u t:Trm}:a0w rows x=some u->Full rows u t->Full rows (.any x) t
 |app {s:Str} {ks ls:List Trm}:a3e rows ks ls->Full rows (.app s ks) (.app s ls)
inductive a3e(rows:Rws):List Trm->List Trm->Prop
 |nil:a3e rows [] []
 |cons {t t':Trm} {r r':List Trm}:Full rows t t'->a3e rows r r'->a3e rows (t::r) (t'::r')
end
inductive Wlk(rows:Rws):Nat->Trm->Trm->Prop
 |stop {t:Trm}:(∀x,t=.any x->a0w rows x=none)->Wlk rows 0 t t
 |step {n:Nat} {x:Str} {u t:Trm}:a0w rows x=some u->Wlk rows n u t->Wlk rows (n+1) (.any x) t
def hnf(rows:Rws)(u:Trm):Prop:=∀x,u=.any x->a0w rows x=none
theorem Wlk.hnf{rows:Rws}:∀{n:Nat}{t u:Trm},Wlk rows n t u->hnf rows u
 |_,_,_,.stop h=>h
 |_,_,_,.step _ w=>w.hnf
theorem Full.walk{rows:Rws}:∀{t t':Trm},Full rows t t'->∃n u,Wlk rows n t u/\Full rows u t'
 |_,_,.num n=>⟨0,_,.stop (λx h=>by cases h),.num n⟩
 |_,_,.no h=>⟨0,_,.stop (λx e=>by cases e;exact h),.no h⟩
 |_,_,.yes h f=>by
  obtain⟨n,u,w,g⟩:=f.walk;exact⟨n+1,u,.step h w,g⟩
 |_,_,.app h=>⟨0,_,.stop (λx e=>by cases e),.app h⟩
theorem Wlk.size{rows:Rws}{B:Nat}(hr:∀r∈rows,r.2.size<=B):∀{n:Nat}{t u:Trm},Wlk rows n t u->t.size<=B->u.size<=B
 |_,_,_,.stop _,h=>h
 |_,_,_,.step e w,_=>w.size hr (hr _ (c2y e))
theorem a3e.len{rows:Rws}:∀{a b:List Trm},a3e rows a b->a.length=b.length
 |_,_,.nil=>rfl
 |_,_,.cons _ r=>by rw[length_cons,length_cons,r.len]
theorem a3e.append{rows:Rws}:∀{a b c d:List Trm},a3e rows a b->a3e rows c d->a3e rows (a++c) (b++d)
 |_,_,_,_,.nil,h=>h
 |_,_,_,_,.cons x r,h=>.cons x (r.append h)
theorem a3e.snoc{rows:Rws}:∀{a:List Trm}{x:Trm}{b:List Trm},a3e rows (a++[x]) b->∃b' y,b=b'++[y]/\a3e rows a b'/\Full rows x y
 | [],x,_,.cons h .nil=>⟨[],_,rfl,.nil,h⟩
 |_::a,x,_,.cons h r=>by
  obtain⟨b',y,rfl,h1,h2⟩:=a3e.snoc (a:=a) r;exact⟨_::b',y,rfl,.cons h h1,h2⟩
theorem b8j{s:Str}{ks:List Trm}{B:Nat}(h:(Trm.app s ks).size<=B):∀t∈ks,t.size<=B:=λt ht=>by
 obtain⟨a,b,rfl⟩:=Xm ht;simp only[Trm.size,Trm.sizeL_app,Trm.sizeL]at h;omega
theorem nil_or_snoc'{α:Type}(l:List α):l=[]\/∃r x,l=r++[x]:=by
 cases l.eq_nil_or_concat with
 |inl h=>exact .inl h
 |inr h=>obtain⟨r,x,h⟩:=h;exact .inr ⟨r,x,by simpa using h⟩
theorem q1:decide (numS=anyS)=false:=by decide+kernel
theorem q2:decide (appS=anyS)=false:=by decide+kernel
theorem q3:decide (anyS=anyS)=true:=by decide+kernel
theorem q4:decide (numS=appS)=false:=by decide+kernel
theorem q5:decide (anyS=appS)=false:=by decide+kernel
theorem q6:decide (appS=appS)=true:=by decide+kernel
theorem q7:decide (numS=numS)=true:=by decide+kernel
structure a2h(K:W.Frag)(H:Hp)(a:Addr)(rows:Rws):Prop where
 ex:∃kvs,H a=some (.dK kvs)/\a2l K H kvs rows
theorem a2h.mono{K:FG}{H H':Hp}{a:Addr}{rows:Rws}(h:a2h K H a rows)(s:Same H H'):a2h K H' a rows:=by
 obtain⟨kvs,h1,h2⟩:=h.ex;exact⟨kvs,s _ _ h1,h2.mono s⟩
theorem a2h.lst{K:FG}{H:Hp}{a p:Addr}{rows:Rws}{ys:List V}{o:HO}(h:a2h K H a rows)(hp:H p=some (.lst ys)):a2h K (upd H p o) a rows:=by
 obtain⟨kvs,h1,h2⟩:=h.ex;refine⟨kvs,?_,h2.monoT (b9h hp)⟩;rw[a0d (λz=>by rw[z,hp]at h1;cases h1)];exact h1
theorem a2h.get{K:FG}{H:Hp}{a:Addr}{rows:Rws}(h:a2h K H a rows)(x:Str):(a0w rows x=none/\DGet H a (.str x) none)\/∃t v,a0w rows x=some t/\DGet H a (.str x) (some v)/\Den K H v t.data:=by
 obtain⟨kvs,h1,h2⟩:=h.ex;rcases h2.get x with⟨c1,c2⟩|⟨t,v,c1,c2,c3⟩
 ·refine .inl ⟨c1,?_⟩;have:=DGet.k (k:=Sum.inr x) h1;rw[c2]at this;exact this
 ·refine .inr ⟨t,v,c1,?_,c3⟩;have:=DGet.k (k:=Sum.inr x) h1;rw[c2]at this;exact this
abbrev a7f(K:W.Frag):Sp:=λvs H Q _=>match vs with| [v,.ref pd]=>∃(rows:Rws)(t:Trm)(n:Nat)(u:Trm),a2h K H pd rows/\Den K H v t.data/\Wlk rows n t u/\∀v',Den K H v' u.data->Q v' H|_=>False
def upTo(n:Nat)(most:Int):Int:=if(n:Int)<=most then n else most+1
abbrev a8e(K:W.Frag):Sp:=λvs H Q _=>match vs with| [v,.ref pd,.int most]=>∃(rows:Rws)(t t':Trm),a2h K H pd rows/\Den K H v t.data/\Full rows t t'/\t.size<=70/\(∀r∈rows,r.2.size<=70)/\0<=most/\most<=1000/\∀H',Same H H'->Q (.int (upTo t'.size most)) H'|_=>False
def keyK:Trm->Option (List Key)
 | .num m=>some [Sum.inr numS,Sum.inl m]
 | .any _=>none
 | .app s ks=>some [Sum.inr appS,Sum.inr s,Sum.inl (ks.length:Int)]
def onK(H:Hp)(Q:VK):Option (List Key)->Prop
 |none=>Q .non H
 |some ks=>∀p H',Same H H'->H' p=some (.tup (ks.map kV))->Q (.ref p) H'
abbrev b4n(K:W.Frag):Sp:=λvs H Q _=>match vs with| [v]=>∃t:Trm,Den K H v t.data/\onK H Q (keyK t)|_=>False
theorem c3s{ls:List Trm}{i:Nat}{l:Trm}(h:ls[i]? =some l):l.size<=Trm.sizeL ls:=by
 have hi:=(Zy.mp h).1;have e:=Trm.sizeL_app (ls.take i) (ls.drop i);have hl:ls[i]=l:=(Zy.mp h).2;rw[Wb,Xk hi,Trm.sizeL,hl]at e;omega
abbrev a9d(K:W.Frag):Sp:=λvs H Q _=>match vs with| [.str x]=>∀(v:V)(H':Hp),Same H H'->Den K H' v (Trm.any x).data->Q v H'|_=>False
abbrev a6r(K:W.Frag):Sp:=λvs H Q _=>match vs with| [.ref a]=>∃(us:List V)(ts:List Trm),SqL K H a us/\DenL K H us (Trm.dataL ts)/\Trm.sizeL ts<=1000/\∀(p:Addr)(H':Hp),Same H H'->H p=none->H' p=some (.lst ((ordL ts []).map V.str))->Q (.ref p) H'|_=>False
abbrev a3x(K:W.Frag)(n:Nat):Sp:=λvs H Q _=>match vs with| [v,.ref d]=>∃(t:Trm)(as:As),Den K H v t.data/\H d=some (.dK (encS as))/\(∀x∈vars t,x∈as.map (·.1))/\t.size<=n/\n<=70/\∀(x:V)(H':Hp),Same H H'->Den K H' x (ren (sub as) t).data->Q x H'|_=>False
theorem c7l{K:FG}{H:Hp}{v:V}{d:Addr}{R:Trm->As->Prop}(h:∃(t:Trm)(as:As),Den K H v t.data/\H d=some (.dK (encS as))/\(∀x∈vars t,x∈as.map (·.1))/\t.size<=0/\0<=70/\R t as):False:=by
 obtain⟨t,_,_,_,_,z,_⟩:=h;have:=Trm.size_pos t;omega
abbrev a6g(K:W.Frag):Sp:=λvs H Q _=>match vs with| [.ref a]=>∃(us:List V)(ts:List Trm),SqL K H a us/\DenL K H us (Trm.dataL ts)/\Trm.sizeL ts<=1000/\(∀t∈ts,t.size<=70)/\∀(p:Addr)(us':List V)(H':Hp),Same H H'->H p=none->H' p=some (.lst us')->DenL K H' us' (Trm.dataL (anew ts))->Q (.ref p) H'|_=>False
abbrev a8t(K:W.Frag):Sp:=λvs H Q _=>match vs with| [v,.int n]=>∃t:Trm,Den K H v t.data/\t.size<=70/\0<=n/\n<10^30/\(∀x∈vars t,x.length<=1000)/\∀(x:V)(H':Hp),Same H H'->Den K H' x (ren (mrk n.toNat) t).data->Q x H'|_=>False
theorem tn_len{n:Nat}(h:n<10^30):(tn n).length<=30:=d2k qd h
theorem d0n{i:Int}(h0:0<=i)(h1:i<10^30):i.natAbs.log2<1920/\(ofString (toString i)).length<=1000/\ofString (toString i)=tn i.toNat:=by
 obtain⟨n,rfl⟩:=Int.eq_ofNat_of_zero_le h0;have e:ofString (toString (n:Int))=tn n:=d2l n;have hn:n<10^30:=by omega
 refine⟨?_,by rw[e];have:=tn_len hn;omega,e⟩
 show n.log2<1920
 rcases Rn n with z|z
 ·subst z;decide
 ·rw[Nat.log2_lt qo];exact Yc hn qk
theorem DenL.rev{K:FG}{H:Hp}:∀{us:List V}{ds:List PyData},DenL K H us ds->DenL K H us.reverse ds.reverse
 |_,_,.nil=>.nil
 |_,_,.cons a r=>by
  rw[Yj,Yj];exact(DenL.rev r).append (.cons a .nil)
theorem c0y(ts:List Trm):(Trm.dataL ts).reverse=Trm.dataL ts.reverse:=by rw[Trm.dataL_map,Trm.dataL_map,List.map_reverse]
theorem b4o:∀ts:List Trm,Trm.sizeL ts.reverse=Trm.sizeL ts
 | []=>rfl
 |k::ks=>by
  rw[Yj,Trm.sizeL_app,b4o ks];simp only[Trm.sizeL];omega
def encB(acc:List Str):List (Key×V):=acc.map λx=>(Sum.inr x,V.bl true)
theorem d3q(acc:List Str):(encB acc).length=acc.length:=by simp[encB]
theorem d3r(acc:List Str)(x:Str):((encB acc).any λkv=>decide (kv.1=Sum.inr x))=decide (x∈acc):=by
 by_cases h:x∈acc
 ·rw[Zw h,X4];exact⟨(Sum.inr x,V.bl true),Z1.mpr ⟨x,h,rfl⟩,qz⟩
 ·rw[Zs h,List.any_eq_false];intro kv hk e;obtain⟨y,hy,rfl⟩:=Z1.mp hk;exact h (by rw[<-V7 (Z5 e)];exact hy)
theorem d3s(acc:List Str)(x:Str):putK (encB acc) (Sum.inr x) (.bl true)=encB (ord (.any x) acc):=by
 rw[ord];unfold putK;rw[d3r]
 by_cases h:x∈acc
 ·rw[if_pos (Zw h),if_pos h];unfold encB;rw[Wm];refine S1 λy hy=>?_
  show(if(Sum.inr y:Key)=Sum.inr x then((Sum.inr y:Key),V.bl true)else(Sum.inr y,V.bl true))=(Sum.inr y,V.bl true)
  split<;>rfl
 ·rw[if_neg (by rw[Zs h];decide),if_neg h];unfold encB;rw[Zi];rfl
theorem d0o(acc:List Str):((encB acc).map λkv=>kV kv.1)=acc.map V.str:=by
 unfold encB;rw[Wm];rfl
theorem a6s{K:FG}{H:Hp}{us:List V}{ts:List Trm}{i:Nat}(h:DenL K H us (Trm.dataL ts))(hi:i<ts.length):∃hu:i<us.length,Den K H us[i] ts[i].data:=by
 have hl:=h.length;rw[Trm.dataL_map,length_map]at hl;have hu:i<us.length:=by omega
 refine⟨hu,?_⟩;obtain⟨d,e1,e2⟩:=h.get (Za hu);rw[Trm.dataL_map,Zv,Za hi]at e1;obtain rfl:ts[i].data=d:=Zl e1;exact e2
theorem getD_at{us:List V}{i:Nat}(h:i<us.length):us.getD i .non=us[i]:=by rw[Yd,Za h];rfl
theorem take_succ'{α:Type}{l:List α}{i:Nat}(h:i<l.length):l.take (i+1)=l.take i++[l[i]]:=by rw[We,Za h];rfl
theorem a5l{K:FG}{H:Hp}{us:List V}{ts:List Trm}(h:DenL K H us (Trm.dataL ts)):us.length=ts.length:=by
 have hl:=h.length;rwa[Trm.dataL_map,length_map]at hl
theorem b9t{p:Addr}{H0 H H':Hp}(s:Same H0 H)(b:But p H H')(n:H0 p=none):Same H0 H':=λa o e=>b a o (λz=>by rw[z,n]at e;cases e) (s a o e)
theorem b9u{p:Addr}{H:Hp}{o:HO}:But p H (upd H p o):=λb u hb e=>by rw[a0d hb];exact e
theorem a3e.get{rows:Rws}:∀{ks ls:List Trm}{i:Nat}{k:Trm},a3e rows ks ls->ks[i]? =some k->∃l,ls[i]? =some l/\Full rows k l
 |_,_,i,k,.nil,h=>by simp at h
 |_,_,0,k,.cons f _,h=>by
  simp only[Zx,Z9]at h;subst h;exact⟨_,rfl,f⟩
 |_,_,i+1,k,.cons _ r,h=>by
  obtain⟨l,h1,h2⟩:=a3e.get r (by simpa using h);exact⟨l,by simpa using h1,h2⟩
abbrev b1m(K:W.Frag):Sp:=λvs H Q _=>match vs with| [.str sg,.ref p]=>∃us ks,SqL K H p us/\DenL K H us (Trm.dataL ks)/\∀r H',Same H H'->Den K H' (.ref r) (Trm.app sg ks).data->Q (.ref r) H'|_=>False
abbrev a6h(K:W.Frag)(n:Nat):Sp:=λvs H Q _=>match vs with| [v,.ref pd]=>∃(rows:Rws)(t t':Trm),a2h K H pd rows/\Den K H v t.data/\Full rows t t'/\t'.size<=n/\n<=100/\∀x H',Same H H'->Den K H' x t'.data->Q x H'|_=>False
theorem d0p{K:FG}{H:Hp}{v:V}{pd:Addr}{R:Trm->Prop}(h:∃(rows:Rws)(t t':Trm),a2h K H pd rows/\Den K H v t.data/\Full rows t t'/\t'.size<=0/\0<=100/\R t'):False:=by
 obtain⟨_,_,t',_,_,_,z,_⟩:=h;have:=Trm.size_pos t';omega
abbrev a4l(K:W.Frag):Sp:=λvs H Q _=>match vs with| [v,.ref pd]=>∃(rows:Rws)(t t':Trm),a2h K H pd rows/\Den K H v t.data/\Full rows t t'/\t.size<=70/\(∀r∈rows,r.2.size<=70)/\t'.size<=40/\∀x H',Same H H'->Den K H' x t'.data->Q x H'|_=>False
abbrev a5h:Str:=ofString "abcdefghijklmnopqrstuvwxyz"
abbrev c9k:Str:=ofString "ABCDEFGHIJKLMNOPQRSTUVWXYZ"
abbrev figS:Str:=ofString "0123456789"
abbrev one(c:Nat):Str:=⟨#[c]⟩
def inner(c:Str):Bool:=inS c a5h|| (inS c c9k||inS c figS)
def fst(z:Str):Str:=one (z.cps.getD 0 0)
def called(z firsts:Str):Bool:=(decide ((1:Int)<=z.length)&&decide ((z.length:Int)<=12))&&(inS (fst z) firsts&&z.cps.toList.all λc=>inner (one c))
abbrev b0z:Sp:=λvs H Q _=>match vs with| [.str c]=>Q (.bl (inner c)) H|_=>False
abbrev b0g:Sp:=λvs H Q _=>match vs with| [.str z,.str f]=>z.length<=1000/\∀H',Same H H'->Q (.bl (called z f)) H'|_=>False
abbrev b2s:Sp:=λvs H Q _=>match vs with| [.str z]=>z.length<=1000/\∀H',Same H H'->Q (.bl (called z a5h)) H'|_=>False
theorem len_fst{z:Str}(h:0<z.length):atI z.cps.toList 0=some (z.cps.getD 0 0):=by
 obtain⟨v,h1,h2⟩:=a7i (xs:=z.cps.toList) (i:=0) qo (by simp only[Y1];unfold Str.length at h;omega);rw[h1];have h2:z.cps.toList[0]? =some v:=h2
 rw[Wc]at h2;rw[Wf,h2];rfl
theorem all_get(z:Str)(f:Nat->Bool):((List.range z.cps.size).map λk=>f (z.cps.getD k 0)).all id=z.cps.toList.all f:=by
 rw[Xo,Xn,Xn]
 constructor
 ·intro h c hc;obtain⟨i,hi,e⟩:=S2 hc;have hi':i<z.cps.size:=by simpa using hi
  have:=h (f (z.cps.getD i 0)) (Z1.mpr ⟨i,Y2.mpr hi',rfl⟩);rw[Wf,<-Wc,Za hi]at this
  simpa[e]using this
 ·intro h b hb;obtain⟨i,hi,rfl⟩:=Z1.mp hb;have hi:=Y2.mp hi;rw[Wf,Wp hi];exact h _ qz
abbrev b2t:Str:=ofString "keep"
abbrev notS:Str:=ofString "not"
abbrev eqS:Str:=ofString "="
structure Wd(s:Str):Prop where
 cl:called s a5h=true
 kp:s≠b2t
 nt:s≠notS
 eq:s≠eqS
 ln:s.length<=1000
abbrev nd(s:Str)(n:Nat):List Key:=[.inr s,.inl (n:Int)]
abbrev a8m(K:W.Frag):Sp:=λvs H Q _=>match vs with| [v]=>∃(s:Str)(ks:List Trm),Den K H v (Trm.app s ks).data/\Wd s/\∀H',Same H H'->Q (.bl true) H'|_=>False
abbrev a5d(K:W.Frag):Sp:=λvs H Q _=>match vs with| [v]=>∃(s:Str)(ks:List Trm),Den K H v (Trm.app s ks).data/\∀p H',Same H H'->H' p=some (.tup ((nd s ks.length).map kV))->Q (.ref p) H'|_=>False
noncomputable def cO(n q:Str)(a b c:Tok)(l m f:Int)(r:Addr)(x:Int)(s:Addr)(v w:Value)(u:Addr)(y:Int)(d:Tok):Obj:=.mk (.type "code") none (.fields (List.toArray ((.str n a)::(.str q b)::(.str "/claim/cut.py" c)::(.int l 0)::(.int m 0)::(.int 0 0)::(.int 0 0)::(.int f 0)::(.ref r)::(.bool true)::(.int x 0)::(.ref s)::.none::v::w::(.ref u)::(.int y 0)::(.int l 0)::(.str "/claim/cut.py" d)::[]))) #[]
noncomputable def fO(n q:Str)(s:Stmt)(m:Value)(c:Addr):Obj:=.mk (.type "function") none (.func (W.fnOf n q (b5f s) (b1f s) (a0i s) .none .none .none m none (.ref c) .none)) #[]
noncomputable def kb2(P:Params):Obj:=.mk .none none (.dict #[] 0) #[]
noncomputable def kb3(P:Params):Obj:=.mk (.type "dict") none (.dict (List.toArray ((.mk (keyHash P "__name__") (.str "__name__" 165) (.str "law_goaltrail_k64_rings_of_asking_end" 930))::(.mk (keyHash P "__doc__") (.str "__doc__" 166) .none)::(.mk (keyHash P "__package__") (.str "__package__" 167) .none)::(.mk (keyHash P "__loader__") (.str "__loader__" 168) (.builtin "__main__.__loader__#opaque"))::(.mk (keyHash P "__spec__") (.str "__spec__" 169) .none)::(.mk (keyHash P "__annotations__") (.str "__annotations__" 170) (.ref 6))::(.mk (keyHash P "__builtins__") (.str "__builtins__" 171) (.ref 4))::(.mk (keyHash P "__file__") (.str "__file__" 173) (.str "/claim/cut.py" 172))::(.mk (keyHash P "__cached__") (.str "__cached__" 174) .none)::(.mk (keyHash P "TrailError") (.str "TrailError" 217) (.ref 32))::(.mk (keyHash P "Big") (.str "Big" 233) (.ref 45))::(.mk (keyHash P "HasKeep") (.str "HasKeep" 249) (.ref 57))::(.mk (keyHash P "NotLayered") (.str "NotLayered" 276) (.ref 77))::(.mk (keyHash P "Fault") (.str "Fault" 303) (.ref 97))::(.mk (keyHash P "SMALL") (.str "SMALL" 307) (.str "abcdefghijklmnopqrstuvwxyz" 306))::(.mk (keyHash P "GREAT") (.str "GREAT" 309) (.str "ABCDEFGHIJKLMNOPQRSTUVWXYZ" 308))::(.mk (keyHash P "FIGURES") (.str "FIGURES" 311) (.str "0123456789" 310))::(.mk (keyHash P "MOST_LETTERS") (.str "MOST_LETTERS" 313) (.int 12 312))::(.mk (keyHash P "MOST_PARTS") (.str "MOST_PARTS" 315) (.int 40 314))::(.mk (keyHash P "num") (.str "num" 322) (.ref 106))::(.mk (keyHash P "unknown") (.str "unknown" 329) (.ref 113))::(.mk (keyHash P "app") (.str "app" 337) (.ref 120))::(.mk (keyHash P "is_inner") (.str "is_inner" 344) (.ref 127))::(.mk (keyHash P "is_called") (.str "is_called" 350) (.ref 132))::(.mk (keyHash P "is_word") (.str "is_word" 357) (.ref 139))::(.mk (keyHash P "unknowns_of") (.str "unknowns_of" 369) (.ref 146))::(.mk (keyHash P "renamed") (.str "renamed" 375) (.ref 151))::(.mk (keyHash P "told_anew") (.str "told_anew" 381) (.ref 156))::(.mk (keyHash P "marked") (.str "marked" 391) (.ref 163))::(.mk (keyHash P "KEEP") (.str "KEEP" 395) (.str "keep" 394))::(.mk (keyHash P "NOT") (.str "NOT" 397) (.str "not" 396))::(.mk (keyHash P "is_named") (.str "is_named" 404) (.ref 170))::(.mk (keyHash P "check_no_keep") (.str "check_no_keep" 410) (.ref 175))::(.mk (keyHash P "word_of") (.str "word_of" 417) (.ref 182))::(.mk (keyHash P "by_word") (.str "by_word" 428) (.ref 189))::(.mk (keyHash P "leanings_of") (.str "leanings_of" 440) (.ref 196))::(.mk (keyHash P "row_between") (.str "row_between" 454) (.ref 203))::(.mk (keyHash P "check_layered") (.str "check_layered" 463) (.ref 210))::(.mk (keyHash P "raise_layers") (.str "raise_layers" 474) (.ref 217))::(.mk (keyHash P "layers_of") (.str "layers_of" 485) (.ref 224))::(.mk (keyHash P "walked") (.str "walked" 496) (.ref 231))::(.mk (keyHash P "parts_up_to") (.str "parts_up_to" 508) (.ref 238))::(.mk (keyHash P "written_out") (.str "written_out" 516) (.ref 245))::(.mk (keyHash P "put_in") (.str "put_in" 522) (.ref 250))::(.mk (keyHash P "key_of") (.str "key_of" 531) (.ref 257))::(.mk (keyHash P "Row") (.str "Row" 565) (.ref 274))::(.mk (keyHash P "Joining") (.str "Joining" 644) (.ref 328))::(.mk (keyHash P "stands_within") (.str "stands_within" 656) (.ref 339))::(.mk (keyHash P "made_one") (.str "made_one" 667) (.ref 346))::(.mk (keyHash P "SUM_MARKS") (.str "SUM_MARKS" 675) (.ref 347))::(.mk (keyHash P "reckoned") (.str "reckoned" 684) (.ref 354))::(.mk (keyHash P "by_mark") (.str "by_mark" 693) (.ref 361))::(.mk (keyHash P "checked_near") (.str "checked_near" 700) (.ref 368))::(.mk (keyHash P "is_so") (.str "is_so" 709) (.ref 375))::(.mk (keyHash P "done_by_mark") (.str "done_by_mark" 721) (.ref 382))::(.mk (keyHash P "MOST_TABLES") (.str "MOST_TABLES" 725) (.int 24 724))::(.mk (keyHash P "MOST_ANSWERS") (.str "MOST_ANSWERS" 727) (.int 60 726))::(.mk (keyHash P "MOST_STEPS") (.str "MOST_STEPS" 729) (.int 300 728))::(.mk (keyHash P "Table") (.str "Table" 762) (.ref 399))::(.mk (keyHash P "Going") (.str "Going" 795) (.ref 420))::(.mk (keyHash P "Filling") (.str "Filling" 923) (.ref 507))::(.mk (keyHash P "fill") (.str "fill" 929) (.ref 516))::(.mk (keyHash P "_law_cell_at") (.str "_law_cell_at" 939) (.ref 523))::(.mk (keyHash P "_law_pick") (.str "_law_pick" 949) (.ref 530))::(.mk (keyHash P "_law_words") (.str "_law_words" 955) (.ref 535))::(.mk (keyHash P "_law_places") (.str "_law_places" 964) (.ref 542))::(.mk (keyHash P "_law_links") (.str "_law_links" 975) (.ref 549))::(.mk (keyHash P "_law_rules") (.str "_law_rules" 981) (.ref 554))::(.mk (keyHash P "_law_reached") (.str "_law_reached" 993) (.ref 561))::(.mk (keyHash P "_law_due") (.str "_law_due" 1006) (.ref 568))::(.mk (keyHash P "_law_told") (.str "_law_told" 1012) (.ref 573))::(.mk (keyHash P "law") (.str "law" 1018) (.ref 578))::[])) 72) #[]
noncomputable def kb22(P:Params):Obj:=.mk (.type "tuple") none (.seq #[(.int 0 201)] 0) #[]
noncomputable def kb31(P:Params):Obj:=.mk (.type "dict") none (.dict (List.toArray ((.mk (keyHash P "__module__") (.str "__module__" 196) (.str "goaltrail.errors" 187))::(.mk (keyHash P "__firstlineno__") (.str "__firstlineno__" 200) (.int 2 199))::(.mk (keyHash P "__init__") (.str "__init__" 210) (.ref 29))::(.mk (keyHash P "__static_attributes__") (.str "__static_attributes__" 212) (.ref 30))::(.mk (keyHash P "__weakref__") (.str "__weakref__" 214) (.ref 33))::(.mk (keyHash P "__doc__") (.str "__doc__" 215) .none)::[])) 3) #[]
noncomputable def kb32(P:Params):Obj:=.mk (.type "type") none (.cls (.mk "TrailError" [(.type "ValueError")] [(.ref 32),(.type "ValueError"),(.type "Exception"),(.type "BaseException"),(.type "object")] 31 "TrailError" Bool.true [] [(.ref 45),(.ref 57),(.ref 77),(.ref 97)] Bool.false none Bool.false)) (List.toArray ((some (.ref 15))::none::(some (.str "TrailError" 189))::(some (.str "TrailError" 197))::(some (.builtin "ValueError.__new__"))::(some (.bool true))::[]))
noncomputable def kb44(P:Params):Obj:=.mk (.type "dict") none (.dict #[(.mk (keyHash P "__module__") (.str "__module__" 225) (.str "goaltrail.errors" 187)),(.mk (keyHash P "__firstlineno__") (.str "__firstlineno__" 229) (.int 7 228)),(.mk (keyHash P "__static_attributes__") (.str "__static_attributes__" 230) (.ref 43)),(.mk (keyHash P "__doc__") (.str "__doc__" 231) .none)] 2) #[]
noncomputable def kb45(P:Params):Obj:=.mk (.type "type") none (.cls (.mk "Big" [(.ref 32)] [(.ref 45),(.ref 32),(.type "ValueError"),(.type "Exception"),(.type "BaseException"),(.type "object")] 44 "Big" Bool.true [] [] Bool.false none Bool.false)) (List.toArray ((some (.ref 36))::none::(some (.str "Big" 218))::(some (.str "Big" 226))::(some (.builtin "ValueError.__new__"))::(some (.bool true))::[]))
noncomputable def kb56(P:Params):Obj:=.mk (.type "dict") none (.dict #[(.mk (keyHash P "__module__") (.str "__module__" 241) (.str "goaltrail.errors" 187)),(.mk (keyHash P "__firstlineno__") (.str "__firstlineno__" 245) (.int 9 244)),(.mk (keyHash P "__static_attributes__") (.str "__static_attributes__" 246) (.ref 55)),(.mk (keyHash P "__doc__") (.str "__doc__" 247) .none)] 2) #[]
noncomputable def kb57(P:Params):Obj:=.mk (.type "type") none (.cls (.mk "HasKeep" [(.ref 32)] [(.ref 57),(.ref 32),(.type "ValueError"),(.type "Exception"),(.type "BaseException"),(.type "object")] 56 "HasKeep" Bool.true [] [] Bool.false none Bool.false)) (List.toArray ((some (.ref 48))::none::(some (.str "HasKeep" 234))::(some (.str "HasKeep" 242))::(some (.builtin "ValueError.__new__"))::(some (.bool true))::[]))
noncomputable def kb76(P:Params):Obj:=.mk (.type "dict") none (.dict (List.toArray ((.mk (keyHash P "__module__") (.str "__module__" 257) (.str "goaltrail.errors" 187))::(.mk (keyHash P "__firstlineno__") (.str "__firstlineno__" 261) (.int 11 260))::(.mk (keyHash P "__init__") (.str "__init__" 271) (.ref 74))::(.mk (keyHash P "__static_attributes__") (.str "__static_attributes__" 273) (.ref 75))::(.mk (keyHash P "__doc__") (.str "__doc__" 274) .none)::[])) 2) #[]
noncomputable def kb77(P:Params):Obj:=.mk (.type "type") none (.cls (.mk "NotLayered" [(.ref 32)] [(.ref 77),(.ref 32),(.type "ValueError"),(.type "Exception"),(.type "BaseException"),(.type "object")] 76 "NotLayered" Bool.true [] [] Bool.false none Bool.false)) (List.toArray ((some (.ref 60))::none::(some (.str "NotLayered" 250))::(some (.str "NotLayered" 258))::(some (.builtin "ValueError.__new__"))::(some (.bool true))::[]))
noncomputable def kb96(P:Params):Obj:=.mk (.type "dict") none (.dict (List.toArray ((.mk (keyHash P "__module__") (.str "__module__" 284) (.str "goaltrail.errors" 187))::(.mk (keyHash P "__firstlineno__") (.str "__firstlineno__" 288) (.int 16 287))::(.mk (keyHash P "__init__") (.str "__init__" 298) (.ref 94))::(.mk (keyHash P "__static_attributes__") (.str "__static_attributes__" 300) (.ref 95))::(.mk (keyHash P "__doc__") (.str "__doc__" 301) .none)::[])) 2) #[]
noncomputable def kb97(P:Params):Obj:=.mk (.type "type") none (.cls (.mk "Fault" [(.ref 32)] [(.ref 97),(.ref 32),(.type "ValueError"),(.type "Exception"),(.type "BaseException"),(.type "object")] 96 "Fault" Bool.true [] [] Bool.false none Bool.false)) (List.toArray ((some (.ref 80))::none::(some (.str "Fault" 277))::(some (.str "Fault" 285))::(some (.builtin "ValueError.__new__"))::(some (.bool true))::[]))
noncomputable def kb273(P:Params):Obj:=.mk (.type "dict") none (.dict (List.toArray ((.mk (keyHash P "__module__") (.str "__module__" 541) (.str "goaltrail.ones" 532))::(.mk (keyHash P "__firstlineno__") (.str "__firstlineno__" 545) (.int 168 544))::(.mk (keyHash P "__init__") (.str "__init__" 554) (.ref 271))::(.mk (keyHash P "__static_attributes__") (.str "__static_attributes__" 558) (.ref 272))::(.mk (keyHash P "__dict__") (.str "__dict__" 560) (.ref 275))::(.mk (keyHash P "__weakref__") (.str "__weakref__" 562) (.ref 276))::(.mk (keyHash P "__doc__") (.str "__doc__" 563) .none)::[])) 4) #[]
noncomputable def kb274(P:Params):Obj:=.mk (.type "type") none (.cls (.mk "Row" [(.type "object")] [(.ref 274),(.type "object")] 273 "Row" Bool.true [] [] Bool.false none Bool.false)) (List.toArray (none::none::(some (.str "Row" 534))::(some (.str "Row" 542))::(some (.builtin "object.__new__"))::(some (.bool true))::[]))
noncomputable def kb327(P:Params):Obj:=.mk (.type "dict") none (.dict (List.toArray ((.mk (keyHash P "__module__") (.str "__module__" 573) (.str "goaltrail.ones" 532))::(.mk (keyHash P "__firstlineno__") (.str "__firstlineno__" 577) (.int 174 576))::(.mk (keyHash P "__init__") (.str "__init__" 586) (.ref 292))::(.mk (keyHash P "join_terms") (.str "join_terms" 597) (.ref 299))::(.mk (keyHash P "join_place") (.str "join_place" 608) (.ref 306))::(.mk (keyHash P "put_for") (.str "put_for" 617) (.ref 313))::(.mk (keyHash P "begin_kids") (.str "begin_kids" 626) (.ref 320))::(.mk (keyHash P "path") (.str "path" 632) (.ref 325))::(.mk (keyHash P "__static_attributes__") (.str "__static_attributes__" 637) (.ref 326))::(.mk (keyHash P "__dict__") (.str "__dict__" 639) (.ref 329))::(.mk (keyHash P "__weakref__") (.str "__weakref__" 641) (.ref 330))::(.mk (keyHash P "__doc__") (.str "__doc__" 642) .none)::[])) 4) #[]
noncomputable def kb328(P:Params):Obj:=.mk (.type "type") none (.cls (.mk "Joining" [(.type "object")] [(.ref 328),(.type "object")] 327 "Joining" Bool.true [] [] Bool.false none Bool.false)) (List.toArray (none::none::(some (.str "Joining" 566))::(some (.str "Joining" 574))::(some (.builtin "object.__new__"))::(some (.bool true))::[]))
noncomputable def kb398(P:Params):Obj:=.mk (.type "dict") none (.dict (List.toArray ((.mk (keyHash P "__module__") (.str "__module__" 737) (.str "goaltrail.tables" 722))::(.mk (keyHash P "__firstlineno__") (.str "__firstlineno__" 741) (.int 282 740))::(.mk (keyHash P "__init__") (.str "__init__" 750) (.ref 396))::(.mk (keyHash P "__static_attributes__") (.str "__static_attributes__" 755) (.ref 397))::(.mk (keyHash P "__dict__") (.str "__dict__" 757) (.ref 400))::(.mk (keyHash P "__weakref__") (.str "__weakref__" 759) (.ref 401))::(.mk (keyHash P "__doc__") (.str "__doc__" 760) .none)::[])) 4) #[]
noncomputable def kb399(P:Params):Obj:=.mk (.type "type") none (.cls (.mk "Table" [(.type "object")] [(.ref 399),(.type "object")] 398 "Table" Bool.true [] [] Bool.false none Bool.false)) (List.toArray (none::none::(some (.str "Table" 730))::(some (.str "Table" 738))::(some (.builtin "object.__new__"))::(some (.bool true))::[]))
noncomputable def kb419(P:Params):Obj:=.mk (.type "dict") none (.dict (List.toArray ((.mk (keyHash P "__module__") (.str "__module__" 770) (.str "goaltrail.tables" 722))::(.mk (keyHash P "__firstlineno__") (.str "__firstlineno__" 774) (.int 289 773))::(.mk (keyHash P "__init__") (.str "__init__" 784) (.ref 417))::(.mk (keyHash P "__static_attributes__") (.str "__static_attributes__" 788) (.ref 418))::(.mk (keyHash P "__dict__") (.str "__dict__" 790) (.ref 421))::(.mk (keyHash P "__weakref__") (.str "__weakref__" 792) (.ref 422))::(.mk (keyHash P "__doc__") (.str "__doc__" 793) .none)::[])) 4) #[]
noncomputable def kb420(P:Params):Obj:=.mk (.type "type") none (.cls (.mk "Going" [(.type "object")] [(.ref 420),(.type "object")] 419 "Going" Bool.true [] [] Bool.false none Bool.false)) (List.toArray (none::none::(some (.str "Going" 763))::(some (.str "Going" 771))::(some (.builtin "object.__new__"))::(some (.bool true))::[]))
noncomputable def kb506(P:Params):Obj:=.mk (.type "dict") none (.dict (List.toArray ((.mk (keyHash P "__module__") (.str "__module__" 803) (.str "goaltrail.tables" 722))::(.mk (keyHash P "__firstlineno__") (.str "__firstlineno__" 807) (.int 295 806))::(.mk (keyHash P "__init__") (.str "__init__" 815) (.ref 438))::(.mk (keyHash P "fill_for") (.str "fill_for" 823) (.ref 445))::(.mk (keyHash P "go_over_all") (.str "go_over_all" 829) (.ref 450))::(.mk (keyHash P "go_over") (.str "go_over" 839) (.ref 457))::(.mk (keyHash P "count_step") (.str "count_step" 846) (.ref 464))::(.mk (keyHash P "go_through") (.str "go_through" 859) (.ref 471))::(.mk (keyHash P "goings_on") (.str "goings_on" 869) (.ref 478))::(.mk (keyHash P "by_answers") (.str "by_answers" 883) (.ref 485))::(.mk (keyHash P "is_empty") (.str "is_empty" 892) (.ref 492))::(.mk (keyHash P "table_for") (.str "table_for" 901) (.ref 499))::(.mk (keyHash P "add_answer") (.str "add_answer" 907) (.ref 504))::(.mk (keyHash P "__static_attributes__") (.str "__static_attributes__" 916) (.ref 505))::(.mk (keyHash P "__dict__") (.str "__dict__" 918) (.ref 508))::(.mk (keyHash P "__weakref__") (.str "__weakref__" 920) (.ref 509))::(.mk (keyHash P "__doc__") (.str "__doc__" 921) .none)::[])) 4) #[]
noncomputable def kb507(P:Params):Obj:=.mk (.type "type") none (.cls (.mk "Filling" [(.type "object")] [(.ref 507),(.type "object")] 506 "Filling" Bool.true [] [] Bool.false none Bool.false)) (List.toArray (none::none::(some (.str "Filling" 796))::(some (.str "Filling" 804))::(some (.builtin "object.__new__"))::(some (.bool true))::[]))
noncomputable def KK:Params->W.Frag:=λP=>(nat_lit 2,kb2 P)::(nat_lit 3,kb3 P)::(nat_lit 22,kb22 P)::(nat_lit 31,kb31 P)::(nat_lit 32,kb32 P)::(nat_lit 44,kb44 P)::(nat_lit 45,kb45 P)::(nat_lit 56,kb56 P)::(nat_lit 57,kb57 P)::(nat_lit 76,kb76 P)::(nat_lit 77,kb77 P)::(nat_lit 96,kb96 P)::(nat_lit 97,kb97 P)::(nat_lit 112,cO "unknown" "unknown" 323 324 325 29 1 3 107 181 108 (.ref 109) (.ref 110) 111 327 328)::(nat_lit 113,fO "unknown" "unknown" b4f (.str "goaltrail.terms" 304) 112)::(nat_lit 119,cO "app" "app" 330 331 332 31 2 3 114 181 115 (.ref 116) (.ref 117) 118 335 336)::(nat_lit 120,fO "app" "app" s_a9 (.str "goaltrail.terms" 304) 119)::(nat_lit 126,cO "is_inner" "is_inner" 338 339 340 33 1 3 121 181 122 (.ref 123) (.ref 124) 125 342 343)::(nat_lit 127,fO "is_inner" "is_inner" b2l (.str "goaltrail.terms" 304) 126)::(nat_lit 131,cO "is_called" "is_called" 345 346 347 35 2 3 128 181 129 .none .none 130 348 349)::(nat_lit 132,fO "is_called" "is_called" a8k (.str "goaltrail.terms" 304) 131)::(nat_lit 138,cO "is_word" "is_word" 351 352 353 39 1 3 133 181 134 (.ref 135) (.ref 136) 137 355 356)::(nat_lit 139,fO "is_word" "is_word" b4g (.str "goaltrail.terms" 304) 138)::(nat_lit 145,cO "unknowns_of" "unknowns_of" 360 361 362 42 1 3 140 181 141 (.ref 142) (.ref 143) 144 367 368)::(nat_lit 146,fO "unknowns_of" "unknowns_of" a8x (.str "goaltrail.names" 358) 145)::(nat_lit 150,cO "renamed" "renamed" 370 371 372 52 2 3 147 181 148 .none .none 149 373 374)::(nat_lit 151,fO "renamed" "renamed" b0n (.str "goaltrail.names" 358) 150)::(nat_lit 155,cO "told_anew" "told_anew" 376 377 378 58 1 3 152 181 153 .none .none 154 379 380)::(nat_lit 156,fO "told_anew" "told_anew" a8l (.str "goaltrail.names" 358) 155)::(nat_lit 162,cO "marked" "marked" 382 383 384 64 2 3 157 181 158 (.ref 159) (.ref 160) 161 389 390)::(nat_lit 163,fO "marked" "marked" b6s (.str "goaltrail.names" 358) 162)::(nat_lit 169,cO "is_named" "is_named" 398 399 400 72 1 3 164 181 165 (.ref 166) (.ref 167) 168 402 403)::(nat_lit 170,fO "is_named" "is_named" b2m (.str "goaltrail.rules" 392) 169)::(nat_lit 174,cO "check_no_keep" "check_no_keep" 405 406 407 74 1 3 171 181 172 .none .none 173 408 409)::(nat_lit 175,fO "check_no_keep" "check_no_keep" a5q (.str "goaltrail.rules" 392) 174)::(nat_lit 181,cO "word_of" "word_of" 411 412 413 78 1 3 176 181 177 (.ref 178) (.ref 179) 180 415 416)::(nat_lit 182,fO "word_of" "word_of" b4h (.str "goaltrail.rules" 392) 181)::(nat_lit 188,cO "by_word" "by_word" 418 419 420 80 1 3 183 181 184 (.ref 185) (.ref 186) 187 426 427)::(nat_lit 189,fO "by_word" "by_word" b4i (.str "goaltrail.rules" 392) 188)::(nat_lit 195,cO "leanings_of" "leanings_of" 431 432 433 87 1 3 190 181 191 (.ref 192) (.ref 193) 194 438 439)::(nat_lit 196,fO "leanings_of" "leanings_of" a8y (.str "goaltrail.layers" 429) 195)::(nat_lit 209,cO "check_layered" "check_layered" 455 456 457 109 1 3 204 181 205 (.ref 206) (.ref 207) 208 461 462)::(nat_lit 210,fO "check_layered" "check_layered" a7j (.str "goaltrail.layers" 429) 209)::(nat_lit 216,cO "raise_layers" "raise_layers" 464 465 466 115 2 3 211 181 212 (.ref 213) (.ref 214) 215 472 473)::(nat_lit 217,fO "raise_layers" "raise_layers" a8d (.str "goaltrail.layers" 429) 216)::(nat_lit 223,cO "layers_of" "layers_of" 475 476 477 123 1 3 218 181 219 (.ref 220) (.ref 221) 222 483 484)::(nat_lit 224,fO "layers_of" "layers_of" b0v (.str "goaltrail.layers" 429) 223)::(nat_lit 230,cO "walked" "walked" 488 489 490 135 2 3 225 181 226 (.ref 227) (.ref 228) 229 494 495)::(nat_lit 231,fO "walked" "walked" b6t (.str "goaltrail.puts" 486) 230)::(nat_lit 237,cO "parts_up_to" "parts_up_to" 497 498 499 140 3 3 232 181 233 (.ref 234) (.ref 235) 236 506 507)::(nat_lit 238,fO "parts_up_to" "parts_up_to" a8z (.str "goaltrail.puts" 486) 237)::(nat_lit 244,cO "written_out" "written_out" 509 510 511 151 2 3 239 181 240 (.ref 241) (.ref 242) 243 514 515)::(nat_lit 245,fO "written_out" "written_out" a9a (.str "goaltrail.puts" 486) 244)::(nat_lit 249,cO "put_in" "put_in" 517 518 519 155 2 3 246 181 247 .none .none 248 520 521)::(nat_lit 250,fO "put_in" "put_in" b2n (.str "goaltrail.puts" 486) 249)::(nat_lit 256,cO "key_of" "key_of" 525 526 527 161 1 3 251 181 252 (.ref 253) (.ref 254) 255 529 530)::(nat_lit 257,fO "key_of" "key_of" b6u (.str "goaltrail.switches" 523) 256)::(nat_lit 270,cO "__init__" "Row.__init__" 546 547 548 170 3 3 265 181 266 (.ref 267) (.ref 268) 269 552 553)::(nat_lit 271,fO "__init__" "Row.__init__" b2k (.str "goaltrail.ones" 532) 270)::(nat_lit 273,kb273 P)::(nat_lit 274,kb274 P)::(nat_lit 291,cO "__init__" "Joining.__init__" 578 579 580 176 3 3 286 181 287 (.ref 288) (.ref 289) 290 584 585)::(nat_lit 292,fO "__init__" "Joining.__init__" a8b (.str "goaltrail.ones" 532) 291)::(nat_lit 298,cO "join_terms" "Joining.join_terms" 587 588 589 182 3 3 293 181 294 (.ref 295) (.ref 296) 297 595 596)::(nat_lit 299,fO "join_terms" "Joining.join_terms" a4w (.str "goaltrail.ones" 532) 298)::(nat_lit 305,cO "join_place" "Joining.join_place" 598 599 600 194 3 3 300 181 301 (.ref 302) (.ref 303) 304 606 607)::(nat_lit 306,fO "join_place" "Joining.join_place" a4x (.str "goaltrail.ones" 532) 305)::(nat_lit 312,cO "put_for" "Joining.put_for" 609 610 611 208 3 3 307 181 308 (.ref 309) (.ref 310) 311 615 616)::(nat_lit 313,fO "put_for" "Joining.put_for" a6u (.str "goaltrail.ones" 532) 312)::(nat_lit 319,cO "begin_kids" "Joining.begin_kids" 618 619 620 215 3 3 314 181 315 (.ref 316) (.ref 317) 318 624 625)::(nat_lit 320,fO "begin_kids" "Joining.begin_kids" a4y (.str "goaltrail.ones" 532) 319)::(nat_lit 324,cO "path" "Joining.path" 627 628 629 220 1 3 321 181 322 .none .none 323 630 631)::(nat_lit 325,fO "path" "Joining.path" a6o (.str "goaltrail.ones" 532) 324)::(nat_lit 327,kb327 P)::(nat_lit 328,kb328 P)::(nat_lit 338,cO "stands_within" "stands_within" 645 646 647 222 3 3 333 181 334 (.ref 335) (.ref 336) 337 654 655)::(nat_lit 339,fO "stands_within" "stands_within" a7k (.str "goaltrail.ones" 532) 338)::(nat_lit 345,cO "made_one" "made_one" 657 658 659 235 3 3 340 181 341 (.ref 342) (.ref 343) 344 665 666)::(nat_lit 346,fO "made_one" "made_one" b2o (.str "goaltrail.ones" 532) 345)::(nat_lit 395,cO "__init__" "Table.__init__" 742 743 744 284 3 3 390 181 391 (.ref 392) (.ref 393) 394 748 749)::(nat_lit 396,fO "__init__" "Table.__init__" b0b (.str "goaltrail.tables" 722) 395)::(nat_lit 398,kb398 P)::(nat_lit 399,kb399 P)::(nat_lit 416,cO "__init__" "Going.__init__" 775 776 777 291 4 3 411 181 412 (.ref 413) (.ref 414) 415 782 783)::(nat_lit 417,fO "__init__" "Going.__init__" b0c (.str "goaltrail.tables" 722) 416)::(nat_lit 419,kb419 P)::(nat_lit 420,kb420 P)::(nat_lit 437,cO "__init__" "Filling.__init__" 808 809 810 297 2 3 432 181 433 (.ref 434) (.ref 435) 436 813 814)::(nat_lit 438,fO "__init__" "Filling.__init__" a8c (.str "goaltrail.tables" 722) 437)::(nat_lit 444,cO "fill_for" "Filling.fill_for" 816 817 818 307 2 3 439 181 440 (.ref 441) (.ref 442) 443 821 822)::(nat_lit 445,fO "fill_for" "Filling.fill_for" a6b (.str "goaltrail.tables" 722) 444)::(nat_lit 449,cO "go_over_all" "Filling.go_over_all" 824 825 826 313 1 3 446 181 447 .none .none 448 827 828)::(nat_lit 450,fO "go_over_all" "Filling.go_over_all" a3b (.str "goaltrail.tables" 722) 449)::(nat_lit 456,cO "go_over" "Filling.go_over" 830 831 832 323 2 3 451 181 452 (.ref 453) (.ref 454) 455 837 838)::(nat_lit 457,fO "go_over" "Filling.go_over" a6v (.str "goaltrail.tables" 722) 456)::(nat_lit 463,cO "count_step" "Filling.count_step" 840 841 842 330 1 3 458 181 459 (.ref 460) (.ref 461) 462 844 845)::(nat_lit 464,fO "count_step" "Filling.count_step" a4z (.str "goaltrail.tables" 722) 463)::(nat_lit 470,cO "go_through" "Filling.go_through" 847 848 849 335 4 3 465 181 466 (.ref 467) (.ref 468) 469 857 858)::(nat_lit 471,fO "go_through" "Filling.go_through" a5a (.str "goaltrail.tables" 722) 470)::(nat_lit 477,cO "goings_on" "Filling.goings_on" 860 861 862 345 3 3 472 181 473 (.ref 474) (.ref 475) 476 867 868)::(nat_lit 478,fO "goings_on" "Filling.goings_on" a5n (.str "goaltrail.tables" 722) 477)::(nat_lit 484,cO "by_answers" "Filling.by_answers" 870 871 872 353 3 3 479 181 480 (.ref 481) (.ref 482) 483 881 882)::(nat_lit 485,fO "by_answers" "Filling.by_answers" a5b (.str "goaltrail.tables" 722) 484)::(nat_lit 498,cO "table_for" "Filling.table_for" 893 894 895 368 2 3 493 181 494 (.ref 495) (.ref 496) 497 899 900)::(nat_lit 499,fO "table_for" "Filling.table_for" a5o (.str "goaltrail.tables" 722) 498)::(nat_lit 503,cO "add_answer" "Filling.add_answer" 902 903 904 378 4 3 500 181 501 .none .none 502 905 906)::(nat_lit 504,fO "add_answer" "Filling.add_answer" a3k (.str "goaltrail.tables" 722) 503)::(nat_lit 506,kb506 P)::(nat_lit 507,kb507 P)::(nat_lit 515,cO "fill" "fill" 924 925 926 389 2 3 512 181 513 .none .none 514 927 928)::(nat_lit 516,fO "fill" "fill" b8f (.str "goaltrail.tables" 722) 515)::(nat_lit 522,cO "_law_cell_at" "_law_cell_at" 932 933 934 400 2 3 517 181 518 (.ref 519) (.ref 520) 521 937 938)::(nat_lit 523,fO "_law_cell_at" "_law_cell_at" b0w (.str "law_goaltrail_k64_rings_of_asking_end" 930) 522)::(nat_lit 529,cO "_law_pick" "_law_pick" 940 941 942 404 3 3 524 181 525 (.ref 526) (.ref 527) 528 947 948)::(nat_lit 530,fO "_law_pick" "_law_pick" b6v (.str "law_goaltrail_k64_rings_of_asking_end" 930) 529)::(nat_lit 534,cO "_law_words" "_law_words" 950 951 952 407 1 3 531 181 532 .none .none 533 953 954)::(nat_lit 535,fO "_law_words" "_law_words" b0o (.str "law_goaltrail_k64_rings_of_asking_end" 930) 534)::(nat_lit 541,cO "_law_places" "_law_places" 956 957 958 420 2 3 536 181 537 (.ref 538) (.ref 539) 540 962 963)::(nat_lit 542,fO "_law_places" "_law_places" b2p (.str "law_goaltrail_k64_rings_of_asking_end" 930) 541)::(nat_lit 548,cO "_law_links" "_law_links" 965 966 967 423 2 3 543 181 544 (.ref 545) (.ref 546) 547 973 974)::(nat_lit 549,fO "_law_links" "_law_links" b4j (.str "law_goaltrail_k64_rings_of_asking_end" 930) 548)::(nat_lit 553,cO "_law_rules" "_law_rules" 976 977 978 429 5 3 550 181 551 .none .none 552 979 980)::(nat_lit 554,fO "_law_rules" "_law_rules" b0p (.str "law_goaltrail_k64_rings_of_asking_end" 930) 553)::(nat_lit 560,cO "_law_reached" "_law_reached" 982 983 984 439 2 3 555 181 556 (.ref 557) (.ref 558) 559 991 992)::(nat_lit 561,fO "_law_reached" "_law_reached" b0x (.str "law_goaltrail_k64_rings_of_asking_end" 930) 560)::(nat_lit 567,cO "_law_due" "_law_due" 994 995 996 446 4 3 562 181 563 (.ref 564) (.ref 565) 566 1004 1005)::(nat_lit 568,fO "_law_due" "_law_due" b9r (.str "law_goaltrail_k64_rings_of_asking_end" 930) 567)::(nat_lit 572,cO "_law_told" "_law_told" 1007 1008 1009 453 5 3 569 181 570 .none .none 571 1010 1011)::(nat_lit 573,fO "_law_told" "_law_told" b0d (.str "law_goaltrail_k64_rings_of_asking_end" 930) 572)::(nat_lit 577,cO "law" "law" 1013 1014 1015 468 1 3 574 181 575 .none .none 576 1016 1017)::(nat_lit 578,fO "law" "law" c1w (.str "law_goaltrail_k64_rings_of_asking_end" 930) 577)::[]
noncomputable def prog:Program:=PySem.Challenge.pw_goaltrail_k64_rings_of_asking_end
noncomputable def Q:Program:=W.view prog [1,2,3,4,5,7,8,9,10,11,12,13,14,15,16,17,19,20,21,22,24,25,26,27,28,29,31,32,33,34,35,37,38,39,40,42,44,45,46,47,49,50,51,52,53,55,57,58,59,60,61,62,63,65,66,67,68,69,70,71,72,73,74]
noncomputable def loose:List Str:=["TrailError","NotLayered","Fault"]
noncomputable def Xt(s:Shared):Bool:=W.xlAt Q [] s&&W.recOk [] s
noncomputable def ads:List Addr:=[2,3,22,31,32,44,45,56,57,76,77,96,97,112,113,119,120,126,127,131,132,138,139,145,146,150,151,155,156,162,163,169,170,174,175,181,182,188,189,195,196,209,210,216,217,223,224,230,231,237,238,244,245,249,250,256,257,270,271,273,274,291,292,298,299,305,306,312,313,319,320,324,325,327,328,338,339,345,346,395,396,398,399,416,417,419,420,437,438,444,445,449,450,456,457,463,464,470,471,477,478,484,485,498,499,503,504,506,507,515,516,522,523,529,530,534,535,541,542,548,549,553,554,560,561,567,568,572,573,577,578]
theorem run1:∀w:World,(λos=>(W.segRunT treeTable prog w 11 (some (.ref 6)) 0 4279 (bootS w os) (W.topStub prog)).map λr=>looks prog Q loose Xt (λs=>ads.map s.heap.get?) true (W.boot_heap w.params) r.2.1.abs)=λ_=>some (true,W.openGood Q loose,(KK w.params).map λp=>some p.2):=by
 intro w
 delta Xt Q loose
 rw[W.Fast.te10110043849684766642,W.Fast.te14364793385576792824,W.Fast.te2530740449226627131,W.Fast.te3486900944545009338,W.Fast.te10845986317416049621,W.Fast.te5655336392911312201,W.Fast.te4757257242682413121,W.Fast.te6483871617321286689,W.Fast.te15055690906229335287]
 kernel_rfl
theorem left1:W.LeftO prog Q loose Xt (λs=>ads.map s.heap.get?) (λw=>(KK w.params).map λp=>some p.2) 4279:=left_of (by kernel_rfl) qd (λ_=>by kernel_rfl) c9b qd run1
theorem said1:PySem.Challenge.rw_goaltrail_k64_rings_of_asking_end.wellSaid=true:=by
 w_on
 rw[W.Fast.te9446332074065402090]
 kernel_rfl
def nany:Trm->Bool
 | .any _=>false
 |_=>true
def keyL(t:Trm):List Key:=(keyK t).getD []
theorem a1x{t:Trm}(h:nany t=true):keyK t=some (keyL t):=by
 cases t with
 |num n=>rfl
 |any x=>cases h
 |app s ks=>rfl
structure a8n(x:Str)(rows:Rws)(t:Trm):Prop where
 sz:t.size<=60
 no:x∉vars t
 fr:∀y∈vars t,a0w rows y=none
abbrev partS:Str:=ofString "part"
def kD:Key->PyData
 | .inl i=>.int i
 | .inr x=>.str x
abbrev b2u:Str:=ofString "puts"
abbrev b1n:Str:=ofString "noted"
abbrev b8k:Str:=ofString "rows"
abbrev metN:Str:=ofString "met"
abbrev a3y:Str:=ofString "lefts"
abbrev a3s:Str:=ofString "rights"
abbrev a5i:Str:=ofString "taken"
theorem a5m{f:Str}{v:V}:∀{fs:List (Str×V)}{n:Nat},fs.length<n->(putF f v fs).length<n+1
 | [],n,h=>by show 1<n+1;exact Nat.succ_lt_succ h
 | (g,x)::r,n,h=>by
  rw[putF]
  split
  ·exact Xy h
  ·cases n with
   |zero=>cases h
   |succ n=>exact Nat.succ_lt_succ (a5m (Nat.lt_of_succ_lt_succ h))
theorem b4p{n:Nat}:([]:List (Str×V)).length<n+1:=Nat.succ_pos n
structure RwO where
 r:Addr
 dr:Addr
 a:V
 b:V
 k:Int
def RwO.ob(CR:Addr)(q:RwO):HO:=.ins CR q.dr [(a3y,q.a),(a3s,q.b),(a5i,.int q.k)]
def jF(pd nl rl md:Addr):List (Str×V):=[(b2u,.ref pd),(b1n,.ref nl),(b8k,.ref rl),(metN,.ref md)]
def Kp2(pd nl:Addr)(H0 H:Hp):Prop:=∀a o,a≠pd->a≠nl->H0 a=some o->H a=some o
theorem Kp2.refl(pd nl:Addr)(H:Hp):Kp2 pd nl H H:=λ_ _ _ _ h=>h
theorem Kp2.same{pd nl:Addr}{H0 H H':Hp}(k:Kp2 pd nl H0 H)(s:Same H H'):Kp2 pd nl H0 H':=λa o h1 h2 h=>s _ _ (k a o h1 h2 h)
theorem Kp2.up{pd nl p:Addr}{H0 H:Hp}{o:HO}(k:Kp2 pd nl H0 H)(h:H0 p=none):Kp2 pd nl H0 (upd H p o):=λa o h1 h2 e=>by
 rw[a0d (a0p e h)];exact k a o h1 h2 e
theorem Kp2.pd{pd nl:Addr}{H0 H:Hp}{o:HO}(k:Kp2 pd nl H0 H):Kp2 pd nl H0 (upd H pd o):=λa o h1 h2 e=>by
 rw[a0d h1];exact k a o h1 h2 e
theorem Kp2.nl{pd nl:Addr}{H0 H:Hp}{o:HO}(k:Kp2 pd nl H0 H):Kp2 pd nl H0 (upd H nl o):=λa o h1 h2 e=>by
 rw[a0d h2];exact k a o h1 h2 e
theorem Kp2.free{pd nl p:Addr}{H0 H:Hp}(k:Kp2 pd nl H0 H)(h:H p=none)(n1:p≠pd)(n2:p≠nl):H0 p=none:=by
 cases e:H0 p with
 |none=>rfl
 |some o=>rw[k p o n1 n2 e]at h;cases h
def nms(rows:Rws):List V:=rows.map λr=>V.str r.1
structure JS(K:W.Frag)(CJ CR:Addr)(H0 H:Hp)(j dx pd nl rl md:Addr)(me:Bool)(rows:Rws)(rs:List RwO):Prop where
 sm:Kp2 pd nl H0 H
 o:H j=some (.ins CJ dx (jF pd nl rl md))
 put:a2h K H pd rows
 note:∃us:List V,H nl=some (.lst us)/\us.length<=rows.length
 rws:H rl=some (.lst (rs.map λq=>V.ref q.r))
 md0:∃om,H md=some om/\(∀xs,om≠.lst xs)/\(∀xs,om≠.tup xs)/\(∀o' xs,om≠.frz o' (.tup xs))/\(∀C dx fs,om≠.ins C dx fs)/\(me=true->om=.dK [])
 ro:∀q∈rs,H q.r=some (q.ob CR)/\H0 q.r=none/\q.r≠j
 nd:(rs.map (·.r)).Nodup
 hj:H0 j=none
 hrl:H0 rl=none
 hmd:H0 md=none
 n1:nl≠rl
 n2:md≠pd
def KT(K:W.Frag)(H H':Hp):Prop:=∀a xs,SqT K H a xs->SqT K H' a xs
theorem KT.refl{K:FG}(H:Hp):KT K H H:=λ_ _ h=>h
theorem KT.trans{K:FG}{H H1 H2:Hp}(a:KT K H H1)(b:KT K H1 H2):KT K H H2:=λc xs h=>b _ _ (a _ _ h)
theorem KT.same{K:FG}{H H':Hp}(s:Same H H'):KT K H H':=λ_ _ h=>s.tup h
theorem KT.upd{K:FG}{H:Hp}{p:Addr}{o o0:HO}(h:H p=some o0)(h1:∀xs,o0≠.tup xs)(h2:∀o' xs,o0≠.frz o' (.tup xs)):KT K H (upd H p o):=λa xs q=>by
 rcases q with(q|⟨o',q⟩)|q
 ·exact .inl (.inl (by rw[a0d (a0z q h (λz=>h1 _ z.symm))];exact q))
 ·exact .inl (.inr ⟨o',by rw[a0d (a0z q h (λz=>h2 _ _ z.symm))];exact q⟩)
 ·exact .inr q
abbrev a8o(K:W.Frag)(CR:Addr):Sp:=λvs H Q _=>match vs with| [.ref r,a,b]=>∃dr,H r=some (.ins CR dr [])/\∀H',But r H H'->H' r=some (RwO.ob CR ⟨r,dr,a,b,0⟩)->Q .non H'|_=>False
abbrev a7o(K:W.Frag)(CJ:Addr):Sp:=λvs H Q _=>match vs with| [.ref j,.ref pd,.ref nl]=>∃dx,H j=some (.ins CJ dx [])/\∀rl md H',H rl=none->H md=none->rl≠md->But j H H'->H' j=some (.ins CJ dx (jF pd nl rl md))->H' rl=some (.lst [])->H' md=some (.dK [])->Q .non H'|_=>False
abbrev a5s(K:W.Frag)(CJ CR:Addr):Sp:=λvs H Q _=>match vs with| [.ref j]=>∃H0 dx pd nl rl md me rows rs,JS K CJ CR H0 H j dx pd nl rl md me rows rs/\rs.length<=50/\∀p H',Same H H'->SqT K H' p ((rs.tail.map λq=>q.k-1).map V.int)->Q (.ref p) H'|_=>False
inductive Pl where
 |go(rows:Rws)
 |part(a b:List Key)
 |kids(s:Str)(ks ls:List Trm)
def pl4(l r:Trm):Pl:=match l,r with
 | .app s ks,.app s' ls=>if s=s'/\ks.length=ls.length then .kids s ks ls else .part (keyL (.app s ks)) (keyL (.app s' ls))
 |l,r=>.part (keyL l) (keyL r)
def pl3(rows:Rws)(l:Trm):Trm->Pl
 | .any y=>.go (putR rows y l)
 |r=>pl4 l r
def pl2a(rows:Rws)(r:Trm):Trm->Pl
 | .any x=>.go (putR rows x r)
 |l=>pl3 rows l r
def pl2(rows:Rws)(l r:Trm):Pl:=if eqb l r=true then .go rows else pl2a rows r l
abbrev a7a(K:W.Frag):Sp:=λvs H Q _=>match vs with| [.str x,v,.ref pd]=>∃t rows,Den K H v t.data/\a2h K H pd rows/\a8n x rows t/\∀H',Same H H'->Q (.bl false) H'|_=>False
abbrev a6i(K:W.Frag)(CJ CR:Addr):Sp:=λvs H Q _=>match vs with| [.ref j,.str x,v]=>∃H0 dx pd nl rl md me rows rs t,JS K CJ CR H0 H j dx pd nl rl md me rows rs/\Den K H v t.data/\a8n x rows t/\a0w rows x=none/\rows.length<=900/\∀H',KT K H H'->JS K CJ CR H0 H' j dx pd nl rl md me (putR rows x t) rs->Q .non H'|_=>False
abbrev a4m(K:W.Frag)(CJ CR:Addr):Sp:=λvs H Q _=>match vs with| [.ref j,v,v']=>∃H0 dx pd nl rl md rows rs s ks s' ls,JS K CJ CR H0 H j dx pd nl rl md true rows rs/\Den K H v (Trm.app s ks).data/\Den K H v' (Trm.app s' ls).data/\(Trm.app s ks).size<=60/\(Trm.app s' ls).size<=60/\rs.length<=50/\∀H' r dr a b us us',KT K H H'->JS K CJ CR H0 H' j dx pd nl rl md false rows (rs++[⟨r,dr,.ref a,.ref b,0⟩])->SqT K H' a us->DenL K H' us (Trm.dataL ks)->SqT K H' b us'->DenL K H' us' (Trm.dataL ls)->Q .non H'|_=>False
def PtA(K:W.Frag)(H:Hp)(w:V):Prop:=∃(r:Addr)(ys:List V),w=.ref r/\SqT K H r (.str partS::ys)
def onPl(K:W.Frag)(CJ CR:Addr)(H0 H:Hp)(j dx pd nl rl md:Addr)(me:Bool)(rows:Rws)(rs:List RwO)(Q:VK):Pl->Prop
 | .go rows'=>∀H',KT K H H'->JS K CJ CR H0 H' j dx pd nl rl md me rows' rs->Q .non H'
 | .part a b=>∀w H',KT K H H'->JS K CJ CR H0 H' j dx pd nl rl md me rows rs->PtA K H' w->Q w H'
 | .kids s ks ls=>me=true/\∀H' r dr a b us us',KT K H H'->JS K CJ CR H0 H' j dx pd nl rl md false rows (rs++[⟨r,dr,.ref a,.ref b,0⟩])->SqT K H' a us->DenL K H' us (Trm.dataL ks)->SqT K H' b us'->DenL K H' us' (Trm.dataL ls)->Q .non H'
structure Okp(p:Rws)(l r:Trm):Prop where
 zl:l.size<=60
 zr:r.size<=60
 len:p.length<=900
 cl:∀x,l=.any x->¬eqb l r=true->a8n x p r
 cr:∀y,r=.any y->nany l=true->a8n y p l
inductive Un:Bool->Rws->List (Trm×Trm)->Bool->Rws->Nat->Prop
 |done {me:Bool} {p:Rws}:Un me p [] true p 0
 |go {me ok:Bool} {p p' q:Rws} {a b l r:Trm} {rest:List (Trm×Trm)} {n m c:Nat}:Wlk p n a l->Wlk p m b r->Okp p l r->pl2 p l r=.go p'->Un me p' rest ok q c->Un me p ((a,b)::rest) ok q (c+1)
 |part {me:Bool} {p:Rws} {a b l r:Trm} {rest:List (Trm×Trm)} {n m:Nat} {ka kb:List Key}:Wlk p n a l->Wlk p m b r->Okp p l r->pl2 p l r=.part ka kb->Un me p ((a,b)::rest) false p 1
 |kids {ok:Bool} {p q:Rws} {a b l r:Trm} {rest:List (Trm×Trm)} {n m c:Nat} {s:Str} {ks ls:List Trm}:Wlk p n a l->Wlk p m b r->Okp p l r->pl2 p l r=.kids s ks ls->Un false p (ks.zip ls++rest) ok q c->Un true p ((a,b)::rest) ok q (c+1)
abbrev a4n(K:W.Frag)(CJ CR:Addr):Sp:=λvs H Q _=>match vs with| [.ref j,v,v']=>∃H0 dx pd nl rl md me rows rs t t' n n' l r,JS K CJ CR H0 H j dx pd nl rl md me rows rs/\Den K H v t.data/\Den K H v' t'.data/\Wlk rows n t l/\Wlk rows n' t' r/\Okp rows l r/\rs.length<=50/\onPl K CJ CR H0 H j dx pd nl rl md me rows rs Q (pl2 rows l r)|_=>False
abbrev a4o(K:W.Frag)(CJ CR:Addr):Sp:=λvs H Q _=>match vs with| [.ref j,v,v']=>∃H0 dx pd nl rl md rows t t' ok q c,JS K CJ CR H0 H j dx pd nl rl md true rows []/\Den K H v t.data/\Den K H v' t'.data/\Un true rows [(t,t')] ok q c/\∀w H',Kp2 pd nl H0 H'->KT K H H'->a2h K H' pd q->((w=.non/\ok=true)\/(ok=false/\PtA K H' w))->Q w H'|_=>False
section
variable{K:W.Frag}{CJ CR:Addr}{H0 H H':Hp}{j dx pd nl rl md:Addr}{me:Bool}{rows rows':Rws}{rs:List RwO}
theorem a2h.keep{a p:Addr}{o:HO}(h:a2h K H a rows)(hne:a≠p)(kt:KT K H (upd H p o)):a2h K (upd H p o) a rows:=by
 obtain⟨kvs,h1,h2⟩:=h.ex;exact⟨kvs,by rw[a0d hne];exact h1,h2.monoT kt⟩
theorem JS.same(h:JS K CJ CR H0 H j dx pd nl rl md me rows rs)(s:Same H H'):JS K CJ CR H0 H' j dx pd nl rl md me rows rs:=by
 obtain⟨om,h3,h4⟩:=h.md0;exact⟨h.sm.same s,s _ _ h.o,h.put.mono s,(h.note.elim λun z=>⟨un,s _ _ z.1,z.2⟩),s _ _ h.rws,⟨om,s _ _ h3,h4⟩,λq hq=>⟨s _ _ (h.ro q hq).1,(h.ro q hq).2⟩,h.nd,h.hj,h.hrl,h.hmd,h.n1,h.n2⟩
theorem JS.put2{kv:List (Key×V)}{us':List V}(hl':us'.length<=rows'.length)(h:JS K CJ CR H0 H j dx pd nl rl md me rows rs)(ok:a2l K H kv rows'):JS K CJ CR H0 (upd (upd H pd (.dK kv)) nl (.lst us')) j dx pd nl rl md me rows' rs/\KT K H (upd (upd H pd (.dK kv)) nl (.lst us')):=by
 obtain⟨k0,e0,_⟩:=h.put.ex;obtain⟨un,hno,hun⟩:=h.note;obtain⟨om,h3,h4⟩:=h.md0;have npn:nl≠pd:=a0z hno e0 (λz=>by cases z);have k1:KT K H (upd H pd (.dK kv)):=.upd e0 (λ_ z=>by cases z) (λ_ _ z=>by cases z);have en:(upd H pd (.dK kv)) nl=some (.lst un):=by rw[a0d npn];exact hno
 have kt:KT K H (upd (upd H pd (.dK kv)) nl (.lst us')):=k1.trans (.upd en (λ_ z=>by cases z) (λ_ _ z=>by cases z));refine⟨⟨h.sm.pd.nl,?_,⟨kv,?_,ok.monoT kt⟩,⟨us',a0c,hl'⟩,?_,⟨om,?_,h4⟩,λq hq=>⟨?_,(h.ro q hq).2⟩,h.nd,h.hj,h.hrl,h.hmd,h.n1,h.n2⟩,kt⟩
 ·rw[a0d (a0z h.o hno (λz=>by cases z)),a0d (a0z h.o e0 (λz=>by cases z))];exact h.o
 ·rw[a0d npn.symm];exact a0c
 ·rw[a0d h.n1.symm,a0d (a0z h.rws e0 (λz=>by cases z))];exact h.rws
 ·rw[a0d (a0z h3 hno (h4.1 _)),a0d h.n2];exact h3
 ·rw[a0d (a0z (h.ro q hq).1 hno (λz=>by cases z)),a0d (a0z (h.ro q hq).1 e0 (λz=>by cases z))];exact(h.ro q hq).1
theorem JS.upd_md{om:HO}(h:JS K CJ CR H0 H j dx pd nl rl md me rows rs)(c1:∀xs,om≠.lst xs)(c2:∀xs,om≠.tup xs)(c3:∀o' xs,om≠.frz o' (.tup xs))(c4:∀C dx fs,om≠.ins C dx fs):JS K CJ CR H0 (upd H md om) j dx pd nl rl md false rows rs/\KT K H (upd H md om):=by
 obtain⟨un,h1,hun⟩:=h.note;obtain⟨o0,h3,h4⟩:=h.md0;have kt:KT K H (upd H md om):=.upd h3 h4.2.1 h4.2.2.1;refine⟨⟨h.sm.up h.hmd,?_,h.put.keep (Ne.symm h.n2) kt,⟨un,?_,hun⟩,?_,⟨om,a0c,c1,c2,c3,c4,λz=>by cases z⟩,λq hq=>⟨?_,(h.ro q hq).2⟩,h.nd,h.hj,h.hrl,h.hmd,h.n1,h.n2⟩,kt⟩
 ·rw[a0d (a0z h.o h3 (λz=>h4.2.2.2.1 _ _ _ z.symm))];exact h.o
 ·rw[a0d (a0z h1 h3 (λz=>h4.1 _ z.symm))];exact h1
 ·rw[a0d (a0z h.rws h3 (λz=>h4.1 _ z.symm))];exact h.rws
 ·rw[a0d (a0z (h.ro q hq).1 h3 (λz=>h4.2.2.2.1 _ _ _ z.symm))];exact(h.ro q hq).1
theorem JS.upd_rl{rs':List RwO}(h:JS K CJ CR H0 H j dx pd nl rl md me rows rs)(ok:∀q∈rs',H q.r=some (q.ob CR)/\H0 q.r=none/\q.r≠j)(nd:(rs'.map (·.r)).Nodup):JS K CJ CR H0 (upd H rl (.lst (rs'.map λq=>V.ref q.r))) j dx pd nl rl md me rows rs'/\KT K H (upd H rl (.lst (rs'.map λq=>V.ref q.r))):=by
 obtain⟨k0,e0,_⟩:=h.put.ex;obtain⟨un,h1,hun⟩:=h.note;obtain⟨om,h3,h4⟩:=h.md0;have kt:KT K H (upd H rl (.lst (rs'.map λq=>V.ref q.r))):=.upd h.rws (λ_ z=>by cases z) (λ_ _ z=>by cases z);refine⟨⟨h.sm.up h.hrl,?_,h.put.keep (a0z e0 h.rws (λz=>by cases z)) kt,⟨un,?_,hun⟩,a0c,⟨om,?_,h4⟩,λq hq=>⟨?_,(ok q hq).2⟩,nd,h.hj,h.hrl,h.hmd,h.n1,h.n2⟩,kt⟩
 ·rw[a0d (a0z h.o h.rws (λz=>by cases z))];exact h.o
 ·rw[a0d h.n1];exact h1
 ·rw[a0d (a0z h3 h.rws (h4.1 _))];exact h3
 ·rw[a0d (a0z (ok q hq).1 h.rws (λz=>by cases z))];exact(ok q hq).1
theorem JS.upd_last{rs0:List RwO}{q0 q1:RwO}(h:JS K CJ CR H0 H j dx pd nl rl md me rows (rs0++[q0]))(e:q1.r=q0.r):JS K CJ CR H0 (upd H q0.r (q1.ob CR)) j dx pd nl rl md me rows (rs0++[q1])/\KT K H (upd H q0.r (q1.ob CR)):=by
 obtain⟨k0,e0,_⟩:=h.put.ex;obtain⟨un,h1,hun⟩:=h.note;obtain⟨om,h3,h4⟩:=h.md0;have hq0:=h.ro q0 qz;have nd:=h.nd;rw[Zi,Yb]at nd;have kt:KT K H (upd H q0.r (q1.ob CR)):=.upd hq0.1 (λ_ z=>by cases z) (λ_ _ z=>by cases z);have er:(rs0++[q1]).map (·.r)=(rs0++[q0]).map (·.r):=by simp[e]
 have er2:((rs0++[q1]).map λq=>V.ref q.r)=(rs0++[q0]).map λq=>V.ref q.r:=by simp[e]
 refine⟨⟨h.sm.up hq0.2.1,?_,h.put.keep (a0z e0 hq0.1 (λz=>by cases z)) kt,⟨un,?_,hun⟩,?_,⟨om,?_,h4⟩,λq hq=>?_,by rw[er];exact h.nd,h.hj,h.hrl,h.hmd,h.n1,h.n2⟩,kt⟩
 ·rw[a0d (Ne.symm hq0.2.2)];exact h.o
 ·rw[a0d (a0z h1 hq0.1 (λz=>by cases z))];exact h1
 ·rw[er2,a0d (a0z h.rws hq0.1 (λz=>by cases z))];exact h.rws
 ·rw[a0d (a0z h3 hq0.1 (λz=>h4.2.2.2.1 _ _ _ z))];exact h3
 ·rcases Zr.mp hq with z|z
  ·have hq':=h.ro q (Yy _ z);have hn:q.r≠q0.r:=λz2=>nd.2.2 q.r (Z1.mpr ⟨q,z,rfl⟩) q0.r qz z2
   exact⟨by rw[a0d hn];exact hq'.1,hq'.2⟩
  ·rw[Zd.mp z,e];exact⟨a0c,hq0.2⟩
end
mutual
theorem b9v:∀t:Trm,a1t t.data=true
 | .num n=>rfl
 | .any x=>rfl
 | .app s ks=>by
  show(true&&(true&&(a1t.hashyL (Trm.dataL ks)&&true)))=true
  rw[c6k ks];rfl
theorem c6k:∀ts:List Trm,a1t.hashyL (Trm.dataL ts)=true
 | []=>rfl
 |t::r=>by
  show(a1t t.data&&a1t.hashyL (Trm.dataL r))=true
  rw[b9v t,c6k r];rfl
end
theorem d0q{x:Str}{rows:Rws}{t:Trm}(h:a8n x rows t):eqb t (.any x)=false:=by
 cases t with
 |num n=>rfl
 |app s ks=>rfl
 |any y=>
  show decide (y=x)=false
  exact Zs λe=>h.no (by rw[e];exact Zd.mpr rfl)
theorem d0r{x:Str}{rows:Rws}{s:Str}{ks:List Trm}(h:a8n x rows (.app s ks)):∀t∈ks,a8n x rows t:=λt ht=>
 ⟨b8j h.sz t ht,λz=>h.no (b9q ht _ z),λy hy=>h.fr y (b9q ht _ hy)⟩
section
variable{pd nl rl md:Addr}
theorem b5n:(jF pd nl rl md).lookup (ofString "puts")=some (.ref pd):=by
 have e:(ofString "puts"==b2u)=true:=by decide+kernel
 simp only[jF,List.lookup,e]
theorem d3t:(jF pd nl rl md).lookup (ofString "noted")=some (.ref nl):=by
 have e:(ofString "noted"==b2u)=false:=by decide+kernel
 have e1:(ofString "noted"==b1n)=true:=by decide+kernel
 simp only[jF,List.lookup,e,e1]
theorem a8f:(jF pd nl rl md).lookup (ofString "rows")=some (.ref rl):=by
 have e:(ofString "rows"==b2u)=false:=by decide+kernel
 have e1:(ofString "rows"==b1n)=false:=by decide+kernel
 have e2:(ofString "rows"==b8k)=true:=by decide+kernel
 simp only[jF,List.lookup,e,e1,e2]
theorem d0s:(jF pd nl rl md).lookup (ofString "met")=some (.ref md):=by
 have e:(ofString "met"==b2u)=false:=by decide+kernel
 have e1:(ofString "met"==b1n)=false:=by decide+kernel
 have e2:(ofString "met"==b8k)=false:=by decide+kernel
 have e3:(ofString "met"==metN)=true:=by decide+kernel
 simp only[jF,List.lookup,e,e1,e2,e3]
theorem a8p{f:Str}(h:(f==b2u||f==b1n||f==b8k||f==metN)=false):(jF pd nl rl md).lookup f=none:=by
 simp only[Bool.or_eq_false_iff]at h;simp only[jF,List.lookup,h.1.1.1,h.1.1.2,h.1.2,h.2]
end
section
variable{a b:V}{k:V}
theorem c0z:[(a3y,a),(a3s,b),(a5i,k)].lookup (ofString "lefts")=some a:=by
 have e:(ofString "lefts"==a3y)=true:=by decide+kernel
 simp only[List.lookup,e]
theorem c7m:[(a3y,a),(a3s,b),(a5i,k)].lookup (ofString "rights")=some b:=by
 have e:(ofString "rights"==a3y)=false:=by decide+kernel
 have e1:(ofString "rights"==a3s)=true:=by decide+kernel
 simp only[List.lookup,e,e1]
theorem a8u:[(a3y,a),(a3s,b),(a5i,k)].lookup (ofString "taken")=some k:=by
 have e:(ofString "taken"==a3y)=false:=by decide+kernel
 have e1:(ofString "taken"==a3s)=false:=by decide+kernel
 have e2:(ofString "taken"==a5i)=true:=by decide+kernel
 simp only[List.lookup,e,e1,e2]
theorem c7n{k':V}:putF (ofString "taken") k' [(a3y,a),(a3s,b),(a5i,k)]=[(a3y,a),(a3s,b),(a5i,k')]:=by
 have e:a3y≠ofString "taken":=by decide+kernel
 have e1:a3s≠ofString "taken":=by decide+kernel
 have e2:a5i=ofString "taken":=by decide+kernel
 rw[putF,if_neg e,putF,if_neg e1,putF,if_pos e2]
end
theorem b6w{rows:Rws}{x:Str}(h:a0w rows x=none):x∉rows.map (·.1):=λz=>by
 obtain⟨r,hr,e⟩:=Z1.mp z;have h:(rows.find? λr=>decide (r.1=x)).map (·.2)=none:=h;have h2:=Ww.mp (Wy.mp h) r hr;exact h2 (Zw e)
theorem b8l{a b:Trm}(ha:a.size<=60)(hb:b.size<=60):(PyData.tuple [a.data,b.data]).depth<=140:=by
 have h1:=Trm.depth_le a;have h2:=Trm.depth_le b;simp only[PyData.depth,PyData.depthAll];omega
theorem b8m(a b:Trm):a1t (.tuple [a.data,b.data])=true:=by
 show(a1t a.data&&(a1t b.data&&true))=true
 rw[b9v,b9v];rfl
theorem a7g{H H':Hp}{r dr C:Addr}(h1:H r=none)(h2:H dr=none)(b:But r (upd (upd H dr (.own r)) r (.ins C dr [])) H'):Same H H':=λc o ho=>by
 refine b c o (a0p ho h1) ?_;rw[a0d (a0p ho h1),a0d (a0p ho h2)];exact ho
theorem pk{rows:Rws}{l r:Trm}{s:Str}{ks ls:List Trm}(h:pl2 rows l r=.kids s ks ls):l=.app s ks/\r=.app s ls/\ks.length=ls.length:=by
 rw[pl2]at h
 by_cases e:eqb l r=true
 ·rw[if_pos e]at h;cases h
 rw[if_neg e]at h;cases l<;>cases r<;>first| (exact absurd h (λz=>by cases z))|skip
 rename_i s1 k1 s2 l1;have h:(if s1=s2/\k1.length=l1.length then Pl.kids s1 k1 l1 else .part (keyL (.app s1 k1)) (keyL (.app s2 l1)))=.kids s ks ls:=h;split at h
 ·rename_i c;cases h;exact⟨rfl,by rw[c.1],c.2⟩
 ·cases h
theorem d0t{pd nl rl md rl':Addr}:putF (ofString "rows") (.ref rl') (jF pd nl rl md)=jF pd nl rl' md:=by
 have e:b2u≠ofString "rows":=by decide+kernel
 have e1:b1n≠ofString "rows":=by decide+kernel
 have e2:b8k=ofString "rows":=by decide+kernel
 unfold jF;rw[putF,if_neg e,putF,if_neg e1,putF,if_pos e2]
theorem JS.set_rl{K:FG}{CJ CR:Addr}{H0 H:Hp}{j dx pd nl rl md rl':Addr}{me:Bool}{rows:Rws}{rs rs':List RwO}(h:JS K CJ CR H0 H j dx pd nl rl md me rows rs)(k:H rl'=some (.lst (rs'.map λq=>V.ref q.r)))(k0:H0 rl'=none)(n1:nl≠rl')(ok:∀q∈rs',H q.r=some (q.ob CR)/\H0 q.r=none/\q.r≠j)(nd:(rs'.map (·.r)).Nodup):JS K CJ CR H0 (upd H j (.ins CJ dx (jF pd nl rl' md))) j dx pd nl rl' md me rows rs'/\KT K H (upd H j (.ins CJ dx (jF pd nl rl' md))):=by
 obtain⟨e0,e1,_⟩:=h.put.ex;obtain⟨un,h1,hun⟩:=h.note;obtain⟨om,h3,h4⟩:=h.md0;have kt:KT K H (upd H j (.ins CJ dx (jF pd nl rl' md))):=.upd h.o (λ_ z=>by cases z) (λ_ _ z=>by cases z);refine⟨⟨h.sm.up h.hj,a0c,h.put.keep (a0z e1 h.o (λz=>by cases z)) kt,⟨un,?_,hun⟩,?_,⟨om,?_,h4⟩,λq hq=>⟨?_,(ok q hq).2⟩,nd,h.hj,k0,h.hmd,n1,h.n2⟩,kt⟩
 ·rw[a0d (a0z h1 h.o (λz=>by cases z))];exact h1
 ·rw[a0d (a0z k h.o (λz=>by cases z))];exact k
 ·rw[a0d (a0z h3 h.o (h4.2.2.2.1 _ _ _))];exact h3
 ·rw[a0d (ok q hq).2.2];exact(ok q hq).1
theorem JS.free{K:FG}{CJ CR:Addr}{H0 H:Hp}{j dx pd nl rl md p:Addr}{me:Bool}{rows:Rws}{rs:List RwO}(h:JS K CJ CR H0 H j dx pd nl rl md me rows rs)(hp:H p=none):H0 p=none:=by
 obtain⟨k0,e0,_⟩:=h.put.ex;exact h.sm.free hp (λz=>by rw[z,e0]at hp;cases hp) (λz=>by obtain⟨_,n1,_⟩:=h.note;rw[z,n1]at hp;cases hp)
inductive Pend(K:W.Frag)(H:Hp):List RwO->List (Trm×Trm)->Prop
 |nil:Pend K H [] []
 |cons {r dr a b:Addr} {st:List RwO} {rest:List (Trm×Trm)} {us us':List V} {ks ls:List Trm} {i:Nat}:SqT K H a us->DenL K H us (Trm.dataL ks)->SqT K H b us'->DenL K H us' (Trm.dataL ls)->ks.length=ls.length->i<=ks.length->ks.length<=60->Pend K H st rest->Pend K H (⟨r,dr,.ref a,.ref b,(i:Int)⟩::st) ((ks.drop i).zip (ls.drop i)++rest)
theorem Pend.mono{K:FG}{H H':Hp}(k:KT K H H'):∀{st:List RwO}{ps:List (Trm×Trm)},Pend K H st ps->Pend K H' st ps
 |_,_,.nil=>.nil
 |_,_,.cons a b c d e f g p=>.cons (k _ _ a) (b.monoT k) (k _ _ c) (d.monoT k) e f g (p.mono k)
theorem d0u{q:RwO}{st:List RwO}:((q::st).reverse.map λq=>V.ref q.r)=(st.reverse.map λq=>V.ref q.r)++[V.ref q.r]:=by
 rw[Yj,Zi];rfl
theorem a3h:∀{fs:List (Str×V)}{f:Str}{i:Nat}{v:V},(fs.map (·.1)).findIdx? (· ==f)=some i->(fs[i]?).map (·.2)=some v->fs.lookup f=some v
 | [],f,i,v,h,_=>by simp at h
 | (g,x)::fs,f,i,v,h,e=>by
  rw[Zt,Rq]at h;rw[Xs]
  by_cases c:(g==f)=true
  ·rw[if_pos c]at h;cases h;have c':(f==g)=true:=by rw[eq_of_beq c];exact U4 _
   rw[c'];exact e
  ·rw[if_neg c]at h;cases hq:(fs.map (·.1)).findIdx? (· ==f)with
   |none=>rw[hq]at h;cases h
   |some k=>
    rw[hq]at h;cases h;have c':(f==g)=false:=Bool.eq_false_iff.mpr λz=>c (by rw[eq_of_beq z];exact U4 _)
    rw[c'];exact a3h hq (by simpa using e)
theorem d0v:∀{fs:List (Str×V)}{f:Str},(fs.map (·.1)).all (λg=>!(f==g))=true->fs.lookup f=none
 | [],f,_=>rfl
 | (g,x)::fs,f,h=>by
  rw[Zt,W9,Xd]at h;have e:(f==g)=false:=by
   have:=h.1;cases q:(f==g)with
   |false=>rfl
   |true=>rw[q]at this;cases this
  rw[Xs,e];exact d0v h.2
theorem b1o:∀{fs:List (Str×V)}{f:Str}{i:Nat}{v:V},(fs.map (·.1)).findIdx? (· ==f)=some i->putF f v fs=fs.set i (f,v)
 | [],f,i,v,h=>by simp at h
 | (g,x)::fs,f,i,v,h=>by
  rw[Zt,Rq]at h;rw[putF]
  by_cases c:(g==f)=true
  ·rw[if_pos c]at h;cases h;rw[if_pos (eq_of_beq c),Ro,eq_of_beq c]
  ·rw[if_neg c]at h;cases hq:(fs.map (·.1)).findIdx? (· ==f)with
   |none=>rw[hq]at h;cases h
   |some k=>
    rw[hq]at h;cases h;rw[if_neg λz=>c (by rw[z];exact U4 _),b1o hq,Ui]
mutual
inductive Dm(K:W.Frag)(H:Hp)(M:List Addr):V->PyData->Prop
 |non:Dm K H M .non .none
 |bl (b:Bool):Dm K H M (.bl b) (.bool b)
 |int (i:Int):Dm K H M (.int i) (.int i)
 |str (x:Str):Dm K H M (.str x) (.str x)
 |tup {a:Addr} {us:List V} {ds:List PyData}:SqT K H a us->DmL K H M us ds->Dm K H M (.ref a) (.tuple ds)
 |lst {a:Addr} {us:List V} {ds:List PyData}:H a=some (.lst us)->a∉M->DmL K H M us ds->Dm K H M (.ref a) (.list ds)
inductive DmL(K:W.Frag)(H:Hp)(M:List Addr):List V->List PyData->Prop
 |nil:DmL K H M [] []
 |cons {u:V} {us:List V} {d:PyData} {ds:List PyData}:Dm K H M u d->DmL K H M us ds->DmL K H M (u::us) (d::ds)
end
structure Pr(K:W.Frag)(M:List Addr)(H H':Hp):Prop where
 kp:∀a o,a∉M->H a=some o->H' a=some o
 kt:KT K H H'
theorem Pr.refl{K:FG}{M:List Addr}{H:Hp}:Pr K M H H:=⟨λ_ _ _ h=>h,KT.refl H⟩
theorem Pr.same{K:FG}{M:List Addr}{H H1:Hp}(s:Same H H1):Pr K M H H1:=⟨λc o _ h=>s c o h,KT.same s⟩
theorem Pr.upd{K:FG}{M:List Addr}{H:Hp}{m:Addr}{o o0:HO}(hm:m∈M)(h:H m=some o0)(h1:∀xs,o0≠.tup xs)(h2:∀o' xs,o0≠.frz o' (.tup xs)):Pr K M H (upd H m o):=⟨λc o n e=>by rw[a0d (λz=>n (by rw[z];exact hm))];exact e,KT.upd h h1 h2⟩
mutual
theorem Dm.pr{K:FG}{M:List Addr}{H H':Hp}(p:Pr K M H H'):∀{v:V}{d:PyData},Dm K H M v d->Dm K H' M v d
 |_,_,.non=>.non
 |_,_,.bl b=>.bl b
 |_,_,.int i=>.int i
 |_,_,.str x=>.str x
 |_,_,.tup h l=>.tup (p.kt _ _ h) (DmL.pr p l)
 |_,_,.lst h n l=>.lst (p.kp _ _ n h) n (DmL.pr p l)
theorem DmL.pr{K:FG}{M:List Addr}{H H':Hp}(p:Pr K M H H'):∀{v:List V}{d:List PyData},DmL K H M v d->DmL K H' M v d
 |_,_,.nil=>.nil
 |_,_,.cons h l=>.cons (Dm.pr p h) (DmL.pr p l)
end
mutual
theorem Dm.into{K:FG}{M:List Addr}{H H':Hp}(s:Same H H')(n:∀m∈M,∀us,H m≠some (.lst us)):∀{v:V}{d:PyData},Dm K H [] v d->Dm K H' M v d
 |_,_,.non=>.non
 |_,_,.bl b=>.bl b
 |_,_,.int i=>.int i
 |_,_,.str x=>.str x
 |_,_,.tup h l=>.tup (s.tup h) (DmL.into s n l)
 |_,_,.lst h _ l=>.lst (s _ _ h) (λz=>n _ z _ h) (DmL.into s n l)
theorem DmL.into{K:FG}{M:List Addr}{H H':Hp}(s:Same H H')(n:∀m∈M,∀us,H m≠some (.lst us)):∀{v:List V}{d:List PyData},DmL K H [] v d->DmL K H' M v d
 |_,_,.nil=>.nil
 |_,_,.cons h l=>.cons (Dm.into s n h) (DmL.into s n l)
end
mutual
theorem Dm.dx{K:FG}{M:List Addr}{H:Hp}:∀{v:V}{d:PyData},Dm K H M v d->Dx K H v d
 |_,_,.non=>.non
 |_,_,.bl b=>.bl b
 |_,_,.int i=>.int i
 |_,_,.str x=>.str x
 |_,_,.tup h l=>.tup h (DmL.dx l)
 |_,_,.lst h _ l=>.lst (SqL.of h) (DmL.dx l)
theorem DmL.dx{K:FG}{M:List Addr}{H:Hp}:∀{v:List V}{d:List PyData},DmL K H M v d->DxL K H v d
 |_,_,.nil=>.nil
 |_,_,.cons h l=>.cons (Dm.dx h) (DmL.dx l)
end
mutual
theorem Den.dm{K:FG}{M:List Addr}{H:Hp}:∀{v:V}{d:PyData},Den K H v d->Dm K H M v d
 |_,_,.non=>.non
 |_,_,.bl b=>.bl b
 |_,_,.int i=>.int i
 |_,_,.str x=>.str x
 |_,_,.tup h l=>.tup h (DenL.dm l)
theorem DenL.dm{K:FG}{M:List Addr}{H:Hp}:∀{v:List V}{d:List PyData},DenL K H v d->DmL K H M v d
 |_,_,.nil=>.nil
 |_,_,.cons h l=>.cons (Den.dm h) (DenL.dm l)
end
theorem DmL.append{K:FG}{M:List Addr}{H:Hp}:∀{us vs:List V}{ds es:List PyData},DmL K H M us ds->DmL K H M vs es->DmL K H M (us++vs) (ds++es)
 |_,_,_,_,.nil,l=>l
 |_,_,_,_,.cons h t,l=>.cons h (DmL.append t l)
theorem DmL.length{K:FG}{M:List Addr}{H:Hp}:∀{us:List V}{ds:List PyData},DmL K H M us ds->us.length=ds.length
 |_,_,.nil=>rfl
 |_,_,.cons _ l=>by rw[length_cons,length_cons,DmL.length l]
mutual
theorem b8n{K:FG}{M:List Addr}{H:Hp}:∀(t:Trm){v:V},Dm K H M v t.data↔Den K H v t.data
 | .num n,v=>⟨λh=>by cases h with|tup a b=>exact .tup a (by cases b with|cons c d=>cases c;cases d with|cons e f=>cases e;cases f;exact .cons (.str _) (.cons (.int _) .nil)),λh=>by cases h with|tup a b=>exact .tup a (by cases b with|cons c d=>cases c;cases d with|cons e f=>cases e;cases f;exact .cons (.str _) (.cons (.int _) .nil))⟩
 | .any n,v=>⟨λh=>by cases h with|tup a b=>exact .tup a (by cases b with|cons c d=>cases c;cases d with|cons e f=>cases e;cases f;exact .cons (.str _) (.cons (.str _) .nil)),λh=>by cases h with|tup a b=>exact .tup a (by cases b with|cons c d=>cases c;cases d with|cons e f=>cases e;cases f;exact .cons (.str _) (.cons (.str _) .nil))⟩
 | .app s ks,v=>⟨λh=>by
   cases h with
   |tup a b=>
    refine .tup a ?_;cases b with
    |cons c d=>
     cases c;cases d with
     |cons e f=>
      cases e;cases f with
      |cons g i=>
       cases i;cases g with
       |tup p q=>exact .cons (.str _) (.cons (.str _) (.cons (.tup p ((a9n ks).mp q)) .nil)),λh=>by
   cases h with
   |tup a b=>
    refine .tup a ?_;cases b with
    |cons c d=>
     cases c;cases d with
     |cons e f=>
      cases e;cases f with
      |cons g i=>
       cases i;cases g with
       |tup p q=>exact .cons (.str _) (.cons (.str _) (.cons (.tup p ((a9n ks).mpr q)) .nil))⟩
theorem a9n{K:FG}{M:List Addr}{H:Hp}:∀(ts:List Trm){us:List V},DmL K H M us (Trm.dataL ts)↔DenL K H us (Trm.dataL ts)
 | [],us=>⟨λh=>by cases h;exact .nil,λh=>by cases h;exact .nil⟩
 |t::r,us=>⟨λh=>by cases h with|cons a b=>exact .cons ((b8n t).mp a) ((a9n r).mp b),λh=>by cases h with|cons a b=>exact .cons ((b8n t).mpr a) ((a9n r).mpr b)⟩
end
structure Rl where
 n:Nat
 head:Trm
 goals:List Trm
def Rl.data(x:Rl):PyData:=.tuple [.int (x.n:Int),x.head.data,.list (Trm.dataL x.goals)]
def rlD(l:List Rl):PyData:=.list (l.map Rl.data)
def Tab(K:W.Frag)(H:Hp)(M:List Addr)(kvs:List (List Key×V))(tab:List (List Key×List Rl)):Prop:=Paired (λ(p:List Key×V) (q:List Key×List Rl)=>p.1=q.1/\Dm K H M p.2 (rlD q.2)) kvs tab
def a3f:List (List Key×List Rl)->List Key->List Rl
 | [],_=>[]
 | (k',r)::rest,k=>if k'=k then r else a3f rest k
theorem a6t(v:V)(us:List V):atI (v::us) 0=some v:=by
 obtain⟨w1,w2,w3⟩:=a7i (xs:=v::us) (i:=0) qd (by rw[length_cons];omega);rw[w2,<-w3];rfl
theorem c6l{K:FG}{H:Hp}{M:List Addr}:∀{kvs:List (List Key×V)}{tab:List (List Key×List Rl)},Tab K H M kvs tab->∀k,(valV kvs k=none/\a3f tab k=[])\/∃v,valV kvs k=some v/\Dm K H M v (rlD (a3f tab k))
 |_,_,.nil,k=>.inl ⟨rfl,rfl⟩
 | (k1,v1)::kvs,(k2,r2)::tab,.cons ⟨e,d⟩ h,k=>by
  have e:k1=k2:=e;subst e
  by_cases c:k1=k
  ·refine .inr ⟨v1,?_,?_⟩
   ·unfold valV;rw[Sa (by exact Zw c)];rfl
   ·rw[a3f,if_pos c];exact d
  ·have e1:valV ((k1,v1)::kvs) k=valV kvs k:=by
    unfold valV;rw[Sb (by simpa using c)]
   rw[e1,a3f,if_neg c];exact c6l h k
theorem d0w{K:FG}{H:Hp}{M:List Addr}{v:V}{x:Rl}(h:Dm K H M v x.data):∃a hv gl ug,v=.ref a/\SqT K H a [.int (x.n:Int),hv,.ref gl]/\Den K H hv x.head.data/\H gl=some (.lst ug)/\gl∉M/\DenL K H ug (Trm.dataL x.goals):=by
 cases h with
 |tup h1 h2=>
  cases h2 with
  |cons a b=>
   cases a;cases b with
   |cons c d=>
    cases d with
    |cons e f=>
     cases f;cases e with
     |lst p q r=>exact⟨_,_,_,_,rfl,h1,(b8n _).mp c,p,q,(a9n _).mp r⟩
def ruE(x:Trm×List Trm):PyData:=.tuple [x.1.data,.tuple (Trm.dataL x.2)]
def fAn(x:Trm×List Trm):Str->Str:=sub (mkA (λj _=>uS++tn (j+1)) 0 (ordL (x.1::x.2) []))
def mkRl(n:Nat)(x:Trm×List Trm):Rl:=⟨n,ren (fAn x) x.1,renL (fAn x) x.2⟩
theorem d0x(x:Trm×List Trm):anew (x.1::x.2)=ren (fAn x) x.1::renL (fAn x) x.2:=by
 unfold anew fAn;rw[renL]
def keyT:Trm->List Key
 | .app w ks=>nd w ks.length
 |_=>[]
def addT:List (List Key×List Rl)->List Key->Rl->List (List Key×List Rl)
 | [],k,x=>[(k,[x])]
 | (k',l)::r,k,x=>if k'=k then(k',l++[x])::r else(k',l)::addT r k x
def tabF:List (Trm×List Trm)->Nat->List (List Key×List Rl)->List (List Key×List Rl)
 | [],_,tb=>tb
 |x::r,n,tb=>tabF r (n+1) (addT tb (keyT x.1) (mkRl (n+1) x))
def b2v(l:List (Trm×List Trm)):List (List Key×List Rl):=tabF l 0 []
theorem c1a:∀(l:List (Trm×List Trm))(x:Trm×List Trm)(n:Nat)(tb:List (List Key×List Rl)),tabF (l++[x]) n tb=addT (tabF l n tb) (keyT x.1) (mkRl (n+l.length+1) x)
 | [],x,n,tb=>rfl
 |y::l,x,n,tb=>by
  rw[Xu,tabF,c1a l x,tabF,length_cons,show n+1+l.length+1=n+(l.length+1)+1 by omega]
structure RuOk(x:Trm×List Trm):Prop where
 ap:∃w ks,x.1=.app w ks
 z1:x.1.size<=60
 z2:∀g∈x.2,g.size<=60
 l:x.2.length<=10
theorem d3u{ts:List Trm}{B:Nat}(h:∀t∈ts,t.size<=B):Trm.sizeL ts<=ts.length*B:=by
 induction ts with
 |nil=>simp[Trm.sizeL]
 |cons t r ih=>
  rw[Trm.sizeL,length_cons,Nat.add_mul];have:=h t (Ze ..);have:=ih λt ht=>h t (Zc _ ht)
  omega
mutual
theorem Dm.more{K:FG}{M:List Addr}{H:Hp}{m:Addr}(n:H m=none):∀{v:V}{d:PyData},Dm K H M v d->Dm K H (m::M) v d
 |_,_,.non=>.non
 |_,_,.bl b=>.bl b
 |_,_,.int i=>.int i
 |_,_,.str x=>.str x
 |_,_,.tup h l=>.tup h (DmL.more n l)
 |_,_,.lst h e l=>.lst h (λz=>by
   rcases Zg.mp z with z|z
   ·rw[z,n]at h;cases h
   ·exact e z) (DmL.more n l)
theorem DmL.more{K:FG}{M:List Addr}{H:Hp}{m:Addr}(n:H m=none):∀{v:List V}{d:List PyData},DmL K H M v d->DmL K H (m::M) v d
 |_,_,.nil=>.nil
 |_,_,.cons h l=>.cons (Dm.more n h) (DmL.more n l)
end
mutual
theorem Dm.weak{K:FG}{M:List Addr}{H:Hp}:∀{v:V}{d:PyData},Dm K H M v d->Dm K H [] v d
 |_,_,.non=>.non
 |_,_,.bl b=>.bl b
 |_,_,.int i=>.int i
 |_,_,.str x=>.str x
 |_,_,.tup h l=>.tup h (DmL.weak l)
 |_,_,.lst h e l=>.lst h qz (DmL.weak l)
theorem DmL.weak{K:FG}{M:List Addr}{H:Hp}:∀{v:List V}{d:List PyData},DmL K H M v d->DmL K H [] v d
 |_,_,.nil=>.nil
 |_,_,.cons h l=>.cons (Dm.weak h) (DmL.weak l)
end
structure TabM(K:W.Frag)(H0 H:Hp)(p:Addr)(M:List Addr)(kvs:List (List Key×V))(tab:List (List Key×List Rl)):Prop where
 sm:Same H0 H
 top:H p=some (.dT kvs)
 f:H0 p=none
 fm:∀m∈M,H0 m=none
 row:Paired (λ(a:List Key×V) (b:List Key×List Rl)=>a.1=b.1/\∃m us,a.2=.ref m/\m∈M/\H m=some (.lst us)/\DmL K H M us (b.2.map Rl.data)) kvs tab
 nd:(kvs.map (·.2)).Nodup
 ex:∀m∈M,∃us,H m=some (.lst us)
abbrev b2w(K:W.Frag):Sp:=λvs H Q _=>match vs with| [.ref a]=>∃(us:List V)(rs:List (Trm×List Trm)),SqL K H a us/\DenL K H us (rs.map ruE)/\(∀x∈rs,RuOk x)/\rs.length<=100/\∀p kvs H',Same H H'->H p=none->H' p=some (.dT kvs)->Tab K H' [] kvs (b2v rs)->Q (.ref p) H'|_=>False
theorem TabM.same{K:FG}{H0 H H':Hp}{p:Addr}{M:List Addr}{kvs:List (List Key×V)}{tab:List (List Key×List Rl)}(h:TabM K H0 H p M kvs tab)(s:Same H H'):TabM K H0 H' p M kvs tab:=
 ⟨h.sm.trans s,s _ _ h.top,h.f,h.fm,Paired.mapP h.row λ_ _ ⟨e,m,us,e1,e2,e3,e4⟩=>⟨e,m,us,e1,e2,s _ _ e3,e4.pr (.same s)⟩,h.nd,λm hm=>let⟨us,e⟩:=h.ex m hm;⟨us,s _ _ e⟩⟩
theorem TabM.get{K:FG}{H:Hp}{M:List Addr}{kvs:List (List Key×V)}{tab:List (List Key×List Rl)}(h:Paired (λ(a:List Key×V) (b:List Key×List Rl)=>a.1=b.1/\∃m us,a.2=.ref m/\m∈M/\H m=some (.lst us)/\DmL K H M us (b.2.map Rl.data)) kvs tab)(k:List Key)(x:Rl):(valV kvs k=none/\addT tab k x=tab++[(k,[x])]/\putK kvs k=λv=>kvs++[(k,v)])\/∃k1 k2 m l1 l2 us l,kvs=k1++(k,.ref m)::k2/\valV kvs k=some (.ref m)/\m∈M/\H m=some (.lst us)/\DmL K H M us (l.map Rl.data)/\tab=l1++(k,l)::l2/\addT tab k x=l1++(k,l++[x])::l2/\Paired (λ(a:List Key×V) (b:List Key×List Rl)=>a.1=b.1/\∃m us,a.2=.ref m/\m∈M/\H m=some (.lst us)/\DmL K H M us (b.2.map Rl.data)) k1 l1/\Paired (λ(a:List Key×V) (b:List Key×List Rl)=>a.1=b.1/\∃m us,a.2=.ref m/\m∈M/\H m=some (.lst us)/\DmL K H M us (b.2.map Rl.data)) k2 l2:=by
 induction h with
 |nil=>exact .inl ⟨rfl,rfl,rfl⟩
 | @cons a b kvs tab h t ih=>
  obtain⟨ka,va⟩:=a;obtain⟨kb,lb⟩:=b;obtain⟨e,m,us,e1,e2,e3,e4⟩:=h;have e:ka=kb:=e;have e1:va=.ref m:=e1;subst e;subst e1
  by_cases c:ka=k
  ·subst c;refine .inr ⟨[],kvs,m,[],tab,us,lb,rfl,?_,e2,e3,e4,rfl,?_,.nil,t⟩
   ·unfold valV;rw[Sa (by exact Zw rfl)];rfl
   ·rw[addT,if_pos rfl];rfl
  ·have ev:valV ((ka,V.ref m)::kvs) k=valV kvs k:=by
    unfold valV;rw[Sb (by simpa using c)]
   rcases ih with⟨g1,g2,g3⟩|⟨k1,k2,m',l1,l2,us',l,g1,g2,g3,g4,g5,g6,g7,g8,g9⟩
   ·refine .inl ⟨ev.trans g1,by rw[addT,if_neg c,g2];rfl,?_⟩
    funext v
    have g3:=congrFun g3 v;unfold putK at g3 ⊢;have hn:(kvs.any λkv=>decide (kv.1=k))=false:=by
     cases hh:(kvs.any λkv=>decide (kv.1=k))with
     |false=>rfl
     |true=>
      rw[X4]at hh;obtain⟨kv,z1,z2⟩:=hh;unfold valV at g1;have:=Ww.mp (Wy.mp g1) kv z1;exact absurd z2 this
    rw[Xr,hn,Zs c];rfl
   ·refine .inr ⟨(ka,.ref m)::k1,k2,m',(ka,lb)::l1,l2,us',l,by rw[g1];rfl,ev.trans g2,g3,g4,g5,by rw[g6];rfl,by rw[addT,if_neg c,g7];rfl,.cons ⟨rfl,m,us,rfl,e2,e3,e4⟩ g8,g9⟩
mutual
theorem Dm.kl{K:FG}{M:List Addr}{H H':Hp}(k:∀a us,a∉M->H a=some (.lst us)->H' a=some (.lst us))(kt:KT K H H'):∀{v:V}{d:PyData},Dm K H M v d->Dm K H' M v d
 |_,_,.non=>.non
 |_,_,.bl b=>.bl b
 |_,_,.int i=>.int i
 |_,_,.str x=>.str x
 |_,_,.tup h l=>.tup (kt _ _ h) (DmL.kl k kt l)
 |_,_,.lst h n l=>.lst (k _ _ n h) n (DmL.kl k kt l)
theorem DmL.kl{K:FG}{M:List Addr}{H H':Hp}(k:∀a us,a∉M->H a=some (.lst us)->H' a=some (.lst us))(kt:KT K H H'):∀{v:List V}{d:List PyData},DmL K H M v d->DmL K H' M v d
 |_,_,.nil=>.nil
 |_,_,.cons h l=>.cons (Dm.kl k kt h) (DmL.kl k kt l)
end
abbrev TR(K:W.Frag)(H:Hp)(M:List Addr):List Key×V->List Key×List Rl->Prop:=λa b=>a.1=b.1/\∃m us,a.2=.ref m/\m∈M/\H m=some (.lst us)/\DmL K H M us (b.2.map Rl.data)
theorem TR.apart{K:FG}{H:Hp}{M:List Addr}{m:Addr}{o:HO}(p:Pr K M H (upd H m o)){k1:List (List Key×V)}{l1:List (List Key×List Rl)}(h:Paired (TR K H M) k1 l1)(n:V.ref m∉k1.map (·.2)):Paired (TR K (upd H m o) M) k1 l1:=by
 induction h with
 |nil=>exact .nil
 |cons z _ ih=>
  obtain⟨e,m',us,e1,e2,e3,e4⟩:=z;rw[Zt]at n;have hne:m'≠m:=λz=>n (by rw[e1,z];exact Ze ..)
  exact .cons ⟨e,m',us,e1,e2,by rw[a0d hne];exact e3,e4.pr p⟩ (ih λz=>n (Zc _ z))
theorem a5e{α β:Type}{F:α->β->Prop}:∀{a1:List α}{b1:List β}{a2:List α}{b2:List β},Paired F a1 b1->Paired F a2 b2->Paired F (a1++a2) (b1++b2)
 |_,_,_,_,.nil,h=>h
 |_,_,_,_,.cons a t,h=>.cons a (a5e t h)
section
variable{K:W.Frag}{H0 H H1:Hp}{p:Addr}{M:List Addr}{kvs:List (List Key×V)}{tab:List (List Key×List Rl)}
theorem TabM.notM(h:TabM K H0 H p M kvs tab){a:Addr}(e:H a=none):a∉M:=λz=>by
 obtain⟨us,e2⟩:=h.ex a z;rw[e]at e2;cases e2
theorem TabM.app(h:TabM K H0 H p M kvs tab){k:List Key}{m:Addr}{v:V}{x:Rl}(hv:valV kvs k=some (.ref m))(d:Dm K H M v x.data):∃us,H m=some (.lst us)/\(∃b∈addT tab k x,b.2.length=us.length+1)/\TabM K H0 (upd H m (.lst (us++[v]))) p M kvs (addT tab k x)/\Pr K M H (upd H m (.lst (us++[v]))):=by
 rcases TabM.get h.row k x with⟨g1,_,_⟩|⟨k1,k2,m',l1,l2,us,l,g1,g2,g3,g4,g5,g6,g7,g8,g9⟩
 ·rw[hv]at g1;cases g1
 ·rw[hv]at g2;cases g2;have pr:Pr K M H (upd H m (.lst (us++[v]))):=.upd g3 g4 (λ_ z=>by cases z) (λ_ _ z=>by cases z);have nd:=h.nd;rw[g1,Zi,Yb,Zt]at nd;have n1:V.ref m∉k1.map (·.2):=λz=>nd.2.2 _ z _ (Ze ..) rfl
  have n2:V.ref m∉k2.map (·.2):=(Yn.mp nd.2.1).1;have hl:=g5.length;rw[length_map]at hl;refine⟨us,g4,⟨(k,l++[x]),by rw[g7];simp,by simp[hl]⟩,⟨a0x h.sm (h.fm m g3),?_,h.f,h.fm,?_,h.nd,λa ha=>?_⟩,pr⟩
  ·rw[a0d (a0z h.top g4 (λz=>by cases z))];exact h.top
  ·rw[g7,g1];refine a5e (TR.apart pr g8 n1) (.cons ⟨rfl,m,_,rfl,g3,a0c,?_⟩ (TR.apart pr g9 n2));rw[Zi];exact(g5.pr pr).append (.cons (d.pr pr) .nil)
  ·by_cases c:a=m
   ·rw[c];exact⟨_,a0c⟩
   ·obtain⟨us2,e2⟩:=h.ex a ha;exact⟨us2,by rw[a0d c];exact e2⟩
theorem TabM.at(h:TabM K H0 H p M kvs tab){k:List Key}{m:Addr}(hv:valV kvs k=some (.ref m)):∃us,H m=some (.lst us):=by
 rcases TabM.get h.row k ⟨0,.num 0,[]⟩with⟨g1,_,_⟩|⟨k1,k2,m',l1,l2,us,l,g1,g2,g3,g4,_⟩
 ·rw[hv]at g1;cases g1
 ·rw[hv]at g2;cases g2;exact⟨us,g4⟩
theorem TabM.setd(h:TabM K H0 H1 p M kvs tab){k:List Key}{px pe:Addr}(hx:H1 px=some (.tup (k.map kV)))(he:H1 pe=none)(hz:kvs.length<=1000){Q:VK}
  (kq:∀H2 m M' kvs' tab',TabM K H0 H2 p M' kvs' tab'->valV kvs' k=some (.ref m)->(∀x,addT tab' k x=addT tab k x)->kvs'.length<=kvs.length+1->KT K H1 H2->(∀a us,a∉M->H1 a=some (.lst us)->H2 a=some (.lst us)/\a∉M')->Q (.ref m) H2):c3f (.ref p) [.ref px,.ref pe] (upd H1 pe (.lst [])) Q:=by
 have s1:=a0l he (.lst []);have h1:=h.same s1;refine d3a h1.top (s1 _ _ hx) (ln qo) (λv hv=>?_) λhv=>?_
 ·rcases TabM.get h.row k ⟨0,.num 0,[]⟩with⟨g1,_,_⟩|⟨k1,k2,m',l1,l2,us,l,g1,g2,g3,g4,g5,g6,g7,g8,g9⟩
  ·rw[hv]at g1;cases g1
  ·rw[hv]at g2;cases g2;exact kq _ m' M kvs tab h1 hv (λ_=>rfl) (Wh _) (KT.same s1) λa us n e=>⟨s1 _ _ e,n⟩
 ·have hpe0:H0 pe=none:=by
   cases e:H0 pe with
   |none=>rfl
   |some o=>rw[h.sm _ _ e]at he;cases he
  have npe:pe≠p:=λz=>by rw[z,h.top]at he;cases he
  have hM:pe∉M:=h.notM he;rcases TabM.get h.row k ⟨0,.num 0,[]⟩with⟨g1,_,g3⟩|⟨_,_,_,_,_,_,_,_,g2,_⟩
  rotate_left
  ·rw[hv]at g2;cases g2
  have g3:=congrFun g3 (.ref pe);rw[g3];have kt:KT K (upd H1 pe (.lst [])) (upd (upd H1 pe (.lst [])) p (.dT (kvs++[(k,.ref pe)]))):=.upd h1.top (λ_ z=>by cases z) (λ_ _ z=>by cases z);have kl:∀a us,(upd H1 pe (.lst [])) a=some (.lst us)->(upd (upd H1 pe (.lst [])) p (.dT (kvs++[(k,.ref pe)]))) a=some (.lst us):=λa us e=>by rw[a0d (a0z e h1.top (λz=>by cases z))];exact e
  have hnew:∀x,addT (tab++[(k,[])]) k x=addT tab k x:=λx=>by
   rcases TabM.get h.row k x with⟨_,g2,_⟩|⟨_,_,_,_,_,_,_,_,g2,_⟩
   ·rw[g2];have:∀(tb:List (List Key×List Rl)),addT tb k x=tb++[(k,[x])]->addT (tb++[(k,[])]) k x=tb++[(k,[x])]:=λtb=>by
     induction tb with
     |nil=>intro _;show addT [(k,[])] k x=_;rw[addT,if_pos rfl];rfl
     |cons y r ih=>
      intro e;obtain⟨ky,ly⟩:=y;rw[addT]at e;rw[Xu,addT]
      by_cases c:ky=k
      ·rw[if_pos c]at e
       exfalso
       have:=Yv List.length e
       simp at this
      ·rw[if_neg c]at e ⊢;rw[ih (Ts e).2];rfl
    exact this tab g2
   ·rw[hv]at g2;cases g2
  refine kq _ pe (pe::M) (kvs++[(k,.ref pe)]) (tab++[(k,[])]) ⟨a0x h1.sm h.f,a0c,h.f,λm hm=>?_,?_,?_,λm hm=>?_⟩ ?_ hnew qz ((KT.same s1).trans kt) (λa us n e=>⟨kl _ _ (s1 _ _ e),λz=>?_⟩)
  ·rcases Zg.mp hm with z|z
   ·rw[z];exact hpe0
   ·exact h.fm m z
  ·refine Paired.snoc (Paired.mapP h.row λ_ _ ⟨e,m,us,e1,e2,e3,e4⟩=>⟨e,m,us,e1,Zc _ e2,kl _ _ (s1 _ _ e3),((e4.more he).pr (.same s1)).kl (λa us _ e=>kl _ _ e) kt⟩) ⟨rfl,pe,[],rfl,Ze ..,kl _ _ a0c,.nil⟩
  ·rw[Zi,Yb];refine⟨h.nd,qz,λa ha b hb z=>?_⟩;have hb:b=.ref pe:=by simpa using hb
   obtain⟨kv,hkv,e1⟩:=Z1.mp ha;have:∀{k1:List (List Key×V)}{l1:List (List Key×List Rl)},Paired (TR K H1 M) k1 l1->∀y∈k1,∃m us,y.2=.ref m/\H1 m=some (.lst us):=λ{k1 l1} q=>by
    induction q with
    |nil=>intro y hy;simp at hy
    |cons a t ih=>
     intro y hy;obtain⟨_,m,us,c1,_,c3,_⟩:=a;rcases Zg.mp hy with z|z
     ·rw[z];exact⟨m,us,c1,c3⟩
     ·exact ih y z
   obtain⟨m,us,c1,c2⟩:=this h.row kv hkv;rw[<-e1,c1,hb]at z;cases z;rw[he]at c2;cases c2
  ·rcases Zg.mp hm with z|z
   ·rw[z];exact⟨_,kl _ _ a0c⟩
   ·obtain⟨us,e⟩:=h.ex m z;exact⟨us,kl _ _ (s1 _ _ e)⟩
  ·unfold valV at hv ⊢;rw[List.find?_append,Wy.mp hv]
   simp
  ·rcases Zg.mp z with z|z
   ·rw[z,he]at e;cases e
   ·exact n z
end
theorem b6x{k:List Key}{x:Rl}{n:Nat}:∀{tb:List (List Key×List Rl)},(∀b∈tb,b.2.length<=n)->∀b∈addT tb k x,b.2.length<=n+1
 | [],_,b,hb=>by
  rw[addT]at hb;rw[Zd.mp hb]
  show 1<=n+1
  omega
 | (k',l)::r,h,b,hb=>by
  rw[addT]at hb;have h1:l.length<=n:=h (k',l) (Ze ..)
  by_cases c:k'=k
  ·rw[if_pos c]at hb;rcases Zg.mp hb with z|z
   ·rw[z];simp;exact h1
   ·have:=h b (Zc _ z);omega
  ·rw[if_neg c]at hb;rcases Zg.mp hb with z|z
   ·rw[z];show l.length<=n+1;omega
   ·exact b6x (λb hb=>h b (Zc _ hb)) b z
theorem c3t:∀{rs:List (Trm×List Trm)}{k n:Nat}{tb:List (List Key×List Rl)},(∀b∈tb,b.2.length<=n)->∀b∈tabF rs k tb,b.2.length<=n+rs.length
 | [],k,n,tb,h,b,hb=>h b hb
 |x::r,k,n,tb,h,b,hb=>by
  rw[tabF]at hb;have:=c3t (b6x h) b hb;rw[length_cons];omega
theorem nwq{A B:Hp}{p:Addr}{o:HO}(h:A p=none)(e:upd A p o=B):Same A B/\B p=some o:=by
 subst e;exact⟨a0l h _,a0c⟩
theorem trm_at{K:FG}{H:Hp}{us:List V}{ts:List Trm}(d:DenL K H us (Trm.dataL ts)){i:Int}(h0:0<=i)(h1:i<(ts.length:Int)):∃v t,t∈ts/\atI us i=some v/\Den K H v t.data:=by
 have hl:=a5l d;obtain⟨v,h2,h3⟩:=a7i (xs:=us) (i:=i) h0 qo;obtain⟨dd,e1,e2⟩:=d.get h3;rw[Trm.dataL_map,Zv]at e1;cases q:ts[i.toNat]? with
 |none=>rw[q]at e1;cases e1
 |some t=>
  rw[q]at e1;cases e1;exact⟨v,t,Zn q,h2,e2⟩
theorem c3u{H H1:Hp}{p:Addr}{o:HO}(s:Same H H1)(h:H p=none):Same H (upd H1 p o):=λa x hx=>by
 rw[a0d (λe=>by rw[e,h]at hx;cases hx)];exact s a x hx
abbrev a4f(K:W.Frag):Sp:=λvs H Q _=>match vs with| [.ref a,.int k]=>∃ns:List Int,SqL K H a (ns.map V.int)/\0<=k/\k<=1000/\∀v,Q (.int v) H|_=>False
abbrev a6j:Sp:=λvs H Q _=>match vs with| [.int _,.int k,.int m]=>0<=k/\k<=1000/\0<m/\∀v H',0<=v->v<m->Same H H'->Q (.int v) H'|_=>False
abbrev b2x(K:W.Frag):Sp:=λvs H Q _=>match vs with| [.int _]=>∀p (ws:List Str) H',Same H H'->H' p=some (.lst (ws.map V.str))->ws.length=5->ws.Nodup->(∀w∈ws,Wd w)->Q (.ref p) H'|_=>False
def tbN:List Str:=[ofString "goal",ofString "layer",ofString "answers",ofString "known"]
def tbF(g l a k:V):List (Str×V):=tbN.zip [g,l,a,k]
def goN:List Str:=[ofString "puts",ofString "done",ofString "reasons"]
def goF(p d r:V):List (Str×V):=goN.zip [p,d,r]
structure FO where
 ld:Addr
 rd:Addr
 tl:Addr
 pd:Addr
 st:Int
 mn:Int
 sp:Int
 ch:Bool
def foN:List Str:=[ofString "layers",ofString "rules",ofString "tables",ofString "places",ofString "settled",ofString "many_answers",ofString "steps",ofString "changed"]
def FO.fs(o:FO):List (Str×V):=foN.zip [.ref o.ld,.ref o.rd,.ref o.tl,.ref o.pd,.int o.st,.int o.mn,.int o.sp,.bl o.ch]
theorem FO.nms(o:FO):o.fs.map (·.1)=foN:=rfl
section
variable{o:FO}{g l a k:V}
theorem d0y:o.fs.lookup (ofString "layers")=some (.ref o.ld):=a3h (i:=0) (by rw[FO.nms];decide+kernel) rfl
theorem d3v:o.fs.lookup (ofString "rules")=some (.ref o.rd):=a3h (i:=1) (by rw[FO.nms];decide+kernel) rfl
theorem a3z:o.fs.lookup (ofString "tables")=some (.ref o.tl):=a3h (i:=2) (by rw[FO.nms];decide+kernel) rfl
theorem b4q:o.fs.lookup (ofString "places")=some (.ref o.pd):=a3h (i:=3) (by rw[FO.nms];decide+kernel) rfl
theorem c7o:o.fs.lookup (ofString "settled")=some (.int o.st):=a3h (i:=4) (by rw[FO.nms];decide+kernel) rfl
theorem b0q:o.fs.lookup (ofString "many_answers")=some (.int o.mn):=a3h (i:=5) (by rw[FO.nms];decide+kernel) rfl
theorem c3v:o.fs.lookup (ofString "steps")=some (.int o.sp):=a3h (i:=6) (by rw[FO.nms];decide+kernel) rfl
theorem b8o:o.fs.lookup (ofString "changed")=some (.bl o.ch):=a3h (i:=7) (by rw[FO.nms];decide+kernel) rfl
theorem c7p{i:Int}:putF (ofString "settled") (.int i) o.fs={ o with st:=i}.fs:=(b1o (i:=4) (by rw[FO.nms];decide+kernel)).trans rfl
theorem b8p{i:Int}:putF (ofString "many_answers") (.int i) o.fs={ o with mn:=i}.fs:=(b1o (i:=5) (by rw[FO.nms];decide+kernel)).trans rfl
theorem c3w{i:Int}:putF (ofString "steps") (.int i) o.fs={ o with sp:=i}.fs:=(b1o (i:=6) (by rw[FO.nms];decide+kernel)).trans rfl
theorem b2y{b:Bool}:putF (ofString "changed") (.bl b) o.fs={ o with ch:=b}.fs:=(b1o (i:=7) (by rw[FO.nms];decide+kernel)).trans rfl
theorem a7p{f:Str}(h:foN.all (λg=>!(f==g))=true):o.fs.lookup f=none:=d0v (by rw[FO.nms];exact h)
theorem b5o:(tbF g l a k).lookup (ofString "goal")=some g:=a3h (i:=0) (by show tbN.findIdx? _=_;decide+kernel) rfl
theorem c3x:(tbF g l a k).lookup (ofString "layer")=some l:=a3h (i:=1) (by show tbN.findIdx? _=_;decide+kernel) rfl
theorem a9e:(tbF g l a k).lookup (ofString "answers")=some a:=a3h (i:=2) (by show tbN.findIdx? _=_;decide+kernel) rfl
theorem c3y:(tbF g l a k).lookup (ofString "known")=some k:=a3h (i:=3) (by show tbN.findIdx? _=_;decide+kernel) rfl
theorem b9w:(goF g l a).lookup (ofString "puts")=some g:=a3h (i:=0) (by show goN.findIdx? _=_;decide+kernel) rfl
theorem b5p:(goF g l a).lookup (ofString "done")=some l:=a3h (i:=1) (by show goN.findIdx? _=_;decide+kernel) rfl
theorem b2z:(goF g l a).lookup (ofString "reasons")=some a:=a3h (i:=2) (by show goN.findIdx? _=_;decide+kernel) rfl
end
structure TO where
 t:Addr
 dt:Addr
 al:Addr
 kd:Addr
 gv:V
abbrev Tbl:=Trm×List Trm
def AnAt(K:W.Frag)(H:Hp)(v:V)(t:Trm):Prop:=∃(a:Addr)(tv:V)(rk:Int)(n x:V),v=.ref a/\SqT K H a [tv,.int rk,n,x]/\Den K H tv t.data
theorem AnAt.kt{K:FG}{H H':Hp}(k:KT K H H'){v:V}{t:Trm}(h:AnAt K H v t):AnAt K H' v t:=by
 obtain⟨a,tv,rk,n,x,e,h1,h2⟩:=h;exact⟨a,tv,rk,n,x,e,k _ _ h1,h2.monoT k⟩
structure TbAt(K:W.Frag)(P:Program)(w:World)(CT:Addr)(H:Hp)(M:List Addr)(q:TO)(x:Tbl):Prop where
 ob:H q.t=some (.ins CT q.dt (tbF q.gv (.int 0) (.ref q.al) (.ref q.kd)))
 nt:q.t∉M
 go:Den K H q.gv x.1.data
 an:∃us,H q.al=some (.lst us)/\Paired (AnAt K H) us x.2
 kn:∃kvs,DnAt K P w H q.kd kvs/\kvs.map (·.1)=x.2.map Trm.data
abbrev mq(qs:List TO):List Addr:=qs.flatMap λq=>[q.al,q.kd]
abbrev mu(f:Addr)(o:FO)(qs:List TO):List Addr:=f::o.tl::o.pd::mq qs
def tot(tb:List Tbl):Nat:=(tb.map λx=>x.2.length).sum
structure Fil(K:W.Frag)(P:Program)(w:World)(CF CT:Addr)(H0 H:Hp)(f dx:Addr)(o:FO)(qs:List TO)(tab:List (List Key×List Rl))(tb:List Tbl):Prop where
 sm:Same H0 H
 ob:H f=some (.ins CF dx o.fs)
 f0:∀a∈mu f o qs,H0 a=none
 nd:(mu f o qs).Nodup
 tl:H o.tl=some (.lst (qs.map λq=>.ref q.t))
 tbs:Paired (TbAt K P w CT H (mu f o qs)) qs tb
 pl:∃kvs,DnAt K P w H o.pd kvs/\kvs.map (·.1)=tb.map (λx=>x.1.data)/\∀(i:Nat)(x:PyData×Addr×V),kvs[i]? =some x->x.2.2=V.int (i:Int)
 ly:∃kvs,H o.ld=some (.dT kvs)/\∀kv∈kvs,kv.2=.int 0
 rl:∃kvs,H o.rd=some (.dT kvs)/\Tab K H (mu f o qs) kvs tab
 mn:o.mn=(tot tb:Int)
structure Ev(K:W.Frag)(M M':List Addr)(H H':Hp):Prop where
 pr:Pr K M H H'
 mm:∀a∈M',a∈M\/H a=none
 nf:∀a,H' a=none->H a=none
theorem Ev.refl{K:FG}{M:List Addr}{H:Hp}:Ev K M M H H:=⟨.refl,λ_ h=>.inl h,λ_ h=>h⟩
theorem Ev.same{K:FG}{M:List Addr}{H H':Hp}(s:Same H H'):Ev K M M H H':=⟨.same s,λ_ h=>.inl h,λ_ h=>a1c s h⟩
theorem Ev.off{K:FG}{M M':List Addr}{H H':Hp}(e:Ev K M M' H H'){a:Addr}{x:HO}(h:a∉M)(g:H a=some x):a∉M'/\H' a=some x:=⟨λz=>(e.mm a z).elim h λz=>by(rw[g]at z;cases z),e.pr.kp _ _ h g⟩
theorem Ev.trans{K:FG}{M M1 M2:List Addr}{H H1 H2:Hp}(a:Ev K M M1 H H1)(b:Ev K M1 M2 H1 H2):Ev K M M2 H H2:=by
 refine⟨⟨λc o n h=>(b.off (a.off n h).1 (a.off n h).2).2,a.pr.kt.trans b.pr.kt⟩,λc hc=>(b.mm c hc).elim (a.mm c) λz=>?_,λc h=>a.nf c (b.nf c h)⟩
 by_cases m:c∈M
 ·exact .inl m
 ·cases e:H c with
  |none=>exact .inr rfl
  |some x=>rw[(a.off m e).2]at z;cases z
mutual
theorem Dm.ev{K:FG}{M M':List Addr}{H H':Hp}(e:Ev K M M' H H'):∀{v:V}{d:PyData},Dm K H M v d->Dm K H' M' v d
 |_,_,.non=>.non
 |_,_,.bl b=>.bl b
 |_,_,.int i=>.int i
 |_,_,.str x=>.str x
 |_,_,.tup h l=>.tup (e.pr.kt _ _ h) (DmL.ev e l)
 |_,_,.lst h n l=>.lst (e.off n h).2 (e.off n h).1 (DmL.ev e l)
theorem DmL.ev{K:FG}{M M':List Addr}{H H':Hp}(e:Ev K M M' H H'):∀{v:List V}{d:List PyData},DmL K H M v d->DmL K H' M' v d
 |_,_,.nil=>.nil
 |_,_,.cons h l=>.cons (Dm.ev e h) (DmL.ev e l)
end
theorem Tab.ev{K:FG}{M M':List Addr}{H H':Hp}(e:Ev K M M' H H'){kvs:List (List Key×V)}{tab:List (List Key×List Rl)}(h:Tab K H M kvs tab):Tab K H' M' kvs tab:=Paired.mapP h λ_ _ z=>⟨z.1,z.2.ev e⟩
theorem a2j{α β:Type}{F:α->β->Prop}:∀{a:List α}{b:List β}{i:Nat}{x:α},Paired F a b->a[i]? =some x->∃y,b[i]? =some y/\F x y
 |_,_,i,x,.nil,h=>by simp at h
 |_,_,0,x,.cons r _,h=>by simp at h;subst h;exact⟨_,rfl,r⟩
 |_,_,i+1,x,.cons _ t,h=>by simpa using a2j t (by simpa using h)
theorem paired_at'{α β:Type}{F:α->β->Prop}:∀{a:List α}{b:List β}{i:Nat}{y:β},Paired F a b->b[i]? =some y->∃x,a[i]? =some x/\F x y
 |_,_,i,x,.nil,h=>by simp at h
 |_,_,0,x,.cons r _,h=>by simp at h;subst h;exact⟨_,rfl,r⟩
 |_,_,i+1,x,.cons _ t,h=>by simpa using paired_at' t (by simpa using h)
section
variable{K:W.Frag}{P:Program}{w:World}{CF CT:Addr}{H0 H H':Hp}{f dx:Addr}{o o':FO}{qs qs':List TO}{tab:List (List Key×List Rl)}{tb tb':List Tbl}{M M':List Addr}{q:TO}{x:Tbl}
theorem TbAt.ev(h:TbAt K P w CT H M q x)(e:Ev K M M' H H')(e1:H' q.al=H q.al)(e2:H' q.kd=H q.kd):TbAt K P w CT H' M' q x:=by
 obtain⟨us,a1,a2⟩:=h.an;obtain⟨kvs,k1,k2⟩:=h.kn;exact⟨(e.off h.nt h.ob).2,(e.off h.nt h.ob).1,h.go.monoT e.pr.kt,⟨us,e1.trans a1,Paired.mapP a2 λ_ _ z=>z.kt e.pr.kt⟩,kvs,k1.mono e.pr.kt e2,k2⟩
theorem Fil.noT(h:Fil K P w CF CT H0 H f dx o qs tab tb){a:Addr}{kvs:List (List Key×V)}(e:H a=some (.dT kvs)):a∉mu f o qs:=λz=>by
 rcases Zg.mp z with z|z
 ·rw[z,h.ob]at e;cases e
 rcases Zg.mp z with z|z
 ·rw[z,h.tl]at e;cases e
 rcases Zg.mp z with z|z
 ·obtain⟨kvs,k1,_⟩:=h.pl;rw[z,k1.ob]at e;cases e
 obtain⟨q,hq,z⟩:=X3.mp z;obtain⟨i,hi⟩:=Xa.mp hq;obtain⟨y,_,ht⟩:=a2j h.tbs hi;rcases Zg.mp z with z|z
 ·obtain⟨us,a1,_⟩:=ht.an;rw[z,a1]at e;cases e
 ·obtain⟨kvs,k1,_⟩:=ht.kn;rw[Zd.mp z,k1.ob]at e;cases e
theorem Fil.mem(h:Fil K P w CF CT H0 H f dx o qs tab tb){a:Addr}(m:a∈mu f o qs):∃x,H a=some x:=by
 rcases Zg.mp m with z|z
 ·exact⟨_,by rw[z];exact h.ob⟩
 rcases Zg.mp z with z|z
 ·exact⟨_,by rw[z];exact h.tl⟩
 rcases Zg.mp z with z|z
 ·obtain⟨kvs,k1,_⟩:=h.pl;exact⟨_,by rw[z];exact k1.ob⟩
 obtain⟨q,hq,z⟩:=X3.mp z;obtain⟨i,hi⟩:=Xa.mp hq;obtain⟨y,_,ht⟩:=a2j h.tbs hi;rcases Zg.mp z with z|z
 ·obtain⟨us,a1,_⟩:=ht.an;exact⟨_,by rw[z];exact a1⟩
 ·obtain⟨kvs,k1,_⟩:=ht.kn;exact⟨_,by rw[Zd.mp z];exact k1.ob⟩
theorem Fil.notM(h:Fil K P w CF CT H0 H f dx o qs tab tb){a:Addr}(e:H a=none):a∉mu f o qs:=λz=>by
 obtain⟨x,hx⟩:=h.mem z;rw[e]at hx;cases hx
theorem Fil.next(h:Fil K P w CF CT H0 H f dx o qs tab tb)(e:Ev K (mu f o qs) (mu f o' qs') H H')(el:o'.ld=o.ld)(er:o'.rd=o.rd)(sm:Same H0 H')(ob:H' f=some (.ins CF dx o'.fs))(f0:∀a∈mu f o' qs',H0 a=none)(nd:(mu f o' qs').Nodup)(tl:H' o'.tl=some (.lst (qs'.map λq=>.ref q.t)))(tbs:Paired (TbAt K P w CT H' (mu f o' qs')) qs' tb')(pl:∃kvs,DnAt K P w H' o'.pd kvs/\kvs.map (·.1)=tb'.map (λx=>x.1.data)/\∀(i:Nat)(x:PyData×Addr×V),kvs[i]? =some x->x.2.2=V.int (i:Int))(mn:o'.mn=(tot tb':Int)):Fil K P w CF CT H0 H' f dx o' qs' tab tb':=by
 obtain⟨k1,l1,l2⟩:=h.ly;obtain⟨k2,r1,r2⟩:=h.rl;exact⟨sm,ob,f0,nd,tl,tbs,pl,⟨k1,by rw[el];exact(e.off (h.noT l1) l1).2,l2⟩,⟨k2,by rw[er];exact(e.off (h.noT r1) r1).2,r2.ev e⟩,mn⟩
theorem Fil.same(h:Fil K P w CF CT H0 H f dx o qs tab tb)(s:Same H H'):Fil K P w CF CT H0 H' f dx o qs tab tb:=by
 obtain⟨kvs,k1,k2⟩:=h.pl;refine h.next (.same s) rfl rfl (h.sm.trans s) (s _ _ h.ob) h.f0 h.nd (s _ _ h.tl) (Paired.mapP h.tbs λq x z=>?_) ⟨kvs,k1.mono (KT.same s) ((s _ _ k1.ob).trans k1.ob.symm),k2⟩ h.mn;obtain⟨us,a1,_⟩:=z.an;obtain⟨kvs,k1,_⟩:=z.kn;exact z.ev (.same s) ((s _ _ a1).trans a1.symm) ((s _ _ k1.ob).trans k1.ob.symm)
theorem Fil.set(h:Fil K P w CF CT H0 H f dx o qs tab tb)(st sp:Int)(ch:Bool):Fil K P w CF CT H0 (upd H f (.ins CF dx { o with st:=st,sp:=sp,ch:=ch}.fs)) f dx { o with st:=st,sp:=sp,ch:=ch} qs tab tb/\Ev K (mu f o qs) (mu f o qs) H (upd H f (.ins CF dx { o with st:=st,sp:=sp,ch:=ch}.fs)):=by
 have e:Ev K (mu f o qs) (mu f o qs) H (upd H f (.ins CF dx { o with st:=st,sp:=sp,ch:=ch}.fs)):=⟨.upd (Ze ..) h.ob (λ_ z=>by cases z) (λ_ _ z=>by cases z),λ_ z=>.inl z,λa z=>by
  by_cases c:a=f
  ·rw[c,a0c]at z;cases z
  ·rw[a0d c]at z;exact z⟩
 obtain⟨kvs,k1,k2⟩:=h.pl;have ne:∀a∈mu f o qs,a≠f->upd H f (.ins CF dx { o with st:=st,sp:=sp,ch:=ch}.fs) a=H a:=λa _ z=>a0d z
 refine⟨h.next (o':={ o with st:=st,sp:=sp,ch:=ch}) e rfl rfl (a0x h.sm (h.f0 _ (Ze ..))) a0c h.f0 h.nd ?_ (Paired.mapP h.tbs λq x z=>?_) ⟨kvs,k1.mono e.pr.kt (a0d (a0z k1.ob h.ob (λz=>by cases z))),k2⟩ h.mn,e⟩
 ·show upd H f _ o.tl=_
  rw[a0d (a0z h.tl h.ob (λz=>by cases z))];exact h.tl
 ·obtain⟨us,a1,_⟩:=z.an;obtain⟨kvs,k1,_⟩:=z.kn;exact z.ev e (a0d (a0z a1 h.ob (λz=>by cases z))) (a0d (a0z k1.ob h.ob (λz=>by cases z)))
end
structure Lw where
 tab:List (List Key×List Rl)
 univ:List Trm
 cap:Trm->Nat
 cost:Trm->Nat
 Ans:Trm->Trm->Prop
 Leg:Trm->Rl->Nat->Rws->Prop
 pot:Trm->Rl->Nat->Nat
 app:Trm->Rl->Option Rws
 sub:Rl->Nat->Rws->Trm
 nxt:Rl->Nat->Rws->Trm->Rws
 fin:Trm->Rws->Trm
def Lw.rules(L:Lw)(g:Trm):List Rl:=a3f L.tab (keyT g)
def told(t:Trm):Trm:=(anew [t]).headD t
theorem c6m(t:Trm):anew [t]=[told t]:=by
 unfold told anew;rfl
structure GlOk(g:Trm):Prop where
 ap:∃s ks,g=.app s ks
 sz:g.size<=40
 dp:g.data.depth<=8
 nm:∀x∈vars g,x.length<=1000
 an:told g=g
structure GdOk(a:Trm):Prop where
 vr:vars a=[]
 sz:a.size<=40
 dp:a.data.depth<=8
structure RkOk(r:Rl):Prop where
 hz:r.head.size<=60
 hn:∀x∈vars r.head,x.length<=1000
 gz:∀g∈r.goals,g.size<=60
 gn:∀g∈r.goals,∀x∈vars g,x.length<=1000
 gl:r.goals.length<=10
def RwOk(q:Rws):Prop:=(∀r∈q,r.2.size<=60)/\q.length<=50
structure LwOk(L:Lw):Prop where
 gl:∀g∈L.univ,GlOk g
 nu:L.univ.length<=24
 ca:(L.univ.map L.cap).sum<=60
 co:(L.univ.map L.cost).sum<=300
 an:∀g a,L.Ans g a->GdOk a
 ac:∀g∈L.univ,∀l:List Trm,l.Nodup->(∀a∈l,L.Ans g a)->l.length<=L.cap g
 cs:∀g∈L.univ,((L.rules g).map λr=>1+L.pot g r 0).sum<=L.cost g
 rl:∀g∈L.univ,(L.rules g).length<=50/\∀r∈L.rules g,RkOk r
 ap:∀g∈L.univ,∀r∈L.rules g,(∃q c,L.app g r=some q/\Un true [] [(g,ren (mrk 0) r.head)] true q c/\L.Leg g r 0 q)\/(L.app g r=none/\∃q c,Un true [] [(g,ren (mrk 0) r.head)] false q c)
 rw:∀g r d q,L.Leg g r d q->RwOk q/\d<=r.goals.length/\r.goals.length<=10
 sb:∀g r d q,L.Leg g r d q->∀x,r.goals[d]? =some x->Full q (ren (mrk 0) x) (L.sub r d q)/\(L.sub r d q).size<=40/\(∃s ks,L.sub r d q=.app s ks/\Wd s)/\told (L.sub r d q)∈L.univ/\L.cap (told (L.sub r d q))*(1+L.pot g r (d+1))<=L.pot g r d
 nx:∀g r d q a,L.Leg g r d q->d<r.goals.length->L.Ans (told (L.sub r d q)) a->(∃c,Un true q [(L.sub r d q,a)] true (L.nxt r d q a) c)/\L.Leg g r (d+1) (L.nxt r d q a)
 fi:∀g r q,L.Leg g r r.goals.length q->Full q g (L.fin g q)/\L.Ans g (L.fin g q)
def Clo(L:Lw)(tb:List Tbl)(g:Trm)(r:Rl):Nat->Nat->Rws->Prop
 |0,_,q=>∃as,(g,as)∈tb/\L.fin g q∈as
 |n+1,d,q=>∃as,(told (L.sub r d q),as)∈tb/\∀a∈as,Clo L tb g r n (d+1) (L.nxt r d q a)
def ClT(L:Lw)(tb:List Tbl)(g:Trm):Prop:=∀r∈L.rules g,∀q,L.app g r=some q->Clo L tb g r r.goals.length 0 q
structure Tok(L:Lw)(tb:List Tbl):Prop where
 un:∀x∈tb,x.1∈L.univ
 nd:(tb.map (·.1)).Nodup
 an:∀x∈tb,x.2.Nodup/\∀a∈x.2,L.Ans x.1 a
def siz(tb:List Tbl):Nat:=(tb.map λx=>1+x.2.length).sum
def Ext(tb tb':List Tbl):Prop:=∀(i:Nat)(x:Tbl),tb[i]? =some x->∃more,tb'[i]? =some (x.1,x.2++more)
theorem Ext.refl(tb:List Tbl):Ext tb tb:=λi x h=>⟨[],by rw[Y5];exact h⟩
theorem Ext.trans{a b c:List Tbl}(h:Ext a b)(g:Ext b c):Ext a c:=λi x e=>by
 obtain⟨m,e1⟩:=h i x e;obtain⟨n,e2⟩:=g i _ e1;exact⟨m++n,by rw[<-Y9];exact e2⟩
structure Gr(ch:Bool)(tb:List Tbl)(ch':Bool)(tb':List Tbl):Prop where
 ex:Ext tb tb'
 up:siz tb<=siz tb'
 cg:ch'=true->ch=true\/siz tb<siz tb'
 st:ch'=false->ch=false/\tb'=tb
theorem Gr.refl(ch:Bool)(tb:List Tbl):Gr ch tb ch tb:=⟨.refl _,Zm _,λh=>.inl h,λh=>⟨h,rfl⟩⟩
theorem Gr.trans{a b c:Bool}{x y z:List Tbl}(h:Gr a x b y)(g:Gr b y c z):Gr a x c z:=
 ⟨h.ex.trans g.ex,Ye h.up g.up,λe=>(g.cg e).elim (λe=>(h.cg e).elim .inl λe=>.inr (Yc e g.up)) λe=>.inr (Rm h.up e),λe=>by
  obtain⟨e1,e2⟩:=g.st e;obtain⟨e3,e4⟩:=h.st e1
  exact⟨e3,e2.trans e4⟩⟩
theorem b1p{f:Trm->Nat}:∀(l U:List Trm),l.Nodup->(∀x∈l,x∈U)->(l.map f).sum<=(U.map f).sum
 | [],U,_,_=>Z4 _
 |x::l,U,hn,hs=>by
  obtain⟨A,B,rfl⟩:=Xm (hs x (Ze ..));have hn:=Yn.mp hn;have:=b1p (f:=f) l (A++B) hn.2 λy hy=>by
   have h:=hs y (Zc _ hy);rcases Zr.mp h with h|h
   ·exact Yy _ h
   ·rcases Zg.mp h with h|h
    ·exact absurd hy (by rw[h];exact hn.1)
    ·exact Z3 _ h
  simp only[Zt,Yu,Zi,Yz]at this ⊢;omega
theorem d0z{α:Type}{f g:α->Nat}:∀(l:List α),(∀x∈l,f x<=g x)->(l.map f).sum<=(l.map g).sum
 | [],_=>Zm _
 |x::l,h=>by
  have:=d0z l λy hy=>h y (Zc _ hy)
  have:=h x (Ze ..);simp only[Zt,Yu];omega
theorem a9o{α:Type}:∀(l:List α),(l.map λ_=>1).sum=l.length
 | []=>rfl
 |x::l=>by rw[Zt,Yu,a9o l,length_cons];omega
section
variable{L:Lw}{tb:List Tbl}
theorem Tok.len(ok:LwOk L)(h:Tok L tb):tb.length<=L.univ.length:=by
 have:=b1p (f:=λ_=>1) (tb.map (·.1)) L.univ h.nd λg hg=>by
  obtain⟨x,hx,rfl⟩:=Z1.mp hg;exact h.un x hx
 rw[a9o,a9o,length_map]at this;exact this
theorem Tok.tot(ok:LwOk L)(h:Tok L tb):tot tb<=60:=by
 have h1:My.tot tb<=(tb.map λx=>L.cap x.1).sum:=d0z tb λx hx=>ok.ac x.1 (h.un x hx) x.2 (h.an x hx).1 (h.an x hx).2
 have h2:=b1p (f:=L.cap) (tb.map (·.1)) L.univ h.nd λg hg=>by
  obtain⟨x,hx,rfl⟩:=Z1.mp hg;exact h.un x hx
 rw[Wm]at h2;exact Ye h1 (Ye h2 ok.ca)
theorem Tok.cost(ok:LwOk L)(h:Tok L tb):(tb.map λx=>L.cost x.1).sum<=300:=by
 have h2:=b1p (f:=L.cost) (tb.map (·.1)) L.univ h.nd λg hg=>by
  obtain⟨x,hx,rfl⟩:=Z1.mp hg;exact h.un x hx
 rw[Wm]at h2;exact Ye h2 ok.co
theorem b8q:∀(tb:List Tbl),siz tb=tb.length+tot tb
 | []=>rfl
 |x::r=>by
  have:=b8q r;unfold siz tot at*;rw[Zt,Zt,Yu,Yu,length_cons,this];omega
theorem Tok.siz(ok:LwOk L)(h:Tok L tb):siz tb<=84:=by
 have h1:=h.len ok;have h2:=h.tot ok;have h3:=ok.nu;rw[b8q];omega
end
mutual
theorem d1a:∀(t:Trm),ren (λx=>x) t=t
 | .num n=>by rw[ren]
 | .any x=>by rw[ren]
 | .app s ks=>by rw[ren,c6n ks]
theorem c6n:∀(ts:List Trm),renL (λx=>x) ts=ts
 | []=>by rw[renL]
 |t::r=>by rw[renL,d1a t,c6n r]
end
theorem b4r{t:Trm}(f:Str->Str)(h:vars t=[]):ren f t=t:=by
 have e:ren f t=ren (λx=>x) t:=b4e t f _ λx hx=>by rw[h]at hx;cases hx
 rw[e];exact d1a t
theorem told_gd{t:Trm}(h:vars t=[]):told t=t:=by
 have:anew [t]=[ren (sub (mkA (λj _=>uS++tn (j+1)) 0 (ordL [t] []))) t]:=by
  unfold anew;rw[renL,renL]
 unfold told;rw[this];exact b4r _ h
mutual
theorem a4u:∀(t:Trm),a1t t.data=true
 | .num n=>rfl
 | .any x=>rfl
 | .app s ks=>by
  show(true&&(true&&(a1t.hashyL (Trm.dataL ks)&&true)))=true
  rw[b8r ks];rfl
theorem b8r:∀(ts:List Trm),a1t.hashyL (Trm.dataL ts)=true
 | []=>rfl
 |t::r=>by
  show(a1t t.data&&a1t.hashyL (Trm.dataL r))=true
  rw[a4u t,b8r r];rfl
end
structure Fs where
 H0:Hp
 dx:Addr
 o:FO
 qs:List TO
 tb:List Tbl
abbrev Fs.M(x:Fs)(f:Addr):List Addr:=mu f x.o x.qs
abbrev FilA(K:W.Frag)(P:Program)(w:World)(CF CT:Addr)(L:Lw)(H:Hp)(f:Addr)(x:Fs):Prop:=Fil K P w CF CT x.H0 H f x.dx x.o x.qs L.tab x.tb
abbrev Fs.put(x:Fs)(st sp:Int)(ch:Bool):Fs:={ x with o:={ x.o with st:=st,sp:=sp,ch:=ch}}
structure Adv(K:W.Frag)(f:Addr)(H H':Hp)(x x':Fs):Prop where
 ev:Ev K (x.M f) (x'.M f) H H'
 gr:Gr x.o.ch x.tb x'.o.ch x'.tb
 h0:x'.H0=x.H0
 pq:∀(i:Nat)(q:TO),x.qs[i]? =some q->x'.qs[i]? =some q
 ld:x'.o.ld=x.o.ld/\x'.o.rd=x.o.rd/\x'.dx=x.dx
theorem Adv.refl{K:FG}{f:Addr}{H:Hp}{x:Fs}:Adv K f H H x x:=⟨.refl,.refl _ _,rfl,λ_ _ h=>h,rfl,rfl,rfl⟩
theorem Adv.same{K:FG}{f:Addr}{H H':Hp}{x:Fs}(s:Same H H'):Adv K f H H' x x:=⟨.same s,.refl _ _,rfl,λ_ _ h=>h,rfl,rfl,rfl⟩
theorem Adv.trans{K:FG}{f:Addr}{H H1 H2:Hp}{x y z:Fs}(a:Adv K f H H1 x y)(b:Adv K f H1 H2 y z):Adv K f H H2 x z:=
 ⟨a.ev.trans b.ev,a.gr.trans b.gr,b.h0.trans a.h0,λi q h=>b.pq i q (a.pq i q h),b.ld.1.trans a.ld.1,b.ld.2.1.trans a.ld.2.1,b.ld.2.2.trans a.ld.2.2⟩
theorem Ev.cons{K:FG}{M M':List Addr}{H H':Hp}{D:Addr}{o:HO}(e:Ev K M M' H H')(hD:H D=some o):Ev K (D::M) (D::M') H H':=
 ⟨⟨λa x m g=>e.pr.kp a x (λz=>m (Zc _ z)) g,e.pr.kt⟩,λa z=>(Zg.mp z).elim (λz=>.inl (z▸Ze ..)) λz=>(e.mm a z).elim (λz=>.inl (Zc _ z)) .inr,e.nf⟩
structure Go where
 q:Rws
 d:Nat
 rs:List (Nat×Nat)
def rsE(p:Nat×Nat):PyData:=.tuple [.int (p.1:Int),.int (p.2:Int)]
def GoAt(K:W.Frag)(CG:Addr)(H:Hp)(M:List Addr)(v:V)(g:Go):Prop:=∃(a dg pp rl:Addr)(us:List V),v=.ref a/\H a=some (.ins CG dg (goF (.ref pp) (.int (g.d:Int)) (.ref rl)))/\a∉M/\a2h K H pp g.q/\pp∉M/\H rl=some (.lst us)/\rl∉M/\DenL K H us (g.rs.map rsE)
theorem GoAt.ev{K:FG}{CG:Addr}{H H':Hp}{M M':List Addr}{v:V}{g:Go}(e:Ev K M M' H H')(h:GoAt K CG H M v g):GoAt K CG H' M' v g:=by
 obtain⟨a,dg,pp,rl,us,e0,h1,h2,h3,h4,h5,h6,h7⟩:=h;obtain⟨kvs,p1,p2⟩:=h3.ex;exact⟨a,dg,pp,rl,us,e0,(e.off h2 h1).2,(e.off h2 h1).1,⟨kvs,(e.off h4 p1).2,p2.monoT e.pr.kt⟩,(e.off h4 p1).1,(e.off h6 h5).2,(e.off h6 h5).1,h7.monoT e.pr.kt⟩
def RsOk(tb:List Tbl)(rs:List (Nat×Nat)):Prop:=∀p∈rs,∃x:Tbl,tb[p.1]? =some x/\p.2<x.2.length
theorem RsOk.ext{tb tb':List Tbl}{rs:List (Nat×Nat)}(h:RsOk tb rs)(e:Ext tb tb'):RsOk tb' rs:=λp hp=>by
 obtain⟨x,h1,h2⟩:=h p hp;obtain⟨m,e1⟩:=e _ _ h1;exact⟨_,e1,by rw[Zk];omega⟩
abbrev a9b(CT:Addr)(P:Program)(w:World):Sp:=λvs H Q _=>match vs with| [.ref a,g,.int l]=>∃dt,H a=some (.ins CT dt [])/\∀al kd H',H al=none->H kd=none->al≠kd->(kd==sysModules)=false->But a H H'->H' a=some (.ins CT dt (tbF g (.int l) (.ref al) (.ref kd)))->H' al=some (.lst [])->H' kd=some (dnO P w kd [])->Q .non H'|_=>False
abbrev a6x(CG:Addr):Sp:=λvs H Q _=>match vs with| [.ref a,p,d,r]=>∃dg,H a=some (.ins CG dg [])/\∀H',But a H H'->H' a=some (.ins CG dg (goF p d r))->Q .non H'|_=>False
abbrev a3g(K:W.Frag)(P:Program)(w:World)(CF CT CG:Addr):Sp:=λvs H Q _=>match vs with| [.ref f]=>∃(x:Fs)(L:Lw),FilA K P w CF CT L H f x/\x.o.sp<300/\∀H',FilA K P w CF CT L H' f (x.put x.o.st (x.o.sp+1) x.o.ch)->But f H H'->KT K H H'->Q .non H'|_=>False
abbrev a3l(K:W.Frag)(P:Program)(w:World)(CF CT CG:Addr):Sp:=λvs H Q _=>match vs with| [.ref f,v]=>∃(x:Fs)(L:Lw)(t:Trm),FilA K P w CF CT L H f x/\LwOk L/\Tok L x.tb/\Den K H v t.data/\t.size<=40/\told t∈L.univ/\∀x' (i:Nat) as H',FilA K P w CF CT L H' f x'->Adv K f H H' x x'->Tok L x'.tb->x'.o.sp=x.o.sp->x'.tb[i]? =some (told t,as)->x'.tb.length<=x.tb.length+1->Q (.int (i:Int)) H'|_=>False
structure Gone(K:W.Frag)(CG f:Addr)(L:Lw)(H H':Hp)(x x':Fs)(r:Rl)(d:Nat)(q:Rws)(D:Addr)(us:List V)(gs:List Go):Prop where
 tk:Tok L x'.tb
 top:H' D=some (.lst us)
 nD:D∉x'.M f
 pg:∀D0 o,H D0=some o->Paired (GoAt K CG H' (D0::x'.M f)) us gs
 pa:∃as,(told (L.sub r d q),as)∈x'.tb/\gs.map (·.q)=as.map (L.nxt r d q)
 po:∀g∈gs,g.d=d+1/\RsOk x'.tb g.rs/\g.rs.length<=d+1
 sp:x'.o.sp=x.o.sp+(gs.length:Int)
def ByC(K:W.Frag)(P:Program)(w:World)(CF CT CG f:Addr)(v gv:V)(H:Hp)(Q:VK):Prop:=∃(x:Fs)(L:Lw)(g0:Trm)(r:Rl)(g:Go),FilA K P w CF CT L H f x/\LwOk L/\Tok L x.tb/\Den K H v (L.sub r g.d g.q).data/\GoAt K CG H (x.M f) gv g/\L.Leg g0 r g.d g.q/\g.d<r.goals.length/\RsOk x.tb g.rs/\g.rs.length<=g.d/\x.o.sp+(L.cap (told (L.sub r g.d g.q)):Int)<=300/\∀x' D us gs H',FilA K P w CF CT L H' f x'->Adv K f H H' x x'->H D=none->Gone K CG f L H H' x x' r g.d g.q D us gs->Q (.ref D) H'
abbrev a4p(K:W.Frag)(P:Program)(w:World)(CF CT CG:Addr):Sp:=λvs H Q _=>match vs with| [.ref f,v,gv]=>ByC K P w CF CT CG f v gv H Q|_=>False
abbrev a5f(K:W.Frag)(P:Program)(w:World)(CF CT CG:Addr):Sp:=λvs H Q _=>match vs with| [.ref f,v,gv]=>ByC K P w CF CT CG f v gv H Q|_=>False
theorem c3z{K:FG}{M:List Addr}{f:Addr}{H H':Hp}(hf:f∈M){x:HO}(hx:H' f=some x)(b:But f H H')(k:KT K H H'):Ev K M M H H':=⟨⟨λa o n e=>b a o (λz=>n (by rw[z];exact hf)) e,k⟩,λ_ z=>.inl z,λa z=>by
 cases e:H a with
 |none=>rfl
 |some o=>
  by_cases c:a=f
  ·rw[c,hx]at z;cases z
  ·rw[b a o c e]at z;cases z⟩
abbrev a4q(K:W.Frag)(P:Program)(w:World)(CF CT CG:Addr):Sp:=λvs H Q _=>match vs with| [.ref f,.ref ta,nv,gv]=>∃(x:Fs)(L:Lw)(i:Nat)(as:List Trm)(g:Trm)(r:Rl)(e:Go),FilA K P w CF CT L H f x/\LwOk L/\Tok L x.tb/\(∃q0:TO,x.qs[i]? =some q0/\q0.t=ta)/\x.tb[i]? =some (g,as)/\GoAt K CG H (x.M f) gv e/\e.d=r.goals.length/\L.Leg g r e.d e.q/\RsOk x.tb e.rs/\e.rs.length<=e.d/\∀x' H',FilA K P w CF CT L H' f x'->Adv K f H H' x x'->Tok L x'.tb->x'.o.sp=x.o.sp->(x'.o.ch=false->L.fin g e.q∈as)->Q .non H'|_=>False
structure Tat(L:Lw)(x:Fs)(i:Nat)(ta:Addr)(g:Trm):Prop where
 q:∃q0,x.qs[i]? =some q0/\q0.t=ta
 t:∃as,x.tb[i]? =some (g,as)
abbrev a4r(K:W.Frag)(P:Program)(w:World)(CF CT CG:Addr):Sp:=λvs H Q _=>match vs with| [.ref f,.ref ta,rv,.ref pp]=>∃(x:Fs)(L:Lw)(i:Nat)(g:Trm)(r:Rl)(q:Rws),FilA K P w CF CT L H f x/\LwOk L/\Tok L x.tb/\Tat L x i ta g/\Dm K H (x.M f) rv r.data/\RkOk r/\a2h K H pp q/\pp∉x.M f/\L.Leg g r 0 q/\x.o.sp+(L.pot g r 0:Int)<=300/\L.pot g r 0<=300/\∀x' H',FilA K P w CF CT L H' f x'->Adv K f H H' x x'->Tok L x'.tb->x'.o.sp<=x.o.sp+(L.pot g r 0:Int)->(x'.o.ch=false->Clo L x'.tb g r r.goals.length 0 q)->Q .non H'|_=>False
abbrev a6k(K:W.Frag)(P:Program)(w:World)(CF CT CG:Addr):Sp:=λvs H Q _=>match vs with| [.ref f,.ref ta]=>∃(x:Fs)(L:Lw)(i:Nat)(g:Trm),FilA K P w CF CT L H f x/\LwOk L/\Tok L x.tb/\Tat L x i ta g/\x.o.sp+(L.cost g:Int)<=300/\∀x' H',FilA K P w CF CT L H' f x'->Adv K f H H' x x'->Tok L x'.tb->x'.o.sp<=x.o.sp+(L.cost g:Int)->(x'.o.ch=false->ClT L x'.tb g)->Q .non H'|_=>False
abbrev a4c(K:W.Frag)(P:Program)(w:World)(CF CT CG:Addr):Sp:=λvs H Q _=>match vs with| [.ref f]=>∃(x:Fs)(L:Lw),FilA K P w CF CT L H f x/\LwOk L/\Tok L x.tb/\x.o.ch=false/\x.tb≠[]/\∀x' H',FilA K P w CF CT L H' f x'->Adv K f H H' x x'->Tok L x'.tb->(x'.o.ch=false->∀y∈x'.tb,ClT L x'.tb y.1)->Q .non H'|_=>False
structure c4a(L:Lw)(tb:List Tbl)(g:Trm):Prop where
 tk:Tok L tb
 cl:∀y∈tb,ClT L tb y.1
 t0:∃as,tb[0]? =some (g,as)
abbrev a5p(K:W.Frag)(P:Program)(w:World)(CF CT CG:Addr):Sp:=λvs H Q _=>match vs with| [.ref f,v]=>∃(x:Fs)(L:Lw)(g tt:Trm),FilA K P w CF CT L H f x/\LwOk L/\x.tb=[]/\x.o.ch=false/\Den K H v tt.data/\told tt=g/\tt.size<=40/\g∈L.univ/\∀x' H',FilA K P w CF CT L H' f x'->Ev K (x.M f) (x'.M f) H H'->x'.H0=x.H0->c4a L x'.tb g->Q .non H'|_=>False
abbrev a8q(K:W.Frag):Sp:=λvs H Q _=>match vs with| [v,v',.ref pd]=>∃rows t t' ok q c,a2h K H pd rows/\rows.length<=900/\Den K H v t.data/\Den K H v' t'.data/\Un true rows [(t,t')] ok q c/\∀p a H',Same H H'->(ok=true->SqT K H' p [.str "one",.ref a]/\H a=none/\a2h K H' a q)->(ok=false->∃s ys,SqT K H' p (.str s::ys)/\s≠ofString "one")->Q (.ref p) H'|_=>False
theorem b0h{qs:List TO}{q:TO}(h:q∈qs):q.al∈mq qs/\q.kd∈mq qs:=⟨X3.mpr ⟨q,h,Ze ..⟩,X3.mpr ⟨q,h,Zc _ (Ze ..)⟩⟩
theorem c6o(qs:List TO)(q:TO):mq (qs++[q])=mq qs++[q.al,q.kd]:=by
 unfold mq;rw[List.flatMap_append];rfl
theorem d3w(tb:List Tbl)(g:Trm):tot (tb++[(g,[])])=tot tb:=by
 unfold tot;rw[Zi,Yz];rfl
theorem c6p(f:Addr)(o:FO)(qs:List TO)(q:TO):mu f o (qs++[q])=mu f o qs++[q.al,q.kd]:=by
 rw[mu,c6o];rfl
theorem b3a{α β:Type}{F G:α->β->Prop}:∀{a:List α}{b:List β},Paired F a b->(∀x y,x∈a->F x y->G x y)->Paired G a b
 |_,_,.nil,_=>.nil
 |_,_,.cons r t,f=>.cons (f _ _ (Ze ..) r) (b3a t λx y h=>f x y (Zc _ h))
section
variable{K:W.Frag}{P:Program}{w:World}{CF CT:Addr}{H0 H H4:Hp}{f dx:Addr}{o:FO}{qs:List TO}{tab:List (List Key×List Rl)}{tb:List Tbl}
theorem Fil.ne3(h:Fil K P w CF CT H0 H f dx o qs tab tb){q:TO}(hq:q∈qs):q.al≠f/\q.al≠o.tl/\q.al≠o.pd/\q.kd≠f/\q.kd≠o.tl/\q.kd≠o.pd:=by
 obtain⟨m1,m2⟩:=b0h hq;have n:=h.nd;simp only[mu,Yn,Zg,not_or]at n;obtain⟨⟨_,_,n3⟩,⟨_,n5⟩,n6,_⟩:=n;exact⟨λz=>n3 (z▸m1),λz=>n5 (z▸m1),λz=>n6 (z▸m1),λz=>n3 (z▸m2),λz=>n5 (z▸m2),λz=>n6 (z▸m2)⟩
theorem Fil.ne2(h:Fil K P w CF CT H0 H f dx o qs tab tb):f≠o.tl/\f≠o.pd/\o.tl≠o.pd:=by
 have n:=h.nd;simp only[mu,Yn,Zg,not_or]at n;exact⟨n.1.1,n.1.2.1,n.2.1.1⟩
theorem Fil.addT(h:Fil K P w CF CT H0 H f dx o qs tab tb){p:Addr}{g:Trm}{kvs:NKv}{q:TO}(kp:DnAt K P w H o.pd kvs)(kk:kvs.map (·.1)=tb.map (λx=>x.1.data)/\∀(i:Nat)(x:PyData×Addr×V),kvs[i]? =some x->x.2.2=V.int (i:Int))(hp:Den K H (.ref p) g.data)(h8:g.data.depth<=8)(hz:atN kvs g.data=none)(hl:tb.length<999)
  (s:Same (upd H o.pd (dnO P w o.pd (kvs++[(g.data,p,.int (tb.length:Int))]))) H4)(n1:H q.t=none)(n2:H q.al=none)(n3:H q.kd=none)(n4:q.al≠q.kd)(n5:q.t≠q.al)(n6:q.t≠q.kd)(lo:(q.kd==sysModules)=false)
  (e1:H4 q.t=some (.ins CT q.dt (tbF q.gv (.int 0) (.ref q.al) (.ref q.kd))))(e2:H4 q.al=some (.lst []))(e3:H4 q.kd=some (dnO P w q.kd []))(hg:Den K H4 q.gv g.data):
  Fil K P w CF CT H0 (upd (upd H4 o.tl (.lst ((qs.map λq=>.ref q.t)++[.ref q.t]))) f (.ins CF dx { o with ch:=true}.fs)) f dx { o with ch:=true} (qs++[q]) tab (tb++[(g,[])])/\Ev K (mu f o qs) (mu f { o with ch:=true} (qs++[q])) H (upd (upd H4 o.tl (.lst ((qs.map λq=>.ref q.t)++[.ref q.t]))) f (.ins CF dx { o with ch:=true}.fs)):=by
 obtain⟨m1,m2,m3⟩:=h.ne2;have hf4:H4 f=some (.ins CF dx o.fs):=s _ _ (by rw[a0d m2];exact h.ob);have ht4:H4 o.tl=some (.lst (qs.map λq=>.ref q.t)):=s _ _ (by rw[a0d m3];exact h.tl);have k1:KT K H (upd H o.pd (dnO P w o.pd (kvs++[(g.data,p,.int (tb.length:Int))]))):=.upd kp.ob (λ_ z=>by cases z) (λ_ _ z=>by cases z);have k5:KT K H4 (upd H4 o.tl (.lst ((qs.map λq=>.ref q.t)++[.ref q.t]))):=.upd ht4 (λ_ z=>by cases z) (λ_ _ z=>by cases z);have k6:KT K (upd H4 o.tl (.lst ((qs.map λq=>.ref q.t)++[.ref q.t]))) (upd (upd H4 o.tl (.lst ((qs.map λq=>.ref q.t)++[.ref q.t]))) f (.ins CF dx { o with ch:=true}.fs)):=.upd (by rw[a0d m1];exact hf4) (λ_ z=>by cases z) (λ_ _ z=>by cases z);have kt:=(k1.trans (KT.same s)).trans (k5.trans k6);have keep:∀a x,a≠f->a≠o.tl->a≠o.pd->H a=some x->(upd (upd H4 o.tl (.lst ((qs.map λq=>.ref q.t)++[.ref q.t]))) f (.ins CF dx { o with ch:=true}.fs)) a=some x:=λa x z1 z2 z3 e=>by
  rw[a0d z1,a0d z2];exact s _ _ (by rw[a0d z3];exact e)
 have new:∀a x,H a=none->H4 a=some x->(upd (upd H4 o.tl (.lst ((qs.map λq=>.ref q.t)++[.ref q.t]))) f (.ins CF dx { o with ch:=true}.fs)) a=some x:=λa x z e=>by
  rw[a0d (Ne.symm (a0p h.ob z)),a0d (Ne.symm (a0p h.tl z))];exact e
 have ev:Ev K (mu f o qs) (mu f { o with ch:=true} (qs++[q])) H (upd (upd H4 o.tl (.lst ((qs.map λq=>.ref q.t)++[.ref q.t]))) f (.ins CF dx { o with ch:=true}.fs)):=by
  refine⟨⟨λa x n e=>keep a x (λz=>n (by rw[z];exact Ze ..)) (λz=>n (by rw[z];exact Zc _ (Ze ..))) (λz=>n (by rw[z];exact Zc _ (Zc _ (Ze ..)))) e,kt⟩,λa ha=>?_,λa z=>?_⟩;rotate_left
  ·by_cases c1:a=f
   ·rw[c1,a0c]at z;cases z
   by_cases c2:a=o.tl
   ·rw[c2,a0d m1.symm,a0c]at z;cases z
   rw[a0d c1,a0d c2]at z;have z:=a1c s z
   by_cases c3:a=o.pd
   ·rw[c3,a0c]at z;cases z
   ·rw[a0d c3]at z;exact z
  rw[mu,c6o]at ha;simp only[Zg,Zr,Yk,Xv]at ha ⊢;rcases ha with z|z|z|z|z|z
  ·exact .inl (.inl z)
  ·exact .inl (.inr (.inl z))
  ·exact .inl (.inr (.inr (.inl z)))
  ·exact .inl (.inr (.inr (.inr z)))
  ·exact .inr (by rw[z];exact n2)
  ·exact .inr (by rw[z];exact n3)
 have f0:=h.f0;have hs:∀{a:Addr},H a=none->H0 a=none:=λ{a} e=>by
  cases z:H0 a with
  |none=>rfl
  |some x=>rw[h.sm _ _ z]at e;cases e
 refine⟨h.next (o':={ o with ch:=true}) ev rfl rfl ?_ a0c ?_ ?_ ?_ ?_ ⟨kvs++[(g.data,p,.int (tb.length:Int))],?_,?_,?_⟩ (by rw[d3w];exact h.mn),ev⟩
 ·refine a0x (λa x e=>?_) (f0 _ (Ze ..));rw[a0d (a0p e (f0 _ (Zc _ (Ze ..))))];exact s _ _ (by rw[a0d (a0p e (f0 _ (Zc _ (Zc _ (Ze ..)))))];exact h.sm _ _ e)
 ·intro a ha;rcases ev.mm a ha with z|z
  ·exact f0 a z
  ·exact hs z
 ·show(mu f o (qs++[q])).Nodup
  rw[c6p];refine Yb.mpr ⟨h.nd,by simp[n4],λa ha b hb z=>?_⟩;rcases Zg.mp hb with e|e
  ·exact h.notM n2 (by rw[<-e,<-z];exact ha)
  ·exact h.notM n3 (by rw[<-Zd.mp e,<-z];exact ha)
 ·rw[a0d m1.symm]
  show upd H4 o.tl _ o.tl=_
  rw[a0c,Zi];rfl
 ·refine a5e (b3a h.tbs λq' x hq' z=>?_) (.cons ⟨new _ _ n1 e1,?_,hg.monoT (k5.trans k6),⟨[],new _ _ n2 e2,.nil⟩,[],⟨new _ _ n3 e3,lo,Z4 _,λ_ z=>by simp at z,.nil⟩,rfl⟩ .nil)
  ·obtain⟨z1,z2,z3,z4,z5,z6⟩:=h.ne3 hq';obtain⟨us,a1,_⟩:=z.an;obtain⟨kv,b1,_⟩:=z.kn;exact z.ev ev ((keep _ _ z1 z2 z3 a1).trans a1.symm) ((keep _ _ z4 z5 z6 b1.ob).trans b1.ob.symm)
  ·intro z;have z:q.t∈mu f o (qs++[q]):=z;rw[c6p]at z;rcases Zr.mp z with z|z
   ·exact h.notM n1 z
   ·rcases Zg.mp z with z|z
    ·exact n5 z
    ·exact n6 (Zd.mp z)
 ·have hpd:H4 o.pd=some (dnO P w o.pd (kvs++[(g.data,p,.int (tb.length:Int))])):=s _ _ a0c;have hk:kvs.length=tb.length:=by
   have:=Yv List.length kk.1;rw[length_map,length_map]at this;exact this
  have d:=kp.put (v:=.int (tb.length:Int)) hp h8 (a4u g) hz qo k1;refine d.mono ((KT.same s).trans (k5.trans k6)) ?_;rw[a0c,a0d m2.symm,a0d m3.symm];exact hpd
 ·rw[Zi,Zi,kk.1];rfl
 ·intro i x hx;rcases Nat.lt_or_ge i kvs.length with z|z
  ·rw[Wo z]at hx;exact kk.2 i x hx
  ·rw[Tg z]at hx;have hk:kvs.length=tb.length:=by
    have:=Yv List.length kk.1;rw[length_map,length_map]at this;exact this
   have hi:i-kvs.length=0:=by
    have:=(Zy.mp hx).1
    simpa using this
   rw[hi]at hx;cases hx
   show V.int (tb.length:Int)=.int (i:Int)
   rw[show i=tb.length by omega]
end
theorem Tok.addT{L:Lw}{tb:List Tbl}{g:Trm}(h:Tok L tb)(hu:g∈L.univ)(hn:g∉tb.map (·.1)):Tok L (tb++[(g,[])]):=by
 refine⟨λx hx=>?_,?_,λx hx=>?_⟩
 ·rcases Zr.mp hx with z|z
  ·exact h.un x z
  ·rw[Zd.mp z];exact hu
 ·rw[Zi];refine Yb.mpr ⟨h.nd,qz,λa ha b hb z=>?_⟩;rw[Wv,Zd]at hb;have hb:b=g:=hb;exact hn (by rw[<-hb,<-z];exact ha)
 ·rcases Zr.mp hx with z|z
  ·exact h.an x z
  ·rw[Zd.mp z];exact⟨.nil,λa ha=>by simp at ha⟩
theorem Gr.addT(ch:Bool)(tb:List Tbl)(g:Trm):Gr ch tb true (tb++[(g,[])]):=by
 have e:siz (tb++[(g,[])])=siz tb+1:=by
  unfold siz;rw[Zi,Yz];rfl
 refine⟨λi x h=>⟨[],?_⟩,qo,λ_=>.inr qo,λz=>by cases z⟩;rw[Y5,Wo (Zy.mp h).1];exact h
theorem c6q{kvs:NKv}{tb:List Tbl}{g:Trm}{v:V}(kk:kvs.map (·.1)=tb.map (λx=>x.1.data)/\∀(i:Nat)(x:PyData×Addr×V),kvs[i]? =some x->x.2.2=V.int (i:Int))(h:atN kvs g.data=some v):∃(i:Nat)(as:List Trm),v=.int (i:Int)/\tb[i]? =some (g,as):=by
 have key:∀(kvs:NKv),atN kvs g.data=some v->∃(i:Nat)(x:PyData×Addr×V),kvs[i]? =some x/\x.1=g.data/\x.2.2=v:=by
  intro kvs
  induction kvs with
  |nil=>intro h;cases h
  |cons p r ih=>
   intro h;rw[atN]at h
   by_cases c:p.1=g.data
   ·rw[if_pos c]at h;exact⟨0,p,rfl,c,Zl h⟩
   ·rw[if_neg c]at h;obtain⟨i,x,e1,e2⟩:=ih h;exact⟨i+1,x,e1,e2⟩
 obtain⟨i,x,e1,e2,e3⟩:=key kvs h;have e4:(kvs.map (·.1))[i]? =some g.data:=by rw[Zv,e1];exact Yv some e2
 rw[kk.1,Zv]at e4;obtain⟨y,f1,f2⟩:=Xg.mp e4;have f2:y.1=g:=Trm.data_inj f2;exact⟨i,y.2,e3.symm.trans (kk.2 i x e1),by rw[f1,<-f2]⟩
theorem c1b{kvs:NKv}{tb:List Tbl}{g:Trm}(kk:kvs.map (·.1)=tb.map (λx=>x.1.data))(h:atN kvs g.data=none):g∉tb.map (·.1):=λz=>by
 obtain⟨x,hx,e⟩:=Z1.mp z;refine b2j.mp h ?_;rw[kk];exact Z1.mpr ⟨x,hx,by rw[e]⟩
theorem GoAt.less{K:FG}{CG:Addr}{H:Hp}{M M':List Addr}{v:V}{g:Go}(s:∀a∈M',a∈M)(h:GoAt K CG H M v g):GoAt K CG H M' v g:=by
 obtain⟨a,dg,pp,rl,us,e0,h1,h2,h3,h4,h5,h6,h7⟩:=h;exact⟨a,dg,pp,rl,us,e0,h1,λz=>h2 (s _ z),h3,λz=>h4 (s _ z),h5,λz=>h6 (s _ z),h7⟩
theorem ev_put{K:FG}{M M':List Addr}{H1 H:Hp}{D:Addr}{o o0:HO}(e:Ev K M M' H1 H)(n:H1 D=none)(hD:H D=some o0)(c1:∀xs,o0≠.tup xs)(c2:∀o' xs,o0≠.frz o' (.tup xs)):Ev K M M' H1 (upd H D o):=
 ⟨⟨λa x m g=>by rw[a0d (a0p g n)];exact e.pr.kp a x m g,e.pr.kt.trans (.upd hD c1 c2)⟩,e.mm,λa z=>by
  by_cases c:a=D
  ·rw[c];exact n
  ·rw[a0d c]at z;exact e.nf a z⟩
theorem ev_in{K:FG}{M:List Addr}{H:Hp}{D:Addr}{o o0:HO}(m:D∈M)(hD:H D=some o0)(c1:∀xs,o0≠.tup xs)(c2:∀o' xs,o0≠.frz o' (.tup xs)):Ev K M M H (upd H D o):=
 ⟨.upd m hD c1 c2,λ_ z=>.inl z,λa z=>by
  by_cases c:a=D
  ·rw[c,a0c]at z;cases z
  ·rw[a0d c]at z;exact z⟩
section
variable{K:W.Frag}{P:Program}{w:World}{CF CT:Addr}{H0 H1 H:Hp}{f dx D:Addr}{o o':FO}{qs qs':List TO}{tab:List (List Key×List Rl)}{tb tb':List Tbl}{us us':List V}
theorem Fil.lst(hb:Fil K P w CF CT H0 H1 f dx o qs tab tb)(h:Fil K P w CF CT H0 H f dx o' qs' tab tb')(el:o'.ld=o.ld)(er:o'.rd=o.rd)(e:Ev K (mu f o qs) (mu f o' qs') H1 H)(n:H1 D=none)(nm:D∉mu f o' qs')(hD:H D=some (.lst us)):Fil K P w CF CT H0 (upd H D (.lst us')) f dx o' qs' tab tb'/\Ev K (mu f o qs) (mu f o' qs') H1 (upd H D (.lst us')):=by
 have e2:Ev K (mu f o qs) (mu f o' qs') H1 (upd H D (.lst us')):=ev_put e n hD (λ_ z=>by cases z) (λ_ _ z=>by cases z);have kt:KT K H (upd H D (.lst us')):=.upd hD (λ_ z=>by cases z) (λ_ _ z=>by cases z);have nD:H0 D=none:=by
  cases z:H0 D with
  |none=>rfl
  |some x=>rw[hb.sm _ _ z]at n;cases n
 have nin:∀a∈mu f o' qs',a≠D:=λa ha z=>nm (z▸ha)
 obtain⟨kvs,k1,k2⟩:=h.pl;refine⟨hb.next e2 el er (λa x z=>?_) ?_ h.f0 h.nd ?_ (b3a h.tbs λq x hq z=>?_) ⟨kvs,k1.mono kt ?_,k2⟩ h.mn,e2⟩
 ·rw[a0d (a0p z nD)];exact h.sm _ _ z
 ·rw[a0d (nin _ (Ze ..))];exact h.ob
 ·rw[a0d (nin _ (Zc _ (Ze ..)))];exact h.tl
 ·obtain⟨m1,m2⟩:=b0h hq;obtain⟨us1,a1,a2⟩:=z.an;obtain⟨kv,b1,b2⟩:=z.kn;have x1:=a0d (H:=H) (o:=.lst us') (nin _ (Zc _ (Zc _ (Zc _ m1))));have x2:=a0d (H:=H) (o:=.lst us') (nin _ (Zc _ (Zc _ (Zc _ m2))));exact⟨by rw[a0d (a0z z.ob hD (λy=>by cases y))];exact z.ob,z.nt,z.go.monoT kt,⟨us1,x1.trans a1,Paired.mapP a2 λ_ _ y=>y.kt kt⟩,kv,b1.mono kt x2,b2⟩
 ·exact a0d (nin _ (Zc _ (Zc _ (Ze ..))))
end
theorem mq_ne:∀{qs:List TO}{i j:Nat}{q q':TO},(mq qs).Nodup->qs[i]? =some q->qs[j]? =some q'->j≠i->q'.al≠q.al/\q'.al≠q.kd/\q'.kd≠q.al/\q'.kd≠q.kd
 | [],i,j,q,q',_,h,_,_=>by simp at h
 |x::r,0,0,q,q',_,_,_,ne=>absurd rfl ne
 |x::r,0,j+1,q,q',n,h,h',_=>by
  have n:([x.al,x.kd]++mq r).Nodup:=n;obtain⟨_,_,n3⟩:=Yb.mp n;have e:x=q:=by simpa using h
  subst e;obtain⟨m1,m2⟩:=b0h (Zn (show r[j]? =some q' by simpa using h'));exact⟨(n3 _ (Ze ..) _ m1).symm,(n3 _ (Zc _ (Ze ..)) _ m1).symm,(n3 _ (Ze ..) _ m2).symm,(n3 _ (Zc _ (Ze ..)) _ m2).symm⟩
 |x::r,i+1,0,q,q',n,h,h',_=>by
  have n:([x.al,x.kd]++mq r).Nodup:=n;obtain⟨_,_,n3⟩:=Yb.mp n;have e:x=q':=by simpa using h'
  subst e;obtain⟨m1,m2⟩:=b0h (Zn (show r[i]? =some q by simpa using h));exact⟨n3 _ (Ze ..) _ m1,n3 _ (Ze ..) _ m2,n3 _ (Zc _ (Ze ..)) _ m1,n3 _ (Zc _ (Ze ..)) _ m2⟩
 |x::r,i+1,j+1,q,q',n,h,h',ne=>by
  have n:([x.al,x.kd]++mq r).Nodup:=n;obtain⟨_,n2,_⟩:=Yb.mp n;exact mq_ne n2 (by simpa using h) (by simpa using h') qo
theorem mq_nd:∀{qs:List TO}{i:Nat}{q:TO},(mq qs).Nodup->qs[i]? =some q->q.al≠q.kd
 | [],i,q,_,h=>by simp at h
 |x::r,0,q,n,h=>by
  have n:([x.al,x.kd]++mq r).Nodup:=n;obtain⟨n1,_,_⟩:=Yb.mp n;have e:x=q:=by simpa using h
  subst e
  simpa using n1
 |x::r,i+1,q,n,h=>by
  have n:([x.al,x.kd]++mq r).Nodup:=n;obtain⟨_,n2,_⟩:=Yb.mp n;exact mq_nd n2 (by simpa using h)
theorem b8s{α β:Type}{F G:α->β->Prop}:∀{a:List α}{b:List β},Paired F a b->(∀(j:Nat) x z,a[j]? =some x->F x z->G x z)->Paired G a b
 |_,_,.nil,_=>.nil
 |_,_,.cons r t,f=>.cons (f 0 _ _ rfl r) (b8s t λj x z h=>f (j+1) x z (by simpa using h))
theorem b8t{α β:Type}{F G:α->β->Prop}:∀{a:List α}{b:List β}{i:Nat}{y:β},Paired F a b->(∀(j:Nat) x z,j≠i->a[j]? =some x->F x z->G x z)->(∀x,a[i]? =some x->G x y)->Paired G a (b.set i y)
 |_,_,_,_,.nil,_,_=>.nil
 |_,_,0,_,.cons r t,f,g=>.cons (g _ rfl) (b8s t λj x z h=>f (j+1) x z qo (by simpa using h))
 |_,_,i+1,_,.cons r t,f,g=>.cons (f 0 _ _ qo rfl r) (b8t t (λj x z ne h=>f (j+1) x z qo (by simpa using h)) λx h=>g x (by simpa using h))
theorem b9x:∀{tb:List Tbl}{i:Nat}{g:Trm}{as bs:List Trm},tb[i]? =some (g,as)->(tb.set i (g,bs)).map (·.1)=tb.map (·.1)
 | [],_,_,_,_,h=>by simp at h
 |x::r,0,g,as,bs,h=>by
  have e:x=(g,as):=by simpa using h
  rw[e];rfl
 |x::r,i+1,g,as,bs,h=>by
  rw[Ui,Zt,Zt,b9x (show r[i]? =some (g,as) by simpa using h)]
theorem b5q:∀{tb:List Tbl}{i:Nat}{g a:Trm}{as:List Trm},tb[i]? =some (g,as)->tot (tb.set i (g,as++[a]))=tot tb+1
 | [],_,_,_,_,h=>by simp at h
 |x::r,0,g,a,as,h=>by
  have e:x=(g,as):=by simpa using h
  rw[e];unfold tot;simp only[Ro,Zt,Yu,Zk,Z8];omega
 |x::r,i+1,g,a,as,h=>by
  have:=b5q (a:=a) (show r[i]? =some (g,as) by simpa using h);unfold tot at*;rw[Ui,Zt,Zt,Yu,Yu,this];omega
section
variable{K:W.Frag}{P:Program}{w:World}{CF CT:Addr}{H0 H:Hp}{f dx:Addr}{o:FO}{qs:List TO}{tab:List (List Key×List Rl)}{tb:List Tbl}
theorem Fil.ans(h:Fil K P w CF CT H0 H f dx o qs tab tb){i:Nat}{q:TO}{g a:Trm}{as:List Trm}{us:List V}{av:V}{tp:Addr}{kvs:NKv}(hq:qs[i]? =some q)(hg:tb[i]? =some (g,as))(ha:H q.al=some (.lst us))(pa:Paired (AnAt K H) us as)(kn:DnAt K P w H q.kd kvs)(kk:kvs.map (·.1)=as.map Trm.data)(hav:AnAt K H av a)(hp:Den K H (.ref tp) a.data)(h8:a.data.depth<=8)(hz:atN kvs a.data=none)(hl:as.length<999):
  DnAt K P w (upd H q.al (.lst (us++[av]))) q.kd kvs/\KT K H (upd H q.al (.lst (us++[av])))/\upd (upd H q.al (.lst (us++[av]))) q.kd (dnO P w q.kd (kvs++[(a.data,tp,.bl true)])) f=some (.ins CF dx o.fs)/\Fil K P w CF CT H0 (upd (upd (upd H q.al (.lst (us++[av]))) q.kd (dnO P w q.kd (kvs++[(a.data,tp,.bl true)]))) f (.ins CF dx { o with mn:=o.mn+1,ch:=true}.fs)) f dx { o with mn:=o.mn+1,ch:=true} qs tab (tb.set i (g,as++[a]))/\Ev K (mu f o qs) (mu f o qs) H (upd (upd (upd H q.al (.lst (us++[av]))) q.kd (dnO P w q.kd (kvs++[(a.data,tp,.bl true)]))) f (.ins CF dx { o with mn:=o.mn+1,ch:=true}.fs)):=by
 have hqm:=Zn hq;obtain⟨m1,m2⟩:=b0h hqm;obtain⟨a1,a2,a3,b1,b2,b3⟩:=h.ne3 hqm;have nmq:(mq qs).Nodup:=by
  have n:=h.nd;simp only[mu,Yn]at n;exact n.2.2.2
 have hne:=mq_nd nmq hq;have k1:KT K H (upd H q.al (.lst (us++[av]))):=.upd ha (λ_ z=>by cases z) (λ_ _ z=>by cases z);have kn1:DnAt K P w (upd H q.al (.lst (us++[av]))) q.kd kvs:=kn.mono k1 (a0d hne.symm);have k2:KT K (upd H q.al (.lst (us++[av]))) (upd (upd H q.al (.lst (us++[av]))) q.kd (dnO P w q.kd (kvs++[(a.data,tp,.bl true)]))):=.upd kn1.ob (λ_ z=>by cases z) (λ_ _ z=>by cases z);have hf2:upd (upd H q.al (.lst (us++[av]))) q.kd (dnO P w q.kd (kvs++[(a.data,tp,.bl true)])) f=some (.ins CF dx o.fs):=by
  rw[a0d b1.symm,a0d a1.symm];exact h.ob
 have k3:KT K (upd (upd H q.al (.lst (us++[av]))) q.kd (dnO P w q.kd (kvs++[(a.data,tp,.bl true)]))) (upd (upd (upd H q.al (.lst (us++[av]))) q.kd (dnO P w q.kd (kvs++[(a.data,tp,.bl true)]))) f (.ins CF dx { o with mn:=o.mn+1,ch:=true}.fs)):=.upd hf2 (λ_ z=>by cases z) (λ_ _ z=>by cases z);have hkl:kvs.length=as.length:=by
  have:=Yv List.length kk;rw[length_map,length_map]at this;exact this
 have kn2:=kn1.put (v:=.bl true) (hp.monoT k1) h8 (a4u a) hz qo k2;have kt:=k1.trans (k2.trans k3);have keep:∀b,b≠f->b≠q.al->b≠q.kd->(upd (upd (upd H q.al (.lst (us++[av]))) q.kd (dnO P w q.kd (kvs++[(a.data,tp,.bl true)]))) f (.ins CF dx { o with mn:=o.mn+1,ch:=true}.fs)) b=H b:=λb z1 z2 z3=>by rw[a0d z1,a0d z3,a0d z2]
 have ma:q.al∈mu f o qs:=Zc _ (Zc _ (Zc _ m1));have mk:q.kd∈mu f o qs:=Zc _ (Zc _ (Zc _ m2));have mf:f∈mu f o qs:=Ze ..;have ev:Ev K (mu f o qs) (mu f { o with mn:=o.mn+1,ch:=true} qs) H (upd (upd (upd H q.al (.lst (us++[av]))) q.kd (dnO P w q.kd (kvs++[(a.data,tp,.bl true)]))) f (.ins CF dx { o with mn:=o.mn+1,ch:=true}.fs)):=by
  refine⟨⟨λb x n e=>(keep b (λz=>n (z▸mf)) (λz=>n (z▸ma)) (λz=>n (z▸mk))).trans e,kt⟩,λb hb=>.inl hb,λb z=>?_⟩
  by_cases c1:b=f
  ·rw[c1,a0c]at z;cases z
  by_cases c2:b=q.kd
  ·rw[c2,a0d b1,a0c]at z;cases z
  by_cases c3:b=q.al
  ·rw[c3,a0d a1,a0d hne,a0c]at z;cases z
  rw[keep b c1 c3 c2]at z;exact z
 obtain⟨kp,p1,p2,p3⟩:=h.pl;refine⟨kn1,k1,hf2,h.next (o':={ o with mn:=o.mn+1,ch:=true}) ev rfl rfl (λb x e=>?_) a0c h.f0 h.nd ?_ ?_ ⟨kp,p1.mono kt (keep _ h.ne2.2.1.symm a3.symm b3.symm),by rw[p2,show tb.map (λx=>x.1.data)=(tb.map (·.1)).map Trm.data by(rw[Wm];rfl),<-b9x (bs:=as++[a]) hg,Wm];rfl,p3⟩ ?_,ev⟩
 ·exact(keep b (a0p e (h.f0 _ mf)) (a0p e (h.f0 _ ma)) (a0p e (h.f0 _ mk))).trans (h.sm _ _ e)
 ·exact(keep _ h.ne2.1.symm a2.symm b2.symm).trans h.tl
 ·refine b8t h.tbs (λj q' x ne hj z=>?_) λq' e=>?_
  ·obtain⟨n1,n2,n3,n4⟩:=mq_ne nmq hq hj ne;obtain⟨c1,c2,c3,d1,d2,d3⟩:=h.ne3 (Zn hj);exact z.ev ev (keep _ c1 n1 n2) (keep _ d1 n3 n4)
  ·rw[hq]at e;cases e;obtain⟨y,e1,z⟩:=a2j h.tbs hq;rw[hg]at e1;cases e1;refine⟨(ev.off z.nt z.ob).2,(ev.off z.nt z.ob).1,z.go.monoT kt,⟨us++[av],(a0d a1).trans ((a0d hne).trans a0c),a5e (Paired.mapP pa λ_ _ y=>y.kt kt) (.cons (hav.kt kt) .nil)⟩,_,kn2.mono k3 (a0d b1),?_⟩;rw[Zi,Zi,kk];rfl
 ·show o.mn+1=_
  rw[b5q hg,h.mn];omega
end
theorem Tok.ans{L:Lw}{tb:List Tbl}{i:Nat}{g a:Trm}{as:List Trm}(h:Tok L tb)(hg:tb[i]? =some (g,as))(ha:L.Ans g a)(hn:a∉as):Tok L (tb.set i (g,as++[a])):=by
 have hm:=Zn hg;refine⟨λx hx=>?_,by rw[b9x hg];exact h.nd,λx hx=>?_⟩
 ·rcases Tl hx with z|z
  ·exact h.un x z
  ·rw[z];exact h.un (g,as) hm
 ·rcases Tl hx with z|z
  ·exact h.an x z
  ·rw[z];refine⟨Yb.mpr ⟨(h.an (g,as) hm).1,qz,λb hb c hc e=>hn ?_⟩,λb hb=>?_⟩
   ·rw[<-Zd.mp hc,<-e];exact hb
   ·rcases Zr.mp hb with y|y
    ·exact(h.an (g,as) hm).2 b y
    ·rw[Zd.mp y];exact ha
theorem Gr.ans(ch:Bool){tb:List Tbl}{i:Nat}{g a:Trm}{as:List Trm}(hg:tb[i]? =some (g,as)):Gr ch tb true (tb.set i (g,as++[a])):=by
 have e:siz (tb.set i (g,as++[a]))=siz tb+1:=by
  rw[b8q,b8q,b5q hg,List.length_set];omega
 refine⟨λj x h=>?_,qo,λ_=>.inr qo,λz=>by cases z⟩
 by_cases c:j=i
 ·subst c;rw[hg]at h;cases h;exact⟨[a],by rw[V2 (Zy.mp hg).1]⟩
 ·exact⟨[],by rw[Y5,V9 (Ne.symm c)];exact h⟩
theorem b3j{α β:Type}{F:α->β->Prop}:∀{a:List α}{b:List β},Paired F a b->b≠[]->∃a' x b' y,a=a'++[x]/\b=b'++[y]/\Paired F a' b'/\F x y
 |_,_,.nil,h=>absurd rfl h
 |_,_,.cons r .nil,_=>⟨[],_,[],_,rfl,rfl,.nil,r⟩
 |_,_,.cons r (.cons r2 t2),_=>by
  obtain⟨a',x,b',y,e1,e2,p,z⟩:=b3j (.cons r2 t2) qz;exact⟨_::a',x,_::b',y,by rw[e1];rfl,by rw[e2];rfl,.cons r p,z⟩
theorem b8u{α β:Type}{F:α->β->Prop}:∀{a:List α}{b:List β},Paired F a b->Paired F a.reverse b.reverse
 |_,_,.nil=>.nil
 |_,_,.cons r t2=>by
  rw[Yj,Yj];exact a5e (b8u t2) (.cons r .nil)
theorem c1c{α:Type}{f:α->Nat}{c:Nat}:∀{l:List α},(∀e∈l,f e=c)->(l.map f).sum=l.length*c
 | [],_=>by simp
 |x::l,h=>by
  have:=c1c (f:=f) (c:=c) λe he=>h e (Zc _ he)
  rw[Zt,Yu,this,h x (Ze ..),length_cons,Nat.succ_mul,Nat.add_comm]
def pS(L:Lw)(g:Trm)(r:Rl)(gs:List Go):Nat:=(gs.map λe=>L.pot g r e.d).sum
theorem b8v(L:Lw)(g:Trm)(r:Rl)(a b:List Go):pS L g r (a++b)=pS L g r a+pS L g r b:=by
 unfold pS;rw[Zi,Yz]
theorem c4b(L:Lw)(g:Trm)(r:Rl)(e:Go):pS L g r [e]=L.pot g r e.d:=by
 unfold pS;rw[Wv,Uh]
theorem b6y{L:Lw}{g:Trm}{r:Rl}{d:Nat}{gs:List Go}(h:∀e∈gs,e.d=d):pS L g r gs.reverse=gs.length*L.pot g r d:=by
 unfold pS;rw[c1c (c:=L.pot g r d) λe he=>by rw[h e (U5.mp he)],Xh]
theorem Clo.step{L:Lw}{tb:List Tbl}{g:Trm}{r:Rl}{e:Go}{gs:List Go}(hlt:e.d<r.goals.length)(hd:∀z∈gs,z.d=e.d+1)(pa:∃as,(told (L.sub r e.d e.q),as)∈tb/\gs.map (·.q)=as.map (L.nxt r e.d e.q))(h:∀z∈gs,Clo L tb g r (r.goals.length-z.d) z.d z.q):Clo L tb g r (r.goals.length-e.d) e.d e.q:=by
 obtain⟨as,h1,h2⟩:=pa;rw[show r.goals.length-e.d=(r.goals.length-(e.d+1))+1 by omega,Clo];refine⟨as,h1,λa ha=>?_⟩;have:L.nxt r e.d e.q a∈gs.map (·.q):=by rw[h2];exact Z1.mpr ⟨a,ha,rfl⟩
 obtain⟨z,hz,ez⟩:=Z1.mp this;have:=h z hz;rw[hd z hz,ez]at this;exact this
theorem FilA.lst{K:FG}{P:Program}{w:World}{CF CT f D:Addr}{L:Lw}{H1 H:Hp}{x x':Fs}{us us':List V}(hb:FilA K P w CF CT L H1 f x)(h:FilA K P w CF CT L H f x')(av:Adv K f H1 H x x')(n:H1 D=none)(nm:D∉x'.M f)(hD:H D=some (.lst us)):FilA K P w CF CT L (upd H D (.lst us')) f x'/\Adv K f H1 (upd H D (.lst us')) x x':=by
 obtain⟨H0',dx',o',qs',tb'⟩:=x';have e0:H0'=x.H0:=av.h0;have e1:dx'=x.dx:=av.ld.2.2;subst e0;subst e1;obtain⟨f1,e1⟩:=Fil.lst (us':=us') hb h av.ld.1 av.ld.2.1 av.ev n nm hD;exact⟨f1,e1,av.gr,rfl,av.pq,av.ld⟩
theorem DmL.at{K:FG}{M:List Addr}{H:Hp}:∀{us:List V}{ds:List PyData}{i:Nat}{u:V},DmL K H M us ds->us[i]? =some u->∃d,ds[i]? =some d/\Dm K H M u d
 |_,_,i,u,.nil,h=>by simp at h
 |_,_,0,u,.cons a _,h=>by simp at h;subst h;exact⟨_,rfl,a⟩
 |_,_,i+1,u,.cons _ l,h=>by simpa using DmL.at l (by simpa using h)
theorem a2k{α:Type}{l:List α}{k:Nat}(h:k<l.length):l.take (k+1)=l.take k++[l[k]]:=by
 rw[We,Za h];rfl
theorem c4c{α:Type}{f:α->Nat}(l:List α)(k:Nat):((l.take k).map f).sum<=(l.map f).sum:=by
 conv=>rhs;rw[<-Wb k l]
 rw[Zi,Yz];omega
theorem cut_all{ys:List V}{n:Nat}(h:n=ys.length):cutV ys none (some (n:Int))=ys:=by
 subst h;unfold cutV;rw[HT.sIx_nat,HT.sIx_none,Nat.min_self,Nat.sub_zero,List.drop_zero,Yr]
mutual
theorem c4d:∀(t:Trm),Full [] t t
 | .num n=>.num n
 | .any x=>.no rfl
 | .app s ks=>.app (c1d ks)
theorem c1d:∀(ts:List Trm),a3e [] ts ts
 | []=>.nil
 |t::r=>.cons (c4d t) (c1d r)
end
theorem rl_list{K:FG}{H:Hp}{M:List Addr}{v:V}{l:List Rl}(h:Dm K H M v (rlD l)):∃a us,v=.ref a/\H a=some (.lst us)/\a∉M/\DmL K H M us (l.map Rl.data):=by
 cases h with
 |lst h1 h2 h3=>exact⟨_,_,rfl,h1,h2,h3⟩
structure RuN(x:Trm×List Trm):Prop where
 hd:∃w ks,x.1=.app w ks/\Wd w
 gs:∀g∈x.2,∃w ks,g=.app w ks/\Wd w
def RsAt(K:W.Frag)(H:Hp)(a:Addr)(us:List V)(rs:List (Trm×List Trm)):Prop:=SqL K H a us/\DenL K H us (rs.map ruE)/\(∀x∈rs,RuOk x/\RuN x)/\rs.length<=100
theorem RsAt.same{K:FG}{H H':Hp}{a:Addr}{us:List V}{rs:List (Trm×List Trm)}(h:RsAt K H a us rs)(s:Same H H'):RsAt K H' a us rs:=⟨s.seq h.1,h.2.1.mono s,h.2.2⟩
def LnAt(rs:List (Trm×List Trm))(H:Hp)(u:V):Prop:=∃(p a b:Addr)(x:Trm×List Trm)(kb:List Key),x∈rs/\u=.ref p/\H p=some (.tup [.ref a,.ref b,.int 0])/\H a=some (.tup ((keyT x.1).map kV))/\H b=some (.tup (kb.map kV))
theorem LnAt.same{rs:List (Trm×List Trm)}{H H':Hp}{u:V}(h:LnAt rs H u)(s:Same H H'):LnAt rs H' u:=by
 obtain⟨p,a,b,x,kb,h0,h1,h2,h3,h4⟩:=h;exact⟨p,a,b,x,kb,h0,h1,s _ _ h2,s _ _ h3,s _ _ h4⟩
abbrev a7b(K:W.Frag):Sp:=λvs H Q _=>match vs with| [.ref a]=>∃us rs,RsAt K H a us rs/\∀H',Same H H'->Q .non H'|_=>False
abbrev a8g(K:W.Frag):Sp:=λvs H Q _=>match vs with| [.ref a]=>∃us rs,RsAt K H a us rs/\∀p ls H',Same H H'->H p=none->H' p=some (.lst ls)->ls.length<=1000->(∀u∈ls,LnAt rs H' u)->Q (.ref p) H'|_=>False
abbrev a7c(K:W.Frag):Sp:=λvs H Q _=>match vs with| [.ref p]=>∃ls rs,H p=some (.lst ls)/\(∀u∈ls,LnAt rs H u)/\Q .non H|_=>False
def Z0(kvs:List (List Key×V)):Prop:=∀kv∈kvs,kv.2=.int 0
def LnIn(kvs:List (List Key×V))(H:Hp)(u:V):Prop:=∃(p a b:Addr)(ka kb:List Key),u=.ref p/\H p=some (.tup [.ref a,.ref b,.int 0])/\H a=some (.tup (ka.map kV))/\H b=some (.tup (kb.map kV))/\ka∈kvs.map (·.1)/\kb∈kvs.map (·.1)
abbrev a7q(K:W.Frag):Sp:=λvs H Q _=>match vs with| [.ref d,.ref p]=>∃kvs ls,H d=some (.dT kvs)/\Z0 kvs/\H p=some (.lst ls)/\(∀u∈ls,LnIn kvs H u)/\Q (.bl false) H|_=>False
abbrev b0i(K:W.Frag):Sp:=λvs H Q _=>match vs with| [.ref a]=>∃us rs,RsAt K H a us rs/\∀d kvs H',Same H H'->H d=none->H' d=some (.dT kvs)->Z0 kvs->Q (.ref d) H'|_=>False
abbrev a7r(K:W.Frag)(P:Program)(w:World)(CF CT CG:Addr):Sp:=λvs H Q _=>match vs with| [.ref f,.ref ra]=>∃H0 dx us rs,H f=some (.ins CF dx [])/\Same H0 H/\H0 f=none/\RsAt K H0 ra us rs/\∀o H',Fil K P w CF CT H0 H' f dx o [] (b2v rs) []->o.ch=false->Q .non H'|_=>False
structure Fld(K:W.Frag)(H H':Hp)(L:Lw)(g:Trm)(p:Addr)(lp al:Addr)(tb:List Tbl)(as:List Trm)(us:List V):Prop where
 sm:Same H H'
 fi:c4a L tb g
 t0:tb[0]? =some (g,as)
 top:H' p=some (.tup [.str "done",.ref lp])
 nl:H lp=none
 tbs:∃t0 gv rest,H' lp=some (.lst (.ref t0::rest))/\rest.length<=30/\H' t0=some (.tup [gv,.ref al])/\Den K H' gv g.data
 na:H al=none
 ne:al≠lp
 an:H' al=some (.lst us)/\Paired (AnAt K H') us as
abbrev b9y(K:W.Frag)(P:Program)(w:World)(CF CT CG:Addr):Sp:=λvs H Q _=>match vs with| [.ref ra,gv]=>∃us rs L g tt,RsAt K H ra us rs/\L.tab=b2v rs/\LwOk L/\g∈L.univ/\Den K H gv tt.data/\told tt=g/\tt.size<=40/\∀p lp al tb as us' H',Fld K H H' L g p lp al tb as us'->Q (.ref p) H'|_=>False
theorem d3x{kvs:List (List Key×V)}{k:List Key}:(kvs.any λkv=>decide (kv.1=k))=true↔k∈kvs.map (·.1):=by
 rw[X4]
 constructor
 ·rintro⟨x,h1,h2⟩
  exact Z1.mpr ⟨x,h1,Z5 h2⟩
 ·intro h;obtain⟨x,h1,h2⟩:=Z1.mp h;exact⟨x,h1,Zw h2⟩
theorem d1b{kvs:List (List Key×V)}{k:List Key}(h:Z0 kvs):Z0 (putK kvs k (.int 0))/\k∈(putK kvs k (.int 0)).map (·.1)/\(∀k'∈kvs.map (·.1),k'∈(putK kvs k (.int 0)).map (·.1))/\(putK kvs k (.int 0)).length<=kvs.length+1:=by
 unfold putK;cases c:(kvs.any λkv=>decide (kv.1=k))with
 |true=>
  have hm:=d3x.mp c;have e:(kvs.map λkv=>if kv.1=k then(kv.1,V.int 0)else kv)=kvs:=by
   rw[show kvs=kvs.map id by rw[List.map_id]];rw[Wm];refine S1 λx hx=>?_
   show(if x.1=k then(x.1,V.int 0)else x)=x
   by_cases z:x.1=k
   ·rw[if_pos z,<-h x hx]
   ·rw[if_neg z]
  first
  | (simp only[if_true];rw[e];exact⟨h,hm,λ_ z=>z,Wh _⟩)
  | (rw[if_pos rfl,e];exact⟨h,hm,λ_ z=>z,Wh _⟩)
 |false=>
  refine⟨λkv hkv=>?_,?_,λk' hk'=>?_,?_⟩
  ·rcases Zr.mp hkv with z|z
   ·exact h kv z
   ·rw[Zd.mp z]
  ·simp
  ·simp at hk' ⊢;exact .inl hk'
  ·simp
theorem d1c{kvs:List (List Key×V)}{k:List Key}(h:Z0 kvs)(hm:k∈kvs.map (·.1)):valV kvs k=some (.int 0):=by
 unfold valV;cases c:kvs.find? λkv=>decide (kv.1=k)with
 |none=>
  obtain⟨x,h1,h2⟩:=Z1.mp hm;have:=Ww.mp c x h1;exact absurd (Zw h2) this
 |some y=>exact Yv some (h y (Tn c))
theorem c4e:∀(ws:List Str),(ws.map V.str).all a4v=true
 | []=>rfl
 |w::r=>by
  rw[Zt,W9,c4e r];rfl
theorem c6r{k:Str}:∀{ws:List Str},(∀w'∈ws,w'≠k)->inV (.str k) (ws.map V.str)=false
 | [],_=>rfl
 |w'::r,h=>by
  have ih:=c6r (k:=k) (ws:=r) λy hy=>h y (Zc _ hy)
  unfold inV at ih ⊢;rw[Zt,Xr,ih];have:w'≠k:=h w' (Ze ..)
  simp[eqV,this,Ne.symm this]
theorem at_one(x y:V)(r:List V):atI (x::y::r) 1=some y:=by
 show atI (x::y::r) ((1:Nat):Int)=_
 exact a7e rfl
theorem LnAt.put{rs:List (Trm×List Trm)}{H:Hp}{u:V}{p:Addr}{us:List V}{o:HO}(h:LnAt rs H u)(hp:H p=some (.lst us)):LnAt rs (upd H p o) u:=by
 obtain⟨q,a,b,x,kb,h0,h1,h2,h3,h4⟩:=h;exact⟨q,a,b,x,kb,h0,h1,(a0d (a0z h2 hp (λz=>by cases z))).trans h2,(a0d (a0z h3 hp (λz=>by cases z))).trans h3,(a0d (a0z h4 hp (λz=>by cases z))).trans h4⟩
theorem LnIn.put{kvs kvs':List (List Key×V)}{H:Hp}{u:V}{p:Addr}{kv0:List (List Key×V)}{o:HO}(h:LnIn kvs H u)(hp:H p=some (.dT kv0))(hs:∀k∈kvs.map (·.1),k∈kvs'.map (·.1)):LnIn kvs' (upd H p o) u:=by
 obtain⟨q,a,b,ka,kb,h1,h2,h3,h4,h5,h6⟩:=h;exact⟨q,a,b,ka,kb,h1,(a0d (a0z h2 hp (λz=>by cases z))).trans h2,(a0d (a0z h3 hp (λz=>by cases z))).trans h3,(a0d (a0z h4 hp (λz=>by cases z))).trans h4,hs _ h5,hs _ h6⟩
theorem LnAt.putT{rs:List (Trm×List Trm)}{H:Hp}{u:V}{p:Addr}{us:List (List Key×V)}{o:HO}(h:LnAt rs H u)(hp:H p=some (.dT us)):LnAt rs (upd H p o) u:=by
 obtain⟨q,a,b,x,kb,h0,h1,h2,h3,h4⟩:=h;exact⟨q,a,b,x,kb,h0,h1,(a0d (a0z h2 hp (λz=>by cases z))).trans h2,(a0d (a0z h3 hp (λz=>by cases z))).trans h3,(a0d (a0z h4 hp (λz=>by cases z))).trans h4⟩
abbrev U1:Str:=uS++tn 1
abbrev U2:Str:=uS++tn 2
abbrev U3:Str:=uS++tn 3
abbrev M1:Str:=mrk 0 U1
abbrev M2:Str:=mrk 0 U2
abbrev M3:Str:=mrk 0 U3
@[simp] theorem dU1U2:(U1=U2)=False:=Uq qk
@[simp] theorem dU1M1:(U1=M1)=False:=Uq qk
@[simp] theorem dU1M2:(U1=M2)=False:=Uq qk
@[simp] theorem dU2M2:(U2=M2)=False:=Uq qk
@[simp] theorem dM1U1:(M1=U1)=False:=Uq qk
@[simp] theorem dM1M2:(M1=M2)=False:=Uq qk
@[simp] theorem dd:¬U2=M1∧¬U1=M3∧¬U2=M3∧¬M1=M3∧¬M3=M2:=qk
def pr(w:Str)(a b:Trm):Trm:=.app w [a,b]
theorem a4a{w w':Str}{a b a' b':Trm}(h:pr w a b=pr w' a' b'):w=w'/\a=a'/\b=b':=by
 cases h;exact⟨rfl,rfl,rfl⟩
theorem a8h(w:Str)(a b:Trm):vars (pr w a b)=vars a++vars b:=by
 unfold pr;rw[vars,a3j,a3j,a3j,Y5]
theorem a1o(w:Str)(a b:Trm):(pr w a b).size=1+a.size+b.size:=by
 unfold pr;simp only[Trm.size,Trm.sizeL];omega
theorem a8v(f:Str->Str)(w:Str)(a b:Trm):ren f (pr w a b)=pr w (ren f a) (ren f b):=by
 unfold pr;rw[ren,renL,renL,renL]
theorem ord_gd{p:Trm}(h:vars p=[]):ord p []=[]:=by
 refine List.eq_nil_iff_forall_not_mem.mpr λx hx=>?_
 rcases(b5m p [] x).mp hx with z|z
 ·cases z
 ·rw[h]at z;cases z
theorem b9z{w x y:Str}(h:x≠y):told (pr w (.any x) (.any y))=pr w (.any U1) (.any U2):=by
 have e:ordL [pr w (.any x) (.any y)] []=[x,y]:=by
  simp only[pr,ordL,ord]
  simp[h,h.symm]
 unfold told anew;rw[e,renL,a8v,ren,ren]
 show pr w (.any (sub [(x,uS++tn 1),(y,uS++tn 2)] x)) (.any (sub [(x,uS++tn 1),(y,uS++tn 2)] y))=_
 simp[sub,h]
theorem a9p{w y:Str}{p:Trm}(h:vars p=[]):told (pr w p (.any y))=pr w p (.any U1):=by
 have e:ordL [pr w p (.any y)] []=[y]:=by
  simp only[pr,ordL,ord,ord_gd h]
  simp
 unfold told anew;rw[e,renL,a8v,b4r _ h,ren]
 show pr w p (.any (sub [(y,uS++tn 1)] y))=_
 simp[sub]
theorem mk1{w w' x y:Str}{n:Nat}(h:x≠y):mkRl n (pr w (.any x) (.any y),[pr w' (.any x) (.any y)])=⟨n,pr w (.any U1) (.any U2),[pr w' (.any U1) (.any U2)]⟩:=by
 have e:ordL (pr w (.any x) (.any y)::[pr w' (.any x) (.any y)]) []=[x,y]:=by
  simp only[pr,ordL,ord]
  simp[h,h.symm]
 have e1:∀z,fAn (pr w (.any x) (.any y),[pr w' (.any x) (.any y)]) z=sub [(x,U1),(y,U2)] z:=λz=>by
  unfold fAn;rw[e];rfl
 unfold mkRl;simp only[renL,a8v,ren,e1]
 simp[sub,h]
theorem mk2{w a b x y z:Str}{n:Nat}(h:x≠y)(h1:x≠z)(h2:y≠z):mkRl n (pr w (.any x) (.any y),[pr a (.any x) (.any z),pr b (.any z) (.any y)])=⟨n,pr w (.any U1) (.any U2),[pr a (.any U1) (.any U3),pr b (.any U3) (.any U2)]⟩:=by
 have e:ordL (pr w (.any x) (.any y)::[pr a (.any x) (.any z),pr b (.any z) (.any y)]) []=[x,y,z]:=by
  simp only[pr,ordL,ord]
  simp[h,h.symm,h1,h1.symm,h2,h2.symm]
 have e1:∀u,fAn (pr w (.any x) (.any y),[pr a (.any x) (.any z),pr b (.any z) (.any y)]) u=sub [(x,U1),(y,U2),(z,U3)] u:=λu=>by
  unfold fAn;rw[e];rfl
 unfold mkRl;simp only[renL,a8v,ren,e1]
 simp[sub,h,h1,h2]
theorem mkF{w:Str}{n:Nat}{p q:Trm}(h:vars p=[])(h':vars q=[]):mkRl n (pr w p q,[])=⟨n,pr w p q,[]⟩:=by
 unfold mkRl;rw[b4r _ (by rw[a8h,h,h'];rfl)];rfl
@[simp] theorem a6l (x:Str):a0w [] x=none:=rfl
@[simp] theorem a2e (r:Str×Trm) (q:Rws) (x:Str):a0w (r::q) x=if r.1=x then some r.2 else a0w q x:=by
 unfold a0w;rw[Y4]
 by_cases c:r.1=x
 ·rw[if_pos c,Zw c];rfl
 ·rw[if_neg c,Zs c]
theorem a3i{p:Trm}(h:vars p=[]):∀x,p≠.any x:=λx z=>by rw[z,vars]at h;cases h
theorem b3b{p:Trm}{x:Str}{q:Rws}(h:vars p=[])(hz:p.size<=60):a8n x q p:=⟨hz,by rw[h];simp,λy hy=>by rw[h]at hy;cases hy⟩
theorem b4s{p:Trm}{q:Rws}(h:vars p=[]):Wlk q 0 p p:=.stop λx z=>absurd z (a3i h x)
section
variable{me ok:Bool}{q q':Rws}{x y w:Str}{p p':Trm}{rest:List (Trm×Trm)}{c:Nat}
theorem un_l(hx:a0w q x=none)(hc:a8n x q p)(hl:q.length<=900)(u:Un me (q++[(x,p)]) rest ok q' c):Un me q ((.any x,p)::rest) ok q' (c+1):=by
 refine .go (p':=q++[(x,p)]) (.stop λz e=>by cases e;exact hx) (.stop λz e=>hc.fr z (by rw[e,vars];simp)) ⟨by show 1<=60;decide,hc.sz,hl,λz e _=>by cases e;exact hc,λy e h=>by cases h⟩ ?_ u;have hne:¬eqb (.any x) p=true:=λz=>by
  have:=(a4g _ _).mp z;exact hc.no (by rw[<-this,vars];simp)
 rw[pl2,if_neg hne,<-b6k (b6w hx)];rfl
theorem un_r(hp:vars p=[])(hz:p.size<=60)(hx:a0w q x=none)(hl:q.length<=900)(u:Un me (q++[(x,p)]) rest ok q' c):Un me q ((p,.any x)::rest) ok q' (c+1):=by
 refine .go (p':=q++[(x,p)]) (b4s hp) (.stop λz e=>by cases e;exact hx) ⟨hz,by show 1<=60;decide,hl,λz e _=>absurd e (a3i hp z),λy e h=>by cases e;exact b3b hp hz⟩ ?_ u;have hne:¬eqb p (.any x)=true:=λz=>a3i hp x ((a4g _ _).mp z)
 rw[pl2,if_neg hne,<-b6k (b6w hx)];cases p with
 |any y=>exact absurd rfl (a3i hp y)
 |num n=>rfl
 |app s ls=>rfl
theorem un_e(hp:vars p=[])(hz:p.size<=60)(hl:q.length<=900)(u:Un me q rest ok q' c):Un me q ((p,p)::rest) ok q' (c+1):=
 .go (b4s hp) (b4s hp) ⟨hz,hz,hl,λz e _=>absurd e (a3i hp z),λy e _=>absurd e (a3i hp y)⟩ (by rw[pl2,if_pos (a6z p)]) u
theorem un_n(hp:vars p=[])(hp':vars p'=[])(hz:p.size<=60)(hz':p'.size<=60)(hl:q.length<=900)(hne:p≠p')(hk:∀s ks ls,p=.app s ks->p'=.app s ls->ks=ls):Un me q ((p,p')::rest) false q 1:=by
 refine .part (ka:=keyL p) (kb:=keyL p') (b4s hp) (b4s hp') ⟨hz,hz',hl,λz e _=>absurd e (a3i hp z),λy e _=>absurd e (a3i hp' y)⟩ ?_;rw[pl2,if_neg (λz=>hne ((a4g _ _).mp z))];cases p with
 |any y=>exact absurd rfl (a3i hp y)
 |num n=>
  cases p' with
  |any y=>exact absurd rfl (a3i hp' y)
  |num m=>rfl
  |app s ls=>rfl
 |app s ks=>
  cases p' with
  |any y=>exact absurd rfl (a3i hp' y)
  |num m=>rfl
  |app s' ls=>
   show pl4 (.app s ks) (.app s' ls)=_
   unfold pl4;have:¬(s=s'/\ks.length=ls.length):=λz=>by
    obtain⟨z1,_⟩:=z;subst z1;exact hne (by rw[hk s ks ls rfl rfl])
   show(if s=s'/\ks.length=ls.length then _ else _)=_
   rw[if_neg this]
theorem un_k{a b a' b':Trm}(hz:(pr w a b).size<=60)(hz':(pr w a' b').size<=60)(hl:q.length<=900)(hne:pr w a b≠pr w a' b')(u:Un false q [(a,a'),(b,b')] ok q' c):Un true q [(pr w a b,pr w a' b')] ok q' (c+1):=by
 refine .kids (s:=w) (ks:=[a,b]) (ls:=[a',b']) (.stop λz e=>by cases e) (.stop λz e=>by cases e) ⟨hz,hz',hl,λz e _=>(by cases e),λy e _=>by cases e⟩ ?_ u;rw[pl2,if_neg (λz=>hne ((a4g _ _).mp z))]
 show pl4 (pr w a b) (pr w a' b')=_
 unfold pl4
 show(if w=w/\[a,b].length=[a',b'].length then _ else _)=_
 rw[if_pos ⟨rfl,rfl⟩]
theorem un_ff(hx:a0w q x=none)(hy:a0w q y=none)(hxy:x≠y)(hp:vars p=[])(hp':vars p'=[])(hz:p.size<=20)(hz':p'.size<=20)(hl:q.length<=800):∃c,Un true q [(pr w (.any x) (.any y),pr w p p')] true (q++[(x,p),(y,p')]) c:=by
 have e:q++[(x,p),(y,p')]=(q++[(x,p)])++[(y,p')]:=by rw[Y9];rfl
 rw[e];refine⟨_,un_k (by rw[a1o];show 1+1+1<=60;decide) (by rw[a1o];omega) qo (λz=>(a3i hp x) (a4a z).2.1.symm) (un_l hx (b3b hp qo) qo (un_l ?_ (b3b hp' qo) (by rw[Zk];simp only[Z8];omega) .done))⟩;unfold a0w at hy ⊢;rw[List.find?_append,Wy.mp hy]
 simp[hxy]
theorem un_gf(hy:a0w q y=none)(hp:vars p=[])(hp':vars p'=[])(hz:p.size<=20)(hz':p'.size<=20)(hl:q.length<=800):∃c,Un true q [(pr w p (.any y),pr w p p')] true (q++[(y,p')]) c:=
 ⟨_,un_k (by rw[a1o];show 1+p.size+1<=60;omega) (by rw[a1o];omega) qo (λz=>(a3i hp' y) (a4a z).2.2.symm) (un_e hp qo qo (un_l hy (b3b hp' qo) qo .done))⟩
theorem un_gn{p1:Trm}(hp:vars p=[])(hp1:vars p1=[])(hp':vars p'=[])(hz:p.size<=20)(hz1:p1.size<=20)(hz':p'.size<=20)(hl:q.length<=800)(hne:p≠p1)(hk:∀s ks ls,p=.app s ks->p1=.app s ls->ks=ls):∃c,Un true q [(pr w p (.any y),pr w p1 p')] false q c:=
 ⟨_,un_k (by rw[a1o];show 1+p.size+1<=60;omega) (by rw[a1o];omega) qo (λz=>hne (a4a z).2.1) (un_n hp hp1 qo qo qo hne hk)⟩
end
theorem un_b0(w:Str):∃c,Un true [] [(pr w (.any U1) (.any U2),pr w (.any M1) (.any M2))] true [(U1,.any M1),(U2,.any M2)] c:=by
 refine⟨_,un_k (by rw[a1o];decide) (by rw[a1o];decide) qd (λz=>?_) (un_l rfl ⟨qd,?_,λy hy=>rfl⟩ qd (un_l ?_ ⟨qd,?_,λy hy=>?_⟩ qd .done))⟩
 ·have:=(a4a z).2.1
  injection this with this
  rw[dU1M1]at this;exact this
 ·rw[vars];intro z;have:=Zd.mp z;rw[dU1M1]at this;exact this
 ·rw[Wa,a2e,a6l,if_neg (by rw[dU1U2];exact id)]
 ·rw[vars];intro z;have:=Zd.mp z;rw[dU2M2]at this;exact this
 ·rw[vars]at hy;rw[Zd.mp hy,Wa,a2e,a6l,if_neg (by rw[dU1M2];exact id)]
theorem un_b1(w:Str){p:Trm}(hp:vars p=[])(hz:p.size<=20):∃c,Un true [] [(pr w p (.any U1),pr w (.any M1) (.any M2))] true [(M1,p),(U1,.any M2)] c:=by
 refine⟨_,un_k (by rw[a1o];show 1+p.size+1<=60;omega) (by rw[a1o];decide) qd (λz=>(a3i hp M1) (a4a z).2.1) (un_r hp qo rfl qd (un_l ?_ ⟨qd,?_,λy hy=>?_⟩ qz .done))⟩
 ·rw[Wa,a2e,a6l,if_neg (by rw[dM1U1];exact id)]
 ·rw[vars];intro z;have:=Zd.mp z;rw[dU1M2]at this;exact this
 ·rw[vars]at hy;rw[Zd.mp hy,Wa,a2e,a6l,if_neg (by rw[dM1M2];exact id)]
mutual
theorem a9q{q:Rws}:∀{t:Trm},vars t=[]->Full q t t
 | .num n,_=>.num n
 | .any x,h=>by rw[vars]at h;cases h
 | .app s ks,h=>.app (c4f (by rw[vars]at h;exact h))
theorem c4f{q:Rws}:∀{ts:List Trm},a3j ts=[]->a3e q ts ts
 | [],_=>.nil
 |t::r,h=>by
  rw[a3j]at h;obtain⟨h1,h2⟩:=List.append_eq_nil_iff.mp h;exact .cons (a9q h1) (c4f h2)
end
theorem b5r{q:Rws}{w:Str}{a b a' b':Trm}(h:Full q a a')(h':Full q b b'):Full q (pr w a b) (pr w a' b'):=.app (.cons h (.cons h' .nil))
def fsel(k:List Key):List (Trm×List Trm)->Nat->List Rl
 | [],_=>[]
 |x::r,n=>if keyT x.1=k then mkRl (n+1) x::fsel k r (n+1)else fsel k r (n+1)
theorem c1e{k k':List Key}{x:Rl}:∀(tb:List (List Key×List Rl)),a3f (addT tb k' x) k=if k'=k then a3f tb k++[x]else a3f tb k
 | []=>by
  rw[addT,a3f,a3f]
  by_cases c:k'=k
  ·rw[if_pos c,if_pos c];rfl
  ·rw[if_neg c,if_neg c,a3f]
 | (a,l)::r=>by
  have ih:=c1e (k:=k) (k':=k') (x:=x) r;rw[addT]
  by_cases c1:a=k'
  ·rw[if_pos c1,a3f,a3f]
   by_cases c2:k'=k
   ·rw[if_pos (c1.trans c2),if_pos c2,if_pos (c1.trans c2)]
   ·have c3:¬a=k:=λz=>c2 (c1.symm.trans z)
    rw[if_neg c3,if_neg c2,if_neg c3]
  ·rw[if_neg c1,a3f,a3f]
   by_cases c3:a=k
   ·have c2:¬k'=k:=λz=>c1 (c3.trans z.symm)
    rw[if_pos c3,if_neg c2,if_pos c3]
   ·rw[if_neg c3,ih,if_neg c3]
theorem b8w{k:List Key}:∀(rs:List (Trm×List Trm))(n:Nat)(tb:List (List Key×List Rl)),a3f (tabF rs n tb) k=a3f tb k++fsel k rs n
 | [],n,tb=>by rw[tabF,fsel,Y5]
 |x::r,n,tb=>by
  rw[tabF,b8w r,c1e,fsel]
  by_cases c:keyT x.1=k
  ·rw[if_pos c,if_pos c,Y9];rfl
  ·rw[if_neg c,if_neg c]
def a1:Trm->Trm
 | .app _ (a::_)=>a
 |x=>x
def a2:Trm->Trm
 | .app _ (_::b::_)=>b
 |x=>x
def hd:Trm->Str
 | .app w _=>w
 |_=>U1
def nm:Trm->Str
 | .any x=>x
 |_=>U1
def isA:Trm->Bool
 | .any _=>true
 |_=>false
theorem c4g{p:Trm}(h:vars p=[]):isA p=false:=by
 cases p with
 |any x=>rw[vars]at h;cases h
 |num n=>rfl
 |app s ks=>rfl
structure Kd where
 wW:Str
 wL:Str
 A:Str
 B:Str
 ps:List Trm
 ls:List (Nat×Nat)
def Kd.P(k:Kd)(i:Nat):Trm:=(k.ps[i]?).getD (.num 0)
structure KOk(k:Kd):Prop where
 ne:k.wL≠k.wW
 W1:Wd k.wW
 W2:Wd k.wL
 pl:k.ps.length=4
 pn:k.ps.Nodup
 pg:∀p∈k.ps,vars p=[]/\p.size<=5/\p.data.depth<=5
 pk:∀s ks ls,.app s ks∈k.ps->.app s ls∈k.ps->ks=ls
 ll:k.ls.length<=6
 lb:∀l∈k.ls,l.1<4/\l.2<4
 ab:(k.A=k.wL/\k.B=k.wW)\/(k.A=k.wW/\k.B=k.wL)\/(k.A=k.wW/\k.B=k.wW)
inductive a1u(ls:List (Nat×Nat)):Nat->Nat->Prop
 |one {i j:Nat}:(i,j)∈ls->a1u ls i j
 |more {i m j:Nat}:a1u ls i m->(m,j)∈ls->a1u ls i j
theorem a1u.cat{ls:List (Nat×Nat)}{i m j:Nat}(h:a1u ls i m)(g:a1u ls m j):a1u ls i j:=by
 induction g with
 |one e=>exact .more h e
 |more _ e ih=>exact .more ih e
def Rel(k:Kd)(w:Str)(i j:Nat):Prop:=(w=k.wW/\a1u k.ls i j)\/(w=k.wL/\(i,j)∈k.ls)
theorem Rel.reach{k:Kd}{w:Str}{i j:Nat}(h:Rel k w i j):a1u k.ls i j:=h.elim (λz=>z.2) λz=>.one z.2
def a0n(k:Kd)(w:Str):Option Nat->Trm
 |none=>pr w (.any U1) (.any U2)
 |some i=>pr w (k.P i) (.any U1)
def okO(o:Option Nat)(i:Nat):Prop:=o=none\/o=some i
def bdO(o:Option Nat):Prop:=∀i,o=some i->i<4
def AnsK(k:Kd)(g a:Trm):Prop:=∃w o i j,g=a0n k w o/\okO o i/\i<4/\j<4/\Rel k w i j/\a=pr w (k.P i) (k.P j)
def bas(k:Kd):Option Nat->Rws
 |none=>[(U1,.any M1),(U2,.any M2)]
 |some i=>[(M1,k.P i),(U1,.any M2)]
def frs(k:Kd)(i:Nat):Option Nat->Rws
 |none=>[(M1,k.P i)]
 |some _=>[]
def fcq(k:Kd)(i j:Nat):Option Nat->Rws
 |none=>[(U1,k.P i),(U2,k.P j)]
 |some _=>[(U1,k.P j)]
def h12(k:Kd):Trm:=pr k.wW (.any U1) (.any U2)
def gL(k:Kd):Trm:=pr k.wL (.any U1) (.any U2)
def gA(k:Kd):Trm:=pr k.A (.any U1) (.any U3)
def gB(k:Kd):Trm:=pr k.B (.any U3) (.any U2)
inductive LegK(k:Kd)(g:Trm)(r:Rl):Nat->Rws->Prop
 |fact {o:Option Nat} {i j:Nat}:g=a0n k k.wL o->okO o i->(i,j)∈k.ls->r.goals=[]->LegK k g r 0 (fcq k i j o)
 |x0 {o:Option Nat}:bdO o->g=a0n k k.wW o->r.goals=[gL k]->LegK k g r 0 (bas k o)
 |x1 {o:Option Nat} {i j:Nat}:okO o i->i<4->j<4->g=a0n k k.wW o->r.goals=[gL k]->a1u k.ls i j->LegK k g r 1 (bas k o++(frs k i o++[(M2,k.P j)]))
 |y0 {o:Option Nat}:bdO o->g=a0n k k.wW o->r.goals=[gA k,gB k]->LegK k g r 0 (bas k o)
 |y1 {o:Option Nat} {i m:Nat}:okO o i->i<4->m<4->g=a0n k k.wW o->r.goals=[gA k,gB k]->a1u k.ls i m->LegK k g r 1 (bas k o++(frs k i o++[(M3,k.P m)]))
 |y2 {o:Option Nat} {i m j:Nat}:okO o i->i<4->m<4->j<4->g=a0n k k.wW o->r.goals=[gA k,gB k]->a1u k.ls i j->LegK k g r 2 (bas k o++(frs k i o++[(M3,k.P m),(M2,k.P j)]))
def potN(b:Bool):Nat->Nat->Nat
 |1,0=>if b then 6 else 4
 |2,0=>if b then 80 else 20
 |2,1=>4
 |_,_=>0
def capK(k:Kd)(g:Trm):Nat:=if isA (a1 g)then(if hd g=k.wW then 16 else 6)else 4
def a5t(k:Kd)(g:Trm):Nat:=if hd g=k.wW then(if isA (a1 g)then 88 else 26)else 6
def vl(q:Rws)(x:Str):Trm:=(a0w q x).getD (.any x)
def addU(q:Rws)(x:Str)(p:Trm):Rws:=if(a0w q x).isSome then q else q++[(x,p)]
def glAt(r:Rl)(d:Nat):Trm:=(r.goals[d]?).getD (.num 0)
def subK(r:Rl)(d:Nat)(q:Rws):Trm:=pr (hd (glAt r d)) (vl q (mrk 0 (nm (a1 (glAt r d))))) (vl q (mrk 0 (nm (a2 (glAt r d)))))
def nxtK(r:Rl)(d:Nat)(q:Rws)(a:Trm):Rws:=addU (addU q (mrk 0 (nm (a1 (glAt r d)))) (a1 a)) (mrk 0 (nm (a2 (glAt r d)))) (a2 a)
def r2(q:Rws)(p:Trm):Trm:=if isA p then(if isA (vl q (nm p))then vl q (nm (vl q (nm p)))else vl q (nm p))else p
def finK(g:Trm)(q:Rws):Trm:=pr (hd g) (r2 q (a1 g)) (r2 q (a2 g))
def appK(g:Trm)(r:Rl):Option Rws:=
 if r.goals.isEmpty then(if isA (a1 g)then some [(nm (a1 g),a1 r.head),(nm (a2 g),a2 r.head)]else if eqb (a1 g) (a1 r.head)then some [(nm (a2 g),a2 r.head)]else none)
 else(if isA (a1 g)then some [(nm (a1 g),.any M1),(nm (a2 g),.any M2)]else some [(M1,a1 g),(nm (a2 g),.any M2)])
def univK(k:Kd):List Trm:=[none,some 0,some 1,some 2,some 3].flatMap λo=>[a0n k k.wW o,a0n k k.wL o]
def Kd.L(k:Kd)(rs:List (Trm×List Trm)):Lw where
 tab:=b2v rs
 univ:=univK k
 cap:=capK k
 cost:=a5t k
 Ans:=AnsK k
 Leg:=LegK k
 pot:=λg r d=>potN (isA (a1 g)) r.goals.length d
 app:=appK
 sub:=subK
 nxt:=nxtK
 fin:=finK
def R1(k:Kd)(x y:Str):Trm×List Trm:=(pr k.wW (.any x) (.any y),[pr k.wL (.any x) (.any y)])
def R2(k:Kd)(x y z:Str):Trm×List Trm:=(pr k.wW (.any x) (.any y),[pr k.A (.any x) (.any z),pr k.B (.any z) (.any y)])
def Fc(k:Kd)(l:Nat×Nat):Trm×List Trm:=(pr k.wL (k.P l.1) (k.P l.2),[])
structure RsK(k:Kd)(rs:List (Trm×List Trm))(x y z:Str):Prop where
 pm:rs.Perm (R1 k x y::R2 k x y z::k.ls.map (Fc k))
 xy:x≠y
 xz:x≠z
 yz:y≠z
section
variable{k:Kd}
theorem KOk.P_mem(h:KOk k){i:Nat}(hi:i<4):k.P i∈k.ps:=by
 have hi':i<k.ps.length:=by rw[h.pl];exact hi
 unfold Kd.P;rw[Za hi'];exact Z6 hi'
theorem KOk.gd(h:KOk k){i:Nat}(hi:i<4):vars (k.P i)=[]:=(h.pg _ (h.P_mem hi)).1
theorem KOk.sz(h:KOk k){i:Nat}(hi:i<4):(k.P i).size<=5:=(h.pg _ (h.P_mem hi)).2.1
theorem KOk.inj(h:KOk k){i j:Nat}(hi:i<4)(hj:j<4)(e:k.P i=k.P j):i=j:=by
 have hi':i<k.ps.length:=by rw[h.pl];exact hi
 have hj':j<k.ps.length:=by rw[h.pl];exact hj
 unfold Kd.P at e;rw[Za hi',Za hj']at e;exact(U6 h.pn).mp e
theorem KOk.isA(h:KOk k){i:Nat}(hi:i<4):isA (k.P i)=false:=c4g (h.gd hi)
theorem okO.bd{o:Option Nat}{i:Nat}(h:okO o i)(hi:i<4):bdO o:=λj e=>by
 rcases h with z|z
 ·rw[z]at e;cases e
 ·rw[z]at e;cases e;exact hi
theorem d1d(h:KOk k){w w':Str}{o o':Option Nat}(b:bdO o)(b':bdO o')(e:a0n k w o=a0n k w' o'):w=w'/\o=o':=by
 cases o with
 |none=>
  cases o' with
  |none=>exact⟨(a4a e).1,rfl⟩
  |some j=>exact absurd (a4a e).2.1.symm (a3i (h.gd (b' j rfl)) U1)
 |some i=>
  cases o' with
  |none=>exact absurd (a4a e).2.1 (a3i (h.gd (b i rfl)) U1)
  |some j=>exact⟨(a4a e).1,by rw[h.inj (b i rfl) (b' j rfl) (a4a e).2.1]⟩
theorem a9r(h:KOk k){w:Str}{o:Option Nat}{a:Trm}(b:bdO o)(g:AnsK k (a0n k w o) a):∃i j,okO o i/\i<4/\j<4/\Rel k w i j/\a=pr w (k.P i) (k.P j):=by
 obtain⟨w',o',i,j,e,h1,h2,h3,h4,h5⟩:=g;obtain⟨rfl,rfl⟩:=d1d h b (h1.bd h2) e;exact⟨i,j,h1,h2,h3,h4,h5⟩
theorem a5g{g:Trm}:g∈univK k↔∃w o,(w=k.wW\/w=k.wL)/\bdO o/\g=a0n k w o:=by
 constructor
 ·intro h;obtain⟨o,ho,hg⟩:=X3.mp h;have hb:bdO o:=λi e=>by
   subst e
   simp at ho
   omega
  rcases Zg.mp hg with z|z
  ·exact⟨_,o,.inl rfl,hb,z⟩
  ·exact⟨_,o,.inr rfl,hb,Zd.mp z⟩
 ·rintro⟨w,o,hw,hb,rfl⟩
  refine X3.mpr ⟨o,?_,?_⟩
  ·cases o with
   |none=>simp
   |some i=>
    have:=hb i rfl
    simp
    omega
  ·rcases hw with z|z
   ·rw[z];simp
   ·rw[z];simp
theorem b0j(w:Str)(a b:Trm):(pr w a b).data.depth<=max a.data.depth b.data.depth+3:=by
 unfold pr;simp only[Trm.data,Trm.dataL];simp only[PyData.depth,PyData.depthAll];omega
theorem c7q(h:KOk k){w:Str}{o:Option Nat}(b:bdO o):told (a0n k w o)=a0n k w o:=by
 cases o with
 |none=>exact b9z qz
 |some i=>exact a9p (h.gd (b i rfl))
theorem a2f(h:KOk k){w:Str}{o:Option Nat}(b:bdO o):capK k (a0n k w o)=if o=none then(if w=k.wW then 16 else 6)else 4:=by
 cases o with
 |none=>rfl
 |some i=>
  unfold capK a0n;rw[show isA (a1 (pr w (k.P i) (.any U1)))=false from h.isA (b i rfl)];rfl
theorem a2m(h:KOk k){w:Str}{o:Option Nat}(b:bdO o):a5t k (a0n k w o)=if w=k.wW then(if o=none then 88 else 26)else 6:=by
 cases o with
 |none=>rfl
 |some i=>
  unfold a5t a0n;rw[show isA (a1 (pr w (k.P i) (.any U1)))=false from h.isA (b i rfl)];rfl
theorem a6m(h:KOk k){w:Str}{o:Option Nat}(b:bdO o):isA (a1 (a0n k w o))=o.isNone:=by
 cases o with
 |none=>rfl
 |some i=>exact h.isA (b i rfl)
theorem a8i{l T2:List Trm}(hn:l.Nodup)(h:∀a∈l,a∈T2):l.length<=T2.length:=by
 have:=b1p (f:=λ_=>1) l T2 hn h;rw[a9o,a9o]at this;exact this
theorem ac_ok(h:KOk k){w:Str}{o:Option Nat}(hw:w=k.wW\/w=k.wL)(b:bdO o){l:List Trm}(hn:l.Nodup)(ha:∀a∈l,AnsK k (a0n k w o) a):l.length<=capK k (a0n k w o):=by
 rw[a2f h b];cases o with
 |some i=>
  have:=a8i (T2:=(List.range 4).map λj=>pr w (k.P i) (k.P j)) hn λa h2=>by
   obtain⟨i',j,h1,h3,h4,h5,rfl⟩:=a9r h b (ha a h2);rcases h1 with z|z
   ·cases z
   ·cases z;exact Z1.mpr ⟨j,Y2.mpr h4,rfl⟩
  rw[length_map,List.length_range]at this;exact this
 |none=>
  by_cases c:w=k.wW
  ·rw[if_pos rfl,if_pos c];have:=a8i (T2:=(List.range 4).flatMap λi=>(List.range 4).map λj=>pr w (k.P i) (k.P j)) hn λa h2=>by
    obtain⟨i',j,h1,h3,h4,h5,rfl⟩:=a9r h b (ha a h2);exact X3.mpr ⟨i',Y2.mpr h3,Z1.mpr ⟨j,Y2.mpr h4,rfl⟩⟩
   exact this
  ·rw[if_pos rfl,if_neg c];have:=a8i (T2:=k.ls.map λl=>pr w (k.P l.1) (k.P l.2)) hn λa h2=>by
    obtain⟨i',j,h1,h3,h4,h5,rfl⟩:=a9r h b (ha a h2);rcases h5 with z|z
    ·exact absurd z.1 c
    ·exact Z1.mpr ⟨(i',j),z.2,rfl⟩
   rw[length_map]at this;exact Ye this h.ll
end
theorem bd_n:bdO none:=λi e=>by cases e
theorem bd_s{i:Nat}(h:i<4):bdO (some i):=λj e=>by cases e;exact h
theorem b0r(k:Kd)(w:Str)(o:Option Nat):keyT (a0n k w o)=nd w 2:=by cases o<;>rfl
theorem b4t{w w':Str}(h:nd w 2=nd w' 2):w=w':=by
 injection h with h _
 injection h
theorem c4h{key:List Key}:∀{rs:List (Trm×List Trm)}{n:Nat}{r:Rl},r∈fsel key rs n->∃x∈rs,∃m,r=mkRl m x/\keyT x.1=key
 | [],n,r,h=>by rw[fsel]at h;cases h
 |x::l,n,r,h=>by
  rw[fsel]at h;have old:r∈fsel key l (n+1)->∃y∈x::l,∃m,r=mkRl m y/\keyT y.1=key:=λz=>by
   obtain⟨y,h1,h2⟩:=c4h z;exact⟨y,Zc _ h1,h2⟩
  by_cases c:keyT x.1=key
  ·rw[if_pos c]at h;rcases Zg.mp h with z|z
   ·exact⟨x,Ze ..,_,z,c⟩
   ·exact old z
  ·rw[if_neg c]at h;exact old h
theorem b5s{key:List Key}:∀{rs:List (Trm×List Trm)}{n:Nat}{x:Trm×List Trm},x∈rs->keyT x.1=key->∃m,mkRl m x∈fsel key rs n
 | [],n,x,h,_=>by cases h
 |y::l,n,x,h,e=>by
  rw[fsel];rcases Zg.mp h with z|z
  ·subst z;rw[if_pos e];exact⟨_,Ze ..⟩
  ·obtain⟨m,h1⟩:=b5s (n:=n+1) z e
   by_cases c:keyT y.1=key
   ·rw[if_pos c];exact⟨m,Zc _ h1⟩
   ·rw[if_neg c];exact⟨m,h1⟩
theorem c4i{key:List Key}:∀{rs:List (Trm×List Trm)}{n:Nat},(fsel key rs n).length<=rs.length
 | [],n=>Zm _
 |y::l,n=>by
  have:=c4i (key:=key) (rs:=l) (n:=n+1);rw[fsel]
  by_cases c:keyT y.1=key
  ·rw[if_pos c,length_cons,length_cons];omega
  ·rw[if_neg c,length_cons];omega
theorem c4j(f:Str->Str):∀(ts:List Trm),(renL f ts).length=ts.length
 | []=>by rw[renL]
 |x::r=>by rw[renL,length_cons,length_cons,c4j f r]
theorem c4k{key:List Key}(f:Nat->Nat):∀(rs:List (Trm×List Trm))(n:Nat),((fsel key rs n).map λr=>f r.goals.length).sum=((rs.filter λx=>decide (keyT x.1=key)).map λx=>f x.2.length).sum
 | [],n=>rfl
 |y::l,n=>by
  have ih:=c4k (key:=key) f l (n+1);rw[fsel,List.filter_cons]
  by_cases c:keyT y.1=key
  ·rw[if_pos c,if_pos (Zw c),Zt,Zt,Yu,Yu,ih]
   show f (renL _ y.2).length+_=_
   rw[c4j]
  ·rw[if_neg c,if_neg (by simpa using c),ih]
section
variable{k:Kd}{rs:List (Trm×List Trm)}{x y z:Str}
theorem b0k(g:Trm):(k.L rs).rules g=fsel (keyT g) rs 0:=by
 unfold Lw.rules
 show a3f (b2v rs) (keyT g)=_
 unfold b2v;rw[b8w];rfl
theorem key_Fc(l:Nat×Nat):keyT (Fc k l).1=nd k.wL 2:=rfl
theorem RsK.mem(R:RsK k rs x y z){u:Trm×List Trm}:u∈rs↔u=R1 k x y\/u=R2 k x y z\/∃l∈k.ls,u=Fc k l:=by
 rw[R.pm.mem_iff,Zg,Zg,Z1]
 constructor
 ·rintro(h|h|⟨l,h1,h2⟩)
  ·exact .inl h
  ·exact .inr (.inl h)
  ·exact .inr (.inr ⟨l,h1,h2.symm⟩)
 ·rintro(h|h|⟨l,h1,h2⟩)
  ·exact .inl h
  ·exact .inr (.inl h)
  ·exact .inr (.inr ⟨l,h1,h2.symm⟩)
theorem b8x(h:KOk k)(R:RsK k rs x y z){w:Str}{o:Option Nat}{r:Rl}(hr:r∈(k.L rs).rules (a0n k w o)):(w=k.wW/\∃m,r=⟨m,h12 k,[gL k]⟩)\/(w=k.wW/\∃m,r=⟨m,h12 k,[gA k,gB k]⟩)\/(w=k.wL/\∃m,∃l∈k.ls,r=⟨m,pr k.wL (k.P l.1) (k.P l.2),[]⟩):=by
 rw[b0k,b0r]at hr;obtain⟨u,hu,m,e,ek⟩:=c4h hr;rcases R.mem.mp hu with c|c|⟨l,hl,c⟩
 ·subst c;exact .inl ⟨(b4t ek).symm,m,by rw[e];exact mk1 R.xy⟩
 ·subst c;exact .inr (.inl ⟨(b4t ek).symm,m,by rw[e];exact mk2 R.xy R.xz R.yz⟩)
 ·subst c;obtain⟨l1,l2⟩:=h.lb l hl;exact .inr (.inr ⟨(b4t ek).symm,m,l,hl,by rw[e];exact mkF (h.gd l1) (h.gd l2)⟩)
theorem c0a(h:KOk k)(R:RsK k rs x y z)(o:Option Nat):(∃m,(⟨m,h12 k,[gL k]⟩:Rl)∈(k.L rs).rules (a0n k k.wW o))/\(∃m,(⟨m,h12 k,[gA k,gB k]⟩:Rl)∈(k.L rs).rules (a0n k k.wW o))/\∀l∈k.ls,∃m,(⟨m,pr k.wL (k.P l.1) (k.P l.2),[]⟩:Rl)∈(k.L rs).rules (a0n k k.wL o):=by
 rw[b0k,b0r,b0k,b0r];refine⟨?_,?_,λl hl=>?_⟩
 ·obtain⟨m,e⟩:=b5s (n:=0) (key:=nd k.wW 2) (R.mem.mpr (.inl rfl)) rfl;exact⟨m,by rw[R1,mk1 R.xy]at e;exact e⟩
 ·obtain⟨m,e⟩:=b5s (n:=0) (key:=nd k.wW 2) (R.mem.mpr (.inr (.inl rfl))) rfl;exact⟨m,by rw[R2,mk2 R.xy R.xz R.yz]at e;exact e⟩
 ·obtain⟨l1,l2⟩:=h.lb l hl;obtain⟨m,e⟩:=b5s (n:=0) (key:=nd k.wL 2) (R.mem.mpr (.inr (.inr ⟨l,hl,rfl⟩))) rfl;exact⟨m,by rw[Fc,mkF (h.gd l1) (h.gd l2)]at e;exact e⟩
theorem cs_ok(h:KOk k)(R:RsK k rs x y z){w:Str}{o:Option Nat}(hw:w=k.wW\/w=k.wL)(b:bdO o):(((k.L rs).rules (a0n k w o)).map λr=>1+potN (isA (a1 (a0n k w o))) r.goals.length 0).sum<=a5t k (a0n k w o):=by
 rw[b0k,b0r,a6m h b,c4k (λn=>1+potN o.isNone n 0),a2m h b];have pm:=((R.pm.filter λu=>decide (keyT u.1=nd w 2)).map λu=>1+potN o.isNone u.2.length 0).sum_nat;rw[pm];rcases hw with rfl|rfl
 ·have e:((R1 k x y::R2 k x y z::k.ls.map (Fc k)).filter λu=>decide (keyT u.1=nd k.wW 2))=[R1 k x y,R2 k x y z]:=by
   rw[Tv (by exact Zw rfl),Tv (by exact Zw rfl)];rw[List.filter_eq_nil_iff.mpr λu hu=>?_];obtain⟨l,hl,rfl⟩:=Z1.mp hu;rw[key_Fc];intro c;exact h.ne (b4t (Z5 c))
  rw[e,if_pos rfl];cases o with
  |none=>exact Zm 88
  |some i=>exact Zm 26
 ·have e:((R1 k x y::R2 k x y z::k.ls.map (Fc k)).filter λu=>decide (keyT u.1=nd k.wL 2))=k.ls.map (Fc k):=by
   have n1:¬decide (nd k.wW 2=nd k.wL 2)=true:=λc=>h.ne (b4t (Z5 c)).symm
   rw[Tw (by exact n1),Tw (by exact n1)];refine List.filter_eq_self.mpr λu hu=>?_
   obtain⟨l,hl,rfl⟩:=Z1.mp hu;exact Zw rfl
  rw[e,if_neg h.ne,Wm];have:((k.ls.map ((λu:Trm×List Trm=>1+potN o.isNone u.2.length 0)∘Fc k)).sum)=(k.ls.map λ_=>1).sum:=rfl;rw[this,a9o];exact h.ll
theorem rk_of(h:KOk k){w:Str}{o:Option Nat}{r:Rl}(c:(w=k.wW/\∃m,r=⟨m,h12 k,[gL k]⟩)\/(w=k.wW/\∃m,r=⟨m,h12 k,[gA k,gB k]⟩)\/(w=k.wL/\∃m,∃l∈k.ls,r=⟨m,pr k.wL (k.P l.1) (k.P l.2),[]⟩)):RkOk r:=by
 have nU:∀u∈[U1,U2,U3],u.length<=1000:=by decide+kernel
 have n12:∀{w a b},a∈[U1,U2,U3]->b∈[U1,U2,U3]->∀u∈vars (pr w (.any a) (.any b)),u.length<=1000:=λ{w a b} ha hb u hu=>by
  rw[a8h,vars,vars]at hu;have hu:u=a\/u=b:=by simpa using hu
  rcases hu with rfl|rfl
  ·exact nU _ ha
  ·exact nU _ hb
 rcases c with⟨_,m,rfl⟩|⟨_,m,rfl⟩|⟨_,m,l,hl,rfl⟩
 ·refine⟨by show(pr _ _ _).size<=60;rw[a1o];decide,n12 qz qz,λg hg=>?_,λg hg=>?_,by show 1<=10;decide⟩
  ·rw[Zd.mp hg];show(pr _ _ _).size<=60;rw[a1o];decide
  ·rw[Zd.mp hg];exact n12 qz qz
 ·refine⟨by show(pr _ _ _).size<=60;rw[a1o];decide,n12 qz qz,λg hg=>?_,λg hg=>?_,by show 2<=10;decide⟩
  ·rcases Zg.mp hg with e|e
   ·rw[e];show(pr _ _ _).size<=60;rw[a1o];decide
   ·rw[Zd.mp e];show(pr _ _ _).size<=60;rw[a1o];decide
  ·rcases Zg.mp hg with e|e
   ·rw[e];exact n12 qz qz
   ·rw[Zd.mp e];exact n12 qz qz
 ·obtain⟨l1,l2⟩:=h.lb l hl;have z1:=h.sz l1;have z2:=h.sz l2;refine⟨by show(pr _ _ _).size<=60;rw[a1o];omega,λu hu=>?_,λg hg=>(by cases hg),λg hg=>(by cases hg),by show 0<=10;decide⟩;have hu:u∈vars (pr k.wL (k.P l.1) (k.P l.2)):=hu;rw[a8h,h.gd l1,h.gd l2]at hu;cases hu
theorem ap_ok(h:KOk k){w:Str}{o:Option Nat}(b:bdO o){r:Rl}(c:(w=k.wW/\∃m,r=⟨m,h12 k,[gL k]⟩)\/(w=k.wW/\∃m,r=⟨m,h12 k,[gA k,gB k]⟩)\/(w=k.wL/\∃m,∃l∈k.ls,r=⟨m,pr k.wL (k.P l.1) (k.P l.2),[]⟩)):(∃q c,appK (a0n k w o) r=some q/\Un true [] [(a0n k w o,ren (mrk 0) r.head)] true q c/\LegK k (a0n k w o) r 0 q)\/(appK (a0n k w o) r=none/\∃q c,Un true [] [(a0n k w o,ren (mrk 0) r.head)] false q c):=by
 have two:∀(m:Nat)(gs:List Trm),gs≠[]->appK (a0n k k.wW o) ⟨m,h12 k,gs⟩=some (bas k o)/\∃c,Un true [] [(a0n k k.wW o,ren (mrk 0) (h12 k))] true (bas k o) c:=λm gs hne=>by
  have e0:gs.isEmpty=false:=by
   cases gs with
   |nil=>exact absurd rfl hne
   |cons _ _=>rfl
  have e1:ren (mrk 0) (h12 k)=pr k.wW (.any M1) (.any M2):=by rw[h12,a8v,ren,ren]
  rw[e1];unfold appK;rw[a6m h b];cases o with
  |none=>
   refine⟨?_,un_b0 _⟩
   show(if gs.isEmpty=true then _ else _)=_
   rw[e0];rfl
  |some i=>
   refine⟨?_,un_b1 _ (h.gd (b i rfl)) (by have:=h.sz (b i rfl);omega)⟩
   show(if gs.isEmpty=true then _ else _)=_
   rw[e0];rfl
 rcases c with⟨rfl,m,rfl⟩|⟨rfl,m,rfl⟩|⟨rfl,m,l,hl,rfl⟩
 ·obtain⟨e1,c,u⟩:=two m [gL k] qz;exact .inl ⟨_,c,e1,u,.x0 b rfl rfl⟩
 ·obtain⟨e1,c,u⟩:=two m [gA k,gB k] qz;exact .inl ⟨_,c,e1,u,.y0 b rfl rfl⟩
 ·obtain⟨l1,l2⟩:=h.lb l hl;have z1:=h.sz l1;have z2:=h.sz l2;have e1:ren (mrk 0) (pr k.wL (k.P l.1) (k.P l.2))=pr k.wL (k.P l.1) (k.P l.2):=b4r _ (by rw[a8h,h.gd l1,h.gd l2];rfl)
  show(∃q c,_/\Un true [] [(_,ren (mrk 0) (pr k.wL (k.P l.1) (k.P l.2)))] true q c/\_)\/(_/\∃q c,Un true [] [(_,ren (mrk 0) (pr k.wL (k.P l.1) (k.P l.2)))] false q c)
  rw[e1];cases o with
  |none=>
   obtain⟨c,u⟩:=un_ff (q:=[]) (x:=U1) (y:=U2) (w:=k.wL) rfl rfl qz (h.gd l1) (h.gd l2) qo qo qz;exact .inl ⟨fcq k l.1 l.2 none,c,rfl,u,.fact rfl (.inl rfl) hl rfl⟩
  |some i=>
   have hi:=b i rfl;have zi:=h.sz hi;have ea:appK (a0n k k.wL (some i)) ⟨m,pr k.wL (k.P l.1) (k.P l.2),[]⟩=if eqb (k.P i) (k.P l.1)then some [(U1,k.P l.2)]else none:=by
    unfold appK;rw[a6m h b];rfl
   rw[ea]
   by_cases c:k.P i=k.P l.1
   ·have ei:=h.inj hi l1 c;rw[if_pos ((a4g _ _).mpr c)];obtain⟨c1,u⟩:=un_gf (q:=[]) (y:=U1) (w:=k.wL) rfl (h.gd hi) (h.gd l2) qo qo qz;rw[<-c];exact .inl ⟨_,c1,rfl,u,.fact (o:=some i) (i:=i) (j:=l.2) rfl (.inr rfl) (by rw[ei];exact hl) rfl⟩
   ·rw[if_neg λe=>c ((a4g _ _).mp e)];obtain⟨c1,u⟩:=un_gn (q:=[]) (y:=U1) (w:=k.wL) (h.gd hi) (h.gd l1) (h.gd l2) qo qo qo qz c λs ks ls e1 e2=>h.pk s ks ls (by rw[<-e1];exact h.P_mem hi) (by rw[<-e2];exact h.P_mem l1)
    exact .inr ⟨rfl,_,c1,u⟩
end
section
variable{k:Kd}
def fs(k:Kd):Option Nat->Trm
 |none=>.any M1
 |some i=>k.P i
def Sq(q:Rws):Prop:=∀r∈q,r.2.size<=60
theorem Sq.app{a b:Rws}(h:Sq a)(g:Sq b):Sq (a++b):=λr hr=>(Zr.mp hr).elim (h r) (g r)
theorem a8w(h:KOk k){i:Nat}(hi:i<4)(u:Str):Sq [(u,k.P i)]:=λr hr=>by
 rw[Zd.mp hr];have:=h.sz hi
 show(k.P i).size<=60
 omega
theorem b4u(h:KOk k){o:Option Nat}(b:bdO o):Sq (bas k o):=λr hr=>by
 cases o with
 |none=>
  rcases Zg.mp hr with e|e
  ·rw[e];show 1<=60;decide
  ·rw[Zd.mp e];show 1<=60;decide
 |some i=>
  have:=h.sz (b i rfl);rcases Zg.mp hr with e|e
  ·rw[e];show(k.P i).size<=60;omega
  ·rw[Zd.mp e];show 1<=60;decide
theorem c4l(h:KOk k){o:Option Nat}{i:Nat}(hi:i<4):Sq (frs k i o):=by
 cases o with
 |none=>exact a8w h hi M1
 |some j=>exactλr hr=>by cases hr
theorem b5t(o:Option Nat):(bas k o).length=2:=by cases o<;>rfl
theorem c6s(o:Option Nat)(i:Nat):(frs k i o).length<=1:=by cases o<;>simp[frs]
theorem rw_ok(h:KOk k){g:Trm}{r:Rl}{d:Nat}{q:Rws}(l:LegK k g r d q):RwOk q/\d<=r.goals.length/\r.goals.length<=10:=by
 have l1:∀o,(bas k o).length=2:=b5t;have l2:∀o i,(frs k i o).length<=1:=c6s;cases l with
 | @fact o i j e ho hl hg=>
  obtain⟨b1,b2⟩:=h.lb _ hl;rw[hg];refine⟨⟨?_,?_⟩,Zm _,qd⟩
  ·cases o with
   |none=>exact(a8w h b1 U1).app (a8w h b2 U2)
   |some i'=>exact a8w h b2 U1
  ·cases o with
   |none=>show 2<=50;decide
   |some i'=>show 1<=50;decide
 | @x0 o b e hg=>
  rw[hg];exact⟨⟨b4u h b,by rw[l1];decide⟩,Z4 _,by show 1<=10;decide⟩
 | @x1 o i j ho hi hj e hg hr=>
  rw[hg];refine⟨⟨(b4u h (ho.bd hi)).app ((c4l h hi).app (a8w h hj M2)),?_⟩,Zm _,by show 1<=10;decide⟩;have:=l2 o i;rw[Zk,Zk,l1,Z8];omega
 | @y0 o b e hg=>
  rw[hg];exact⟨⟨b4u h b,by rw[l1];decide⟩,Z4 _,by show 2<=10;decide⟩
 | @y1 o i m ho hi hm e hg hr=>
  rw[hg];refine⟨⟨(b4u h (ho.bd hi)).app ((c4l h hi).app (a8w h hm M3)),?_⟩,by show 1<=2;decide,by show 2<=10;decide⟩;have:=l2 o i;rw[Zk,Zk,l1,Z8];omega
 | @y2 o i m j ho hi hm hj e hg hr=>
  rw[hg];refine⟨⟨(b4u h (ho.bd hi)).app ((c4l h hi).app (Sq.app (a:=[(M3,k.P m)]) (a8w h hm M3) (a8w h hj M2))),?_⟩,Zm _,by show 2<=10;decide⟩;have:=l2 o i;rw[Zk,Zk,l1]
  show 2+((frs k i o).length+2)<=50
  omega
theorem full_fs(h:KOk k){o:Option Nat}(b:bdO o):Full (bas k o) (.any M1) (fs k o):=by
 cases o with
 |none=>exact .no (by simp[bas])
 |some i=>exact .yes (u:=k.P i) (by simp[bas]) (a9q (h.gd (b i rfl)))
theorem a5j(o:Option Nat):a0w (bas k o) M2=none/\a0w (bas k o) M3=none:=by
 cases o<;>simp[bas]
theorem b5u(o:Option Nat):vl (bas k o) M1=fs k o:=by
 cases o<;>simp[bas,vl,fs]
theorem b5v(h:KOk k){o:Option Nat}(b:bdO o){w m:Str}(hm:M1≠m):told (pr w (fs k o) (.any m))=a0n k w o:=by
 cases o with
 |none=>exact b9z hm
 |some i=>exact a9p (h.gd (b i rfl))
theorem fs_sz(h:KOk k){o:Option Nat}(b:bdO o):(fs k o).size<=5:=by
 cases o with
 |none=>show 1<=5;decide
 |some i=>exact h.sz (b i rfl)
theorem c4m(o:Option Nat)(i m:Nat):a0w (bas k o++(frs k i o++[(M3,k.P m)])) M3=some (k.P m)/\a0w (bas k o++(frs k i o++[(M3,k.P m)])) M2=none:=by
 cases o<;>simp[bas,frs]
theorem KOk.AB(h:KOk k):(k.A=k.wW\/k.A=k.wL)/\(k.B=k.wW\/k.B=k.wL):=by
 rcases h.ab with⟨a,b⟩|⟨a,b⟩|⟨a,b⟩<;>simp[a,b]
theorem KOk.wd(h:KOk k){w:Str}(c:w=k.wW\/w=k.wL):Wd w:=c.elim (λe=>e▸h.W1) λe=>e▸h.W2
theorem sb_ok(h:KOk k){g:Trm}{r:Rl}{d:Nat}{q:Rws}(l:LegK k g r d q){u:Trm}(hu:r.goals[d]? =some u):Full q (ren (mrk 0) u) (subK r d q)/\(subK r d q).size<=40/\(∃s ks,subK r d q=.app s ks/\Wd s)/\told (subK r d q)∈univK k/\capK k (told (subK r d q))*(1+potN (isA (a1 g)) r.goals.length (d+1))<=potN (isA (a1 g)) r.goals.length d:=by
 obtain⟨cA,cB⟩:=h.AB;have first:∀(w m:Str)(o:Option Nat),bdO o->(w=k.wW\/w=k.wL)->a0w (bas k o) m=none->M1≠m->subK r d q=pr w (fs k o) (.any m)->ren (mrk 0) u=pr w (.any M1) (.any m)->q=bas k o->Full q (ren (mrk 0) u) (subK r d q)/\(subK r d q).size<=40/\(∃s ks,subK r d q=.app s ks/\Wd s)/\told (subK r d q)=a0n k w o:=λw m o b cw hl hm e1 e2 e3=>by
  have:=fs_sz h b;rw[e1,e2,e3];exact⟨b5r (full_fs h b) (.no hl),by rw[a1o];show 1+(fs k o).size+1<=40;omega,⟨_,_,rfl,h.wd cw⟩,b5v h b hm⟩
 cases l with
 |fact e ho hl hg=>rw[hg]at hu;cases hu
 |x1 ho hi hj e hg hr=>rw[hg]at hu;cases hu
 |y2 ho hi hm hj e hg hr=>rw[hg]at hu;cases hu
 | @x0 o b e hg=>
  rw[hg]at hu;have hu:u=gL k:=(Zl hu).symm;have eg:glAt r 0=gL k:=by unfold glAt;rw[hg];rfl
  obtain⟨f1,f2,f3,f4⟩:=first k.wL M2 o b (.inr rfl) (a5j o).1 qz (by
   unfold subK;rw[eg]
   show pr k.wL (vl (bas k o) M1) (vl (bas k o) M2)=_
   rw[b5u,show vl (bas k o) M2=.any M2 by unfold vl;rw[(a5j o).1];rfl]) (by rw[hu,gL,a8v,ren,ren]) rfl
  refine⟨f1,f2,f3,?_,?_⟩
  ·rw[f4];exact a5g.mpr ⟨_,o,.inr rfl,b,rfl⟩
  ·rw[f4,a2f h b,e,a6m h b,hg,if_neg h.ne];cases o<;>simp[potN]
 | @y0 o b e hg=>
  rw[hg]at hu;have hu:u=gA k:=(Zl hu).symm;have eg:glAt r 0=gA k:=by unfold glAt;rw[hg];rfl
  obtain⟨f1,f2,f3,f4⟩:=first k.A M3 o b cA (a5j o).2 qz (by
   unfold subK;rw[eg]
   show pr k.A (vl (bas k o) M1) (vl (bas k o) M3)=_
   rw[b5u,show vl (bas k o) M3=.any M3 by unfold vl;rw[(a5j o).2];rfl]) (by rw[hu,gA,a8v,ren,ren]) rfl
  refine⟨f1,f2,f3,?_,?_⟩
  ·rw[f4];exact a5g.mpr ⟨_,o,cA,b,rfl⟩
  ·rw[f4,a2f h b,e,a6m h b,hg]
   by_cases c:k.A=k.wW
   ·rw[if_pos c];cases o<;>simp[potN]
   ·rw[if_neg c];cases o<;>simp[potN]
 | @y1 o i m ho hi hm e hg hr=>
  rw[hg]at hu;have hu:u=gB k:=(Zl hu).symm;have eg:glAt r 1=gB k:=by unfold glAt;rw[hg];rfl
  obtain⟨k1,k2⟩:=c4m (k:=k) o i m;have es:subK r 1 (bas k o++(frs k i o++[(M3,k.P m)]))=pr k.B (k.P m) (.any M2):=by
   unfold subK;rw[eg]
   show pr k.B (vl _ M3) (vl _ M2)=_
   unfold vl;rw[k1,k2];rfl
  have et:told (pr k.B (k.P m) (.any M2))=a0n k k.B (some m):=a9p (h.gd hm);have hz:=h.sz hm;rw[es,et,hu,gB,a8v,ren,ren];refine⟨b5r (.yes k1 (a9q (h.gd hm))) (.no k2),by rw[a1o];show 1+(k.P m).size+1<=40;omega,⟨_,_,rfl,h.wd cB⟩,a5g.mpr ⟨_,some m,cB,bd_s hm,rfl⟩,?_⟩;rw[a2f h (bd_s hm),hg];exact Zm 4
theorem nx_ok(h:KOk k){g:Trm}{r:Rl}{d:Nat}{q:Rws}{a:Trm}(l:LegK k g r d q)(hd:d<r.goals.length)(ha:AnsK k (told (subK r d q)) a):(∃c,Un true q [(subK r d q,a)] true (nxtK r d q a) c)/\LegK k g r (d+1) (nxtK r d q a):=by
 have first:∀(w m:Str)(o:Option Nat),bdO o->a0w (bas k o) m=none->M1≠m->subK r d q=pr w (fs k o) (.any m)->q=bas k o->(∀a,nxtK r d q a=addU (addU (bas k o) M1 (a1 a)) m (a2 a))->∃i j,okO o i/\i<4/\j<4/\a1u k.ls i j/\(∃c,Un true q [(subK r d q,a)] true (nxtK r d q a) c)/\nxtK r d q a=bas k o++(frs k i o++[(m,k.P j)]):=λw m o b hl hm e1 e2 e3=>by
  rw[e1,b5v h b hm]at ha;obtain⟨i,j,ho,hi,hj,hr,rfl⟩:=a9r h b ha;have zi:=h.sz hi;have zj:=h.sz hj;refine⟨i,j,ho,hi,hj,hr.reach,?_⟩;rw[e1,e3,e2]
  show(∃c,Un true (bas k o) [(pr w (fs k o) (.any m),pr w (k.P i) (k.P j))] true (addU (addU (bas k o) M1 (k.P i)) m (k.P j)) c)/\addU (addU (bas k o) M1 (k.P i)) m (k.P j)=_
  cases o with
  |none=>
   have hl1:a0w (bas k none) M1=none:=by simp[bas]
   have e5:addU (addU (bas k none) M1 (k.P i)) m (k.P j)=bas k none++[(M1,k.P i),(m,k.P j)]:=by
    unfold addU;rw[hl1];have:a0w (bas k none++[(M1,k.P i)]) m=none:=by
     have hl:a0w [(U1,.any M1),(U2,.any M2)] m=none:=hl
     show a0w [(U1,.any M1),(U2,.any M2),(M1,k.P i)] m=none
     rw[a2e,a2e,a6l]at hl;rw[a2e,a2e,a2e,a6l,if_neg hm];exact hl
    show(if(a0w (bas k none++[(M1,k.P i)]) m).isSome=true then _ else _)=_
    rw[this]
    show(bas k none++[(M1,k.P i)])++[(m,k.P j)]=_
    rw[Y9];rfl
   rw[e5];exact⟨un_ff hl1 hl hm (h.gd hi) (h.gd hj) qo qo (by rw[b5t];decide),rfl⟩
  |some i'=>
   have ei:i'=i:=by
    rcases ho with z|z
    ·cases z
    ·exact Zl z
   subst ei;have e5:addU (addU (bas k (some i')) M1 (k.P i')) m (k.P j)=bas k (some i')++[(m,k.P j)]:=by
    unfold addU;rw[show a0w (bas k (some i')) M1=some (k.P i') by simp[bas]]
    show(if(a0w (bas k (some i')) m).isSome=true then _ else _)=_
    rw[hl];rfl
   rw[e5];exact⟨un_gf (p:=k.P i') hl (h.gd hi) (h.gd hj) qo qo (by rw[b5t];decide),rfl⟩
 cases l with
 |fact e ho hl hg=>rw[hg]at hd;cases hd
 |x1 ho hi hj e hg hr=>rw[hg]at hd;exact absurd (show 1<1 from hd) qd
 |y2 ho hi hm hj e hg hr=>rw[hg]at hd;exact absurd (show 2<2 from hd) qd
 | @x0 o b e hg=>
  have eg:glAt r 0=gL k:=by unfold glAt;rw[hg];rfl
  obtain⟨i,j,f1,f2,f3,f4,f5,f6⟩:=first k.wL M2 o b (a5j o).1 qz (by
   unfold subK;rw[eg]
   show pr k.wL (vl (bas k o) M1) (vl (bas k o) M2)=_
   rw[b5u,show vl (bas k o) M2=.any M2 by unfold vl;rw[(a5j o).1];rfl]) rfl (λa=>by unfold nxtK;rw[eg];rfl)
  refine⟨f5,?_⟩;rw[f6];exact .x1 f1 f2 f3 e hg f4
 | @y0 o b e hg=>
  have eg:glAt r 0=gA k:=by unfold glAt;rw[hg];rfl
  obtain⟨i,j,f1,f2,f3,f4,f5,f6⟩:=first k.A M3 o b (a5j o).2 qz (by
   unfold subK;rw[eg]
   show pr k.A (vl (bas k o) M1) (vl (bas k o) M3)=_
   rw[b5u,show vl (bas k o) M3=.any M3 by unfold vl;rw[(a5j o).2];rfl]) rfl (λa=>by unfold nxtK;rw[eg];rfl)
  refine⟨f5,?_⟩;rw[f6];exact .y1 f1 f2 f3 e hg f4
 | @y1 o i m ho hi hm e hg hr=>
  have eg:glAt r 1=gB k:=by unfold glAt;rw[hg];rfl
  obtain⟨k1,k2⟩:=c4m (k:=k) o i m;have es:subK r 1 (bas k o++(frs k i o++[(M3,k.P m)]))=pr k.B (k.P m) (.any M2):=by
   unfold subK;rw[eg]
   show pr k.B (vl _ M3) (vl _ M2)=_
   unfold vl;rw[k1,k2];rfl
  rw[es,a9p (h.gd hm)]at ha;obtain⟨m',j,ho',hm',hj,hrel,rfl⟩:=a9r (o:=some m) h (bd_s hm) ha;have em:m'=m:=by
   rcases ho' with z|z
   ·cases z
   ·exact(Zl z).symm
  subst em;have zm:=h.sz hm;have zj:=h.sz hj;have en:nxtK r 1 (bas k o++(frs k i o++[(M3,k.P m')])) (pr k.B (k.P m') (k.P j))=(bas k o++(frs k i o++[(M3,k.P m')]))++[(M2,k.P j)]:=by
   unfold nxtK;rw[eg]
   show addU (addU _ M3 (k.P m')) M2 (k.P j)=_
   unfold addU;rw[k1]
   show(if(a0w (bas k o++(frs k i o++[(M3,k.P m')])) M2).isSome=true then _ else _)=_
   rw[k2];rfl
  rw[es,en];refine⟨un_gf k2 (h.gd hm) (h.gd hj) qo qo ?_,?_⟩
  ·have:=c6s (k:=k) o i;rw[Zk,Zk,b5t,Z8];omega
  ·rw[Y9,Y9];exact .y2 ho hi hm hj e hg (hr.cat hrel.reach)
theorem r2_gd{q:Rws}{p:Trm}(hp:vars p=[]):r2 q p=p:=by
 unfold r2;rw[c4g hp];rfl
theorem b1q{q:Rws}{x:Str}{p:Trm}(hp:vars p=[])(hx:a0w q x=some p):Full q (.any x) p/\r2 q (.any x)=p:=by
 refine⟨.yes hx (a9q hp),?_⟩;unfold r2
 show(if isA (vl q x)=true then vl q (nm (vl q x))else vl q x)=p
 rw[show vl q x=p by unfold vl;rw[hx];rfl,c4g hp];rfl
theorem a5k{q:Rws}{x y:Str}{p:Trm}(hp:vars p=[])(hx:a0w q x=some (.any y))(hy:a0w q y=some p):Full q (.any x) p/\r2 q (.any x)=p:=by
 refine⟨.yes hx (.yes hy (a9q hp)),?_⟩;unfold r2
 show(if isA (vl q x)=true then vl q (nm (vl q x))else vl q x)=p
 rw[show vl q x=.any y by unfold vl;rw[hx];rfl]
 show vl q y=p
 unfold vl;rw[hy];rfl
theorem b1r(h:KOk k){o:Option Nat}{w:Str}{q:Rws}{i j:Nat}(ho:okO o i)(hi:i<4)(hj:j<4)(u:∀(_:o=none),(Full q (.any U1) (k.P i)/\r2 q (.any U1)=k.P i)/\(Full q (.any U2) (k.P j)/\r2 q (.any U2)=k.P j))(v:∀(_:o=some i),Full q (.any U1) (k.P j)/\r2 q (.any U1)=k.P j):Full q (a0n k w o) (finK (a0n k w o) q)/\finK (a0n k w o) q=pr w (k.P i) (k.P j):=by
 rcases ho with rfl|rfl
 ·obtain⟨⟨u1,u2⟩,u3,u4⟩:=u rfl;have e:finK (a0n k w none) q=pr w (k.P i) (k.P j):=by
   show pr w (r2 q (.any U1)) (r2 q (.any U2))=_
   rw[u2,u4]
  rw[e];exact⟨b5r u1 u3,rfl⟩
 ·obtain⟨v1,v2⟩:=v rfl;have e:finK (a0n k w (some i)) q=pr w (k.P i) (k.P j):=by
   show pr w (r2 q (k.P i)) (r2 q (.any U1))=_
   rw[r2_gd (h.gd hi),v2]
  rw[e];exact⟨b5r (a9q (h.gd hi)) v1,rfl⟩
theorem fi_ok(h:KOk k){g:Trm}{r:Rl}{d:Nat}{q:Rws}(l:LegK k g r d q)(hd:d=r.goals.length):Full q g (finK g q)/\AnsK k g (finK g q):=by
 cases l with
 |x0 b e hg=>rw[hg]at hd;cases hd
 |y0 b e hg=>rw[hg]at hd;cases hd
 |y1 ho hi hm e hg hr=>rw[hg]at hd;cases hd
 | @fact o i j e ho hl hg=>
  obtain⟨b1,b2⟩:=h.lb _ hl;have b1:i<4:=b1;have b2:j<4:=b2;obtain⟨f1,f2⟩:=b1r (w:=k.wL) (q:=fcq k i j o) h ho b1 b2 (λz=>by subst z;exact⟨b1q (h.gd b1) (by simp[fcq]),b1q (h.gd b2) (by simp[fcq])⟩) λz=>by subst z;exact b1q (h.gd b2) (by simp[fcq])
  rw[e];exact⟨f1,by rw[f2];exact⟨_,o,i,j,rfl,ho,b1,b2,.inr ⟨rfl,hl⟩,rfl⟩⟩
 | @x1 o i j ho hi hj e hg hr=>
  obtain⟨f1,f2⟩:=b1r (w:=k.wW) (q:=bas k o++(frs k i o++[(M2,k.P j)])) h ho hi hj (λz=>by subst z;exact⟨a5k (y:=M1) (h.gd hi) (by simp[bas,frs]) (by simp[bas,frs]),a5k (y:=M2) (h.gd hj) (by simp[bas,frs]) (by simp[bas,frs])⟩) λz=>by subst z;exact a5k (y:=M2) (h.gd hj) (by simp[bas,frs]) (by simp[bas,frs])
  rw[e];exact⟨f1,by rw[f2];exact⟨_,o,i,j,rfl,ho,hi,hj,.inl ⟨rfl,hr⟩,rfl⟩⟩
 | @y2 o i m j ho hi hm hj e hg hr=>
  obtain⟨f1,f2⟩:=b1r (w:=k.wW) (q:=bas k o++(frs k i o++[(M3,k.P m),(M2,k.P j)])) h ho hi hj (λz=>by subst z;exact⟨a5k (y:=M1) (h.gd hi) (by simp[bas,frs]) (by simp[bas,frs]),a5k (y:=M2) (h.gd hj) (by simp[bas,frs]) (by simp[bas,frs])⟩) λz=>by subst z;exact a5k (y:=M2) (h.gd hj) (by simp[bas,frs]) (by simp[bas,frs])
  rw[e];exact⟨f1,by rw[f2];exact⟨_,o,i,j,rfl,ho,hi,hj,.inl ⟨rfl,hr⟩,rfl⟩⟩
theorem an_ok(h:KOk k){g a:Trm}(ha:AnsK k g a):GdOk a:=by
 obtain⟨w,o,i,j,_,_,hi,hj,_,rfl⟩:=ha;have z1:=h.sz hi;have z2:=h.sz hj;have d1:=(h.pg _ (h.P_mem hi)).2.2;have d2:=(h.pg _ (h.P_mem hj)).2.2;have d3:=b0j w (k.P i) (k.P j);exact⟨by rw[a8h,h.gd hi,h.gd hj];rfl,by rw[a1o];omega,qo⟩
theorem gl_ok(h:KOk k){w:Str}{o:Option Nat}(b:bdO o):GlOk (a0n k w o):=by
 have nU:∀u∈[U1,U2],u.length<=1000:=by decide+kernel
 have dA:∀u:Str,(Trm.any u).data.depth<=5:=λu=>by
  simp only[Trm.data,PyData.depth,PyData.depthAll];omega
 have et:=c7q h (w:=w) b;cases o with
 |none=>
  have d3:=b0j w (.any U1) (.any U2);have d1:=dA U1;have d2:=dA U2;refine⟨⟨w,_,rfl⟩,by show(pr _ _ _).size<=40;rw[a1o];decide,by show(pr _ _ _).data.depth<=8;omega,λu hu=>nU u ?_,et⟩;have hu:u∈vars (pr w (.any U1) (.any U2)):=hu;rw[a8h,vars,vars]at hu;exact hu
 |some i=>
  have hi:=b i rfl;have z1:=h.sz hi;have d3:=b0j w (k.P i) (.any U1);have d1:=(h.pg _ (h.P_mem hi)).2.2;have d2:=dA U1;refine⟨⟨w,_,rfl⟩,by show(pr _ _ _).size<=40;rw[a1o];show 1+(k.P i).size+1<=40;omega,by show(pr _ _ _).data.depth<=8;omega,λu hu=>nU u ?_,et⟩;have hu:u∈vars (pr w (k.P i) (.any U1)):=hu;rw[a8h,h.gd hi,vars]at hu;rw[Zd.mp hu];exact Ze ..
theorem lw_ok(h:KOk k){rs:List (Trm×List Trm)}{x y z:Str}(R:RsK k rs x y z):LwOk (k.L rs) where
 gl:=λg hg=>by
  obtain⟨w,o,hw,b,rfl⟩:=a5g.mp hg;exact gl_ok h b
 nu:=by show 10<=24;decide
 ca:=by
  have b0:=bd_s (show 0<4 by decide);have b1:=bd_s (show 1<4 by decide);have b2:=bd_s (show 2<4 by decide);have b3:=bd_s (show 3<4 by decide)
  show capK k (a0n k k.wW none)+(capK k (a0n k k.wL none)+(capK k (a0n k k.wW (some 0))+(capK k (a0n k k.wL (some 0))+(capK k (a0n k k.wW (some 1))+(capK k (a0n k k.wL (some 1))+(capK k (a0n k k.wW (some 2))+(capK k (a0n k k.wL (some 2))+(capK k (a0n k k.wW (some 3))+(capK k (a0n k k.wL (some 3))+0)))))))))<=60
  rw[a2f h bd_n,a2f h bd_n,a2f h b0,a2f h b0,a2f h b1,a2f h b1,a2f h b2,a2f h b2,a2f h b3,a2f h b3,if_neg h.ne]
  simp
 co:=by
  have b0:=bd_s (show 0<4 by decide);have b1:=bd_s (show 1<4 by decide);have b2:=bd_s (show 2<4 by decide);have b3:=bd_s (show 3<4 by decide)
  show a5t k (a0n k k.wW none)+(a5t k (a0n k k.wL none)+(a5t k (a0n k k.wW (some 0))+(a5t k (a0n k k.wL (some 0))+(a5t k (a0n k k.wW (some 1))+(a5t k (a0n k k.wL (some 1))+(a5t k (a0n k k.wW (some 2))+(a5t k (a0n k k.wL (some 2))+(a5t k (a0n k k.wW (some 3))+(a5t k (a0n k k.wL (some 3))+0)))))))))<=300
  rw[a2m h bd_n,a2m h bd_n,a2m h b0,a2m h b0,a2m h b1,a2m h b1,a2m h b2,a2m h b2,a2m h b3,a2m h b3,if_neg h.ne]
  simp[h.ne]
 an:=λg a ha=>an_ok h ha
 ac:=λg hg l hn ha=>by
  obtain⟨w,o,hw,b,rfl⟩:=a5g.mp hg;exact ac_ok h hw b hn ha
 cs:=λg hg=>by
  obtain⟨w,o,hw,b,rfl⟩:=a5g.mp hg;exact cs_ok h R hw b
 rl:=λg hg=>by
  obtain⟨w,o,hw,b,rfl⟩:=a5g.mp hg;refine⟨?_,λr hr=>rk_of (o:=o) h (b8x h R hr)⟩;rw[b0k];have h1:=c4i (key:=keyT (a0n k w o)) (rs:=rs) (n:=0);have h2:=R.pm.length_eq;rw[length_cons,length_cons,length_map]at h2;have:=h.ll;omega
 ap:=λg hg r hr=>by
  obtain⟨w,o,hw,b,rfl⟩:=a5g.mp hg;exact ap_ok h b (b8x h R hr)
 rw:=λg r d q l=>rw_ok h l
 sb:=λg r d q l u hu=>sb_ok h l hu
 nx:=λg r d q a l hd ha=>nx_ok h l hd ha
 fi:=λg r q l=>fi_ok h l rfl
end
section
variable{k:Kd}{rs:List (Trm×List Trm)}{x y z:Str}{tb:List Tbl}
theorem d1e{o:Option Nat}{i j:Nat}{m:Str}(ho:okO o i)(hl:a0w (bas k o) m=none)(hm:M1≠m):addU (addU (bas k o) M1 (k.P i)) m (k.P j)=bas k o++(frs k i o++[(m,k.P j)]):=by
 rcases ho with rfl|rfl
 ·have hl1:a0w (bas k none) M1=none:=by simp[bas]
  unfold addU;rw[hl1];have:a0w (bas k none++[(M1,k.P i)]) m=none:=by
   have hl:a0w [(U1,.any M1),(U2,.any M2)] m=none:=hl
   show a0w [(U1,.any M1),(U2,.any M2),(M1,k.P i)] m=none
   rw[a2e,a2e,a6l]at hl;rw[a2e,a2e,a2e,a6l,if_neg hm];exact hl
  show(if(a0w (bas k none++[(M1,k.P i)]) m).isSome=true then _ else _)=_
  rw[this]
  show(bas k none++[(M1,k.P i)])++[(m,k.P j)]=_
  rw[Y9];rfl
 ·unfold addU;rw[show a0w (bas k (some i)) M1=some (k.P i) by simp[bas]]
  show(if(a0w (bas k (some i)) m).isSome=true then _ else _)=_
  rw[hl];rfl
theorem c6t(h:KOk k){o:Option Nat}(b:bdO o)(m:Nat){gs:List Trm}(hne:gs≠[]):appK (a0n k k.wW o) ⟨m,h12 k,gs⟩=some (bas k o):=by
 have e0:gs.isEmpty=false:=by
  cases gs with
  |nil=>exact absurd rfl hne
  |cons _ _=>rfl
 unfold appK;rw[a6m h b];cases o with
 |none=>
  show(if gs.isEmpty=true then _ else _)=_
  rw[e0];rfl
 |some i=>
  show(if gs.isEmpty=true then _ else _)=_
  rw[e0];rfl
theorem b1s:∀{tb:List Tbl}{g:Trm}{a b:List Trm},(tb.map (·.1)).Nodup->(g,a)∈tb->(g,b)∈tb->a=b
 | [],_,_,_,_,h,_=>by cases h
 |u::r,g,a,b,n,h,h'=>by
  rw[Zt]at n;obtain⟨n1,n2⟩:=Yn.mp n;rcases Zg.mp h with e|e
  ·rcases Zg.mp h' with e'|e'
   ·rw[<-e]at e';cases e';rfl
   ·exact absurd (Z1.mpr ⟨_,e',by rw[<-e]⟩) n1
  ·rcases Zg.mp h' with e'|e'
   ·exact absurd (Z1.mpr ⟨_,e,by rw[<-e']⟩) n1
   ·exact b1s n2 e e'
def Kq(tb:List Tbl)(g:Trm):Prop:=∃as,(g,as)∈tb
def In(tb:List Tbl)(g a:Trm):Prop:=∃as,(g,as)∈tb/\a∈as
theorem c4n(h:KOk k)(R:RsK k rs x y z)(cl:∀u∈tb,ClT (k.L rs) tb u.1){o:Option Nat}{i j:Nat}(hk:Kq tb (a0n k k.wL o))(ho:okO o i)(hl:(i,j)∈k.ls):In tb (a0n k k.wL o) (pr k.wL (k.P i) (k.P j)):=by
 obtain⟨as,has⟩:=hk;obtain⟨b1,b2⟩:=h.lb _ hl;have b1:i<4:=b1;have b2:j<4:=b2;have b:=ho.bd b1;obtain⟨m,hr⟩:=(c0a h R o).2.2 _ hl;have ea:appK (a0n k k.wL o) ⟨m,pr k.wL (k.P i) (k.P j),[]⟩=some (fcq k i j o):=by
  rcases ho with rfl|rfl
  ·rfl
  ·unfold appK;rw[a6m h b]
   show(if eqb (k.P i) (k.P i)=true then some [(U1,k.P j)]else none)=_
   rw[if_pos (a6z _)];rfl
 obtain⟨as',h1,h2⟩:=cl _ has _ hr _ ea;obtain⟨_,f2⟩:=b1r (w:=k.wL) (q:=fcq k i j o) h ho b1 b2 (λz=>by subst z;exact⟨b1q (h.gd b1) (by simp[fcq]),b1q (h.gd b2) (by simp[fcq])⟩) λz=>by subst z;exact b1q (h.gd b2) (by simp[fcq])
 have h2:finK (a0n k k.wL o) (fcq k i j o)∈as':=h2;rw[f2]at h2;exact⟨as',h1,h2⟩
theorem c_one(h:KOk k)(R:RsK k rs x y z)(tk:Tok (k.L rs) tb)(cl:∀u∈tb,ClT (k.L rs) tb u.1){o:Option Nat}(b:bdO o)(hk:Kq tb (a0n k k.wW o)):Kq tb (a0n k k.wL o)/\∀i j,okO o i->i<4->j<4->In tb (a0n k k.wL o) (pr k.wL (k.P i) (k.P j))->In tb (a0n k k.wW o) (pr k.wW (k.P i) (k.P j)):=by
 obtain⟨as,has⟩:=hk;obtain⟨m,hr⟩:=(c0a h R o).1;obtain⟨as1,h1,h2⟩:=cl _ has _ hr _ (c6t (gs:=[gL k]) h b m qz);have et:told (subK ⟨m,h12 k,[gL k]⟩ 0 (bas k o))=a0n k k.wL o:=by
  have:subK ⟨m,h12 k,[gL k]⟩ 0 (bas k o)=pr k.wL (fs k o) (.any M2):=by
   show pr k.wL (vl (bas k o) M1) (vl (bas k o) M2)=_
   rw[b5u,show vl (bas k o) M2=.any M2 by unfold vl;rw[(a5j o).1];rfl]
  rw[this];exact b5v h b qz
 have h1:(told (subK ⟨m,h12 k,[gL k]⟩ 0 (bas k o)),as1)∈tb:=h1;rw[et]at h1;refine⟨⟨as1,h1⟩,λi j ho hi hj hin=>?_⟩;obtain⟨as2,h3,h4⟩:=hin;rw[b1s tk.nd h3 h1]at h4;obtain⟨as3,h5,h6⟩:=h2 _ h4;have h6:finK (a0n k k.wW o) (addU (addU (bas k o) M1 (k.P i)) M2 (k.P j))∈as3:=h6;rw[d1e ho (a5j o).1 qz]at h6;obtain⟨_,f2⟩:=b1r (w:=k.wW) (q:=bas k o++(frs k i o++[(M2,k.P j)])) h ho hi hj (λz=>by subst z;exact⟨a5k (y:=M1) (h.gd hi) (by simp[bas,frs]) (by simp[bas,frs]),a5k (y:=M2) (h.gd hj) (by simp[bas,frs]) (by simp[bas,frs])⟩) λz=>by subst z;exact a5k (y:=M2) (h.gd hj) (by simp[bas,frs]) (by simp[bas,frs])
 rw[f2]at h6;exact⟨as3,h5,h6⟩
theorem c_two(h:KOk k)(R:RsK k rs x y z)(tk:Tok (k.L rs) tb)(cl:∀u∈tb,ClT (k.L rs) tb u.1){o:Option Nat}(b:bdO o)(hk:Kq tb (a0n k k.wW o)):Kq tb (a0n k k.A o)/\∀i m,okO o i->i<4->m<4->In tb (a0n k k.A o) (pr k.A (k.P i) (k.P m))->Kq tb (a0n k k.B (some m))/\∀j,j<4->In tb (a0n k k.B (some m)) (pr k.B (k.P m) (k.P j))->In tb (a0n k k.wW o) (pr k.wW (k.P i) (k.P j)):=by
 obtain⟨as,has⟩:=hk;obtain⟨n,hr⟩:=(c0a h R o).2.1;obtain⟨as1,h1,h2⟩:=cl _ has _ hr _ (c6t (gs:=[gA k,gB k]) h b n qz);have et:told (subK ⟨n,h12 k,[gA k,gB k]⟩ 0 (bas k o))=a0n k k.A o:=by
  have:subK ⟨n,h12 k,[gA k,gB k]⟩ 0 (bas k o)=pr k.A (fs k o) (.any M3):=by
   show pr k.A (vl (bas k o) M1) (vl (bas k o) M3)=_
   rw[b5u,show vl (bas k o) M3=.any M3 by unfold vl;rw[(a5j o).2];rfl]
  rw[this];exact b5v h b qz
 have h1:(told (subK ⟨n,h12 k,[gA k,gB k]⟩ 0 (bas k o)),as1)∈tb:=h1;rw[et]at h1;refine⟨⟨as1,h1⟩,λi m ho hi hm hin=>?_⟩;obtain⟨as2,h3,h4⟩:=hin;rw[b1s tk.nd h3 h1]at h4;obtain⟨as3,h5,h6⟩:=h2 _ h4;have en:nxtK ⟨n,h12 k,[gA k,gB k]⟩ 0 (bas k o) (pr k.A (k.P i) (k.P m))=bas k o++(frs k i o++[(M3,k.P m)]):=d1e (m:=M3) ho (a5j o).2 qz;obtain⟨k1,k2⟩:=c4m (k:=k) o i m;have es:told (subK ⟨n,h12 k,[gA k,gB k]⟩ 1 (bas k o++(frs k i o++[(M3,k.P m)])))=a0n k k.B (some m):=by
  have:subK ⟨n,h12 k,[gA k,gB k]⟩ 1 (bas k o++(frs k i o++[(M3,k.P m)]))=pr k.B (k.P m) (.any M2):=by
   show pr k.B (vl _ M3) (vl _ M2)=_
   unfold vl;rw[k1,k2];rfl
  rw[this];exact a9p (h.gd hm)
 have h5:(told (subK ⟨n,h12 k,[gA k,gB k]⟩ 1 (nxtK ⟨n,h12 k,[gA k,gB k]⟩ 0 (bas k o) (pr k.A (k.P i) (k.P m)))),as3)∈tb:=h5;rw[en,es]at h5;refine⟨⟨as3,h5⟩,λj hj hin=>?_⟩;obtain⟨as4,h7,h8⟩:=hin;rw[b1s tk.nd h7 h5]at h8;obtain⟨as5,h9,h10⟩:=h6 _ h8;have h10:finK (a0n k k.wW o) (nxtK ⟨n,h12 k,[gA k,gB k]⟩ 1 (nxtK ⟨n,h12 k,[gA k,gB k]⟩ 0 (bas k o) (pr k.A (k.P i) (k.P m))) (pr k.B (k.P m) (k.P j)))∈as5:=h10;have en2:nxtK ⟨n,h12 k,[gA k,gB k]⟩ 1 (bas k o++(frs k i o++[(M3,k.P m)])) (pr k.B (k.P m) (k.P j))=bas k o++(frs k i o++[(M3,k.P m),(M2,k.P j)]):=by
  show addU (addU (bas k o++(frs k i o++[(M3,k.P m)])) M3 (k.P m)) M2 (k.P j)=_
  unfold addU;rw[k1]
  show(if(a0w (bas k o++(frs k i o++[(M3,k.P m)])) M2).isSome=true then _ else _)=_
  rw[k2]
  show(bas k o++(frs k i o++[(M3,k.P m)]))++[(M2,k.P j)]=_
  rw[Y9,Y9];rfl
 rw[en,en2]at h10;obtain⟨_,f2⟩:=b1r (w:=k.wW) (q:=bas k o++(frs k i o++[(M3,k.P m),(M2,k.P j)])) h ho hi hj (λz=>by subst z;exact⟨a5k (y:=M1) (h.gd hi) (by simp[bas,frs]) (by simp[bas,frs]),a5k (y:=M2) (h.gd hj) (by simp[bas,frs]) (by simp[bas,frs])⟩) λz=>by subst z;exact a5k (y:=M2) (h.gd hj) (by simp[bas,frs]) (by simp[bas,frs])
 rw[f2]at h10;exact⟨as5,h9,h10⟩
theorem a1u.bd(h:KOk k){i j:Nat}(r:a1u k.ls i j):i<4/\j<4:=by
 induction r with
 |one e=>exact h.lb _ e
 |more _ e ih=>exact⟨ih.1,(h.lb _ e).2⟩
inductive a6w(ls:List (Nat×Nat)):Nat->Nat->Prop
 |one {i j:Nat}:(i,j)∈ls->a6w ls i j
 |more {i m j:Nat}:(i,m)∈ls->a6w ls m j->a6w ls i j
theorem a6w.cat{ls:List (Nat×Nat)}{i m j:Nat}(h:a6w ls i m)(g:(m,j)∈ls):a6w ls i j:=by
 induction h with
 |one e=>exact .more e (.one g)
 |more e _ ih=>exact .more e (ih g)
theorem a1u.toH{ls:List (Nat×Nat)}{i j:Nat}(r:a1u ls i j):a6w ls i j:=by
 induction r with
 |one e=>exact .one e
 |more _ e ih=>exact ih.cat e
theorem a6w.to{ls:List (Nat×Nat)}{i j:Nat}(r:a6w ls i j):a1u ls i j:=by
 induction r with
 |one e=>exact .one e
 |more e _ ih=>exact a1u.cat (.one e) ih
theorem c_way(h:KOk k)(R:RsK k rs x y z)(tk:Tok (k.L rs) tb)(cl:∀u∈tb,ClT (k.L rs) tb u.1){o:Option Nat}{i j:Nat}(ho:okO o i)(r:a1u k.ls i j)(hk:Kq tb (a0n k k.wW o)):In tb (a0n k k.wW o) (pr k.wW (k.P i) (k.P j)):=by
 have one:∀{o:Option Nat}{i j:Nat},okO o i->(i,j)∈k.ls->Kq tb (a0n k k.wW o)->In tb (a0n k k.wW o) (pr k.wW (k.P i) (k.P j)):=λ{o i j} ho e hk=>by
  have b1:i<4:=(h.lb _ e).1;have b2:j<4:=(h.lb _ e).2;obtain⟨g1,g2⟩:=c_one h R tk cl (ho.bd b1) hk;exact g2 i j ho b1 b2 (c4n h R cl g1 ho e)
 rcases h.ab with⟨eA,eB⟩|⟨eA,eB⟩|⟨eA,eB⟩
 ·have key:∀{i j:Nat},a6w k.ls i j->∀o,okO o i->Kq tb (a0n k k.wW o)->In tb (a0n k k.wW o) (pr k.wW (k.P i) (k.P j)):=by
   intro i j r
   induction r with
   |one e=>exactλo ho hk=>one ho e hk
   | @more i m j e r ih=>
    intro o ho hk;have b1:i<4:=(h.lb _ e).1;have b2:m<4:=(h.lb _ e).2;obtain⟨g1,g2⟩:=c_two h R tk cl (ho.bd b1) hk;rw[eA]at g1 g2;rw[eB]at g2;obtain⟨g3,g4⟩:=g2 i m ho b1 b2 (c4n h R cl g1 ho e);exact g4 j (r.to.bd h).2 (ih (some m) (.inr rfl) g3)
  exact key r.toH o ho hk
 ·induction r with
  |one e=>exact one ho e hk
  | @more m j r e ih=>
   have b1:=a1u.bd h r;have b2:j<4:=(h.lb _ e).2;obtain⟨g1,g2⟩:=c_two h R tk cl (ho.bd b1.1) hk;rw[eA]at g1 g2;rw[eB]at g2;obtain⟨g3,g4⟩:=g2 i m ho b1.1 b1.2 ih;exact g4 j b2 (c4n h R cl g3 (.inr rfl) e)
 ·induction r with
  |one e=>exact one ho e hk
  | @more m j r e ih=>
   have b1:=a1u.bd h r;have b2:j<4:=(h.lb _ e).2;obtain⟨g1,g2⟩:=c_two h R tk cl (ho.bd b1.1) hk;rw[eA]at g1 g2;rw[eB]at g2;obtain⟨g3,g4⟩:=g2 i m ho b1.1 b1.2 ih;exact g4 j b2 (one (.inr rfl) e g3)
theorem all_ans(h:KOk k)(R:RsK k rs x y z){o:Option Nat}(b:bdO o)(fi:c4a (k.L rs) tb (a0n k k.wW o)){as:List Trm}(h0:tb[0]? =some (a0n k k.wW o,as)):as.Nodup/\∀u,u∈as↔∃i j,okO o i/\a1u k.ls i j/\u=pr k.wW (k.P i) (k.P j):=by
 have hm:=Zn h0;obtain⟨n1,n2⟩:=fi.tk.an _ hm;refine⟨n1,λu=>⟨λhu=>?_,?_⟩⟩
 ·obtain⟨i,j,ho,hi,hj,hr,e⟩:=a9r h b (n2 u hu);exact⟨i,j,ho,hr.reach,e⟩
 ·rintro⟨i,j,ho,hr,rfl⟩
  obtain⟨as',g1,g2⟩:=c_way h R fi.tk fi.cl ho hr ⟨as,hm⟩;rw[b1s fi.tk.nd hm g1];exact g2
end
structure PlOk(ps:List Trm):Prop where
 pl:ps.length=4
 pn:ps.Nodup
 pg:∀p∈ps,vars p=[]/\p.size<=5/\p.data.depth<=5
 pk:∀s ks ls,.app s ks∈ps->.app s ls∈ps->ks=ls
structure WsOk(ws:List Str):Prop where
 l:ws.length=5
 n:ws.Nodup
 w:∀w∈ws,Wd w
def LkAt(K:W.Frag)(H:Hp)(p:Addr)(ls:List (Nat×Nat)):Prop:=∃us,H p=some (.lst us)/\DenL K H us (ls.map rsE)
theorem LkAt.same{K:FG}{H H':Hp}{p:Addr}{ls:List (Nat×Nat)}(h:LkAt K H p ls)(s:Same H H'):LkAt K H' p ls:=by
 obtain⟨us,h1,h2⟩:=h;exact⟨us,s _ _ h1,h2.mono s⟩
def PlAt(K:W.Frag)(H:Hp)(p:Addr)(ps:List Trm):Prop:=∃us,H p=some (.lst us)/\DenL K H us (Trm.dataL ps)
theorem PlAt.same{K:FG}{H H':Hp}{p:Addr}{ps:List Trm}(h:PlAt K H p ps)(s:Same H H'):PlAt K H' p ps:=by
 obtain⟨us,h1,h2⟩:=h;exact⟨us,s _ _ h1,h2.mono s⟩
def WsAt(K:W.Frag)(H:Hp)(p:Addr)(ws:List Str):Prop:=H p=some (.lst (ws.map V.str))
def lsB(ls:List (Nat×Nat)):Prop:=∀l∈ls,l.1<4/\l.2<4
def nW(ws:List Str)(i:Nat):Str:=(ws[i]?).getD U1
def shA(ws:List Str)(sh:Int):Str:=if sh=0 then nW ws 1 else nW ws 0
def shB(ws:List Str)(sh:Int):Str:=if sh=1 then nW ws 1 else nW ws 0
def kdOf(ws:List Str)(ps:List Trm)(ls:List (Nat×Nat))(sh:Int):Kd:=⟨nW ws 0,nW ws 1,shA ws sh,shB ws sh,ps,ls⟩
def askO(i:Int):Option Nat:=if i<4 then some i.toNat else none
theorem kd_ok{ws:List Str}{ps:List Trm}{ls:List (Nat×Nat)}{sh:Int}(hw:WsOk ws)(hp:PlOk ps)(hb:lsB ls)(hl:ls.length<=6):KOk (kdOf ws ps ls sh):=by
 obtain⟨a,b,c,d,e,rfl⟩:∃a b c d e,ws=[a,b,c,d,e]:=by
  have:=hw.l
  match ws,this with
  | [a,b,c,d,e],_=>exact⟨a,b,c,d,e,rfl⟩
 have n:=hw.n;simp only[Yn,Zg,not_or]at n;refine⟨Ne.symm n.1.1,hw.w a qz,hw.w b qz,hp.pl,hp.pn,hp.pg,hp.pk,hl,hb,?_⟩
 show(shA _ sh=b/\shB _ sh=a)\/(shA _ sh=a/\shB _ sh=b)\/(shA _ sh=a/\shB _ sh=a)
 unfold shA shB
 by_cases c0:sh=0
 ·subst c0;exact .inl ⟨rfl,rfl⟩
 ·rw[if_neg c0]
  by_cases c1:sh=1
  ·rw[if_pos c1];exact .inr (.inl ⟨rfl,rfl⟩)
  ·rw[if_neg c1];exact .inr (.inr ⟨rfl,rfl⟩)
abbrev b1a(K:W.Frag):Sp:=λvs H Q _=>match vs with| [.int _,.ref wp]=>∃ws,WsAt K H wp ws/\WsOk ws/\∀p ps H',Same H H'->PlAt K H' p ps->PlOk ps->Q (.ref p) H'|_=>False
abbrev b3c(K:W.Frag):Sp:=λvs H Q _=>match vs with| [.ref a,.int many]=>∃ns:List Int,SqL K H a (ns.map V.int)/\0<=many/\many<7/\∀p ls H',Same H H'->LkAt K H' p ls->lsB ls->(ls.length:Int)=many->Q (.ref p) H'|_=>False
abbrev b3d(K:W.Frag):Sp:=λvs H Q _=>match vs with| [.ref a,.ref wp,.ref pp,.ref lp,.int sh]=>∃(ns:List Int)(ws:List Str)(ps:List Trm)(ls:List (Nat×Nat)),SqL K H a (ns.map V.int)/\WsAt K H wp ws/\WsOk ws/\PlAt K H pp ps/\PlOk ps/\LkAt K H lp ls/\lsB ls/\ls.length<=6/\∀p us rs x y z H',Same H H'->H' p=some (.lst us)->DenL K H' us (rs.map ruE)->RsK (kdOf ws ps ls sh) rs x y z->Q (.ref p) H'|_=>False
abbrev b0l(K:W.Frag):Sp:=λvs H Q _=>match vs with| [.ref lp,.int i]=>∃(ls:List (Nat×Nat)),LkAt K H lp ls/\lsB ls/\ls.length<=6/\0<=i/\i<4/\∀p (ys:List Nat) H',Same H H'->H p=none->H' p=some (.lst (ys.map λ(n:Nat)=>V.int (n:Int)))->ys.Nodup->(∀j,j∈ys↔a1u ls i.toNat j)->Q (.ref p) H'|_=>False
def DueOk(ws:List Str)(ps:List Trm)(ls:List (Nat×Nat))(i:Int)(due:List Trm):Prop:=due.Nodup/\∀u,u∈due↔∃i' j,okO (askO i) i'/\a1u ls i' j/\u=pr (nW ws 0) ((ps[i']?).getD (.num 0)) ((ps[j]?).getD (.num 0))
abbrev b6z(K:W.Frag):Sp:=λvs H Q _=>match vs with| [.ref lp,.ref wp,.ref pp,.int i]=>∃(ws:List Str)(ps:List Trm)(ls:List (Nat×Nat)),WsAt K H wp ws/\WsOk ws/\PlAt K H pp ps/\PlOk ps/\LkAt K H lp ls/\lsB ls/\ls.length<=6/\0<=i/\i<5/\∀p due H',Same H H'->PlAt K H' p due->DueOk ws ps ls i due->Q (.ref p) H'|_=>False
abbrev b4v(K:W.Frag):Sp:=λvs H Q _=>match vs with| [.ref rp,.ref wp,.ref pp,.int i,.ref dp]=>∃(ws:List Str)(ps:List Trm)(ls:List (Nat×Nat))(sh:Int)(us:List V)(rs:List (Trm×List Trm))(x y z:Str)(due:List Trm),WsAt K H wp ws/\WsOk ws/\PlAt K H pp ps/\PlOk ps/\lsB ls/\ls.length<=6/\H rp=some (.lst us)/\DenL K H us (rs.map ruE)/\RsK (kdOf ws ps ls sh) rs x y z/\0<=i/\i<5/\PlAt K H dp due/\DueOk ws ps ls i due/\∀H',Same H H'->Q (.bl true) H'|_=>False
abbrev b4w(K:W.Frag):Sp:=λvs H Q _=>match vs with| [.ref a]=>∃ns:List Int,SqL K H a (ns.map V.int)/\ns.length<=63/\∀H',Q (.bl true) H'|_=>False
def turn(i:Nat)(l:Nat×Nat)(acc:List Nat):List Nat:=if(l.1=i\/l.1∈acc)/\l.2∉acc then acc++[l.2]else acc
def rnd(i:Nat)(ls:List (Nat×Nat))(acc:List Nat):List Nat:=ls.foldl (λa l=>turn i l a) acc
structure Rch(ls:List (Nat×Nat))(i:Nat)(acc:List Nat):Prop where
 nd:acc.Nodup
 sd:∀j∈acc,a1u ls i j
theorem c4o(i:Nat)(l:Nat×Nat)(acc:List Nat):acc.length<=(turn i l acc).length:=by
 unfold turn
 split
 ·rw[Zk];omega
 ·exact Zm _
theorem c0b(i:Nat):∀(ls:List (Nat×Nat))(acc:List Nat),acc.length<=(rnd i ls acc).length
 | [],acc=>Zm _
 |l::r,acc=>Ye (c4o i l acc) (c0b i r (turn i l acc))
theorem d3y{ls:List (Nat×Nat)}{i:Nat}{l:Nat×Nat}{acc:List Nat}(h:Rch ls i acc)(hl:l∈ls):Rch ls i (turn i l acc):=by
 unfold turn
 by_cases c:(l.1=i\/l.1∈acc)/\l.2∉acc
 ·rw[if_pos c];refine⟨Yb.mpr ⟨h.nd,qz,λa ha b hb e=>c.2 ?_⟩,λj hj=>?_⟩
  ·rw[<-Zd.mp hb,<-e];exact ha
  ·rcases Zr.mp hj with z|z
   ·exact h.sd j z
   ·rw[Zd.mp z];rcases c.1 with y|y
    ·rw[<-y];exact .one hl
    ·exact .more (h.sd _ y) hl
 ·rw[if_neg c];exact h
theorem c0c{ls:List (Nat×Nat)}{i:Nat}:∀{l2:List (Nat×Nat)}{acc:List Nat},Rch ls i acc->(∀l∈l2,l∈ls)->Rch ls i (rnd i l2 acc)
 | [],_,h,_=>h
 |l::r,acc,h,s=>c0c (l2:=r) (d3y h (s l (Ze ..))) λl' hl'=>s l' (Zc _ hl')
theorem d3z(i:Nat)(l2:List (Nat×Nat))(l:Nat×Nat)(acc:List Nat):rnd i (l2++[l]) acc=turn i l (rnd i l2 acc):=by
 unfold rnd;rw[List.foldl_append];rfl
theorem c6u{i:Nat}:∀{l2:List (Nat×Nat)}{acc:List Nat},(rnd i l2 acc).length=acc.length->∀l∈l2,(l.1=i\/l.1∈acc)->l.2∈acc
 | [],_,_,l,hl,_=>by cases hl
 |l0::r,acc,e,l,hl,c=>by
  have h1:=c4o i l0 acc;have h2:=c0b i r (turn i l0 acc);have e:(rnd i r (turn i l0 acc)).length=acc.length:=e;have e1:turn i l0 acc=acc:=by
   by_cases c:(l0.1=i\/l0.1∈acc)/\l0.2∉acc
   ·exfalso
    have:(turn i l0 acc).length=acc.length+1:=by unfold turn;rw[if_pos c,Zk];rfl
    omega
   ·unfold turn;rw[if_neg c]
  rw[e1]at e;rcases Zg.mp hl with z|z
  ·subst z;refine Decidable.byContradiction λn=>?_
   have:(turn i l acc).length=acc.length+1:=by unfold turn;rw[if_pos ⟨c,n⟩,Zk];rfl
   rw[e1]at this;omega
  ·exact c6u e l z c
def rnds(i:Nat)(ls:List (Nat×Nat)):Nat->List Nat
 |0=>[]
 |n+1=>rnd i ls (rnds i ls n)
theorem b3e(i:Nat)(ls:List (Nat×Nat)):∀n,Rch ls i (rnds i ls n)
 |0=>⟨.nil,λj hj=>by cases hj⟩
 |n+1=>c0c (b3e i ls n) λ_ h=>h
def Cld(ls:List (Nat×Nat))(i:Nat)(acc:List Nat):Prop:=∀l∈ls,(l.1=i\/l.1∈acc)->l.2∈acc
theorem b7a{ls:List (Nat×Nat)}{i:Nat}{acc:List Nat}(h:Cld ls i acc):∀{l2:List (Nat×Nat)},(∀l∈l2,l∈ls)->rnd i l2 acc=acc
 | [],_=>rfl
 |l::r,s=>by
  have e:turn i l acc=acc:=by
   unfold turn;exact if_neg λz=>z.2 (h l (s l (Ze ..)) z.1)
  show rnd i r (turn i l acc)=acc
  rw[e];exact b7a h λl' hl'=>s l' (Zc _ hl')
theorem c4p(i:Nat)(ls:List (Nat×Nat)):∀n,Cld ls i (rnds i ls n)\/n<=(rnds i ls n).length
 |0=>.inr (Z4 _)
 |n+1=>by
  have h1:=c0b i ls (rnds i ls n);rcases c4p i ls n with h|h
  ·refine .inl ?_
   show Cld ls i (rnd i ls (rnds i ls n))
   rw[b7a h λ_ z=>z];exact h
  ·by_cases c:(rnd i ls (rnds i ls n)).length=(rnds i ls n).length
   ·refine .inl ?_;have cl:Cld ls i (rnds i ls n):=c6u c
    show Cld ls i (rnd i ls (rnds i ls n))
    rw[b7a cl λ_ z=>z];exact cl
   ·refine .inr ?_
    show n+1<=(rnd i ls (rnds i ls n)).length
    omega
theorem b8y{l:List Nat}{n:Nat}(hn:l.Nodup)(h:∀j∈l,j<n):l.length<=n:=by
 have e:=List.Nodup.length_le_of_subset hn (l₂:=List.range n) λj hj=>Y2.mpr (h j hj)
 rw[List.length_range]at e;exact e
theorem d4a{i:Nat}{ls:List (Nat×Nat)}(hb:lsB ls):∀j,j∈rnds i ls 6↔a1u ls i j:=by
 have rc:=b3e i ls 6;have rb:∀{j},a1u ls i j->j<4:=λ{j} r=>by
  cases r with
  |one e=>exact(hb _ e).2
  |more _ e=>exact(hb _ e).2
 have h4:=b8y rc.nd (n:=4) λj hj=>rb (rc.sd j hj)
 have cl:Cld ls i (rnds i ls 6):=by
  rcases c4p i ls 6 with z|z
  ·exact z
  ·omega
 refineλj=>⟨rc.sd j,λr=>?_⟩
 induction r with
 |one e=>exact cl _ e (.inl rfl)
 |more r e ih=>exact cl _ e (.inr ih)
def ysV(ys:List Nat):List V:=ys.map λ(n:Nat)=>V.int (n:Int)
theorem b5w:∀(ys:List Nat),(ysV ys).all a4v=true
 | []=>rfl
 |n::r=>by
  show(a4v (V.int (n:Int))&&(ysV r).all a4v)=true
  rw[b5w r];rfl
theorem c1x(a:Nat):∀(ys:List Nat),inV (.int (a:Int)) (ysV ys)=decide (a∈ys)
 | []=>rfl
 |n::r=>by
  have ih:=c1x a r;unfold inV at ih ⊢
  show(eqV (V.int (n:Int)) (.int (a:Int))|| (ysV r).any λy=>eqV y (.int (a:Int)))=_
  rw[ih]
  show(((n:Int)==(a:Int))||decide (a∈r))=decide (a∈n::r)
  by_cases c:n=a
  ·subst c;simp
  ·have:((n:Int)==(a:Int))=false:=by simp;omega
   rw[this]
   simp[Ne.symm c]
theorem c4q{K:FG}{H:Hp}{v:V}{l:Nat×Nat}(d:Den K H v (rsE l)):∃pr,v=.ref pr/\SqT K H pr [.int (l.1:Int),.int (l.2:Int)]:=by
 cases d with
 |tup w3 w4=>
  cases w4 with
  |cons w5 w6=>
   cases w6 with
   |cons w7 w8=>cases w5;cases w7;cases w8;exact⟨_,rfl,w3⟩
theorem rch_len{ls:List (Nat×Nat)}{i:Nat}{acc:List Nat}(hb:lsB ls)(h:Rch ls i acc):acc.length<=4:=
 b8y h.nd λj hj=>by
  cases h.sd j hj with
  |one e=>exact(hb _ e).2
  |more _ e=>exact(hb _ e).2
theorem c4r(ys:List Nat)(j:Nat):ysV (ys++[j])=ysV ys++[.int (j:Int)]:=by
 unfold ysV;rw[Zi];rfl
def PP(ps:List Trm)(i:Nat):Trm:=(ps[i]?).getD (.num 0)
theorem b8z{ps:List Trm}(h:PlOk ps){i j:Nat}(hi:i<4)(hj:j<4)(e:PP ps i=PP ps j):i=j:=by
 have hi':i<ps.length:=by rw[h.pl];exact hi
 have hj':j<ps.length:=by rw[h.pl];exact hj
 unfold PP at e;rw[Za hi',Za hj']at e;exact(U6 h.pn).mp e
theorem b3f{K:FG}{H:Hp}{p:Addr}{ps:List Trm}(h:PlAt K H p ps){i:Nat}(hl:PlOk ps)(hi:i<4):∃us v,H p=some (.lst us)/\atI us (i:Int)=some v/\Den K H v (PP ps i).data:=by
 obtain⟨us,h1,h2⟩:=h;obtain⟨hu,d⟩:=a6s h2 (i:=i) (by rw[hl.pl];exact hi);refine⟨us,us[i],h1,a7e (Za hu),?_⟩;unfold PP;rw[Za (by rw[hl.pl];exact hi)];exact d
theorem lsB.rb{ls:List (Nat×Nat)}(hb:lsB ls){i j:Nat}(r:a1u ls i j):i<4/\j<4:=by
 induction r with
 |one e=>exact hb _ e
 |more _ e ih=>exact⟨ih.1,(hb _ e).2⟩
theorem due_nil{i:Option Nat}{ls:List (Nat×Nat)}{ps:List Trm}{w:Str}:∀u,u∈([]:List Trm)↔∃a j,a<0/\okO i a/\a1u ls a j/\u=pr w (PP ps a) (PP ps j):=λu=>⟨λz=>(by cases z),λ⟨_,_,z,_⟩=>absurd z (Nat.not_lt_zero _)⟩
abbrev xS:Str:=ofString "X"
abbrev yS:Str:=ofString "Y"
abbrev zS(s:Str):Str:=ofString "Z"++s
theorem xy_ne:xS≠yS:=by decide+kernel
theorem d1f(x:Str):(zS x).cps.toList.head? =some 90:=by
 show((ofString "Z").cps++x.cps).toList.head? =some 90
 rw[Array.toList_append,show(ofString "Z").cps.toList=[90] from qk];rfl
theorem xz_ne(s:Str):xS≠zS s:=λz=>by
 have h:=d1f s;rw[<-z]at h
 revert h
 decide+kernel
theorem yz_ne(s:Str):yS≠zS s:=λz=>by
 have h:=d1f s;rw[<-z]at h
 revert h
 decide+kernel
theorem sh_at(x0 x1 x2 x3 x4:Str)(sh:Int):atI [V.str x0,V.str x1,V.str x2,V.str x3,V.str x4] (if(false^^decide (sh=0))=true then 1 else 0)=some (.str (shA [x0,x1,x2,x3,x4] sh))/\atI [V.str x0,V.str x1,V.str x2,V.str x3,V.str x4] (if(false^^decide (sh=1))=true then 1 else 0)=some (.str (shB [x0,x1,x2,x3,x4] sh)):=by
 unfold shA shB
 constructor
 ·by_cases c:sh=0
  ·rw[if_pos c,Zw c];rfl
  ·rw[if_neg c,Zs c];rfl
 ·by_cases c:sh=1
  ·rw[if_pos c,Zw c];rfl
  ·rw[if_neg c,Zs c];rfl
theorem d4b{α:Type}{rs:List α}{x a b:α}{ts:List α}{n:Nat}(h:rs.Perm (a::b::ts)):(rs.take n++x::rs.drop n).Perm (a::b::(ts++[x])):=by
 have h1:(rs.take n++x::rs.drop n).Perm (x::rs):=by
  have:=List.perm_middle (a:=x) (l₁:=rs.take n) (l₂:=rs.drop n);rw[Wb]at this;exact this
 exact h1.trans ((h.cons x).trans (List.perm_append_singleton x (a::b::ts)).symm)
theorem ru_ok{k:Kd}(h:KOk k){rs:List (Trm×List Trm)}{x y z:Str}(R:RsK k rs x y z):(∀u∈rs,RuOk u/\RuN u)/\rs.length<=100:=by
 obtain⟨cA,cB⟩:=h.AB;have zA:∀{w:Str}{a b:Str},(pr w (.any a) (.any b)).size<=60:=λ{w a b}=>by rw[a1o];show 1+1+1<=60;decide
 refine⟨λu hu=>?_,?_⟩
 ·rcases R.mem.mp hu with rfl|rfl|⟨l,hl,rfl⟩
  ·refine⟨⟨⟨_,_,rfl⟩,zA,λg hg=>?_,by show 1<=10;decide⟩,⟨_,_,rfl,h.W1⟩,λg hg=>?_⟩
   ·rw[Zd.mp hg];exact zA
   ·rw[Zd.mp hg];exact⟨_,_,rfl,h.W2⟩
  ·refine⟨⟨⟨_,_,rfl⟩,zA,λg hg=>?_,by show 2<=10;decide⟩,⟨_,_,rfl,h.W1⟩,λg hg=>?_⟩
   ·rcases Zg.mp hg with e|e
    ·rw[e];exact zA
    ·rw[Zd.mp e];exact zA
   ·rcases Zg.mp hg with e|e
    ·rw[e];exact⟨_,_,rfl,h.wd cA⟩
    ·rw[Zd.mp e];exact⟨_,_,rfl,h.wd cB⟩
  ·obtain⟨l1,l2⟩:=h.lb l hl;have z1:=h.sz l1;have z2:=h.sz l2;refine⟨⟨⟨_,_,rfl⟩,by show(pr _ _ _).size<=60;rw[a1o];omega,λg hg=>(by cases hg),by show 0<=10;decide⟩,⟨_,_,rfl,h.W2⟩,λg hg=>by cases hg⟩
 ·have h2:=R.pm.length_eq;rw[length_cons,length_cons,length_map]at h2;have:=h.ll;omega
theorem u1_is:ofString "U1"=U1:=by decide+kernel
theorem u2_is:ofString "U2"=U2:=by decide+kernel
theorem u_at(i:Int):∃kk,(∀(k:Kd) w,∃a,a0n k w (askO i)=pr w a (.any kk))/\atI [V.str "U2",V.str "U1"] (if decide (i<4)=true then 1 else 0)=some (.str kk):=by
 unfold askO
 by_cases c:i<4
 ·refine⟨U1,λk w=>⟨_,by rw[if_pos c];rfl⟩,?_⟩;rw[Zw c,u1_is];rfl
 ·refine⟨U2,λk w=>⟨_,by rw[if_neg c];rfl⟩,?_⟩;rw[Zs c,u2_is];rfl
theorem pr_den{K:FG}{H:Hp}{v:V}{w:Str}{a b:Trm}(d:Den K H v (pr w a b).data):∃p pk k1 k2,v=.ref p/\SqT K H p [.str appS,.str w,.ref pk]/\SqT K H pk [k1,k2]/\Den K H k2 b.data:=by
 cases d with
 |tup h1 h2=>
  cases h2 with
  |cons a1 r1=>
   cases a1;cases r1 with
   |cons a2 r2=>
    cases a2;cases r2 with
    |cons a3 r3=>
     cases r3;cases a3 with
     |tup h3 h4=>
      cases h4 with
      |cons b1 s1=>
       cases s1 with
       |cons b2 s2=>cases s2;exact⟨_,_,_,_,rfl,h1,h3,b2⟩
theorem d4c{a b:List Trm}(ha:a.Nodup)(hb:b.Nodup)(h:∀u,u∈a↔u∈b):a.length=b.length:=
 Nat.le_antisymm (a8i ha λu hu=>(h u).mp hu) (a8i hb λu hu=>(h u).mpr hu)
theorem any_in{as:List Trm}{u:Trm}(h:u∈as):(as.any λz=>eqb z u)=true:=X4.mpr ⟨u,h,a6z u⟩
theorem bls_in(n:Nat):((List.replicate n true).map V.bl).all a4v=true/\inV (.bl false) ((List.replicate n true).map V.bl)=false:=by
 induction n with
 |zero=>exact⟨rfl,rfl⟩
 |succ n ih=>
  obtain⟨h1,h2⟩:=ih;rw[Xz,Zt]
  constructor
  ·show(true&&((List.replicate n true).map V.bl).all a4v)=true
   rw[h1];rfl
  ·show(eqV (.bl true) (.bl false)||inV (.bl false) ((List.replicate n true).map V.bl))=false
   rw[h2];rfl
section
variable{P:Program}{w:World}{K:W.Frag}{mg:Str->Option Value}{base:Heap}{t:Ad}
theorem c7r(T:Txt K mg t)  :FnOk P w K mg base CX0 1 t.a_c2 t.d_c2 ["name"] (a9d K):=by
 exists T.F_c2.ok c7h,a9d,(a0g (a0u (a0s (a0a a0t (a0a (mv 0) a0b))))),H,Q,E,hr,h
 rename_i x;ext;exact⟨ln (by show 2<=100000;decide),λp hp=>h _ _ (a0l hp _) (a9l (SqT.of a0c))⟩
theorem c7s(T:Txt K mg t)(G_c2:FnOk P w K mg base CX0 1 t.a_c2 t.d_c2 ["name"] (a9d K))(G_a9:FnOk P w K mg base CX0 1 t.a_a9 t.d_a9 ["sign","kids"] (b1m K))(n:Nat)(G_b0:FnOk P w K mg base CX0 (n+2) t.a_b0 t.d_b0 ["term","names"] (a3x K n)):FnOk P w K mg base CX0 (n+2+1) t.a_b0 t.d_b0 ["term","names"] (a3x K (n+1)):=by
 exists T.F_b0.ok (k:=n+2) c7j,a3x,(a0e (a1e (a0y a2a (a0j (a0h K rfl) (mv 0) a0f (λ_ _=>rfl)) a0t (a1b _)) (a0g (a0u (a0k G_c2 hr.o rfl T.m_c2 T.F_c2.kp T.b_c2 .nil a0o (a0a (b1e (a3v hr) (mv 1) (a0j (a0h K rfl) (mv 0) a0f (λ_ _=>rfl)) (λ_ _=>rfl)) a0b)))) a1a) (a0e (a1e (a0y a2a (a0j (a0h K rfl) (mv 0) a0f (λ_ _=>rfl)) a0t (a1b _)) (a0g (a0u (a0k G_a9 hr.o rfl T.m_a9 T.F_a9.kp T.b_a9 .nil a0o (a0a (a0j (a0h K rfl) (mv 0) a0f (λ_ _=>rfl)) (a0a (a4e rfl (b5h K rfl (a0j (a0h K rfl) (mv 0) a0f (λ_ _=>rfl))) (a3p (a0i b0n) ["term","names"] ["term","names"] rfl rfl qk) (λ_ _ _ _ _=>a3o) (λ_ _ _ _ _=>(a0k G_b0 hr.o rfl T.m_b0 T.F_b0.kp T.b_b0 .nil a0o (a0a (mv 0) (a0a (mv 2) a0b))))) a0b))))) a1a) (a0g (a0u (mv 0))))),H,Q,E,hr,h
 rename_i v d;obtain⟨t0,as,hd,hD,hv,hz,hn,q⟩:=h;ext;cases t0 with
 |any x=>
  obtain⟨a,rfl,hs⟩:=a2r hd
  exists a0m hs (v:=.str anyS) rfl
  rw[Zp,q3];refine iteT ?_;ext
  exists a0m hs (v:=.str x) rfl
  have dg:DGet H d (.str x) (valV (encS as) (Sum.inr x)):=DGet.k (k:=Sum.inr x) hD;rw[val_sub (hv x (by simp[vars]))]at dg;refine⟨d,_,rfl,dg,?_⟩;ext;intro w H' s' dw;exact q w H' s' (by rw[ren];exact dw)
 |num m=>
  obtain⟨a,rfl,hs⟩:=a3a hd
  exists a0m hs (v:=.str numS) rfl
  rw[Zp,q1];refine iteF ?_;ext
  exists a0m hs (v:=.str numS) rfl
  refine iteB (λe=>absurd e qk) (λe=>?_);ext;exact q _ H (Same.refl _) (by rw[ren];exact hd)
 |app sg ks=>
  obtain⟨a,b,us,rfl,hs,hb,hk⟩:=a2g hd;have hkl:=a5l hk;simp only[Trm.size]at hz
  exists a0m hs (v:=.str appS) rfl
  rw[Zp,q2];refine iteF ?_;ext
  exists a0m hs (v:=.str appS) rfl
  refine iteB (λe=>?_) (λe=>absurd e qk);ext
  exists a0m hs (v:=.str sg) rfl
  refine a0m hs (v:=.ref b) rfl ?_;refine⟨b,rfl,⟨_,hb⟩,λD hD'=>?_⟩;have zl:=Trm.len_le ks;refine a2q (b5g (xs:=us)) (λi ys J=>Same H J/\J D=some (.lst ys)/\DenL K J ys (Trm.dataL (renL (sub as) (ks.take i)))) (ln qo) ⟨a0l hD' _,a0c,by rw[V8,renL];exact .nil⟩ (λi ys J hP=>hP.1.tup hb) (λi ys J Q' hi hl' hP k=>?_) (λys J hl' hP=>?_)
  ·obtain⟨g1,g2,g3⟩:=hP;have hki:i<ks.length:=by omega
   obtain⟨hu,dk⟩:=a6s hk hki;have z1:=c3s (Za hki);ext;rw[getD_at hu];refine⟨ks[i],as,dk.mono g1,g1 _ _ hD,λx hx=>hv x ?_,qo,qo,λx J2 s2 dx=>?_⟩
   ·rw[vars];have:∀(l:List Trm)(i:Nat)(h:i<l.length),x∈vars l[i]->x∈a3j l:=by
     intro l
     induction l with
     |nil=>intro i h;simp at h
     |cons a r ih=>
      intro i h hx;rw[a3j,Zr];cases i with
      |zero=>exact .inl hx
      |succ i=>exact .inr (ih i (by simpa using h) (by simpa using hx))
    exact this ks i hki hx
   ·have g6:J2 D=some (.lst ys):=s2 _ _ g2;refine k _ _ g6 ⟨a0x (g1.trans s2) hD',a0c,?_⟩;rw[take_succ' hki,a8a,Zi,<-a8a,a3w];exact((g3.mono s2).append (.cons dx .nil)).lst g6
  obtain⟨g1,g2,g3⟩:=hP;rw[Y6 qo]at g3;ext;refine⟨ys,_,SqL.of g2,g3,λw J2 s2 dw=>?_⟩;exact q (.ref w) J2 (g1.trans s2) (by rw[ren];exact dw)
theorem c7t(T:Txt K mg t)(G_c2:FnOk P w K mg base CX0 1 t.a_c2 t.d_c2 ["name"] (a9d K))(G_a9:FnOk P w K mg base CX0 1 t.a_a9 t.d_a9 ["sign","kids"] (b1m K))(n:Nat):FnOk P w K mg base CX0 (n+2) t.a_b0 t.d_b0 ["term","names"] (a3x K n):=by
 induction n with
 |zero=>
  have no:∀vs H Q E,(a3x K 0) vs H Q E->False:=λvs H Q E h=>by
   unfold a3x at h;split at h
   ·exact c7l h
   ·exact h
  exact⟨λvs H Q E h=>(no vs H Q E h).elim,λA outer s H args us vs Q E _ _ _ _ h=>(no vs H Q E h).elim⟩
 |succ n ih=>
  have e:n+1+2=n+2+1:=by omega
  rw[e];exact c7s T G_c2 G_a9 n ih
theorem c0d(T:Txt K mg t)  :FnOk P w K mg base CX0 1 t.a_b7 t.d_b7 ["terms"] (a6r K):=by
 exists T.F_b7.ok a6p,a6r,(a0e (a0q (i:=1) a6p.nd rfl (by nofun) a6y) (a0e (a0q (i:=2) (hs:=a1h) a6p.nd rfl (by nofun) (b2i K rfl rfl rfl T.n_f9 rfl T.n_h3 (a0a (mv 0) a0b))) (a0e (a5u Zz (a3t K rfl (mv 2)) (a0e (a0q (i:=3) (hs:=a1h) a6p.nd rfl (by nofun) (b3x K rfl Z7 Ws Vg b3w (mv 2))) (a0g (a1e (a0y a2a (a0j (a0h K rfl) (mv 3) a0f (λ_ _=>rfl)) a0t (a1b _)) (a0g (a7u (a3v hr) (mv 1) (a0j (a0h K rfl) (mv 3) a0f (λ_ _=>rfl)) a4d rfl)) (a0g (a1e (a0y a2a (a0j (a0h K rfl) (mv 3) a0f (λ_ _=>rfl)) a0t (a1b _)) (a0g (a1f (a2y K rfl Z7 X8 Vq (b0m K rfl) (mv 2) (a0a (b2i K rfl rfl rfl T.n_f9 rfl T.n_h3 (a0a (a0j (a0h K rfl) (mv 3) a0f (λ_ _=>rfl)) a0b)) a0b)))) a1a)))))) (a0g (a0u (a2i (d2n rfl) rfl T.n_f9 Ub (a0a (mv 1) a0b))))))),H,Q,E,hr,h
 rename_i a;obtain⟨us,ts,hS,hd,hz,q⟩:=h;have hul:=a5l hd;have tl:=Trm.len_le ts;ext;intro pd hpd;have s1:=a0l hpd (.dK []);have k1:(upd H pd (.dK [])) pd=some (.dK []):=a0c;generalize upd H pd (.dK [])=H1 at s1 k1 ⊢;ext;refine⟨a,us,rfl,.inl (s1.seq hS),qo,λpt hpt=>?_⟩;have s2:=a0l hpt (.lst us.reverse);have k2:(upd H1 pt (.lst us.reverse)) pt=some (.lst us.reverse):=a0c;generalize upd H1 pt (.lst us.reverse)=H2 at s2 k2 ⊢;have hpt0:H pt=none:=a1c s1 hpt;have hne:pd≠pt:=λz=>by rw[z,hpt]at k1;cases k1
 have d2:DenL K H2 us.reverse (Trm.dataL ts.reverse):=by rw[<-c0y];exact My.DenL.rev (hd.mono (s1.trans s2))
 ext;refine a4s (λn σ' H'=>∃(ws:List V)(st:List Trm)(acc:List Str)(o1:Option V),σ'=[some (.ref a),some (.ref pd),some (.ref pt),o1]/\H' pt=some (.lst ws)/\DenL K H' ws (Trm.dataL st)/\H' pd=some (.dK (encB acc))/\acc.length+Trm.sizeL st<=1000/\ordL st.reverse acc=ordL ts []/\n=Trm.sizeL st/\Same H H') (Trm.sizeL ts.reverse) ⟨us.reverse,ts.reverse,[],none,rfl,k2,d2,s2 _ _ k1,by rw[b4o];simpa using hz,by rw[So],rfl,s1.trans s2⟩ (λn σ' H' R hP kT kF=>?_);obtain⟨ws,st,acc,o1,rfl,h1,h2,h3,h4,h5,h6,h7⟩:=hP;ext;refine .inl ⟨ws,SqL.of h1,?_⟩;rcases nil_or_snoc' st with rfl|⟨st',t1,rfl⟩
 ·have e:ws=[]:=by have:=a5l h2;simpa using this
  subst e
  exists kF H'
  refine⟨pd,_,rfl,.inl h3,λpr hpr=>?_⟩;rw[d0o];rw[List.reverse_nil,ordL]at h5;rw[h5];exact q pr _ (a0x h7 (a1c h7 hpr)) (a1c h7 hpr) a0c
 ·rw[a3w]at h2;obtain⟨ws',w,rfl,g1,g2⟩:=DenL.snoc h2;have hwl:=a5l g1;have hsl:=Trm.len_le st';have e:(!(ws'++[w]).isEmpty)=true:=by simp
  rw[e];have hsz:=Trm.sizeL_app st' [t1];have hs1:Trm.sizeL [t1]=t1.size:=by simp[Trm.sizeL]
  have tpos:=t1.size_pos;rw[S0,List.reverse_singleton,List.singleton_append,ordL]at h5;refine kT H' (λD' e1 e2 hnx hct=>?_);ext;refine⟨.inl ⟨rfl,_,SqL.of h1⟩,?_⟩
  exists b3y h1
  have f1:DenL K (upd H' pt (.lst ws')) ws' (Trm.dataL st'):=g1.lst h1;have f2:Den K (upd H' pt (.lst ws')) w t1.data:=g2.lst h1;have f3:Same H (upd H' pt (.lst ws')):=a0x h7 hpt0;have f4:(upd H' pt (.lst ws')) pt=some (.lst ws'):=a0c;have f5:(upd H' pt (.lst ws')) pd=some (.dK (encB acc)):=by rw[a0d hne];exact h3
  generalize upd H' pt (.lst ws')=J at f1 f2 f3 f4 f5 ⊢;cases t1 with
  |any x=>
   obtain⟨b,rfl,hb⟩:=a2r f2
   exists a0m hb (v:=.str anyS) rfl
   rw[Zp,q3];refine iteT ?_;ext
   exists a0m hb (v:=.str x) rfl
   refine⟨pd,_,rfl,DPut.k (k:=Sum.inr x) f5 (by rw[d3q,Yw];omega),?_⟩;rw[d3s];have bb:But pd J (upd J pd (.dK (encB (ord (.any x) acc)))):=b9u;have ol:=b9m (.any x) acc;refine hnx _ _ (Trm.sizeL st') qo ⟨ws',st',ord (.any x) acc,_,rfl,bb _ _ hne.symm f4,f1.monoT (d3p bb f5),a0c,qo,h5,rfl,b9t f3 bb hpd⟩
  |num m=>
   obtain⟨b,rfl,hb⟩:=a3a f2
   exists a0m hb (v:=.str numS) rfl
   rw[Zp,q1];refine iteF ?_;ext
   exists a0m hb (v:=.str numS) rfl
   refine iteB (λe=>absurd e qk) (λe=>?_);ext;rw[ord]at h5;exact hnx _ _ (Trm.sizeL st') qo ⟨ws',st',acc,_,rfl,f4,f1,f5,qo,h5,rfl,f3⟩
  |app sg ks=>
   obtain⟨b,c,ku,rfl,hb,hc,hk⟩:=a2g f2;have hkl:=a5l hk;have kl:=Trm.len_le ks;simp only[Trm.size]at hs1 tpos
   exists a0m hb (v:=.str appS) rfl
   rw[Zp,q2];refine iteF ?_;ext
   exists a0m hb (v:=.str appS) rfl
   refine iteB (λe=>?_) (λe=>absurd e qk);ext;refine⟨.inl ⟨rfl,_,SqL.of f4⟩,?_⟩;ext
   exists a0m hb (v:=.ref c) rfl
   refine⟨c,ku,rfl,.inr hc,qo,λpr hpr=>?_⟩;have s5:=a0l hpr (.lst ku.reverse);have k5:(upd J pr (.lst ku.reverse)) pr=some (.lst ku.reverse):=a0c;generalize upd J pr (.lst ku.reverse)=J5 at s5 k5 ⊢;ext
   exists c9j (s5 _ _ f4) k5 (ln (by rw[Xh];omega))
   rw[ord]at h5;have sz:=Trm.sizeL_app st' ks.reverse;rw[b4o]at sz;have k6:=s5 _ _ f4;refine hnx _ _ (Trm.sizeL (st'++ks.reverse)) qo ⟨ws'++ku.reverse,st'++ks.reverse,acc,_,rfl,a0c,?_,?_,qo,?_,rfl,a0x (f3.trans s5) hpt0⟩
   ·rw[a3w,<-c0y];exact((f1.mono s5).append (My.DenL.rev (hk.mono s5))).lst k6
   ·rw[a0d hne];exact s5 _ _ f5
   ·rw[S0,So,c3m];exact h5
theorem d1g(T:Txt K mg t)  :FnOk P w K mg base CX0 1 t.a_a8 t.d_a8 ["term","puts"] (a7f K):=by
 exists T.F_a8.ok b4m,a7f,(a0e (a0q (i:=2) b4m.nd rfl (by nofun) (mv 0)) (a0e (a5u Zz (PW.pt (b3n (a0y a2a (a0j (a0h K rfl) (mv 2) a0f (λ_ _=>rfl)) a0t (a1b _)) (b5a (a0y (c9l (a3v hr)) (a0j (a0h K rfl) (mv 2) a0f (λ_ _=>rfl)) (mv 1) (by with_unfolding_all rfl))))) (a0g (a0q (i:=2) (hs:=b4a) b4m.nd rfl (by nofun) (b1e (a3v hr) (mv 1) (a0j (a0h K rfl) (mv 2) a0f (λ_ _=>rfl)) (λ_ _=>rfl))))) (a0g (a0u (mv 2))))),H,Q,E,hr,h
 rename_i v pd;obtain⟨rows,t0,n,u,hP,hd,hw,q⟩:=h;ext;refine a4s (λn σ' H'=>∃(v':V)(t':Trm),σ'=[some v,some (.ref pd),some v']/\Den K H v' t'.data/\Wlk rows n t' u/\H'=H) n ⟨v,t0,rfl,hd,hw,rfl⟩ (λn σ' H' R hP2 kT kF=>?_);obtain⟨v',t',rfl,hd',hw',rfl⟩:=hP2;have fin:hnf rows u->Den K H' v' u.data->R false H':=λhh hdu=>by
  exists kF _
  exact q _ hdu
 cases hw' with
 |stop hs=>
  cases u with
  |num m=>
   obtain⟨a,rfl,hs1⟩:=a3a hd';ext
   exists a0m hs1 (v:=.str numS) rfl
   rw[Zp,q1];refine iteF ?_;exact fin hs hd'
  |app sg ks=>
   obtain⟨a,b,us,rfl,hs1,hb,hk⟩:=a2g hd';ext
   exists a0m hs1 (v:=.str appS) rfl
   rw[Zp,q2];refine iteF ?_;exact fin hs hd'
  |any x=>
   obtain⟨a,rfl,hs1⟩:=a2r hd';ext
   exists a0m hs1 (v:=.str anyS) rfl
   rw[Zp,q3];refine iteT ?_;ext
   exists a0m hs1 (v:=.str x) rfl
   rcases hP.get x with⟨c1,c2⟩|⟨t,w',c1,c2,c3⟩
   ·refine⟨pd,_,rfl,c2,?_⟩;ext;exact fin hs hd'
   ·have:=hs x rfl;rw[c1]at this;cases this
 |step hl hw2=>
  rename_i m x ux;obtain⟨a,rfl,hs1⟩:=a2r hd';ext
  exists a0m hs1 (v:=.str anyS) rfl
  rw[Zp,q3];refine iteT ?_;ext
  exists a0m hs1 (v:=.str x) rfl
  rcases hP.get x with⟨c1,c2⟩|⟨t,w',c1,c2,c3⟩
  ·rw[hl]at c1;cases c1
  ·rw[hl]at c1;cases c1;refine⟨pd,_,rfl,c2,?_⟩;ext;refine kT _ (λD' e1 e2 hnx hct=>?_);ext
   exists a0m hs1 (v:=.str x) rfl
   refine⟨pd,_,rfl,c2,?_⟩;ext;exact hnx _ _ m qo ⟨_,_,rfl,c3,hw2,rfl⟩
theorem c0e(T:Txt K mg t)(G_a8:FnOk P w K mg base CX0 1 t.a_a8 t.d_a8 ["term","puts"] (a7f K)):FnOk P w K mg base CX0 2 t.a_e0 t.d_e0 ["term","puts","most"] (a8e K):=by
 exists T.F_e0.ok a4k,a8e,(a0e (a0q (i:=3) a4k.nd rfl (by nofun) a0f) (a0e (a0q (i:=4) (hs:=a5y) a4k.nd rfl (by nofun) (a1n (a0a (mv 0) a0b))) (a0e (a5u Zz (a3t K rfl (mv 4)) (a0e (a1e (a0y mo_ge (mv 3) (mv 2) (a1b _)) (a0g (a0u (a1g (a2b K rfl) (mv 2) a0f))) a1a) (a0e (mps_aug (i:=3) a4k.nd rfl (by nofun) a0f b7t) (a0e (a0q (i:=5) (hs:=a1h) a4k.nd rfl (by nofun) (a0k G_a8 hr.o rfl T.m_a8 T.F_a8.kp T.b_a8 .nil a0o (a0a (b3x K rfl Z7 Ws Vg b3w (mv 4)) (a0a (mv 1) a0b)))) (a0g (a1e (a0y a2a (a0j (a0h K rfl) (mv 5) a0f (λ_ _=>rfl)) a0t (a1b _)) (a0g (a1f (a2y K rfl Z7 X8 Vq (b0m K rfl) (mv 4) (a0a (a0j (a0h K rfl) (mv 5) a0f (λ_ _=>rfl)) a0b)))) a1a)))))) (a0g (a0u (mv 3)))))),H,Q,E,hr,h
 rename_i v pd most;obtain⟨rows,t0,tf,hP,hd,hf,hz,hrz,hm0,hm1,q⟩:=h;ext;refine⟨ln (by show 1<=100000;decide),λp hp=>?_⟩;have sp:Same H (upd H p (.lst [v])):=a0l hp _;have kp:(upd H p (.lst [v])) p=some (.lst [v]):=a0c;generalize upd H p (.lst [v])=H1 at sp kp ⊢;ext;refine a4s (λn σ' H'=>∃(us:List V)(ts ts':List Trm)(c:Nat)(o:Option V),σ'=[some v,some (.ref pd),some (.int most),some (.int (c:Int)),some (.ref p),o]/\H' p=some (.lst us)/\DenL K H' us (Trm.dataL ts)/\a3e rows ts ts'/\c+Trm.sizeL ts'=tf.size/\(c:Int)<=most/\(∀t∈ts,t.size<=70)/\ts.length<=1+70*c/\n=Trm.sizeL ts'/\Same H H') tf.size ⟨[v],[t0],[tf],0,none,rfl,kp,.cons (hd.mono sp) .nil,.cons hf .nil,by simp[Trm.sizeL],qo,λt ht=>by rw[Zd.mp ht];exact hz,qz,by simp[Trm.sizeL],sp⟩ (λn σ' H' R hP2 kT kF=>?_);obtain⟨us,ts,ts',c,o,rfl,h1,h2,h3,h4,h5,h6,h7,h8,h9⟩:=hP2;ext;refine .inl ⟨us,SqL.of h1,?_⟩;rcases nil_or_snoc' ts with rfl|⟨ts0,t1,rfl⟩
 ·have e:=h2.nil_inv;subst e;cases h3
  exists kF H'
  have e:upTo tf.size most=(c:Int):=by
   simp only[Trm.sizeL]at h4;unfold upTo;rw[if_pos qo];omega
  rw[e]at q;exact q H' h9
 ·rw[Trm.dataL_map,Zi,<-Trm.dataL_map]at h2;obtain⟨us',u,rfl,g1,g2⟩:=DenL.snoc h2;obtain⟨tb,ty,rfl,f1,f2⟩:=h3.snoc;rw[Trm.sizeL_app]at h4 h8;have s1:Trm.sizeL [ty]=ty.size:=by simp[Trm.sizeL]
  rw[s1]at h4 h8;have typ:=ty.size_pos;have e:(!(us'++[u]).isEmpty)=true:=by simp
  rw[e];refine kT H' (λD' e1 e2 hnx hct=>?_);ext
  exists e
  ·have hc:=Z5 e;ext;have e:upTo tf.size most=most+1:=by
    unfold upTo;rw[if_neg qo]
   rw[e]at q;rw[e1];exact q H' h9
  have hc:=Xc e;have hlen:=g1.length;rw[Trm.dataL_map,length_map]at hlen;rw[Zk,Z8]at h7;ext;refine⟨.inl ⟨rfl,_,SqL.of h1⟩,?_⟩
  exists b3y h1
  have f3:DenL K (upd H' p (.lst us')) us' (Trm.dataL ts0):=g1.lst h1;have f4:Den K (upd H' p (.lst us')) u t1.data:=g2.lst h1;have f5:Same H (upd H' p (.lst us')):=a0x h9 hp;have f6:a2h K (upd H' p (.lst us')) pd rows:=(hP.mono h9).lst h1;have k6:(upd H' p (.lst us')) p=some (.lst us'):=a0c;generalize upd H' p (.lst us')=J at f3 f4 f5 f6 k6 ⊢;obtain⟨nw,uw,w1,w2⟩:=f2.walk;have hzu:=w1.size hrz (h6 t1 qz);refine⟨rows,t1,nw,uw,f6,f4,w1,λv' dv=>?_⟩;have hno:=w1.hnf;ext;cases uw with
  |num m=>
   obtain⟨a,rfl,hs⟩:=a3a dv;cases w2
   exists a0m hs (v:=.str numS) rfl
   rw[Zp,q4];refine iteF ?_;ext;exact hnx _ _ (Trm.sizeL tb) qo ⟨us',ts0,tb,c+1,_,rfl,k6,f3,f1,by simp only[Trm.size]at h4;omega,qo,λt ht=>h6 t (by simp[ht]),qo,rfl,f5⟩
  |any x=>
   obtain⟨a,rfl,hs⟩:=a2r dv;have hx:=hno x rfl;cases w2 with
   |yes e _=>rw[hx]at e;cases e
   |no _=>
    exists a0m hs (v:=.str anyS) rfl
    rw[Zp,q5];refine iteF ?_;ext;exact hnx _ _ (Trm.sizeL tb) qo ⟨us',ts0,tb,c+1,_,rfl,k6,f3,f1,by simp only[Trm.size]at h4;omega,qo,λt ht=>h6 t (by simp[ht]),qo,rfl,f5⟩
  |app sg ks=>
   obtain⟨a,b,ku,rfl,hs,hb,hk⟩:=a2g dv;cases w2 with
   | @app _ _ ls hkl=>
    have hkl2:=hk.length;rw[Trm.dataL_map,length_map]at hkl2;have hk70:ks.length<=70:=by
     have:=Trm.len_le ks;simp only[Trm.size]at hzu;omega
    exists a0m hs (v:=.str appS) rfl
    rw[Zp,q6];refine iteT ?_;ext;refine⟨.inl ⟨rfl,_,SqL.of k6⟩,?_⟩;ext
    exists a0m hs (v:=.ref b) rfl
    refine mExt_t k6 hb (ln qo) ?_;simp only[Trm.size]at h4;refine hnx _ _ (Trm.sizeL (tb++ls)) (by rw[Trm.sizeL_app];simp only[Trm.size]at h8;omega) ⟨us'++ku,ts0++ks,tb++ls,c+1,_,rfl,a0c,?_,f1.append hkl,by rw[Trm.sizeL_app];omega,qo,λt ht=>?_,by rw[Zk];omega,rfl,a0x f5 hp⟩
    ·rw[Trm.dataL_map,Zi,<-Trm.dataL_map,<-Trm.dataL_map];exact(f3.append hk).lst k6
    ·rcases Zr.mp ht with z|z
     ·exact h6 t (by simp[z])
     ·exact b8j hzu t z
theorem ok_a9(T:Txt K mg t)  :FnOk P w K mg base CX0 1 t.a_a9 t.d_a9 ["sign","kids"] (b1m K):=by
 exists T.F_a9.ok sc_a9,b1m,(a0g (a0u (a0s (a0a a0t (a0a (mv 0) (a0a (a2i (c2s K rfl) rfl T.n_h4 boot_tuple (a0a (mv 1) a0b)) a0b)))))),H,Q,E,hr,h
 rename_i sg p;obtain⟨us,ks,hS,hd,q⟩:=h;ext;refine mTup_l hS (λp2 hp2=>?_);have s2:=a0l hp2 (.tup us);have k2:(upd H p2 (.tup us)) p2=some (.tup us):=a0c;generalize upd H p2 (.tup us)=H2 at s2 k2 ⊢;ext;refine⟨ln (by show 3<=100000;decide),λp3 hp3=>?_⟩;have s3:=a0l hp3 (.tup [.str "app",.str sg,.ref p2]);exact q _ _ (s2.trans s3) (a3q (SqT.of a0c) (SqT.of (s3 _ _ k2)) (hd.mono (s2.trans s3)))
theorem d1h(T:Txt K mg t)(G_a8:FnOk P w K mg base CX0 1 t.a_a8 t.d_a8 ["term","puts"] (a7f K))(G_a9:FnOk P w K mg base CX0 1 t.a_a9 t.d_a9 ["sign","kids"] (b1m K))(n:Nat)(G_b5:FnOk P w K mg base CX0 (n+2) t.a_b5 t.d_b5 ["term","puts"] (a6h K n)):FnOk P w K mg base CX0 (n+2+1) t.a_b5 t.d_b5 ["term","puts"] (a6h K (n+1)):=by
 exists T.F_b5.ok (k:=n+2) c0w,a6h,(a0e (a0q (i:=2) (hs:=a1h) c0w.nd rfl (by nofun) (a0k G_a8 hr.o rfl T.m_a8 T.F_a8.kp T.b_a8 .nil a0o (a0a (mv 0) (a0a (mv 1) a0b)))) (a0e (a1e (a0y mo_ne (a0j (a0h K rfl) (mv 2) a0f (λ_ _=>rfl)) a0t (a1b _)) (a0g (a0u (mv 2))) a1a) (a0g (a0u (a0k G_a9 hr.o rfl T.m_a9 T.F_a9.kp T.b_a9 .nil a0o (a0a (a0j (a0h K rfl) (mv 2) a0f (λ_ _=>rfl)) (a0a (a4e rfl (b5h K rfl (a0j (a0h K rfl) (mv 2) a0f (λ_ _=>rfl))) (a3p (a0i b2n) ["term","puts","part"] ["term","puts","part"] rfl rfl qk) (λ_ _ _ _ _=>a3o) (λ_ _ _ _ _=>(a0k G_b5 hr.o rfl T.m_b5 T.F_b5.kp T.b_b5 .nil a0o (a0a (mv 0) (a0a (mv 2) a0b))))) a0b))))))),H,Q,E,hr,h
 rename_i v pd;obtain⟨rows,t0,t',hP0,hd,hf,hz,hn,q⟩:=h;obtain⟨nw,u,w1,w2⟩:=hf.walk;have hno:=w1.hnf;ext;refine⟨rows,t0,nw,u,hP0,hd,w1,λx dx=>?_⟩;ext;cases u with
 |num m=>
  obtain⟨a,rfl,hs⟩:=a3a dx;cases w2
  exists a0m hs (v:=.str numS) rfl
  refine iteB (λe=>?_) (λe=>absurd e qk);ext;exact q _ _ (Same.refl _) dx
 |any y=>
  obtain⟨a,rfl,hs⟩:=a2r dx;have hy:=hno y rfl;cases w2 with
  |yes e _=>rw[hy]at e;cases e
  |no _=>
   exists a0m hs (v:=.str anyS) rfl
   refine iteB (λe=>?_) (λe=>absurd e qk);ext;exact q _ _ (Same.refl _) dx
 |app sg ks=>
  obtain⟨a,b,us,rfl,hs,hb,hk⟩:=a2g dx;cases w2 with
  | @app _ _ ls hkl=>
   have hl:=hk.length;rw[Trm.dataL_map,length_map]at hl;have hll:=hkl.len;have hls:=Trm.len_le ls;simp only[Trm.size]at hz
   exists a0m hs (v:=.str appS) rfl
   refine iteB (λe=>absurd e qk) (λe=>?_);ext
   exists a0m hs (v:=.str sg) rfl
   refine a0m hs (v:=.ref b) rfl ?_;refine⟨b,rfl,⟨_,hb⟩,λD hD=>?_⟩;refine a2q (b5g (xs:=us)) (λi ys J=>Same H J/\DenL K J ys (Trm.dataL (ls.take i))/\J D=some (.lst ys)) (ln qo) ⟨a0l hD _,.nil,a0c⟩ (λi ys J hP=>hP.1.tup hb) (λi ys J Q' hi' hl' hP k=>?_) (λys J hl' hP=>?_)
   ·obtain⟨g1,g2,g3⟩:=hP;have hki:i<ks.length:=by omega
    have hx:us[i]? =some us[i]:=Za hi'
    have hg:us.getD i .non=us[i]:=by rw[Yd,hx];rfl
    obtain⟨d,e1,e2⟩:=hk.get hx;rw[Trm.dataL_map,Zv,Za hki]at e1;have e1:ks[i].data=d:=Zl e1;subst e1;obtain⟨l,l1,l2⟩:=hkl.get (Za hki);have lz:=c3s l1;ext;rw[hg];refine⟨rows,ks[i],l,hP0.mono g1,e2.mono g1,l2,qo,qo,λx J2 s2 dx=>?_⟩;refine k _ _ (s2 _ _ g3) ⟨a0x (g1.trans s2) hD,?_,a0c⟩;rw[We,l1,Trm.dataL_map,Zi,<-Trm.dataL_map];exact((g2.mono s2).append (.cons dx .nil)).lst (s2 _ _ g3)
   obtain⟨g1,g2,g3⟩:=hP;rw[Y6 qo]at g2;ext;exact⟨ys,ls,SqL.of g3,g2,λr J2 s2 d2=>q _ _ (g1.trans s2) d2⟩
theorem d1i(T:Txt K mg t)(G_a8:FnOk P w K mg base CX0 1 t.a_a8 t.d_a8 ["term","puts"] (a7f K))(G_a9:FnOk P w K mg base CX0 1 t.a_a9 t.d_a9 ["sign","kids"] (b1m K))(n:Nat):FnOk P w K mg base CX0 (n+2) t.a_b5 t.d_b5 ["term","puts"] (a6h K n):=by
 induction n with
 |zero=>
  have no:∀vs H Q E,(a6h K 0) vs H Q E->False:=λvs H Q E h=>by
   unfold a6h at h;split at h
   ·exact d0p h
   ·exact h
  exact⟨λvs H Q E h=>(no vs H Q E h).elim,λA outer s H args us vs Q E _ _ _ _ h=>(no vs H Q E h).elim⟩
 |succ n ih=>
  have e:n+1+2=n+2+1:=by omega
  rw[e];exact d1h T G_a8 G_a9 n ih
theorem d1j(T:Txt K mg t)  :FnOk P w K mg base CX0 1 t.a_b4 t.d_b4 ["term"] (b4n K):=by
 exists T.F_b4.ok d0m,b4n,(a0e (a1e (a0y a2a (a0j (a0h K rfl) (mv 0) a0f (λ_ _=>rfl)) a0t (a1b _)) (a0g (a0u (a0s (a0a a0t (a0a (a0j (a0h K rfl) (mv 0) a0f (λ_ _=>rfl)) a0b))))) a1a) (a0e (a1e (a0y a2a (a0j (a0h K rfl) (mv 0) a0f (λ_ _=>rfl)) a0t (a1b _)) (a0g (a0u (a0s (a0a a0t (a0a (a0j (a0h K rfl) (mv 0) a0f (λ_ _=>rfl)) (a0a (a1p (a3u K rfl) rfl T.n_f8 Yt (a0a (a0j (a0h K rfl) (mv 0) a0f (λ_ _=>rfl)) a0b)) a0b)))))) a1a) (a0g (a0u a9s)))),H,Q,E,hr,h
 rename_i v;obtain⟨t0,hd,q⟩:=h;cases t0 with
 |num m=>
  obtain⟨a,rfl,hs⟩:=a3a hd;ext
  exists a0m hs (v:=.str numS) rfl
  rw[Zp,q7];refine iteT ?_;ext
  exists a0m hs (v:=.int m) rfl
  exact⟨ln (by show 2<=100000;decide),λp hp=>q p _ (a0l hp _) a0c⟩
 |any y=>
  obtain⟨a,rfl,hs⟩:=a2r hd;ext
  exists a0m hs (v:=.str anyS) rfl
  refine iteB (λe=>absurd e qk) (λe=>?_);ext
  exists a0m hs (v:=.str anyS) rfl
  refine iteB (λe=>absurd e qk) (λe=>?_);ext;exact q
 |app sg ks=>
  obtain⟨a,b,us,rfl,hs,hb,hk⟩:=a2g hd;have hl:=hk.length;rw[Trm.dataL_map,length_map]at hl;ext
  exists a0m hs (v:=.str appS) rfl
  refine iteB (λe=>absurd e qk) (λe=>?_);ext
  exists a0m hs (v:=.str appS) rfl
  refine iteB (λe=>?_) (λe=>absurd e qk);ext
  exists a0m hs (v:=.str sg) rfl
  exists a0m hs (v:=.ref b) rfl
  exists c2r hb
  refine⟨ln (by show 3<=100000;decide),λp hp=>q p _ (a0l hp _) ?_⟩;rw[hl];exact a0c
theorem c0f(T:Txt K mg t)(G_b5:FnOk P w K mg base CX0 42 t.a_b5 t.d_b5 ["term","puts"] (a6h K 40))(G_e0:FnOk P w K mg base CX0 2 t.a_e0 t.d_e0 ["term","puts","most"] (a8e K)):FnOk P w K mg base CX0 43 t.a_b1 t.d_b1 ["term","puts"] (a4l K):=by
 exists T.F_b1.ok b9s,a4l,(a0e (a1e (a0y mo_gt (a0k G_e0 hr.o rfl T.m_e0 T.F_e0.kp T.b_e0 .nil a0o (a0a (mv 0) (a0a (mv 1) (a0a (a9i rfl T.m_g4) a0b)))) (a9i rfl T.m_g4) (a1b _)) (a0g a2o) a1a) (a0g (a0u (a0k G_b5 hr.o rfl T.m_b5 T.F_b5.kp T.b_b5 .nil a0o (a0a (mv 0) (a0a (mv 1) a0b)))))),H,Q,E,hr,h
 rename_i v pd;obtain⟨rows,t0,t',hP0,hd,hf,hz,hrz,h40,q⟩:=h;ext;refine⟨rows,t0,t',hP0,hd,hf,hz,hrz,qo,qo,λH1 s1=>?_⟩;ext;refine iteB (λe=>by have:=Z5 e;unfold upTo at this;rw[if_pos qo]at this;omega) (λe=>?_);ext;exact⟨rows,t0,t',hP0.mono s1,hd.mono s1,hf,h40,qo,λx J s2 dx=>q x J (s1.trans s2) dx⟩
end
section
variable{P:Program}{w:World}{K:W.Frag}{mg:Str->Option Value}{base:Heap}{t:Ad}
theorem c4s(T:Txt K mg t)(G_b7:FnOk P w K mg base CX0 1 t.a_b7 t.d_b7 ["terms"] (a6r K))(G_b0:FnOk P w K mg base CX0 72 t.a_b0 t.d_b0 ["term","names"] (a3x K 70)):FnOk P w K mg base CX0 73 t.a_b3 t.d_b3 ["terms"] (a6g K):=by
 exists T.F_b3.ok a7m,a6g,(a0e (a0q (i:=1) a7m.nd rfl (by nofun) a6y) (a0e (a1y Zz rfl (a1l K rfl (a0k G_b7 hr.o rfl T.m_b7 T.F_b7.kp T.b_b7 .nil a0o (a0a (mv 0) a0b))) (a1d (i:=2) a7m.nd rfl (by nofun)) (a0e (a0q (i:=3) (hs:=b3z) a7m.nd rfl (by nofun) (a1g (a2b K rfl) (a1p c9a rfl T.n_f8 Yt (a0a (mv 1) a0b)) a0f)) (a0g (a7u (a3v hr) (mv 1) (mv 2) (pe_f2n (mv 3)) rfl)))) (a0g (a0u (a4e rfl (a1l K rfl (mv 0)) (a3p (a0i a8l) ["terms","names","name","number"] ["terms","names","name","number"] rfl rfl qk) (λ_ _ _ _ _=>a3o) (λ_ _ _ _ _=>(a0k G_b0 hr.o rfl T.m_b0 T.F_b0.kp T.b_b0 .nil a0o (a0a (mv 0) (a0a (mv 2) a0b))))))))),H,Q,E,hr,h
 rename_i a;obtain⟨us,ts,hS,hd,hz,hz70,q⟩:=h;have hul:=a5l hd;have tl:=Trm.len_le ts;ext;intro pd hpd;have s1:=a0l hpd (.dK []);have k1:(upd H pd (.dK [])) pd=some (.dK []):=a0c;generalize upd H pd (.dK [])=H1 at s1 k1 ⊢;ext;refine⟨us,ts,s1.seq hS,hd.mono s1,hz,λp H2 s2 hp kp=>?_⟩;have hu:=nodL ts;have hl:=b6r ts [];have hv:∀x∈a3j ts,x∈ordL ts []:=λx hx=>d3o hx
 have han:anew ts=renL (sub (mkA (λj _=>uS++tn (j+1)) 0 (ordL ts []))) ts:=rfl;generalize ordL ts []=u at hu hl hv kp han;rw[length_nil,Uu]at hl;have hne:pd≠p:=λz=>by rw[<-z,k1]at hp;cases hp
 refine⟨p,rfl,⟨_,SqL.of kp⟩,?_⟩;refine a1s (a1i (xs:=u.map V.str)) (λi σ' J=>∃(o1 o2:Option V),σ'=[some (.ref a),some (.ref pd),o1,o2]/\J pd=some (.dK (encS (mkA (λj _=>uS++tn (j+1)) 0 (u.take i))))/\J p=some (.lst (u.map V.str))/\Same H J) ⟨none,none,rfl,by rw[V8];exact s2 _ _ k1,kp,s1.trans s2⟩ (λi σ' J hP=>by obtain⟨_,_,_,_,h,_⟩:=hP;exact SqL.of h) (λi σ' J hi hP=>?_) (λσ' J hP=>?_)
 ·obtain⟨o1,o2,rfl,g1,g2,g3⟩:=hP;rw[length_map]at hi;rw[c0v hi];ext;refine⟨pd,_,rfl,g1,?_⟩;rw[b9n,b9p,Ys,V5 qo];ext;obtain⟨l1,l2,l3⟩:=d0n (i:=(i:Int)+1) qo qo;refine⟨_,rfl,l1,l2,?_⟩;rw[l3];ext;refine⟨pd,_,rfl,DPut.k (k:=Sum.inr u[i]) g1 (by rw[b9n,b9p,Ys,Yw];omega),?_⟩;rw[c6i (λj _=>uS++tn (j+1)) hu hi (by show ofString "U"++tn ((i:Int)+1).toNat=uS++tn (i+1);rw[show((i:Int)+1).toNat=i+1 by omega];rfl)];have bb:=b9u (p:=pd) (H:=J) (o:=.dK (encS (mkA (λj _=>uS++tn (j+1)) 0 (u.take (i+1)))));exact⟨_,_,rfl,a0c,bb _ _ hne.symm g2,b9t g3 bb hpd⟩
 obtain⟨o1,o2,rfl,g1,g2,g3⟩:=hP;rw[length_map,Yr]at g1;ext;refine⟨a,rfl,⟨_,g3.seq hS⟩,λD hD=>?_⟩;refine a2q (a1i (xs:=us)) (λi ys J2=>Same J J2/\J2 D=some (.lst ys)/\DenL K J2 ys (Trm.dataL (renL (sub (mkA (λj _=>uS++tn (j+1)) 0 u)) (ts.take i)))) (ln qo) ⟨a0l hD _,a0c,by rw[V8,renL];exact .nil⟩ (λi ys J2 hP=>hP.1.seq (g3.seq hS)) (λi ys J2 Q' hi hl' hP k=>?_) (λys J2 hl' hP=>?_)
 ·obtain⟨f1,f2,f3⟩:=hP;have hki:i<ts.length:=by omega
  obtain⟨hui,dk⟩:=a6s hd hki;ext;rw[getD_at hui];refine⟨ts[i],_,(dk.mono g3).mono f1,f1 _ _ g1,λx hx=>?_,hz70 _ (Z6 hki),qo,λx J3 s3 dx=>?_⟩
  ·rw[b0a];exact hv x (b9q (Z6 hki) x hx)
  ·have g6:J3 D=some (.lst ys):=s3 _ _ f2;refine k _ _ g6 ⟨a0x (f1.trans s3) hD,a0c,?_⟩;rw[take_succ' hki,a8a,Zi,<-a8a,a3w];exact((f3.mono s3).append (.cons dx .nil)).lst g6
 obtain⟨f1,f2,f3⟩:=hP;rw[Y6 qo,<-han]at f3;exact q D ys J2 (g3.trans f1) (a1c g3 hD) f2 f3
theorem d1k(T:Txt K mg t)(G_b7:FnOk P w K mg base CX0 1 t.a_b7 t.d_b7 ["terms"] (a6r K))(G_b0:FnOk P w K mg base CX0 72 t.a_b0 t.d_b0 ["term","names"] (a3x K 70)):FnOk P w K mg base CX0 73 t.a_b2 t.d_b2 ["term","n"] (a8t K):=by
 exists T.F_b2.ok b4l,a8t,(a0e (a0q (i:=2) b4l.nd rfl (by nofun) a6y) (a0e (a1y Zz rfl (a1l K rfl (a0k G_b7 hr.o rfl T.m_b7 T.F_b7.kp T.b_b7 .nil a0o (a0a (a1n (a0a (mv 0) a0b)) a0b))) (a1d (i:=3) b4l.nd rfl (by nofun)) (a0g (a7u (a3v hr) (mv 2) (mv 3) (pe_f3n (mv 3) (mv 1)) rfl))) (a0g (a0u (a0k G_b0 hr.o rfl T.m_b0 T.F_b0.kp T.b_b0 .nil a0o (a0a (mv 0) (a0a (mv 2) a0b))))))),H,Q,E,hr,h
 rename_i v n;obtain⟨t,hd,hz,h0,h30,hx30,q⟩:=h;ext;intro pd hpd;have s1:=a0l hpd (.dK []);have k1:(upd H pd (.dK [])) pd=some (.dK []):=a0c;generalize upd H pd (.dK [])=H1 at s1 k1 ⊢;ext;refine⟨ln (by show 1<=100000;decide),λp1 hp1=>?_⟩;have sp1:Same H1 (upd H1 p1 (.lst [v])):=a0l hp1 _;have kp1:(upd H1 p1 (.lst [v])) p1=some (.lst [v]):=a0c;generalize upd H1 p1 (.lst [v])=H2 at sp1 kp1 ⊢;ext;ext;refine⟨[v],[t],SqL.of kp1,.cons (hd.mono (s1.trans sp1)) .nil,by simp only[Trm.sizeL];omega,λp H3 s3 hp kp=>?_⟩;rw[d3m]at kp;have hu:=nod0 t;have hl:=b9m t [];have hv:∀x∈vars t,x∈ord t []:=λx hx=>c6h hx
 have hvx:∀x∈ord t [],x.length<=1000:=λx hx=>hx30 x (ord_var hx)
 have han:ren (sub (mkA (λ_ x=>mrk n.toNat x) 0 (ord t []))) t=ren (mrk n.toNat) t:=mrk_sub;generalize ord t []=u at hu hl hv kp han hvx;rw[length_nil,Uu]at hl;have s13:=sp1.trans s3;have hne:pd≠p:=λz=>by have:=sp1 _ _ k1;rw[z,hp]at this;cases this
 refine⟨p,rfl,⟨_,SqL.of kp⟩,?_⟩;refine a1s (a1i (xs:=u.map V.str)) (λi σ' J=>∃(o1:Option V),σ'=[some v,some (.int n),some (.ref pd),o1]/\J pd=some (.dK (encS (mkA (λ_ x=>mrk n.toNat x) 0 (u.take i))))/\J p=some (.lst (u.map V.str))/\Same H J) ⟨none,rfl,by rw[V8];exact s13 _ _ k1,kp,s1.trans s13⟩ (λi σ' J hP=>by obtain⟨_,_,_,h,_⟩:=hP;exact SqL.of h) (λi σ' J hi hP=>?_) (λσ' J hP=>?_)
 ·obtain⟨o1,rfl,g1,g2,g3⟩:=hP;rw[length_map]at hi;rw[c0v hi];ext;obtain⟨l1,l2,l3⟩:=d0n (i:=n) h0 h30;have hxl:=hvx _ (Z6 hi);refine⟨u[i],rfl,qo,?_⟩;ext;refine⟨n,rfl,l1,l2,?_⟩;rw[l3];ext;refine⟨pd,_,rfl,DPut.k (k:=Sum.inr u[i]) g1 (by rw[b9n,b9p,Ys,Yw];omega),?_⟩;rw[c6i (λ_ x=>mrk n.toNat x) hu hi (y:=u[i]++ofString "."++tn n.toNat) rfl];have bb:=b9u (p:=pd) (H:=J) (o:=.dK (encS (mkA (λ_ x=>mrk n.toNat x) 0 (u.take (i+1)))));exact⟨_,rfl,a0c,bb _ _ hne.symm g2,b9t g3 bb hpd⟩
 obtain⟨o1,rfl,g1,g2,g3⟩:=hP;rw[length_map,Yr]at g1;ext;refine⟨t,_,hd.mono g3,g1,λx hx=>by rw[b0a];exact hv x hx,hz,qo,λx J2 s2 dx=>?_⟩;rw[han]at dx;exact q x J2 (g3.trans s2) dx
theorem c5k(T:Txt K mg t)  :FnOk P w K mg base CX0 1 t.a_c9 t.d_c9 ["sign"] (b0z):=by
 exists T.F_c9.ok c5i,b0z,(a0g (a0u (me_or (a2x b7q (mv 0) (a7w rfl T.m_g3) (by with_unfolding_all rfl)) (me_or (a2x b7q (mv 0) (a7w rfl T.m_g9) (by with_unfolding_all rfl)) (b7h (a2x b7q (mv 0) (a7w rfl T.m_h1) (by with_unfolding_all rfl))))))),H,Q,E,hr,h
 rename_i c;ext;have h:Q (.bl (inner c)) H:=h;unfold inner at h
 exists e
 ·rw[Zp]at e;rw[e]at h;exact h
 ·rw[Zp]at e;rw[e,Tt]at h;ext
  exists e
  ·rw[Zp]at e;rw[e]at h;exact h
  ·rw[Zp]at e;rw[e,Tt]at h;ext;rw[Zp];exact h
theorem c4t(T:Txt K mg t)(G_c9:FnOk P w K mg base CX0 1 t.a_c9 t.d_c9 ["sign"] (b0z)):FnOk P w K mg base CX0 2 t.a_d7 t.d_d7 ["text","firsts"] (b0g):=by
 exists T.F_d7.ok c3p,b0g,(a0e (a1e (PW.pt (b7f (b7g (a3t K rfl (a1p (kc_is K rfl) rfl T.n_g8 U8 (a0a (mv 0) (a0a (c2o rfl T.n_h7 boot_str) a0b))))) (b3m (b7g (d2f mo_le mo_le a0f (a1p (a3u K rfl) rfl T.n_f8 Yt (a0a (mv 0) a0b)) (a9i rfl T.m_h2)))))) (a0g (a0u a4d)) a1a) (a0g (a0u (b7p (a2x b7q (a0j (a0h K rfl) (mv 0) a0f (λ_ _=>rfl)) (mv 1) (by with_unfolding_all rfl)) (b7h (a1p (kc_all K rfl rfl) rfl T.n_h9 boot_all (a0a (a4e rfl (pi_str (mv 0)) (a3p (a0i a8k) ["text","firsts"] ["text","firsts"] rfl rfl qk) (λ_ _ _ _ _=>a3o) (λ_ _ _ _ _=>(a0k G_c9 hr.o rfl T.m_c9 T.F_c9.kp T.b_c9 .nil a0o (a0a (mv 0) a0b)))) a0b))))))),H,Q,E,hr,h
 rename_i z f;obtain⟨hz,q⟩:=h;ext;refine iteF ?_;ext
 exists mLen_s (ln qo)
 unfold called at q;have lo:decide ((1:Int)<=z.length)=false\/decide ((1:Int)<=z.length)=true/\decide ((z.length:Int)<=12)=false->Q (.bl false) H:=λc=>by
  have q:=q H (Same.refl H);rcases c with c|⟨c1,c2⟩
  ·rw[c]at q;simpa using q
  ·rw[c1,c2]at q;simpa using q
 exists e
 rotate_left
 ·ext;exact lo (.inl e)
 ext
 exists e2
 ·ext;refine lo (.inr ⟨e,?_⟩);cases d:decide ((z.length:Int)<=12)with
  |false=>rfl
  |true=>rw[d]at e2;cases e2
 have e2:decide ((z.length:Int)<=12)=true:=by
  cases d:decide ((z.length:Int)<=12)with
  |true=>rfl
  |false=>rw[d]at e2;cases e2
 rw[e,e2]at q;simp only[Bool.and_self,Vy]at q;have hp:0<z.length:=by have:=Z5 e;omega
 ext
 exists mIx_s (ln qo) (len_fst hp)
 rw[Zp]
 exists e3
 rotate_left
 ·have e3:inS (fst z) f=false:=e3;rw[e3]at q;exact q H (Same.refl H)
 have e3:inS (fst z) f=true:=e3;rw[e3]at q;simp only[Vy]at q;ext;refine⟨z,rfl,λD hD=>?_⟩;refine a2q (row_str z) (λi ys H'=>Same H H'/\ys=((List.range i).map λk=>inner (one (z.cps.getD k 0))).map V.bl/\H' D=some (.lst ys)) (ln (by unfold Str.length at hz;omega)) ⟨a0l hD _,rfl,a0c⟩ (λ_ _ _ _=>trivial) (λi ys H' Q' hi hl hP k=>?_) (λys H' hl hP=>?_)
 ·obtain⟨h1,h2,h3⟩:=hP;ext;refine k _ _ h3 ⟨a0x h1 hD,?_,a0c⟩;rw[U9,Zi,Zi,h2];rfl
 ·obtain⟨h1,h2,h3⟩:=hP;ext;refine⟨_,SqL.of (h2▸h3),?_⟩;have:=q H' h1;rw[<-all_get z (λc=>inner (one c))]at this;exact this
theorem c7u(T:Txt K mg t)(G_d7:FnOk P w K mg base CX0 2 t.a_d7 t.d_d7 ["text","firsts"] (b0g)):FnOk P w K mg base CX0 3 t.a_e3 t.d_e3 ["text"] (b2s):=by
 exists T.F_e3.ok c7i,b2s,(a0g (a0u (a0k G_d7 hr.o rfl T.m_d7 T.F_d7.kp T.b_d7 .nil a0o (a0a (mv 0) (a0a (a7w rfl T.m_g3) a0b))))),H,Q,E,hr,h
 rename_i z;ext;exact h
theorem c5l(T:Txt K mg t)(G_e3:FnOk P w K mg base CX0 3 t.a_e3 t.d_e3 ["text"] (b2s)):FnOk P w K mg base CX0 4 t.a_b6 t.d_b6 ["term"] (a8m K):=by
 exists T.F_b6.ok c5j,a8m,(a0g (a0u (b7p (a2x a2a (a0j (a0h K rfl) (mv 0) a0f (λ_ _=>rfl)) a0t (a1b _)) (b7p (a0k G_e3 hr.o rfl T.m_e3 T.F_e3.kp T.b_e3 .nil a0o (a0a (a0j (a0h K rfl) (mv 0) a0f (λ_ _=>rfl)) a0b)) (b7h (a2x (b9j K rfl) (a0j (a0h K rfl) (mv 0) a0f (λ_ _=>rfl)) (a0s (a0a (a7w rfl T.m_g2) (a0a (a7w rfl T.m_g5) a0b))) (by with_unfolding_all rfl))))))),H,Q,E,hr,h
 rename_i v;obtain⟨s,ks,hd,hw,q⟩:=h;obtain⟨a,pa,us,rfl,hs,hb,hk⟩:=a2g hd;ext
 exists a0m hs (v:=.str appS) rfl
 refine iteB (λe=>?_) (λe=>absurd e qk);ext
 exists a0m hs (v:=.str s) rfl
 refine⟨hw.ln,λH1 s1=>?_⟩;ext;rw[hw.cl];refine iteT ?_;ext
 exists a0m (s1.tup hs) (v:=.str s) rfl
 refine⟨ln (by show 2<=100000;decide),λp1 hp1=>?_⟩;refine d2o [b2t,notS] (.inr (SqT.of a0c)) ?_;have e:(!decide (s∈[b2t,notS]))=true:=by
  rw[Zs (λz=>by
   rcases Zg.mp z with z|z
   ·exact hw.kp z
   ·exact hw.nt (Zd.mp z))]
  rfl
 rw[e];exact q _ (s1.trans (a0l hp1 _))
theorem c7v(T:Txt K mg t)  :FnOk P w K mg base CX0 1 t.a_a6 t.d_a6 ["goal"] (a5d K):=by
 exists T.F_a6.ok c7k,a5d,(a0g (a0u (a0s (a0a (a0j (a0h K rfl) (mv 0) a0f (λ_ _=>rfl)) (a0a (a1p (a3u K rfl) rfl T.n_f8 Yt (a0a (a0j (a0h K rfl) (mv 0) a0f (λ_ _=>rfl)) a0b)) a0b))))),H,Q,E,hr,h
 rename_i v;obtain⟨s,ks,hd,q⟩:=h;obtain⟨a,pa,us,rfl,hs,hb,hk⟩:=a2g hd;ext
 exists a0m hs (v:=.str s) rfl
 exists a0m hs (v:=.ref pa) rfl
 exists c2r hb
 refine⟨ln (by show 2<=100000;decide),λp hp=>?_⟩;have hl:=hk.length;rw[Trm.dataL_map,length_map]at hl;exact q p _ (a0l hp _) (by rw[a0c,hl];rfl)
end
section
variable{P:Program}{w:World}{K:W.Frag}{mg:Str->Option Value}{base:Heap}{t:Ad}
theorem c0g(T:Txt K mg t)(G_b6:FnOk P w K mg base CX0 4 t.a_b6 t.d_b6 ["term"] (a8m K))(G_a6:FnOk P w K mg base CX0 1 t.a_a6 t.d_a6 ["goal"] (a5d K)):FnOk P w K mg base CX0 5 t.a_c8 t.d_c8 ["rules"] (a8g K):=by
 exists T.F_c8.ok a6q,a8g,(a0e (a0q (i:=1) (hs:=a5y) a6q.nd rfl (by nofun) (a1n a0b)) (a0e (a1y Zz rfl (a1l K rfl (mv 0)) (a1d (i:=2) a6q.nd rfl (by nofun)) (a0g (a1y Zz rfl (b5h K rfl (a0j (a0h K rfl) (mv 2) a0f (λ_ _=>rfl))) (a1d (i:=3) a6q.nd rfl (by nofun)) (a0g (a1e (a3t K rfl (a0k G_b6 hr.o rfl T.m_b6 T.F_b6.kp T.b_b6 .nil a0o (a0a (mv 3) a0b))) (a0g (a1f (a2y K rfl Z7 Yl Yo a2d (mv 1) (a0a (a0s (a0a (a0k G_a6 hr.o rfl T.m_a6 T.F_a6.kp T.b_a6 .nil a0o (a0a (a0j (a0h K rfl) (mv 2) a0f (λ_ _=>rfl)) a0b)) (a0a (a0k G_a6 hr.o rfl T.m_a6 T.F_a6.kp T.b_a6 .nil a0o (a0a (mv 3) a0b)) (a0a a0f a0b)))) a0b)))) (a0g a2o)))))) (a0g (a0u (mv 1))))),H,Q,E,hr,h
 rename_i a;obtain⟨us,rs,hrs,q⟩:=h;obtain⟨hs,hdl,hok,hl100⟩:=hrs;have hul:=hdl.length;rw[length_map]at hul;ext;refine⟨Z4 _,λp hp=>?_⟩;generalize e9:upd H p _=H0;obtain⟨sp,kp⟩:=nwq hp e9;clear e9;ext;have hpH:=hp;refine⟨a,rfl,⟨_,sp.seq hs⟩,?_⟩;refine a1s (a1i (xs:=us)) (λk σ' J=>∃(o1 o2:Option V)(ls:List V),σ'=[some (.ref a),some (.ref p),o1,o2]/\Same H J/\J p=some (.lst ls)/\ls.length<=10*k/\(∀u∈ls,LnAt rs J u)) ⟨none,none,[],rfl,sp,kp,Z4 _,λu hu=>by simp at hu⟩ (λk σ' J hP=>by obtain⟨_,_,_,_,s,_⟩:=hP;exact s.seq hs) (λk σ' J hk hP=>?_) (λσ' J hP=>?_);rotate_left
 ·obtain⟨o1,o2,ls,rfl,s,h1,h2,h3⟩:=hP;ext;exact q p ls J s hpH h1 qo h3
 ·obtain⟨o1,o2,ls,rfl,s,h1,h2,h3⟩:=hP;have hkr:k<rs.length:=by omega
  obtain⟨d,d1,d2⟩:=hdl.get (Za hk);rw[Zv,Za hkr]at d1;have d1:ruE rs[k]=d:=Zl d1;subst d1;have hm:rs[k]∈rs:=Z6 hkr;obtain⟨rok,rnn⟩:=hok _ hm;rw[getD_at hk];generalize us[k]=uv at d2;generalize rs[k]=x at d2 hm rok rnn;obtain⟨pu,hv,pg,ug,rfl,ht,hh,htg,hdg⟩:∃(pu:Addr)(hv:V)(pg:Addr)(ug:List V),uv=.ref pu/\SqT K H pu [hv,.ref pg]/\Den K H hv x.1.data/\SqT K H pg ug/\DenL K H ug (Trm.dataL x.2):=by
   cases d2 with
   |tup w3 w4=>
    cases w4 with
    |cons w5 w6=>
     cases w6 with
     |cons w7 w8=>
      cases w8;cases w7 with
      |tup y1 y2=>exact⟨_,_,_,_,rfl,w3,w5,y1,y2⟩
  have hgl:=hdg.length;rw[Trm.dataL_map,length_map]at hgl;have hl10:=rok.l;ext
  exists a0m (KT.same s _ _ ht) (v:=.ref pg) rfl
  refine⟨pg,rfl,⟨_,KT.same s _ _ htg⟩,?_⟩;refine a1s (b5g (xs:=ug)) (λj σ' J2=>∃(o2:Option V)(ls:List V),σ'=[some (.ref a),some (.ref p),some (.ref pu),o2]/\Same H J2/\J2 p=some (.lst ls)/\ls.length<=10*k+j/\(∀u∈ls,LnAt rs J2 u)) ⟨o2,ls,rfl,s,h1,h2,h3⟩ (λj σ' J2 hP=>by obtain⟨_,_,_,s2,_⟩:=hP;exact KT.same s2 _ _ htg) (λj σ' J2 hj hP=>?_) (λσ' J2 hP=>?_);rotate_left
  ·obtain⟨o2,ls,rfl,s2,h1,h2,h3⟩:=hP;exact⟨_,_,ls,rfl,s2,h1,qo,h3⟩
  ·obtain⟨o2,ls,rfl,s2,h1,h2,h3⟩:=hP;have hjx:j<x.2.length:=by omega
   obtain⟨hui,dk⟩:=a6s hdg hjx;obtain⟨w1,k1,e1,wd⟩:=rnn.gs _ (Z6 hjx);obtain⟨w0,k0,e0,wd0⟩:=rnn.hd;rw[getD_at hui];rw[e1]at dk;generalize ug[j]=uj at dk;ext;refine⟨w1,k1,dk.mono s2,wd,λJ3 s3=>?_⟩;ext;refine iteT ?_;ext;have s23:=s2.trans s3;refine⟨.inl ⟨rfl,_,SqL.of (s3 _ _ h1)⟩,?_⟩;ext
   exists a0m (KT.same s23 _ _ ht) (v:=hv) rfl
   rw[e0]at hh;refine⟨w0,k0,hh.mono s23,λpa J4 s4 hpa=>?_⟩;ext;refine⟨w1,k1,dk.mono (s23.trans s4),λpb J5 s5 hpb=>?_⟩;ext;refine⟨ln (by show 3<=100000;decide),λpt hpt=>?_⟩;generalize e9:upd J5 pt _=J6;obtain⟨spt,kpt⟩:=nwq hpt e9;clear e9;have s36:=s4.trans (s5.trans spt);have h6:=s36 _ _ (s3 _ _ h1);ext;refine a1w h6 (ln1 qo) ?_;refine⟨_,ls++[.ref pt],rfl,a0x (s23.trans s36) hpH,a0c,by rw[Zk,Z8];omega,λu hu=>LnAt.put ?_ h6⟩;rcases Zr.mp hu with z|z
   ·exact(h3 u z).same (s3.trans s36)
   ·rw[Zd.mp z];refine⟨pt,pa,pb,x,nd w1 k1.length,hm,rfl,kpt,?_,spt _ _ (hpb)⟩;rw[e0];exact(s5.trans spt) _ _ hpa
theorem b7b(T:Txt K mg t)  :FnOk P w K mg base CX0 1 t.a_d9 t.d_d9 ["leanings"] (a7c K):=by
 exists T.F_d9.ok b0f,a7c,(a0g (a1y Zz rfl (a1l K rfl (mv 0)) (a1d (i:=1) b0f.nd rfl (by nofun)) (a0g (a1e (a0y a2a (a0j (a0h K rfl) (mv 1) a0f (λ_ _=>rfl)) a0f (a1b _)) (a0e a2o (a0g a2o)) a1a)))),H,Q,E,hr,h
 rename_i p;obtain⟨ls,rs,h1,h2,q⟩:=h;ext;refine⟨p,rfl,⟨_,SqL.of h1⟩,?_⟩;refine a1s (a1i (xs:=ls)) (λk σ' J=>∃(o1:Option V),σ'=[some (.ref p),o1,none]/\J=H) ⟨none,rfl,rfl⟩ (λk σ' J hP=>by obtain⟨_,_,rfl⟩:=hP;exact SqL.of h1) (λk σ' J hk hP=>?_) (λσ' J hP=>?_);rotate_left
 ·obtain⟨o1,rfl,rfl⟩:=hP;ext;exact q
 ·obtain⟨o1,rfl,rfl⟩:=hP;obtain⟨pp,a,b,x,kb,h0,e1,e2,e3,e4⟩:=h2 _ (Z6 hk);rw[getD_at hk,e1];ext
  exists a0m (SqT.of e2) (v:=.int 0) rfl
  refine iteF ?_;ext;exact⟨_,rfl,rfl⟩
theorem b9a(T:Txt K mg t)  :FnOk P w K mg base CX0 1 t.a_c7 t.d_c7 ["layers","leanings"] (a7q K):=by
 exists T.F_c7.ok a5r,a7q,(a0e (a0q (i:=2) a5r.nd rfl (by nofun) a4d) (a0e (a1y Zz rfl (a1l K rfl (mv 1)) (a1d (i:=3) a5r.nd rfl (by nofun)) (a0e (a0q (i:=4) (hs:=b3z) a5r.nd rfl (by nofun) (a1g (a2b K rfl) (b1e (a3v hr) (mv 0) (a0j (a0h K rfl) (mv 3) a0f (λ_ _=>rfl)) (λ_ _=>rfl)) (a0j (a0h K rfl) (mv 3) a0f (λ_ _=>rfl)))) (a0g (a1e (a0y c1s (b1e (a3v hr) (mv 0) (a0j (a0h K rfl) (mv 3) a0f (λ_ _=>rfl)) (λ_ _=>rfl)) (mv 4) (a1b _)) (a0e a2o (a0g a2o)) a1a)))) (a0g (a0u (mv 2))))),H,Q,E,hr,h
 rename_i d p;obtain⟨kvs,ls,hd,hz,h1,h2,q⟩:=h;ext;refine⟨p,rfl,⟨_,SqL.of h1⟩,?_⟩;refine a1s (a1i (xs:=ls)) (λk σ' J=>∃(o1 o2:Option V),σ'=[some (.ref d),some (.ref p),some (.bl false),o1,o2]/\J=H) ⟨none,none,rfl,rfl⟩ (λk σ' J hP=>by obtain⟨_,_,_,rfl⟩:=hP;exact SqL.of h1) (λk σ' J hk hP=>?_) (λσ' J hP=>?_);rotate_left
 ·obtain⟨o1,o2,rfl,rfl⟩:=hP;ext;exact q
 ·obtain⟨o1,o2,rfl,rfl⟩:=hP;obtain⟨pp,a,b,ka,kb,e1,e2,e3,e4,e5,e6⟩:=h2 _ (Z6 hk);have va:=d1c hz e5;have vb:=d1c hz e6;rw[getD_at hk,e1];ext;refine a0m (SqT.of e2) (v:=.ref b) rfl ?_;refine⟨d,.int 0,rfl,by rw[<-vb];exact DGet.t hd e4,?_⟩;ext
  exists a0m (SqT.of e2) (v:=.int 0) rfl
  refine a0m (SqT.of e2) (v:=.ref a) rfl ?_;refine⟨d,.int 0,rfl,by rw[<-va];exact DGet.t hd e3,?_⟩;ext;refine iteF ?_;ext;exact⟨_,_,rfl,rfl⟩
end
section
variable{P:Program}{w:World}{K:W.Frag}{mg:Str->Option Value}{base:Heap}{t:Ad}
theorem b1t(T:Txt K mg t)  :FnOk P w K mg base CX0 1 t.a_b9 t.d_b9 ["self"] (a3g K P w t.k_a0 t.k_a1 t.k_a4):=by
 exists T.F_b9.ok b1l,a3g,(a0e (b3r (mv 0) a0f b7t) (a0g (a1e (a0y mo_gt (a0v (mv 0) rfl) (a9i rfl T.m_g7) (a1b _)) (a0g a2o) a1a))),H,Q,E,hr,h
 rename_i f;obtain⟨x,L,fa,h3,q⟩:=h;ext;refine⟨f,_,x.dx,_,_,rfl,fa.ob,T.cl_a0,T.no_a0_steps,c3v,?_⟩;ext;refine⟨x.dx,_,fa.ob,by show 8<1000;decide,?_⟩;rw[c3w];obtain⟨fb,ev⟩:=fa.set x.o.st (x.o.sp+1) x.o.ch;ext;refine⟨f,_,x.dx,_,_,rfl,fb.ob,T.cl_a0,T.no_a0_steps,c3v,?_⟩;ext;refine iteB (λe=>by have:=Z5 e;exact absurd (show x.o.sp+1>300 from this) qo) (λ_=>?_);ext;exact q _ fb (λb o hb e=>by rw[a0d hb];exact e) ev.pr.kt
theorem c1n(T:Txt K mg t)  :FnOk P w K mg base CX0 1 t.a_c3 t.d_c3 ["self","puts","done","reasons"] (a6x t.k_a4):=by
 exists T.F_c3.ok c1m,a6x,(a0e (a1q (mv 0) (mv 1) rfl) (a0e (a1q (mv 0) (mv 2) rfl) (a0g (a1q (mv 0) (mv 3) rfl)))),H,Q,E,hr,h
 rename_i a p d r;obtain⟨dg,h0,q⟩:=h;ext;refine⟨a,_,dg,_,rfl,h0,T.cl_a4,T.no_a4_puts,by show 0<1000;decide,?_⟩;ext;refine⟨a,_,dg,_,rfl,a0c,T.cl_a4,T.no_a4_done,by show 1<1000;decide,?_⟩;ext;refine⟨a,_,dg,_,rfl,a0c,T.cl_a4,T.no_a4_reasons,by show 2<1000;decide,?_⟩;ext;rw[a7d,a7d];exact q _ (λb o hb e=>by rw[a0d hb];exact e) a0c
theorem c1o(T:Txt K mg t)  :FnOk P w K mg base CX0 1 t.a_f5 t.d_f5 ["self","goal","layer"] (a9b t.k_a1 P w):=by
 exists T.F_f5.ok c1l,a9b,(a0e (a1q (mv 0) (mv 1) rfl) (a0e (a1q (mv 0) (mv 2) rfl) (a0e (a1q (mv 0) (a1n a0b) rfl) (a0g (a1q (mv 0) (c3l P w rfl rfl) rfl))))),H,Q,E,hr,h
 rename_i a g l;obtain⟨dt,h0,q⟩:=h;ext;refine⟨a,_,dt,_,rfl,h0,T.cl_a1,T.no_a1_goal,by show 0<1000;decide,?_⟩;ext;refine⟨a,_,dt,_,rfl,a0c,T.cl_a1,T.no_a1_layer,by show 1<1000;decide,?_⟩;rw[a7d];ext;refine⟨Z4 _,λal hal=>?_⟩;have n1:al≠a:=λz=>by rw[z,a0c]at hal;cases hal
 rw[a0d n1]at hal;generalize eA:upd H a _=HA;have kA:HA a=some (.ins t.k_a1 dt (putF (ofString "layer") (.int l) (putF (ofString "goal") g []))):=by rw[<-eA];exact a0c
 have bA:But a H HA:=λb o hb e=>by rw[<-eA,a0d hb];exact e
 have hA:HA al=none:=by rw[<-eA,a0d n1];exact hal
 have nA:∀b,b≠a->HA b=H b:=λb hb=>by rw[<-eA,a0d hb]
 clear eA;ext;refine⟨a,_,dt,_,rfl,(a0d n1.symm).trans kA,T.cl_a1,T.no_a1_answers,by show 2<1000;decide,?_⟩;ext;intro kd hkd lo;have n2:kd≠a:=λz=>by rw[z,a0c]at hkd;cases hkd
 rw[a0d n2]at hkd;have n3:kd≠al:=λz=>by rw[z,a0c]at hkd;cases hkd
 rw[a0d n3,nA _ n2]at hkd;ext;refine⟨a,_,dt,_,rfl,(a0d n2.symm).trans a0c,T.cl_a1,T.no_a1_known,by show 3<1000;decide,?_⟩;ext;refine q al kd _ hal hkd n3.symm lo (λb o hb e=>?_) a0c ?_ ?_
 ·have b1:b≠kd:=a0p e hkd;have b2:b≠al:=a0p e hal;rw[a0d hb,a0d b1,a0d hb,a0d b2];exact bA _ _ hb e
 ·rw[a0d n1,a0d n3.symm,a0d n1];exact a0c
 ·rw[a0d n2];exact a0c
end
section
variable{P:Program}{w:World}{K:W.Frag}{mg:Str->Option Value}{base:Heap}{t:Ad}
theorem b3g(T:Txt K mg t)(G_b3:FnOk P w K mg base CX0 73 t.a_b3 t.d_b3 ["terms"] (a6g K))(G_f5:FnOk P w K mg base CX0 1 t.a_f5 t.d_f5 ["self","goal","layer"] (a9b t.k_a1 P w))(G_a6:FnOk P w K mg base CX0 1 t.a_a6 t.d_a6 ["goal"] (a5d K)):FnOk P w K mg base CX0 74 t.a_c1 t.d_c1 ["self","goal"] (a3l K P w t.k_a0 t.k_a1 t.k_a4):=by
 exists T.F_c1.ok a7l,a3l,(a0e (a0q (i:=2) (hs:=b4a) a7l.nd rfl (by nofun) (a0j (a0h K rfl) (a0k G_b3 hr.o rfl T.m_b3 T.F_b3.kp T.b_b3 .nil a0o (a0a (a1n (a0a (mv 1) a0b)) a0b)) a0f (λ_ _=>rfl))) (a0e (a1e (a0y (d3g K P w rfl rfl rfl (a2z hr)) (mv 2) (a0v (mv 0) rfl) (by with_unfolding_all rfl)) (a0e (a1e (a0y a2a (a1p (a3u K rfl) rfl T.n_f8 Yt (a0a (a0v (mv 0) rfl) a0b)) (a9i rfl T.m_h0) (a1b _)) (a0g a2o) a1a) (a0e (b3o (a1p (a3u K rfl) rfl T.n_f8 Yt (a0a (a0v (mv 0) rfl) a0b)) (c2a (a0v (mv 0) rfl) (mv 2) (d0h K P w rfl rfl rfl (a2z hr)))) (a0e (a1f (a2y K rfl Z7 Yl Yo a2d (a0v (mv 0) rfl) (a0a (a7s T.mk_a1 G_f5 hr.o rfl T.m_a1 T.b_f5 .nil a0o (a0a (mv 2) (a0a (c2j (a3v hr) (a0v (mv 0) rfl) (a0k G_a6 hr.o rfl T.m_a6 T.F_a6.kp T.b_a6 .nil a0o (a0a (mv 2) a0b)) a0f ⟨rfl,rfl,rfl,rfl⟩) a0b))) a0b))) (a0g (a1q (mv 0) a4d rfl))))) a1a) (a0g (a0u (d3i K P w rfl rfl rfl (a2z hr) (a0v (mv 0) rfl) (mv 2) (λ_ _=>rfl)))))),H,Q,E,hr,h
 rename_i f v;obtain⟨x,L,tt,fa,ok,tk,hd,hz,hu,q⟩:=h;obtain⟨gap,gsz,gdp,gnm,gan⟩:=ok.gl _ hu;obtain⟨w1,ks,eg⟩:=gap;ext;refine⟨ln qz,λp1 hp1=>?_⟩;generalize e9:upd H p1 _=H1;obtain⟨sp1,kp1⟩:=nwq hp1 e9;clear e9;ext;refine⟨[v],[tt],SqL.of kp1,.cons (hd.mono sp1) .nil,by simp only[Trm.sizeL];omega,λu hu'=>by rw[Zd.mp hu'];omega,λp2 us2 H2 s2 hp2 k2 d2=>?_⟩;rw[c6m]at d2;obtain⟨tv,rfl,dt⟩:∃tv,us2=[tv]/\Den K H2 tv (told tt).data:=by
  cases d2 with
  |cons a b=>cases b;exact⟨_,rfl,a⟩
 refine a1j (SqL.of k2) (a6t _ _) ?_;obtain⟨tp,rfl⟩:∃tp,tv=.ref tp:=by
  rw[eg]at dt;cases dt;exact⟨_,rfl⟩
 have s02:=sp1.trans s2;have fb:=fa.same s02;clear k2 kp1 hp2 hp1 d2;have sz:=(tk.len ok);have nu:=ok.nu;obtain⟨kvs,kp,kk⟩:=fb.pl
 (with_reducible refine b6i (λσ' J=>∃x' H3,σ'=[some (.ref f),some v,some (.ref tp)]/\Same H2 H3/\FilA K P w t.k_a0 t.k_a1 L J f x'/\Adv K f H2 J x x'/\Tok L x'.tb/\x'.o.sp=x.o.sp/\told tt∈x'.tb.map (·.1)/\x'.tb.length<=x.tb.length+1) (λσ' J hP=>?_) (λkk2=>?_))
 rotate_left
 ·ext;refine⟨f,_,x.dx,_,_,rfl,fb.ob,T.cl_a0,T.no_a0_places,b4q,?_⟩;ext;refine⟨tp,x.o.pd,(told tt).data,kvs,rfl,rfl,kp,dt,gdp,a4u _,?_⟩;ext;cases hz0:atN kvs (told tt).data with
  |some y=>
   refine iteF ?_
   (with_reducible refine a9j ?_)
   obtain⟨i,as,_,e2⟩:=c6q kk hz0;exact kk2 _ _ ⟨x,H2,rfl,.refl _,fb,.refl,tk,rfl,Z1.mpr ⟨_,Zn e2,rfl⟩,Wh _⟩
  |none=>
   have hnot:=c1b kk.1 hz0;have tk2:=tk.addT hu hnot;have sz2:=tk2.len ok;rw[Zk,Z8]at sz2;have hql:x.qs.length=x.tb.length:=Y0 fb.tbs;refine iteT ?_;ext;refine⟨f,_,x.dx,_,_,rfl,fb.ob,T.cl_a0,T.no_a0_tables,a3z,?_⟩;ext
   exists a5x (SqL.of fb.tl)
   refine iteB (λe=>?_) (λ_=>?_)
   ·have e:(((x.qs.map λq=>V.ref q.t).length:Nat):Int)=24:=Z5 (by simpa using e);rw[length_map]at e;omega
   ext;refine⟨f,_,x.dx,_,_,rfl,fb.ob,T.cl_a0,T.no_a0_tables,a3z,?_⟩;ext
   exists a5x (SqL.of fb.tl)
   refine⟨f,_,x.dx,_,_,rfl,fb.ob,T.cl_a0,T.no_a0_places,b4q,?_⟩;ext;rw[length_map,hql];refine⟨x.o.pd,tp,(told tt).data,kvs,rfl,rfl,kp,dt,gdp,a4u _,hz0,?_⟩;obtain⟨m1,m2,m3⟩:=fb.ne2;have hf3:=(a0d (H:=H2) (o:=dnO P w x.o.pd (kvs++[((told tt).data,tp,.int (x.tb.length:Int))])) m2).trans fb.ob;have ht3:=(a0d (H:=H2) (o:=dnO P w x.o.pd (kvs++[((told tt).data,tp,.int (x.tb.length:Int))])) m3).trans fb.tl;have kt3:KT K H2 (upd H2 x.o.pd (dnO P w x.o.pd (kvs++[((told tt).data,tp,.int (x.tb.length:Int))]))):=.upd kp.ob (λ_ z=>by cases z) (λ_ _ z=>by cases z);have hn3:∀a,(upd H2 x.o.pd (dnO P w x.o.pd (kvs++[((told tt).data,tp,.int (x.tb.length:Int))]))) a=none->H2 a=none:=λa e=>by
    by_cases c:a=x.o.pd
    ·rw[c,a0c]at e;cases e
    ·rw[a0d c]at e;exact e
   obtain⟨kl,l1,l2⟩:=fb.ly;have hl3:=(a0d (H:=H2) (o:=dnO P w x.o.pd (kvs++[((told tt).data,tp,.int (x.tb.length:Int))])) (a0z l1 kp.ob (λz=>by cases z))).trans l1;have dt3:=dt.monoT kt3;have fin:∀{H4:Hp}{q:TO},Same (upd H2 x.o.pd (dnO P w x.o.pd (kvs++[((told tt).data,tp,.int (x.tb.length:Int))]))) H4->_:=λ{H4 q} s h1 h2 h3=>fb.addT (q:=q) kp kk dt gdp hz0 qo s (hn3 _ h1) (hn3 _ h2) (hn3 _ h3)
   generalize upd H2 x.o.pd (dnO P w x.o.pd (kvs++[((told tt).data,tp,.int (x.tb.length:Int))]))=H3 at*;ext;refine⟨f,_,x.dx,_,_,rfl,hf3,T.cl_a0,T.no_a0_tables,a3z,?_⟩;ext;refine⟨.inl ⟨rfl,_,SqL.of ht3⟩,?_⟩;ext;refine⟨f,_,x.dx,_,_,rfl,hf3,T.cl_a0,T.no_a0_layers,d0y,?_⟩;ext;refine⟨x.o.ld,rfl,.inr ⟨kl,.inl hl3⟩,?_⟩;ext;refine⟨w1,ks,by rw[<-eg];exact dt3,λp5 H5 s5 hp5=>?_⟩;ext;refine⟨_,DGet.t (s5 _ _ hl3) hp5,?_⟩;have ev:(valV kl (nd w1 ks.length)).getD (V.int 0)=.int 0:=by
    cases e:valV kl (nd w1 ks.length)with
    |none=>rfl
    |some y=>
     unfold valV at e;obtain⟨z,e1,e2⟩:=Xg.mp e;rw[<-e2];exact l2 z (Tn e1)
   rw[ev];ext;refineλr dr hr1 hr2 hne=>?_
   refine⟨dr,a0c,λal kd H6 hal hkd nak lo bt ho ka kk6=>⟨rfl,?_⟩⟩;have s6:Same H5 H6:=a7g hr1 hr2 bt;have nb:∀a,(upd (upd H5 dr (.own r)) r (.ins t.k_a1 dr [])) a=none->H3 a=none/\a≠r:=λa e=>by
    have z1:a≠r:=λz=>by rw[z,a0c]at e;cases e
    have z2:a≠dr:=λz=>by rw[z,a0d hne,a0c]at e;cases e
    rw[a0d z1,a0d z2]at e;exact⟨a1c s5 e,z1⟩
   obtain⟨fc,ev'⟩:=fin (q:=⟨r,dr,al,kd,.ref tp⟩) (s5.trans s6) (a1c s5 hr1) (nb _ hal).1 (nb _ hkd).1 nak (nb _ hal).2.symm (nb _ hkd).2.symm lo ho ka kk6 (dt3.mono (s5.trans s6));ext
   exists a1w ((s5.trans s6) _ _ ht3) (ln1 (by rw[length_map];omega))
   refine⟨f,_,x.dx,_,rfl,((a0d m1).trans ((s5.trans s6) _ _ hf3)),T.cl_a0,T.no_a0_changed,by show 8<1000;decide,?_⟩;rw[b2y];exact kk2 _ _ ⟨⟨x.H0,x.dx,{ x.o with ch:=true},_,_⟩,H2,rfl,.refl _,fc,⟨ev',.addT _ _ _,rfl,λi q0 e=>(by rw[Wo (Zy.mp e).1];exact e),rfl,rfl,rfl⟩,tk2,rfl,by rw[Zi];exact Z3 _ (Zd.mpr rfl),by rw[Zk];exact Zm _⟩
 obtain⟨x',H3,rfl,s3,fc,av,tk',hsp,hm,hln⟩:=hP;obtain⟨kv,k1,k2⟩:=fc.pl;ext;refine⟨f,_,x'.dx,_,_,rfl,fc.ob,T.cl_a0,T.no_a0_places,b4q,?_⟩;ext;cases hz1:atN kv (told tt).data with
 |none=>exact absurd hm (c1b k2.1 hz1)
 |some y=>
  obtain⟨i,as,rfl,e2⟩:=c6q k2 hz1;exact⟨_,_,_,_,_,rfl,rfl,k1,dt.monoT av.ev.pr.kt,gdp,a4u _,hz1,q x' i as J fc ((Adv.same s02).trans av) tk' hsp e2 hln⟩
end
section
variable{P:Program}{w:World}{K:W.Frag}{mg:Str->Option Value}{base:Heap}{t:Ad}
theorem c5m(T:Txt K mg t)  :FnOk P w K mg base CX0 1 t.a_c4 t.d_c4 ["self","lefts","rights"] (a8o K t.k_a5):=by
 exists T.F_c4.ok c5h,a8o,(a0e (a1q (mv 0) (mv 1) rfl) (a0e (a1q (mv 0) (mv 2) rfl) (a0g (a1q (mv 0) a0f rfl)))),H,Q,E,hr,h
 rename_i r a b;obtain⟨dr,hx,q⟩:=h;ext;refine⟨r,_,dr,_,rfl,hx,T.cl_a5,T.no_a5_lefts,qz,?_⟩;ext;refine⟨r,_,dr,_,rfl,a0c,T.cl_a5,T.no_a5_rights,a5m b4p,?_⟩;ext;refine⟨r,_,dr,_,rfl,a0c,T.cl_a5,T.no_a5_taken,a5m (a5m b4p),?_⟩;refine q _ (λc o hc ho=>?_) a0c;rw[a0d hc,a0d hc,a0d hc];exact ho
theorem b9b(T:Txt K mg t)  :FnOk P w K mg base CX0 1 t.a_f7 t.d_f7 ["self","puts","noted"] (a7o K t.k_a2):=by
 exists T.F_f7.ok b8g,a7o,(a0e (a1q (mv 0) (mv 1) rfl) (a0e (a1q (mv 0) (mv 2) rfl) (a0e (a1q (mv 0) (a1n a0b) rfl) (a0g (a1q (mv 0) a6y rfl))))),H,Q,E,hr,h
 rename_i j pd nl;obtain⟨dx,hx,q⟩:=h;ext;refine⟨j,_,dx,_,rfl,hx,T.cl_a2,T.no_a2_puts,qz,?_⟩;ext;refine⟨j,_,dx,_,rfl,a0c,T.cl_a2,T.no_a2_noted,a5m b4p,?_⟩;ext;refine⟨Z4 _,λrl hrl=>?_⟩;have njr:j≠rl:=λz=>by rw[<-z,a0c]at hrl;cases hrl
 have hrl0:H rl=none:=by rw[a0d (Ne.symm njr),a0d (Ne.symm njr)]at hrl;exact hrl
 ext;refine⟨j,_,dx,_,rfl,by rw[a0d njr];exact a0c,T.cl_a2,T.no_a2_rows,a5m (a5m b4p),?_⟩;ext;intro md hmd;have njm:j≠md:=λz=>by rw[<-z,a0c]at hmd;cases hmd
 rw[a0d (Ne.symm njm)]at hmd;have nrm:rl≠md:=λz=>by rw[<-z,a0c]at hmd;cases hmd
 have hmd0:H md=none:=by rw[a0d (Ne.symm nrm),a0d (Ne.symm njm),a0d (Ne.symm njm)]at hmd;exact hmd
 ext;refine⟨j,_,dx,_,rfl,by rw[a0d njm];exact a0c,T.cl_a2,T.no_a2_met,a5m (a5m (a5m b4p)),?_⟩;refine q rl md _ hrl0 hmd0 nrm (λc o hc ho=>?_) a0c ?_ ?_
 ·have c1:c≠rl:=a0p ho hrl0;have c2:c≠md:=a0p ho hmd0;rw[a0d hc,a0d c2,a0d hc,a0d c1,a0d hc,a0d hc];exact ho
 ·rw[a0d (Ne.symm njr),a0d nrm,a0d (Ne.symm njr)];exact a0c
 ·rw[a0d (Ne.symm njm)];exact a0c
theorem b9c(T:Txt K mg t)  :FnOk P w K mg base CX0 1 t.a_c0 t.d_c0 ["self"] (a5s K t.k_a2 t.k_a5):=by
 exists T.F_c0.ok b8h,a5s,(a0g (a0u (a2i (c2s K rfl) rfl T.n_h4 boot_tuple (a0a (a4e rfl (a1l K rfl (a7t (a9k K rfl) (a0v (mv 0) rfl) (a9h a0f) a9g)) (a3p (a0i a6o) ["self"] ["self"] rfl rfl qk) (λ_ _ _ _ _=>a3o) (λ_ _ _ _ _=>(a1g b3v (b1j K rfl (mv 0) rfl) a0f))) a0b)))),H,Q,E,hr,h
 rename_i j;obtain⟨H0,dx,pd,nl,rl,md,me,rows,rs,js,hl,q⟩:=h;ext;refine⟨j,_,dx,_,_,rfl,js.o,T.cl_a2,T.no_a2_rows,a8f,?_⟩;ext;refine⟨rl,_,rfl,SqL.of js.rws,λp hp=>?_⟩;rw[c3r _ 1 qd,show(rs.map λq=>V.ref q.r).drop (1:Int).toNat=rs.tail.map λq=>V.ref q.r by rw[<-Ue];simp];have sp:Same H (upd H p (.lst (rs.tail.map λq=>V.ref q.r))):=a0l hp _;have kp:(upd H p (.lst (rs.tail.map λq=>V.ref q.r))) p=some (.lst (rs.tail.map λq=>V.ref q.r)):=a0c;generalize upd H p (.lst (rs.tail.map λq=>V.ref q.r))=H1 at sp kp ⊢;ext;refine⟨p,rfl,⟨_,SqL.of kp⟩,λD hD=>?_⟩;have hlt:rs.tail.length<=50:=by rw[List.length_tail];omega
 refine a2q (a1i (xs:=rs.tail.map λq=>V.ref q.r)) (λi ys H'=>Same H1 H'/\ys=((rs.tail.take i).map λq=>q.k-1).map V.int/\H' D=some (.lst ys)) (ln (by rw[length_map];omega)) ⟨a0l hD _,rfl,a0c⟩ (λi ys H' hP=>SqL.of (hP.1 _ _ kp)) (λi ys H' Q' hi hl' hP k=>?_) (λys H' hl' hP=>?_)
 ·obtain⟨g1,g2,g3⟩:=hP;rw[length_map]at hi;have hx:(rs.tail.map λq=>V.ref q.r).getD i .non=.ref (rs.tail[i]).r:=by
   rw[Yd,Zv,Za hi];rfl
  rw[hx];have hm:rs.tail[i]∈rs:=List.mem_of_mem_tail (Z6 hi);have ho:=(sp.trans g1) _ _ (js.ro _ hm).1;ext;refine⟨_,_,_,_,_,rfl,ho,T.cl_a5,T.no_a5_taken,a8u,?_⟩;ext;refine k _ _ g3 ⟨a0x g1 hD,?_,a0c⟩;rw[g2,We,Za hi,Zi,Zi];rfl
 ·obtain⟨g1,g2,g3⟩:=hP;rw[length_map,Y6 (Zm _)]at g2;ext;rw[g2]at g3;refine⟨D,_,rfl,.inl ⟨SqL.of g3,λl hl2=>?_⟩⟩;exact q l _ ((sp.trans g1).trans (a0l hl2 _)) (SqT.of a0c)
theorem b7c(T:Txt K mg t)  :FnOk P w K mg base CX0 1 t.a_e2 t.d_e2 ["name","term","puts"] (a7a K):=by
 exists T.F_e2.ok a5c,a7a,(a0e (a0q (i:=3) a5c.nd rfl (by nofun) a6y) (a0e (a0q (i:=4) (hs:=a5y) a5c.nd rfl (by nofun) (a1n (a0a (mv 1) a0b))) (a0e (a5u Zz (a3t K rfl (mv 4)) (a0e (a0q (i:=5) (hs:=a1h) a5c.nd rfl (by nofun) (b3x K rfl Z7 Ws Vg b3w (mv 4))) (a0e (a1e (a0y (c9p K rfl (a2z hr)) (mv 5) (a0s (a0a a0t (a0a (mv 0) a0b))) (a1b _)) (a0g (a0u a4d)) a1a) (a0g (a1e (a0y a2a (a0j (a0h K rfl) (mv 5) a0f (λ_ _=>rfl)) a0t (a1b _)) (a0g (a1f (a2y K rfl Z7 X8 Vq (b0m K rfl) (mv 4) (a0a (a0j (a0h K rfl) (mv 5) a0f (λ_ _=>rfl)) a0b)))) (a0g (a1e (PW.pt (b3n (a0y a2a (a0j (a0h K rfl) (mv 5) a0f (λ_ _=>rfl)) a0t (a1b _)) (b3n (a0y (c9l (a3v hr)) (a0j (a0h K rfl) (mv 5) a0f (λ_ _=>rfl)) (mv 2) (by with_unfolding_all rfl)) (b5a (a0y (ko_ninD (a3v hr)) (a0j (a0h K rfl) (mv 5) a0f (λ_ _=>rfl)) (mv 3) (by with_unfolding_all rfl)))))) (a0e (a7u (a3v hr) (mv 3) (a0j (a0h K rfl) (mv 5) a0f (λ_ _=>rfl)) a4d rfl) (a0g (a1f (a2y K rfl Z7 Yl Yo a2d (mv 4) (a0a (b1e (a3v hr) (mv 2) (a0j (a0h K rfl) (mv 5) a0f (λ_ _=>rfl)) (λ_ _=>rfl)) a0b))))) a1a))))))) (a0g (a0u a4d))))),H,Q,E,hr,h
 rename_i x v pd;obtain⟨t0,rows,hd,hP,hc,q⟩:=h;ext;intro se hse;have ss:Same H (upd H se (.dK [])):=a0l hse _;generalize upd H se (.dK [])=Hs at ss ⊢;ext;refine⟨ln (by show 1<=100000;decide),λp hp=>?_⟩;have sp:Same Hs (upd Hs p (.lst [v])):=a0l hp _;have kp:(upd Hs p (.lst [v])) p=some (.lst [v]):=a0c;generalize upd Hs p (.lst [v])=H1 at sp kp ⊢;ext;have s1:=ss.trans sp;have hpH:H p=none:=ss.free hp;refine a4s (λn σ' H'=>∃(us:List V)(ts:List Trm)(o:Option V),σ'=[some (.str x),some v,some (.ref pd),some (.ref se),some (.ref p),o]/\H' p=some (.lst us)/\DenL K H' us (Trm.dataL ts)/\(∀t∈ts,a8n x rows t)/\Trm.sizeL ts<=60/\n=Trm.sizeL ts/\Same H H') t0.size ⟨[v],[t0],none,rfl,kp,.cons (hd.mono s1) .nil,λt ht=>by rw[Zd.mp ht];exact hc,?_,by simp[Trm.sizeL],s1⟩ (λn σ' H' R hP2 kT kF=>?_)
 ·have:=hc.sz;simp only[Trm.sizeL];omega
 obtain⟨us,ts,o,rfl,h1,h2,h3,h4,h5,h6⟩:=hP2;ext;refine .inl ⟨us,SqL.of h1,?_⟩;rcases nil_or_snoc' ts with rfl|⟨ts0,t1,rfl⟩
 ·have e:=h2.nil_inv;subst e
  exists kF H'
  exact q H' h6
 rw[Trm.dataL_map,Zi,<-Trm.dataL_map]at h2;obtain⟨us',u,rfl,g1,g2⟩:=DenL.snoc h2;rw[Trm.sizeL_app]at h4 h5;have z1:Trm.sizeL [t1]=t1.size:=by simp[Trm.sizeL]
 rw[z1]at h4 h5;have typ:=t1.size_pos;have hc1:=h3 t1 qz;rw[show(!(us'++[u]).isEmpty)=true by simp];refine kT H' (λD' e1 e2 hnx hct=>?_);ext;refine⟨.inl ⟨rfl,_,SqL.of h1⟩,?_⟩;refine b3y h1 ?_;have f3:DenL K (upd H' p (.lst us')) us' (Trm.dataL ts0):=g1.lst h1;have f4:Den K (upd H' p (.lst us')) u t1.data:=g2.lst h1;have f5:Same H (upd H' p (.lst us')):=a0x h6 hpH;have k6:(upd H' p (.lst us')) p=some (.lst us'):=a0c;generalize upd H' p (.lst us')=J at f3 f4 f5 k6 ⊢;ext;refine⟨ln (by show 2<=100000;decide),λpa hpa=>?_⟩;have spa:Same J (upd J pa (.tup [.str "any",.str x])):=a0l hpa _;have kpa:(upd J pa (.tup [.str "any",.str x])) pa=some (.tup [.str "any",.str x]):=a0c;generalize upd J pa (.tup [.str "any",.str x])=J1 at spa kpa ⊢;ext;have hda:Den K J1 (.ref pa) (Trm.any x).data:=.tup (SqT.of kpa) (.cons (.str _) (.cons (.str _) .nil));refine c9q (f4.mono spa) hda qo ?_;rw[d0q hc1,Zp];ext;refine iteF ?_;have f3:=f3.mono spa;have f4:=f4.mono spa;have f5:=f5.trans spa;have k6:=spa _ _ k6;ext;have hlen:=f3.length;rw[Trm.dataL_map,length_map]at hlen;have hl2:=Trm.len_le ts0;cases t1 with
 |num m=>
  obtain⟨a,rfl,hs⟩:=a3a f4
  exists a0m hs (v:=.str numS) rfl
  rw[Zp,q4];refine iteF ?_;ext
  exists a0m hs (v:=.str numS) rfl
  rw[Zp,q1];refine iteF ?_;ext;refine iteF ?_
  (with_reducible refine a9j ?_)
  exact hnx _ _ _ qo ⟨us',ts0,_,rfl,k6,f3,λt ht=>h3 t (by simp[ht]),qo,rfl,f5⟩
 |any y=>
  obtain⟨a,rfl,hs⟩:=a2r f4;have hy:a0w rows y=none:=hc1.fr y (Zd.mpr rfl)
  exists a0m hs (v:=.str anyS) rfl
  rw[Zp,q5];refine iteF ?_;ext
  exists a0m hs (v:=.str anyS) rfl
  rw[Zp,q3];refine iteT ?_;ext
  exists a0m hs (v:=.str y) rfl
  rcases(hP.mono f5).get y with⟨_,c2⟩|⟨_,_,c1,_⟩
  ·refine⟨pd,_,rfl,c2,?_⟩;ext;refine iteF ?_;ext;refine iteF ?_
   (with_reducible refine a9j ?_)
   exact hnx _ _ _ qo ⟨us',ts0,_,rfl,k6,f3,λt ht=>h3 t (by simp[ht]),qo,rfl,f5⟩
  ·rw[hy]at c1;cases c1
 |app sg ks=>
  obtain⟨a,b,uk,rfl,hs,hb,hk⟩:=a2g f4;have hlf:=d0r hc1;have hkk:=Trm.len_le ks;have hkl:=hk.length;rw[Trm.dataL_map,length_map]at hkl;rw[Trm.size]at h4 h5
  exists a0m hs (v:=.str appS) rfl
  rw[Zp,q6];refine iteT ?_;ext;refine⟨.inl ⟨rfl,_,SqL.of k6⟩,?_⟩;ext
  exists a0m hs (v:=.ref b) rfl
  refine⟨p,b,us',uk,rfl,rfl,k6,.inr hb,ln qo,?_⟩;refine hnx _ _ (Trm.sizeL (ts0++ks)) (by rw[Trm.sizeL_app];omega) ⟨us'++uk,ts0++ks,_,rfl,a0c,?_,λt ht=>?_,by rw[Trm.sizeL_app];omega,rfl,a0x f5 hpH⟩
  ·rw[a3w];exact(f3.lst k6).append (hk.lst k6)
  ·rcases Zr.mp ht with z|z
   ·exact h3 t (by simp[z])
   ·exact hlf t z
end
section
variable{P:Program}{w:World}{K:W.Frag}{mg:Str->Option Value}{base:Heap}{t:Ad}
theorem b4x(T:Txt K mg t)(G_e2:FnOk P w K mg base CX0 1 t.a_e2 t.d_e2 ["name","term","puts"] (a7a K))(G_c0:FnOk P w K mg base CX0 1 t.a_c0 t.d_c0 ["self"] (a5s K t.k_a2 t.k_a5)):FnOk P w K mg base CX0 2 t.a_c6 t.d_c6 ["self","name","term"] (a6i K t.k_a2 t.k_a5):=by
 exists T.F_c6.ok b4k,a6i,(a0e (a1e (a3t K rfl (a0k G_e2 hr.o rfl T.m_e2 T.F_e2.kp T.b_e2 .nil a0o (a0a (mv 1) (a0a (mv 2) (a0a (a0v (mv 0) rfl) a0b))))) (a0g (a0u (a0s (a0a a0t (a0a (a9v (mv 0) T.cl_a2 T.me_c0 G_c0 hr.o T.b_c0 .nil a0o) (a0a (mv 1) a0b)))))) a1a) (a0e (a7u (a3v hr) (a0v (mv 0) rfl) (mv 1) (mv 2) rfl) (a0e (a1f (a2y K rfl Z7 Yl Yo a2d (a0v (mv 0) rfl) (a0a (mv 1) a0b))) (a0g (a0u a9s))))),H,Q,E,hr,h
 rename_i j x v;obtain⟨H0,dx,pd,nl,rl,md,me,rows,rs,t0,js,hd,hc,hn,hl,q⟩:=h;ext;refine⟨j,_,dx,_,_,rfl,js.o,T.cl_a2,T.no_a2_puts,b5n,?_⟩;ext;refine⟨t0,rows,hd,js.put,hc,λH1 s1=>?_⟩;have js1:=js.same s1;ext;refine iteF ?_;ext;refine⟨j,_,dx,_,_,rfl,js1.o,T.cl_a2,T.no_a2_puts,b5n,?_⟩;ext;obtain⟨kvs,e0,ok⟩:=js1.put.ex;have hkl:=ok.len;refine⟨pd,_,rfl,.inl ⟨kvs,.inr x,e0,rfl,ln1 qo,rfl⟩,?_⟩;have hpr:putR rows x t0=rows++[(x,t0)]:=b6k (b6w hn);obtain⟨un,hno,hun⟩:=js1.note;obtain⟨js2,kt2⟩:=js1.put2 (us':=un++[V.str x]) (by rw[hpr,Zk,Zk];simp only[Z8];omega) (ok.put (x:=x) (v:=v) (t:=t0) (hd.mono s1));have o2:(upd H1 pd (.dK (putK kvs (Sum.inr x) v))) j=some (.ins t.k_a2 dx (jF pd nl rl md)):=by rw[a0d (a0z js1.o e0 (λz=>by cases z))];exact js1.o
 have e3:(upd H1 pd (.dK (putK kvs (Sum.inr x) v))) nl=some (.lst un):=by rw[a0d (a0z hno e0 (λz=>by cases z))];exact hno
 generalize upd H1 pd (.dK (putK kvs (Sum.inr x) v))=H2 at js2 kt2 e3 o2 ⊢;ext;refine⟨j,_,dx,_,_,rfl,o2,T.cl_a2,T.no_a2_noted,d3t,?_⟩;ext;refine⟨.inl ⟨rfl,_,SqL.of e3⟩,?_⟩;ext
 exists a1w e3 (ln1 qo)
 exact q _ ((KT.same s1).trans kt2) js2
theorem b1u(T:Txt K mg t)(G_c4:FnOk P w K mg base CX0 1 t.a_c4 t.d_c4 ["self","lefts","rights"] (a8o K t.k_a5)):FnOk P w K mg base CX0 3 t.a_e6 t.d_e6 ["self","left","right"] (a4m K t.k_a2 t.k_a5):=by
 exists T.F_e6.ok b1k,a4m,(a0g (a1e (a0y (ko_ninE K rfl (a2z hr)) (a0s (a0a (mv 1) (a0a (mv 2) a0b))) (a0v (mv 0) rfl) (by with_unfolding_all rfl)) (a0e (b3o a4d (c2a (a0v (mv 0) rfl) (a0s (a0a (mv 1) (a0a (mv 2) a0b))) (d2w K rfl (a2z hr)))) (a0g (a1f (a2y K rfl Z7 Yl Yo a2d (a0v (mv 0) rfl) (a0a (a7s T.mk_a5 G_c4 hr.o rfl T.m_a5 T.b_c4 .nil a0o (a0a (a0j (a0h K rfl) (mv 1) a0f (λ_ _=>rfl)) (a0a (a0j (a0h K rfl) (mv 2) a0f (λ_ _=>rfl)) a0b))) a0b))))) a1a)),H,Q,E,hr,h
 rename_i j v v';obtain⟨H0,dx,pd,nl,rl,md,rows,rs,s1,ks,s2,ls,js,hd,hd',hz,hz',hl,q⟩:=h;ext;refine⟨ln (by show 2<=100000;decide),λp1 hp1=>?_⟩;have sp1:Same H (upd H p1 (.tup [v,v'])):=a0l hp1 _;have kp1:(upd H p1 (.tup [v,v'])) p1=some (.tup [v,v']):=a0c;generalize upd H p1 (.tup [v,v'])=H1 at sp1 kp1 ⊢;ext;have js1:=js.same sp1;refine⟨j,_,dx,_,_,rfl,js1.o,T.cl_a2,T.no_a2_met,d0s,?_⟩;ext;obtain⟨om,m1,_,_,_,_,m2⟩:=js1.md0;have m2:=m2 rfl;subst m2;have hp:Den K H1 (.ref p1) (.tuple [(Trm.app s1 ks).data,(Trm.app s2 ls).data]):=.tup (SqT.of kp1) (.cons (hd.mono sp1) (.cons (hd'.mono sp1) .nil));refine⟨p1,md,_,rfl,rfl,m1,hp,b8m _ _,b8l hz hz',?_⟩;ext;refine iteT ?_;ext;refine⟨j,_,dx,_,_,rfl,js1.o,T.cl_a2,T.no_a2_met,d0s,?_⟩;ext;refine⟨ln (by show 2<=100000;decide),λp2 hp2=>?_⟩;have sp2:Same H1 (upd H1 p2 (.tup [v,v'])):=a0l hp2 _;have kp2:(upd H1 p2 (.tup [v,v'])) p2=some (.tup [v,v']):=a0c;generalize upd H1 p2 (.tup [v,v'])=H2 at sp2 kp2 ⊢;ext;have js2:=js1.same sp2;have hp2:Den K H2 (.ref p2) (.tuple [(Trm.app s1 ks).data,(Trm.app s2 ls).data]):=.tup (SqT.of kp2) (.cons (hd.mono (sp1.trans sp2)) (.cons (hd'.mono (sp1.trans sp2)) .nil));refine⟨md,p2,_,rfl,rfl,sp2 _ _ m1,hp2,b8m _ _,b8l hz hz',?_⟩;obtain⟨js3,kt3⟩:=js2.upd_md (om:=OpD md) (λ_ z=>by cases z) (λ_ z=>by cases z) (λ_ _ z=>by cases z) (λ_ _ _ z=>by cases z);generalize upd H2 md (OpD md)=H3 at js3 kt3 ⊢;have kt03:KT K H H3:=(KT.same (sp1.trans sp2)).trans kt3;obtain⟨a1,b1,us1,rfl,a2,a3,a4⟩:=a2g (hd.monoT kt03);obtain⟨c1,d1,us2,rfl,c2,c3,c4⟩:=a2g (hd'.monoT kt03);ext;refine⟨j,_,dx,_,_,rfl,js3.o,T.cl_a2,T.no_a2_rows,a8f,?_⟩;ext;refine⟨.inl ⟨rfl,_,SqL.of js3.rws⟩,?_⟩;ext
 exists a0m a2 (v:=.ref b1) rfl
 exists a0m c2 (v:=.ref d1) rfl
 refineλr dr hr1 hr2 hne=>?_
 refine⟨dr,a0c,λH4 bt ho=>⟨rfl,?_⟩⟩;have s4:Same H3 H4:=a7g hr1 hr2 bt;have js4:=js3.same s4;have hr0:H0 r=none:=js3.sm.free hr1 (λz=>by obtain⟨k0,e0,_⟩:=js3.put.ex;rw[z,e0]at hr1;cases hr1) (λz=>by obtain⟨_,n1,_⟩:=js3.note;rw[z,n1]at hr1;cases hr1);have hrj:r≠j:=Ne.symm (a0p js3.o hr1);ext;refine a1w js4.rws (ln1 (by rw[length_map];omega)) ?_;have er:((rs.map λq=>V.ref q.r)++[V.ref r])=(rs++[(⟨r,dr,.ref b1,.ref d1,0⟩:RwO)]).map λq=>V.ref q.r:=by simp
 rw[er]
 obtain⟨js5,kt5⟩:=js4.upd_rl (rs':=rs++[⟨r,dr,.ref b1,.ref d1,0⟩]) (λq hq=>by
  rcases Zr.mp hq with z|z
  ·exact js4.ro q z
  ·rw[Zd.mp z];exact⟨ho,hr0,hrj⟩) (by
  rw[Zi,Yb];refine⟨js4.nd,qz,λx hx y hy e=>?_⟩;obtain⟨q,hq,rfl⟩:=Z1.mp hx;have hy:y=r:=by simpa using hy
  rw[hy]at e;have:=(js3.ro q hq).1;rw[e,hr1]at this
  cases this)
 have kt35:KT K H3 _:=(KT.same s4).trans kt5;exact q _ r dr b1 d1 us1 us2 (kt03.trans kt35) js5 (kt35 _ _ a3) (a4.monoT kt35) (kt35 _ _ c3) (c4.monoT kt35)
end
section
variable{P:Program}{w:World}{K:W.Frag}{mg:Str->Option Value}{base:Heap}{t:Ad}
theorem d1l{rows:Rws}{n:Int}{r:Trm}(h:nany r=true)(e:eqb (.num n) r=false):pl2 rows (.num n) r=.part (keyL (.num n)) (keyL r)/\keyL (.num n)≠keyL r:=by
 cases r with
 |any x=>cases h
 |num m=>
  refine⟨by rw[pl2,if_neg (by rw[e];exact Zo)];rfl,λz=>?_⟩;have e:decide (n=m)=false:=e;have z:([Sum.inr numS,Sum.inl n]:List Key)=[Sum.inr numS,Sum.inl m]:=z
  simp at z
  exact Xc e z
 |app s ks=>
  refine⟨by rw[pl2,if_neg (by rw[e];exact Zo)];rfl,λz=>?_⟩;have z:([Sum.inr numS,Sum.inl n]:List Key)=[Sum.inr appS,Sum.inr s,Sum.inl (ks.length:Int)]:=z
  simp at z
theorem d1m{rows:Rws}{s:Str}{ks:List Trm}{r:Trm}(h:nany r=true)(e:eqb (.app s ks) r=false):(pl2 rows (.app s ks) r=.part (keyL (.app s ks)) (keyL r)/\keyL (.app s ks)≠keyL r)\/∃ls,r=.app s ls/\ks.length=ls.length/\pl2 rows (.app s ks) r=.kids s ks ls:=by
 cases r with
 |any x=>cases h
 |num m=>
  refine .inl ⟨by rw[pl2,if_neg (by rw[e];exact Zo)];rfl,λz=>?_⟩;have z:([Sum.inr appS,Sum.inr s,Sum.inl (ks.length:Int)]:List Key)=[Sum.inr numS,Sum.inl m]:=z
  simp at z
 |app s' ls=>
  have e1:pl2 rows (.app s ks) (.app s' ls)=if s=s'/\ks.length=ls.length then .kids s ks ls else .part (keyL (.app s ks)) (keyL (.app s' ls)):=by rw[pl2,if_neg (by rw[e];exact Zo)];rfl
  by_cases hc:s=s'/\ks.length=ls.length
  ·obtain⟨rfl,hc2⟩:=hc;exact .inr ⟨ls,rfl,hc2,by rw[e1,if_pos ⟨rfl,hc2⟩]⟩
  ·refine .inl ⟨by rw[e1,if_neg hc],λz=>hc ?_⟩;have z:([Sum.inr appS,Sum.inr s,Sum.inl (ks.length:Int)]:List Key)=[Sum.inr appS,Sum.inr s',Sum.inl (ls.length:Int)]:=z;simp only[Tb,Sum.inr.injEq,Sum.inl.injEq,and_true,true_and]at z;exact⟨z.1,by have:=z.2;omega⟩
theorem key_app{s:Str}{ks ls:List Trm}(h:ks.length=ls.length):keyL (.app s ks)=keyL (.app s ls):=by
 show([Sum.inr appS,Sum.inr s,Sum.inl (ks.length:Int)]:List Key)=[Sum.inr appS,Sum.inr s,Sum.inl (ls.length:Int)]
 rw[h]
theorem c1y{a b:List Key}(h:a≠b):(!decide (a=b))=true:=by rw[Zs h];rfl
theorem b1v(T:Txt K mg t)(G_a8:FnOk P w K mg base CX0 1 t.a_a8 t.d_a8 ["term","puts"] (a7f K))(G_e6:FnOk P w K mg base CX0 3 t.a_e6 t.d_e6 ["self","left","right"] (a4m K t.k_a2 t.k_a5))(G_c6:FnOk P w K mg base CX0 2 t.a_c6 t.d_c6 ["self","name","term"] (a6i K t.k_a2 t.k_a5))(G_b4:FnOk P w K mg base CX0 1 t.a_b4 t.d_b4 ["term"] (b4n K))(G_c0:FnOk P w K mg base CX0 1 t.a_c0 t.d_c0 ["self"] (a5s K t.k_a2 t.k_a5)):FnOk P w K mg base CX0 4 t.a_e8 t.d_e8 ["self","one","other"] (a4n K t.k_a2 t.k_a5):=by
 exists T.F_e8.ok a4i,a4n,(a0e (a0q (i:=3) (hs:=a1h) a4i.nd rfl (by nofun) (a0k G_a8 hr.o rfl T.m_a8 T.F_a8.kp T.b_a8 .nil a0o (a0a (mv 1) (a0a (a0v (mv 0) rfl) a0b)))) (a0e (a0q (i:=4) (hs:=a1h) a4i.nd rfl (by nofun) (a0k G_a8 hr.o rfl T.m_a8 T.F_a8.kp T.b_a8 .nil a0o (a0a (mv 2) (a0a (a0v (mv 0) rfl) a0b)))) (a0e (a1e (a0y (c9p K rfl (a2z hr)) (mv 3) (mv 4) (a1b _)) (a0g (a0u a9s)) a1a) (a0e (a1e (a0y a2a (a0j (a0h K rfl) (mv 3) a0f (λ_ _=>rfl)) a0t (a1b _)) (a0g (a0u (a3m (mv 0) T.cl_a2 T.me_c6 G_c6 hr.o T.b_c6 .nil a0o (a0a (a0j (a0h K rfl) (mv 3) a0f (λ_ _=>rfl)) (a0a (mv 4) a0b))))) a1a) (a0e (a1e (a0y a2a (a0j (a0h K rfl) (mv 4) a0f (λ_ _=>rfl)) a0t (a1b _)) (a0g (a0u (a3m (mv 0) T.cl_a2 T.me_c6 G_c6 hr.o T.b_c6 .nil a0o (a0a (a0j (a0h K rfl) (mv 4) a0f (λ_ _=>rfl)) (a0a (mv 3) a0b))))) a1a) (a0e (a1e (a0y (ko_neKs K rfl (a2z hr)) (a0k G_b4 hr.o rfl T.m_b4 T.F_b4.kp T.b_b4 .nil a0o (a0a (mv 3) a0b)) (a0k G_b4 hr.o rfl T.m_b4 T.F_b4.kp T.b_b4 .nil a0o (a0a (mv 4) a0b)) (a1b _)) (a0g (a0u (a0s (a0a a0t (a0a (a9v (mv 0) T.cl_a2 T.me_c0 G_c0 hr.o T.b_c0 .nil a0o) (a0a (a0k G_b4 hr.o rfl T.m_b4 T.F_b4.kp T.b_b4 .nil a0o (a0a (mv 3) a0b)) (a0a (a0k G_b4 hr.o rfl T.m_b4 T.F_b4.kp T.b_b4 .nil a0o (a0a (mv 4) a0b)) a0b))))))) a1a) (a0e (a1f (a3m (mv 0) T.cl_a2 T.me_e6 G_e6 hr.o T.b_e6 .nil a0o (a0a (mv 3) (a0a (mv 4) a0b)))) (a0g (a0u a9s))))))))),H,Q,E,hr,h
 rename_i j v v';obtain⟨H0,dx,pd,nl,rl,md,me,rows,rs,t0,t1,n0,n1,L,R,js,hd,hd',w0,w1,okp,hln,q⟩:=h;have hrl:=okp.len;ext;refine⟨j,_,dx,_,_,rfl,js.o,T.cl_a2,T.no_a2_puts,b5n,?_⟩;ext;refine⟨rows,t0,n0,_,js.put,hd,w0,λvl dl=>?_⟩;ext;refine⟨j,_,dx,_,_,rfl,js.o,T.cl_a2,T.no_a2_puts,b5n,?_⟩;ext;refine⟨rows,t1,n1,_,js.put,hd',w1,λvr dR=>?_⟩;have nl0:∀y,L=.any y->a0w rows y=none:=w0.hnf;have nr0:∀y,R=.any y->a0w rows y=none:=w1.hnf;have dL:=dl;have zl:=okp.zl;have zr:=okp.zr;ext;refine c9q dL dR qo ?_;rw[Zp];ext
 exists e
 ·ext;rw[pl2,if_pos e]at q;exact q H (KT.refl H) js
 have e':¬eqb L R=true:=by rw[e];exact Zo
 ext;cases L with
 |any x=>
  obtain⟨a,rfl,hs⟩:=a2r dL
  exists a0m hs (v:=.str anyS) rfl
  rw[Zp,q3];refine iteT ?_;ext;refine⟨j,dx,_,rfl,js.o,a8p qk,?_⟩;ext
  exists a0m hs (v:=.str x) rfl
  have hq:pl2 rows (.any x) R=.go (putR rows x R):=by rw[pl2,if_neg e'];rfl
  rw[hq]at q;refine⟨H0,dx,pd,nl,rl,md,me,rows,rs,R,js,dR,?_,nl0 x rfl,hrl,λH1 k1 js1=>?_⟩
  ·exact okp.cl x rfl e'
  ·ext;exact q H1 k1 js1
 |num n=>
  obtain⟨a,rfl,hs⟩:=a3a dL
  exists a0m hs (v:=.str numS) rfl
  rw[Zp,q1];refine iteF ?_;ext;cases R with
  |any y=>
   obtain⟨a2,rfl,hs2⟩:=a2r dR
   exists a0m hs2 (v:=.str anyS) rfl
   rw[Zp,q3];refine iteT ?_;ext;refine⟨j,dx,_,rfl,js.o,a8p qk,?_⟩;ext
   exists a0m hs2 (v:=.str y) rfl
   have hq:pl2 rows (.num n) (.any y)=.go (putR rows y (.num n)):=by rw[pl2,if_neg e'];rfl
   rw[hq]at q;exact⟨H0,dx,pd,nl,rl,md,me,rows,rs,_,js,dL,okp.cr y rfl rfl,nr0 y rfl,hrl,λH1 k1 js1=>q H1 k1 js1⟩
  |num m=>
   obtain⟨hpl,hne⟩:=d1l (rows:=rows) (r:=.num m) rfl e;have fL:nany (.num n)=true:=rfl;have fR:nany (.num m)=true:=rfl;obtain⟨a2,rfl,hs2⟩:=a3a dR
   exists a0m hs2 (v:=.str numS) rfl
   rw[Zp,q1];refine iteF ?_;ext;refine⟨.num n,dL,?_⟩;rw[a1x fL];refineλk1 J1 t1 e1=>?_
   ext;refine⟨.num m,dR.mono t1,?_⟩;rw[a1x fR];refineλk2 J2 t2 e2=>?_
   have js2:=js.same (t1.trans t2);refine⟨k1,keyL (.num n),rfl,SqT.of (t2 _ _ e1),.inr ⟨k2,keyL (.num m),rfl,SqT.of e2,?_⟩⟩;ext;refine iteB (λe=>?_) (λe=>absurd e (by rw[c1y hne];exactλz=>by cases z));ext;refine⟨j,dx,_,rfl,js2.o,a8p qk,?_⟩;ext;refine⟨H0,dx,pd,nl,rl,md,me,rows,rs,js2,hln,λp3 J3 t3 e3=>?_⟩;ext;have t03:=t1.trans (t2.trans t3);refine⟨.num n,dL.mono t03,?_⟩;rw[a1x fL];refineλk4 J4 t4 e4=>?_
   ext;refine⟨.num m,dR.mono (t03.trans t4),?_⟩;rw[a1x fR];refineλk5 J5 t5 e5=>?_
   ext;refine⟨ln (by show 4<=100000;decide),λp6 hp6=>?_⟩;have t05:=t03.trans (t4.trans t5);have t6:=a0l hp6 (.tup [.str "part",.ref p3,.ref k4,.ref k5]);rw[hpl]at q;exact q _ _ (KT.same (t05.trans t6)) (js.same (t05.trans t6)) ⟨_,_,rfl,SqT.of a0c⟩
  |app s2 ls=>
   obtain⟨hpl,hne⟩:=d1l (rows:=rows) (r:=.app s2 ls) rfl e;have fL:nany (.num n)=true:=rfl;have fR:nany (.app s2 ls)=true:=rfl;obtain⟨a2,b2,us2,rfl,hs2,hb2,hk2⟩:=a2g dR
   exists a0m hs2 (v:=.str appS) rfl
   rw[Zp,q2];refine iteF ?_;ext;refine⟨.num n,dL,?_⟩;rw[a1x fL];refineλk1 J1 t1 e1=>?_
   ext;refine⟨.app s2 ls,dR.mono t1,?_⟩;rw[a1x fR];refineλk2 J2 t2 e2=>?_
   have js2:=js.same (t1.trans t2);refine⟨k1,keyL (.num n),rfl,SqT.of (t2 _ _ e1),.inr ⟨k2,keyL (.app s2 ls),rfl,SqT.of e2,?_⟩⟩;ext;refine iteB (λe=>?_) (λe=>absurd e (by rw[c1y hne];exactλz=>by cases z));ext;refine⟨j,dx,_,rfl,js2.o,a8p qk,?_⟩;ext;refine⟨H0,dx,pd,nl,rl,md,me,rows,rs,js2,hln,λp3 J3 t3 e3=>?_⟩;ext;have t03:=t1.trans (t2.trans t3);refine⟨.num n,dL.mono t03,?_⟩;rw[a1x fL];refineλk4 J4 t4 e4=>?_
   ext;refine⟨.app s2 ls,dR.mono (t03.trans t4),?_⟩;rw[a1x fR];refineλk5 J5 t5 e5=>?_
   ext;refine⟨ln (by show 4<=100000;decide),λp6 hp6=>?_⟩;have t05:=t03.trans (t4.trans t5);have t6:=a0l hp6 (.tup [.str "part",.ref p3,.ref k4,.ref k5]);rw[hpl]at q;exact q _ _ (KT.same (t05.trans t6)) (js.same (t05.trans t6)) ⟨_,_,rfl,SqT.of a0c⟩
 |app s1 ks=>
  obtain⟨a,b1,us1,rfl,hs,hb1,hk1⟩:=a2g dL
  exists a0m hs (v:=.str appS) rfl
  rw[Zp,q2];refine iteF ?_;ext;have fL:nany (.app s1 ks)=true:=rfl;cases R with
  |any y=>
   obtain⟨a2,rfl,hs2⟩:=a2r dR
   exists a0m hs2 (v:=.str anyS) rfl
   rw[Zp,q3];refine iteT ?_;ext;refine⟨j,dx,_,rfl,js.o,a8p qk,?_⟩;ext
   exists a0m hs2 (v:=.str y) rfl
   have hq:pl2 rows (.app s1 ks) (.any y)=.go (putR rows y (.app s1 ks)):=by rw[pl2,if_neg e'];rfl
   rw[hq]at q;exact⟨H0,dx,pd,nl,rl,md,me,rows,rs,_,js,dL,okp.cr y rfl rfl,nr0 y rfl,hrl,λH1 k1 js1=>q H1 k1 js1⟩
  |num m=>
   have fR:nany (.num m)=true:=rfl;rcases d1m (rows:=rows) fR e with⟨hpl,hne⟩|⟨ls,z,_⟩
   rotate_left
   ·cases z
   obtain⟨a2,rfl,hs2⟩:=a3a dR
   exists a0m hs2 (v:=.str numS) rfl
   rw[Zp,q1];refine iteF ?_;ext;refine⟨.app s1 ks,dL,?_⟩;rw[a1x fL];refineλk1 J1 t1 e1=>?_
   ext;refine⟨.num m,dR.mono t1,?_⟩;rw[a1x fR];refineλk2 J2 t2 e2=>?_
   have js2:=js.same (t1.trans t2);refine⟨k1,keyL (.app s1 ks),rfl,SqT.of (t2 _ _ e1),.inr ⟨k2,keyL (.num m),rfl,SqT.of e2,?_⟩⟩;ext;refine iteB (λe=>?_) (λe=>absurd e (by rw[c1y hne];exactλz=>by cases z));ext;refine⟨j,dx,_,rfl,js2.o,a8p qk,?_⟩;ext;refine⟨H0,dx,pd,nl,rl,md,me,rows,rs,js2,hln,λp3 J3 t3 e3=>?_⟩;ext;have t03:=t1.trans (t2.trans t3);refine⟨.app s1 ks,dL.mono t03,?_⟩;rw[a1x fL];refineλk4 J4 t4 e4=>?_
   ext;refine⟨.num m,dR.mono (t03.trans t4),?_⟩;rw[a1x fR];refineλk5 J5 t5 e5=>?_
   ext;refine⟨ln (by show 4<=100000;decide),λp6 hp6=>?_⟩;have t05:=t03.trans (t4.trans t5);have t6:=a0l hp6 (.tup [.str "part",.ref p3,.ref k4,.ref k5]);rw[hpl]at q;exact q _ _ (KT.same (t05.trans t6)) (js.same (t05.trans t6)) ⟨_,_,rfl,SqT.of a0c⟩
  |app s2 ls=>
   have fR:nany (.app s2 ls)=true:=rfl;obtain⟨a2,b2,us2,rfl,hs2,hb2,hk2⟩:=a2g dR
   exists a0m hs2 (v:=.str appS) rfl
   rw[Zp,q2];refine iteF ?_;ext;refine⟨.app s1 ks,dL,?_⟩;rw[a1x fL];refineλk1 J1 t1 e1=>?_
   ext;refine⟨.app s2 ls,dR.mono t1,?_⟩;rw[a1x fR];refineλk2 J2 t2 e2=>?_
   have js2:=js.same (t1.trans t2);refine⟨k1,keyL (.app s1 ks),rfl,SqT.of (t2 _ _ e1),.inr ⟨k2,keyL (.app s2 ls),rfl,SqT.of e2,?_⟩⟩;ext;rcases d1m (rows:=rows) fR e with⟨hpl,hne⟩|⟨ls',z,hlen,hpl⟩
   ·refine iteB (λe=>?_) (λe=>absurd e (by rw[c1y hne];exactλz=>by cases z));ext;refine⟨j,dx,_,rfl,js2.o,a8p qk,?_⟩;ext;refine⟨H0,dx,pd,nl,rl,md,me,rows,rs,js2,hln,λp3 J3 t3 e3=>?_⟩;ext;have t03:=t1.trans (t2.trans t3);refine⟨.app s1 ks,dL.mono t03,?_⟩;rw[a1x fL];refineλk4 J4 t4 e4=>?_
    ext;refine⟨.app s2 ls,dR.mono (t03.trans t4),?_⟩;rw[a1x fR];refineλk5 J5 t5 e5=>?_
    ext;refine⟨ln (by show 4<=100000;decide),λp6 hp6=>?_⟩;have t05:=t03.trans (t4.trans t5);have t6:=a0l hp6 (.tup [.str "part",.ref p3,.ref k4,.ref k5]);rw[hpl]at q;exact q _ _ (KT.same (t05.trans t6)) (js.same (t05.trans t6)) ⟨_,_,rfl,SqT.of a0c⟩
   ·cases z;rw[hpl]at q;obtain⟨rfl,q⟩:=q;refine iteB (λe=>absurd e (by rw[Zw (key_app hlen)];exactλz=>by cases z)) (λe=>?_);ext;refine⟨j,dx,_,rfl,js2.o,a8p qk,?_⟩;ext;have t02:=t1.trans t2;refine⟨H0,dx,pd,nl,rl,md,rows,rs,s1,ks,s1,ls,js2,dL.mono t02,dR.mono t02,qo,qo,hln,λH3 r dr a3 b3 us3 us3' k3 js3 c1 c2 c3 c4=>?_⟩;ext;exact q H3 r dr a3 b3 us3 us3' ((KT.same t02).trans k3) js3 c1 c2 c3 c4
end
section
variable{P:Program}{w:World}{K:W.Frag}{mg:Str->Option Value}{base:Heap}{t:Ad}
theorem b1w(T:Txt K mg t)(G_c4:FnOk P w K mg base CX0 1 t.a_c4 t.d_c4 ["self","lefts","rights"] (a8o K t.k_a5))(G_e8:FnOk P w K mg base CX0 4 t.a_e8 t.d_e8 ["self","one","other"] (a4n K t.k_a2 t.k_a5)):FnOk P w K mg base CX0 5 t.a_e5 t.d_e5 ["self","one","other"] (a4o K t.k_a2 t.k_a5):=by
 exists T.F_e5.ok a3c,a4o,(a0e (a1q (mv 0) (a1n (a0a (a7s T.mk_a5 G_c4 hr.o rfl T.m_a5 T.b_c4 .nil a0o (a0a (a0s (a0a (mv 1) a0b)) (a0a (a0s (a0a (mv 2) a0b)) a0b))) a0b)) rfl) (a0e (a0q (i:=3) a3c.nd rfl (by nofun) a9s) (a0e (a5u Zz (PW.pt (b3n (a3t K rfl (a0v (mv 0) rfl)) (b5a (a0y c9m (mv 3) a9s (a1b _))))) (a0e (a0q (i:=4) (hs:=b4a) a3c.nd rfl (by nofun) (a0j (a0h K rfl) (a0v (mv 0) rfl) (pe_un mu_neg a0f) (λ_ _=>rfl))) (a0g (a1e (a0y a2a (a0v (mv 4) rfl) (a1p (a3u K rfl) rfl T.n_f8 Yt (a0a (a0v (mv 4) rfl) a0b)) (a1b _)) (a0g (a1f (b3x K rfl Z7 Ws Vg b3w (a0v (mv 0) rfl)))) (a0e (b3r (mv 4) a0f b7t) (a0g (a0q (i:=3) (hs:=a1h) a3c.nd rfl (by nofun) (a3m (mv 0) T.cl_a2 T.me_e8 G_e8 hr.o T.b_e8 .nil a0o (a0a (a0j (a0h K rfl) (a0v (mv 4) rfl) (a1g b3v (a0v (mv 4) rfl) a0f) (λ_ _=>rfl)) (a0a (a0j (a0h K rfl) (a0v (mv 4) rfl) (a1g b3v (a0v (mv 4) rfl) a0f) (λ_ _=>rfl)) a0b)))))))))) (a0g (a0u (mv 3)))))),H,Q,E,hr,h
 rename_i j v v';obtain⟨H0,dx,pd,nl,rl0,md,rows,t0,t1,okk,q0,c0,js,hd,hd',un,q⟩:=h;ext;refine⟨ln (by show 1<=100000;decide),λp1 hp1=>?_⟩;have sp1:Same H (upd H p1 (.tup [v])):=a0l hp1 _;have kp1:(upd H p1 (.tup [v])) p1=some (.tup [v]):=a0c;generalize upd H p1 (.tup [v])=H1 at sp1 kp1 ⊢;ext;refine⟨ln (by show 1<=100000;decide),λp2 hp2=>?_⟩;have sp2:Same H1 (upd H1 p2 (.tup [v'])):=a0l hp2 _;have kp2:(upd H1 p2 (.tup [v'])) p2=some (.tup [v']):=a0c;generalize upd H1 p2 (.tup [v'])=H2 at sp2 kp2 ⊢;ext;refineλr dr hr1 hr2 hne=>?_
 refine⟨dr,a0c,λH3 bt ho=>⟨rfl,?_⟩⟩;have s3:Same H2 H3:=a7g hr1 hr2 bt;ext;refine⟨ln (by show 1<=100000;decide),λrl hrl=>?_⟩;have s4:Same H3 (upd H3 rl (.lst [.ref r])):=a0l hrl _;have k4:(upd H3 rl (.lst [.ref r])) rl=some (.lst [.ref r]):=a0c;generalize upd H3 rl (.lst [.ref r])=H4 at s4 k4 ⊢;have s04:=sp1.trans (sp2.trans (s3.trans s4));have js4:=js.same s04;have js3:=js.same (sp1.trans (sp2.trans s3));ext;refine⟨j,_,dx,_,rfl,js4.o,T.cl_a2,T.no_a2_rows,by show 4<1000;decide,?_⟩;rw[d0t];have js2:=js.same (sp1.trans sp2)
 obtain⟨js5,kt5⟩:=js4.set_rl (rs':=[⟨r,dr,.ref p1,.ref p2,0⟩]) k4 (js3.free hrl) (by obtain⟨_,n1,_⟩:=js3.note;exact a0p n1 hrl) (λq hq=>by
  rw[Zd.mp hq]
  exact⟨s4 _ _ ho,js2.free hr1,Ne.symm (a0p js2.o hr1)⟩) qz
 have kt05:KT K H _:=(KT.same s04).trans kt5;have c1:SqT K _ p1 [v]:=kt5 _ _ (SqT.of ((sp2.trans (s3.trans s4)) _ _ kp1));have c2:SqT K _ p2 [v']:=kt5 _ _ (SqT.of ((s3.trans s4) _ _ kp2));have hd5:=hd.monoT kt05;have hd5':=hd'.monoT kt05;generalize upd H4 j (.ins t.k_a2 dx (jF pd nl rl md))=H5 at js5 kt5 kt05 c1 c2 hd5 hd5' ⊢;clear js4 js3 js2 js;ext;have pend0:Pend K H5 [⟨r,dr,.ref p1,.ref p2,((0:Nat):Int)⟩] ((([t0]:List Trm).drop 0).zip (([t1]:List Trm).drop 0)++[]):=.cons c1 (.cons hd5 .nil) c2 (.cons hd5' .nil) rfl (Z4 _) (by show 1<=60;decide) .nil;refine a4s (λn σ' J=>∃(told:V)(o:Option V),σ'=[some (.ref j),some v,some v',some told,o]/\KT K H J/\((told=.non/\∃me rw2 st ps c,JS K t.k_a2 t.k_a5 H0 J j dx pd nl rl md me rw2 st.reverse/\Pend K J st ps/\Un me rw2 ps okk q0 c/\st.length<=2/\(me=true->st.length<=1)/\n=2*c+st.length)\/(n=0/\okk=false/\∃me q1 st r,JS K t.k_a2 t.k_a5 H0 J j dx pd nl rl md me q0 (q1::st).reverse/\told=.ref r/\PtA K J (.ref r)))) (2*c0+1) ⟨.non,none,rfl,kt05,.inl ⟨rfl,true,rows,[⟨r,dr,.ref p1,.ref p2,((0:Nat):Int)⟩],[(t0,t1)],c0,js5,pend0,un,(by show 1<=2;decide),(λ_=>(by show 1<=1;decide)),rfl⟩⟩ (λn σ' J R hP kT kF=>?_);clear pend0 c1 c2 hd5 hd5' kt05 kt5 js5 un;obtain⟨told,o,rfl,kt,hP⟩:=hP;rcases hP with⟨rfl,me,rw2,st,ps,c,js1,pe,un,hst,hme,hn⟩|⟨rfl,rfl,me,q1,st,rt,js1,rfl,hpt⟩
 rotate_left
 ·ext;refine⟨j,_,dx,_,_,rfl,js1.o,T.cl_a2,T.no_a2_rows,a8f,?_⟩;ext;refine .inl ⟨_,SqL.of js1.rws,?_⟩;rw[d0u,show(!((st.reverse.map λq=>V.ref q.r)++[V.ref q1.r]).isEmpty)=true by simp];refine iteT ?_;ext
  exists kF J
  exact q (.ref rt) J js1.sm kt js1.put (.inr ⟨rfl,hpt⟩)
 cases pe with
 |nil=>
  cases un;ext;refine⟨j,_,dx,_,_,rfl,js1.o,T.cl_a2,T.no_a2_rows,a8f,?_⟩;ext;refine .inl ⟨_,SqL.of js1.rws,?_⟩;refine iteF ?_
  exists kF J
  exact q .non J js1.sm kt js1.put (.inl ⟨rfl,rfl⟩)
 | @cons qr qdr a b st rest us us' ks ls i sa da sb db hlen hle hsz pe=>
  have ho1:=(js1.ro ⟨qr,qdr,.ref a,.ref b,(i:Int)⟩ (by rw[Yj];exact Z3 _ (Zd.mpr rfl))).1;have hrw:=js1.rws;rw[d0u]at hrw;have hul:=a5l da;have hul':=a5l db;rw[length_cons]at hst hme hn;ext;refine⟨j,_,dx,_,_,rfl,js1.o,T.cl_a2,T.no_a2_rows,a8f,?_⟩;ext;refine .inl ⟨_,SqL.of hrw,?_⟩;rw[show(!((st.reverse.map λq=>V.ref q.r)++[V.ref qr]).isEmpty)=true by simp];refine iteT ?_;ext;refine kT J (λD' e1 e2 hnx hct=>?_);ext;refine⟨j,_,dx,_,_,rfl,js1.o,T.cl_a2,T.no_a2_rows,a8f,?_⟩;ext
  exists a1j (SqL.of hrw) (v:=.ref qr) (by exact d1z _ _)
  refine⟨_,_,_,_,_,rfl,ho1,T.cl_a5,T.no_a5_taken,a8u,?_⟩;ext;refine⟨_,_,_,_,_,rfl,ho1,T.cl_a5,T.no_a5_lefts,c0z,?_⟩;ext
  exists c2r sa
  exists e
  ·have e:(i:Int)=us.length:=Z5 (xor_n e);have ei:i=ks.length:=by omega
   rw[ei,List.drop_length,List.zip_nil_left,Wa]at un;ext;refine⟨j,_,dx,_,_,rfl,js1.o,T.cl_a2,T.no_a2_rows,a8f,?_⟩;ext;refine⟨.inl ⟨rfl,_,SqL.of hrw⟩,?_⟩;refine b3y (xs:=st.reverse.map λq=>V.ref q.r) (v:=.ref qr) hrw ?_;obtain⟨js2,kt2⟩:=js1.upd_rl (rs':=st.reverse) (λq hq=>js1.ro q (by rw[Yj];exact Yy _ hq)) (by have:=js1.nd;rw[Yj,Zi,Yb]at this;exact this.1);exact hnx _ _ (2*c+st.length) qo ⟨.non,_,rfl,kt.trans kt2,.inl ⟨rfl,me,rw2,st,rest,c,js2,pe.mono kt2,un,qo,λz=>by have:=hme z;omega,rfl⟩⟩
  have hi:i<ks.length:=by
   have e:¬(i:Int)=us.length:=Xc (xor_n e);omega
  have hi':i<ls.length:=by omega
  rw[Xk hi,Xk hi',List.zip_cons_cons,Xu]at un;ext;refine⟨qr,_,qdr,_,_,rfl,ho1,T.cl_a5,T.no_a5_taken,a8u,?_⟩;ext;refine⟨qdr,_,ho1,by show 3<1000;decide,?_⟩;rw[c7n];have js1':=js1;rw[Yj]at js1';obtain⟨js2,kt2⟩:=JS.upd_last (rs0:=st.reverse) (q1:=⟨qr,qdr,.ref a,.ref b,(i:Int)+1⟩) js1' rfl;have ho2:(upd J qr (.ins t.k_a5 qdr [(a3y,.ref a),(a3s,.ref b),(a5i,.int ((i:Int)+1))])) qr=some (RwO.ob t.k_a5 ⟨qr,qdr,.ref a,.ref b,(i:Int)+1⟩):=a0c;have kt2:KT K J (upd J qr (.ins t.k_a5 qdr [(a3y,.ref a),(a3s,.ref b),(a5i,.int ((i:Int)+1))])):=kt2;have js2:JS K t.k_a2 t.k_a5 H0 (upd J qr (.ins t.k_a5 qdr [(a3y,.ref a),(a3s,.ref b),(a5i,.int ((i:Int)+1))])) j dx pd nl rl md me rw2 (st.reverse++[⟨qr,qdr,.ref a,.ref b,((i+1:Nat):Int)⟩]):=js2;have sa2:=kt2 _ _ sa;have sb2:=kt2 _ _ sb;have da2:=da.monoT kt2;have db2:=db.monoT kt2;have pe2:=pe.mono kt2;have kt02:=kt.trans kt2;generalize (upd J qr (.ins t.k_a5 qdr [(a3y,.ref a),(a3s,.ref b),(a5i,.int ((i:Int)+1))]))=J2 at js2 ho2 sa2 sb2 da2 db2 pe2 kt02 ⊢;have x1:us[i]? =some us[i]:=Za qo
  have x2:us'[i]? =some us'[i]:=Za qo
  obtain⟨_,z1⟩:=a6s da2 hi;obtain⟨_,z2⟩:=a6s db2 hi';have at1:atI us ((i:Int)+1-1)=some us[i]:=by
   rw[show(i:Int)+1-1=(i:Int) by omega];obtain⟨w1,w2,w3⟩:=a7i (xs:=us) (i:=(i:Int)) qo qo;rw[w2,<-w3];exact x1
  have at2:atI us' ((i:Int)+1-1)=some us'[i]:=by
   rw[show(i:Int)+1-1=(i:Int) by omega];obtain⟨w1,w2,w3⟩:=a7i (xs:=us') (i:=(i:Int)) qo qo;rw[w2,<-w3];exact x2
  have hsl:(st.reverse++[(⟨qr,qdr,.ref a,.ref b,((i+1:Nat):Int)⟩:RwO)]).length<=50:=by
   rw[Zk,Xh,Z8];omega
  ext;refine⟨j,dx,_,rfl,js2.o,a8p qk,?_⟩;ext;refine⟨_,_,_,_,_,rfl,ho2,T.cl_a5,T.no_a5_lefts,c0z,?_⟩;ext;refine⟨_,_,_,_,_,rfl,ho2,T.cl_a5,T.no_a5_taken,a8u,?_⟩;ext
  exists a0m sa2 at1
  refine⟨_,_,_,_,_,rfl,ho2,T.cl_a5,T.no_a5_rights,c7m,?_⟩;ext;refine⟨_,_,_,_,_,rfl,ho2,T.cl_a5,T.no_a5_taken,a8u,?_⟩;ext
  exists a0m sb2 at2
  cases un with
  | @go _ _ _ p' _ _ _ l r _ n1 m1 c w1 w2 okp hpl un=>
   refine⟨H0,dx,pd,nl,rl,md,me,rw2,_,ks[i],ls[i],n1,m1,l,r,js2,z1,z2,w1,w2,okp,hsl,?_⟩;rw[hpl];refineλJ3 k3 js3=>?_
   ext;exact hnx _ _ (2*c+(st.length+1)) qo ⟨.non,_,rfl,kt02.trans k3,.inl ⟨rfl,me,p',⟨qr,qdr,.ref a,.ref b,((i+1:Nat):Int)⟩::st,_,c,by rw[Yj];exact js3,.cons (k3 _ _ sa2) (da2.monoT k3) (k3 _ _ sb2) (db2.monoT k3) hlen hi hsz (pe2.mono k3),un,hst,hme,rfl⟩⟩
  | @part _ _ _ _ l r _ n1 m1 ka kb w1 w2 okp hpl=>
   refine⟨H0,dx,pd,nl,rl,md,me,_,_,ks[i],ls[i],n1,m1,l,r,js2,z1,z2,w1,w2,okp,hsl,?_⟩;rw[hpl];refineλw J3 k3 js3 hw=>?_
   have hw0:=hw;obtain⟨rt,ys0,rfl,_⟩:=hw;ext;exact hnx _ _ 0 qo ⟨.ref rt,_,rfl,kt02.trans k3,.inr ⟨rfl,rfl,me,⟨qr,qdr,.ref a,.ref b,((i+1:Nat):Int)⟩,st,rt,by rw[Yj];exact js3,rfl,hw0⟩⟩
  | @kids _ _ _ _ _ l r _ n1 m1 c s2 ks2 ls2 w1 w2 okp hpl un=>
   have hst0:=hme rfl;obtain⟨el,er,hl2⟩:=pk hpl;have hz2:ks2.length<=60:=by
    have h1:=okp.zl;have h2:=Trm.len_le ks2;rw[el,Trm.size]at h1;omega
   refine⟨H0,dx,pd,nl,rl,md,true,rw2,_,ks[i],ls[i],n1,m1,l,r,js2,z1,z2,w1,w2,okp,hsl,?_⟩;rw[hpl];refine⟨rfl,λJ3 r3 dr3 a3 b3 us3 us3' k3 js3 g1 g2 g3 g4=>?_⟩;ext;have js3:JS K t.k_a2 t.k_a5 H0 J3 j dx pd nl rl md false rw2 ((⟨r3,dr3,.ref a3,.ref b3,((0:Nat):Int)⟩:RwO)::⟨qr,qdr,.ref a,.ref b,((i+1:Nat):Int)⟩::st).reverse:=by
    rw[Yj,Yj];exact js3
   have pe3:Pend K J3 ((⟨r3,dr3,.ref a3,.ref b3,((0:Nat):Int)⟩:RwO)::⟨qr,qdr,.ref a,.ref b,((i+1:Nat):Int)⟩::st) ((ks2.drop 0).zip (ls2.drop 0)++((ks.drop (i+1)).zip (ls.drop (i+1))++rest)):=.cons g1 g2 g3 g4 hl2 (Z4 _) hz2 (.cons (k3 _ _ sa2) (da2.monoT k3) (k3 _ _ sb2) (db2.monoT k3) hlen hi hsz (pe2.mono k3));exact hnx _ _ (2*c+(st.length+1+1)) qo ⟨.non,_,rfl,kt02.trans k3,.inl ⟨rfl,false,rw2,_,_,c,js3,pe3,un,by rw[length_cons,length_cons];omega,λz=>(by cases z),rfl⟩⟩
end
section
variable{P:Program}{w:World}{K:W.Frag}{mg:Str->Option Value}{base:Heap}{t:Ad}
theorem c5n(T:Txt K mg t)(G_e5:FnOk P w K mg base CX0 5 t.a_e5 t.d_e5 ["self","one","other"] (a4o K t.k_a2 t.k_a5))(G_f7:FnOk P w K mg base CX0 1 t.a_f7 t.d_f7 ["self","puts","noted"] (a7o K t.k_a2)):FnOk P w K mg base CX0 6 t.a_b8 t.d_b8 ["one","other","puts"] (a8q K):=by
 exists T.F_b8.ok b0y,a8q,(a0e (a0q (i:=3) (hs:=a1h) b0y.nd rfl (by nofun) (a2i d2q rfl T.n_i2 boot_dict (a0a (mv 2) a0b))) (a0e (a0q (i:=4) (hs:=a1h) b0y.nd rfl (by nofun) (a3m (a7s T.mk_a2 G_f7 hr.o rfl T.m_a2 T.b_f7 .nil a0o (a0a (mv 3) (a0a (a1n a0b) a0b))) T.cl_a2 T.me_e5 G_e5 hr.o T.b_e5 .nil a0o (a0a (mv 0) (a0a (mv 1) a0b)))) (a0g (a0u (d1s (a0y c9m (mv 4) a9s (a1b _)) (a0s (a0a a0t (a0a (mv 3) a0b))) (mv 4)))))),H,Q,E,hr,h
 rename_i v v' pd0;obtain⟨rows,t0,t1,okk,q0,c0,hP,hrl0,hd,hd',un,q⟩:=h;obtain⟨kvs,e0,ok⟩:=hP.ex;ext;refine⟨pd0,kvs,rfl,e0,λpd hpd=>?_⟩;have s1:Same H (upd H pd (.dK kvs)):=a0l hpd _;have k1:(upd H pd (.dK kvs)) pd=some (.dK kvs):=a0c;generalize upd H pd (.dK kvs)=H1 at s1 k1 ⊢;ext;refine⟨ln (by show 0<=100000;decide),λnl hnl=>?_⟩;have snl:Same H1 (upd H1 nl (.lst [])):=a0l hnl _;have knl:(upd H1 nl (.lst [])) nl=some (.lst []):=a0c;generalize upd H1 nl (.lst [])=H2 at snl knl ⊢;ext;refineλj dj hj hdj hne=>?_
 refine⟨dj,a0c,λrl md H3 hrl hmd hrm bt ho kr km=>⟨rfl,?_⟩⟩;have s3:Same H2 H3:=a7g hj hdj bt;have nb:∀a,(upd (upd H2 dj (.own j)) j (.ins t.k_a2 dj [])) a=none->H2 a=none:=λa e=>by
  have z1:a≠j:=λz=>by rw[z,a0c]at e;cases e
  have z2:a≠dj:=λz=>by rw[z,a0d hne,a0c]at e;cases e
  rw[a0d z1,a0d z2]at e;exact e
 have s02:=s1.trans snl;have k3:=(snl.trans s3) _ _ k1;have hnl3:H3 nl=some (.lst []):=s3 _ _ knl;have js3:JS K t.k_a2 t.k_a5 H H3 j dj pd nl rl md true rows []:=⟨(Kp2.refl _ _ H).same (s02.trans s3),ho,⟨kvs,k3,ok.mono (s02.trans s3)⟩,⟨[],hnl3,Z4 _⟩,kr,⟨_,km,(λ_ z=>by cases z),(λ_ z=>by cases z),(λ_ _ z=>by cases z),(λ_ _ _ z=>by cases z),λ_=>rfl⟩,(λq hq=>by simp at hq),(by simp),a1c s02 hj,a1c s02 (nb _ hrl),a1c s02 (nb _ hmd),a0p knl (nb _ hrl),Ne.symm (a0p (snl _ _ k1) (nb _ hmd))⟩;ext;refine⟨j,dj,_,rfl,js3.o,a8p qk,?_⟩;ext;refine⟨H,dj,pd,nl,rl,md,rows,t0,t1,okk,q0,c0,js3,hd.mono (s02.trans s3),hd'.mono (s02.trans s3),un,λw4 H4 k4 t4 p4 hw=>?_⟩;have hnlH:H nl=none:=a1c s1 hnl;have s4:Same H H4:=λa o e=>k4 a o (a0p e hpd) (a0p e hnlH) e
 rcases hw with⟨rfl,rfl⟩|⟨rfl,r4,ys,rfl,h4⟩
 ·ext;refine iteT ?_;ext;refine⟨ln (by show 2<=100000;decide),λp5 hp5=>?_⟩;have s5:=a0l hp5 (.tup [.str "one",.ref pd]);exact q p5 pd _ (s4.trans s5) (λ_=>⟨SqT.of a0c,hpd,p4.mono s5⟩) (λz=>by cases z)
 ·ext;refine iteF ?_;ext;exact q r4 pd H4 s4 (λz=>by cases z) (λ_=>⟨partS,ys,h4,qk⟩)
end
section
variable{P:Program}{w:World}{K:W.Frag}{mg:Str->Option Value}{base:Heap}{t:Ad}
theorem b1x(T:Txt K mg t)(G_c1:FnOk P w K mg base CX0 74 t.a_c1 t.d_c1 ["self","goal"] (a3l K P w t.k_a0 t.k_a1 t.k_a4))(G_b9:FnOk P w K mg base CX0 1 t.a_b9 t.d_b9 ["self"] (a3g K P w t.k_a0 t.k_a1 t.k_a4))(G_b8:FnOk P w K mg base CX0 6 t.a_b8 t.d_b8 ["one","other","puts"] (a8q K))(G_b2:FnOk P w K mg base CX0 73 t.a_b2 t.d_b2 ["term","n"] (a8t K))(G_c3:FnOk P w K mg base CX0 1 t.a_c3 t.d_c3 ["self","puts","done","reasons"] (a6x t.k_a4)):FnOk P w K mg base CX0 75 t.a_f4 t.d_f4 ["self","goal","going"] (a4p K P w t.k_a0 t.k_a1 t.k_a4):=by
 exists T.F_f4.ok a1z,a4p,(a0e (a0q (i:=3) (hs:=a1h) a1z.nd rfl (by nofun) (a3m (mv 0) T.cl_a0 T.me_c1 G_c1 hr.o T.b_c1 .nil a0o (a0a (mv 1) a0b))) (a0e (a0q (i:=4) (hs:=a5y) a1z.nd rfl (by nofun) (a1n a0b)) (a0e (a1y Zz rfl (c2v K rfl rfl T.n_h5 (a0a (a0v (a0j (a0h K rfl) (a0v (mv 0) rfl) (mv 3) (λ_ _=>rfl)) rfl) a0b)) (b5j K rfl rfl (a2p (a1d (i:=5) a1z.nd rfl (by nofun)) (a2p (a1d (i:=6) a1z.nd rfl (by nofun)) a9f))) (a0e (a1f (a9v (mv 0) T.cl_a0 T.me_b9 G_b9 hr.o T.b_b9 .nil a0o)) (a0e (a0q (i:=7) (hs:=a1h) a1z.nd rfl (by nofun) (a0k G_b8 hr.o rfl T.m_b8 T.F_b8.kp T.b_b8 .nil a0o (a0a (mv 1) (a0a (a0k G_b2 hr.o rfl T.m_b2 T.F_b2.kp T.b_b2 .nil a0o (a0a (a0j (a0h K rfl) (mv 6) a0f (λ_ _=>rfl)) (a0a (a1g (a2b K rfl) (a0v (mv 2) rfl) a0f) a0b))) (a0a (a0v (mv 2) rfl) a0b))))) (a0g (a1f (a2y K rfl Z7 Yl Yo a2d (mv 4) (a0a (a7s T.mk_a4 G_c3 hr.o rfl T.m_a4 T.b_c3 .nil a0o (a0a (a0j (a0h K rfl) (mv 7) a0f (λ_ _=>rfl)) (a0a (a1g (a2b K rfl) (a0v (mv 2) rfl) a0f) (a0a (a1g (a2b K rfl) (a0v (mv 2) rfl) (a1n (a0a (a0s (a0a (mv 3) (a0a (mv 5) a0b))) a0b))) a0b)))) a0b))))))) (a0g (a0u (mv 4)))))),H,Q,E,hr,h
 rename_i f v gv;obtain⟨x,L,g0,r,g,fa,ok,tk,hd,hg,leg,hlt,rso,hrl,hsp,q⟩:=h;have hx:r.goals[g.d]? =some r.goals[g.d]:=Za hlt
 obtain⟨b1,b2,b3,b4,b5⟩:=ok.sb g0 r g.d g.q leg _ hx;obtain⟨w1,ks,eS,hw1⟩:=b3;ext;refine⟨f,x.dx,_,rfl,fa.ob,a7p qk,?_⟩;ext;refine⟨x,L,L.sub r g.d g.q,fa,ok,tk,hd,b2,b4,λx1 i as H1 fb av tk1 hs1 hi _=>?_⟩;have hd1:=hd.monoT av.ev.pr.kt;have hg1:=hg.ev av.ev;have hcap:as.length<=L.cap (told (L.sub r g.d g.q)):=ok.ac _ b4 as (tk1.an _ (Zn hi)).1 (tk1.an _ (Zn hi)).2;obtain⟨q0,hq0,tq⟩:=paired_at' fb.tbs hi;obtain⟨us,hal,hus⟩:=tq.an;have hul:us.length=as.length:=Y0 hus;have has:as.length<=60:=by
  have h1:=tk1.tot ok;obtain⟨A,B,e⟩:=Xm (Zn hi);rw[e]at h1;unfold tot at h1;simp only[Zi,Zt,Yz,Yu]at h1;omega
 obtain⟨ga,dg,pp,rl,ur,rfl,o1,o2,o3,o4,o5,o6,o7⟩:=hg1;have hrw:=(ok.rw _ _ _ _ leg).1;have hd10:=(ok.rw _ _ _ _ leg).2;have h30:((10:Int))<10^30:=by decide+kernel
 ext;refine⟨Z4 _,λD hD=>?_⟩;generalize e9:upd H1 D _=H2;obtain⟨sD,kD⟩:=nwq hD e9;clear e9;ext;refine⟨f,_,x1.dx,_,_,rfl,(fb.same sD).ob,T.cl_a0,T.no_a0_tables,a3z,?_⟩;ext
 exists a1j (SqL.of (fb.same sD).tl) (v:=.ref q0.t) (by rw[a7e (by rw[Zv,hq0];rfl)])
 refine⟨q0.t,_,q0.dt,_,_,rfl,sD _ _ tq.ob,T.cl_a1,T.no_a1_answers,a9e,?_⟩;ext;refine⟨q0.al,us,rfl,SqL.of (sD _ _ hal),?_⟩;have hDH:H D=none:=av.ev.nf _ hD;refine c0s (λk σ' J=>∃(o6 o7 o8:Option V)(ud:List V)(gs:List Go),σ'=[some (.ref f),some v,some (.ref ga),some (.int (i:Int)),some (.ref D),o6,o7,o8]/\FilA K P w t.k_a0 t.k_a1 L J f (x1.put x1.o.st (x1.o.sp+(k:Int)) x1.o.ch)/\Ev K (x1.M f) (x1.M f) H1 J/\J q0.al=some (.lst us)/\J D=some (.lst ud)/\(∀D0 o,H D0=some o->Paired (GoAt K t.k_a4 J (D0::D::x1.M f)) ud gs)/\ud.length=gs.length/\gs.map (·.q)=(as.take k).map (L.nxt r g.d g.q)/\(∀e∈gs,e.d=g.d+1/\RsOk x1.tb e.rs/\e.rs.length<=g.d+1)) ⟨none,none,none,[],[],rfl,by rw[show x1.o.sp+((0:Nat):Int)=x1.o.sp by omega];exact fb.same sD,.same sD,sD _ _ hal,kD,(λ_ _ _=>.nil),rfl,rfl,λe he=>by simp at he⟩ (λk σ' J hP=>by obtain⟨_,_,_,_,_,_,_,_,z,_⟩:=hP;exact SqL.of z) (λk σ' J T' hk hP hT=>?_) (λσ' J hP=>?_)
 ·obtain⟨o6',o7',o8',ud,gs,rfl,fj,ej,jal,jD,jg,gl,jq,jo⟩:=hP;have hk:k<us.length:=hk;have hka:k<as.length:=by omega
  have gl2:=Yv List.length jq;rw[length_map,length_map,Ys]at gl2;obtain⟨a,tv,rk,nn,xx,ea,an1,an2⟩:AnAt K H1 us[k] as[k]:=by
   obtain⟨y,e1,e2⟩:=a2j hus (Za hk);rw[Za hka]at e1;cases e1;exact e2
  have hgd:us.getD k .non=.ref a:=by rw[Yd,Za hk,<-ea];rfl
  rw[hgd];have gdk:=ok.an _ _ ((tk1.an _ (Zn hi)).2 _ (Z6 hka));obtain⟨⟨cn,un⟩,leg2⟩:=ok.nx g0 r g.d g.q as[k] leg hlt ((tk1.an _ (Zn hi)).2 _ (Z6 hka));generalize hak:as[k]=ak at an2 gdk un leg2;refine b7w (SqT.of a0c) rfl ?_;have sT:=a0l hT (.tup [.int k,.ref a]);have fj1:=fj.same sT;have ej1:=ej.trans (.same sT);have jal1:=sT _ _ jal;have jD1:=sT _ _ jD;generalize upd J T' (.tup [.int k,.ref a])=J1 at*;ext;refine⟨f,x1.dx,_,rfl,fj1.ob,a7p qk,?_⟩;ext;refine⟨_,L,fj1,by show x1.o.sp+(k:Int)<300;omega,λJ2 fj2 bt2 kt2=>?_⟩;have e12:=c3z (M:=x1.M f) (Ze ..) fj2.ob bt2 kt2;have ej2:=ej1.trans e12;have jal2:=bt2 _ _ (a0z jal1 fj1.ob (λz=>by cases z)) jal1;have jD2:=bt2 _ _ (a0z jD1 fj1.ob (λz=>by cases z)) jD1;ext;have an1':=ej2.pr.kt _ _ an1
  exists a0m an1' (v:=tv) rfl
  have o12:=(ej2.off o2 o1).2;refine⟨ga,_,dg,_,_,rfl,o12,T.cl_a4,T.no_a4_done,b5p,?_⟩;ext;refine⟨ak,an2.monoT ej2.pr.kt,by have:=gdk.sz;omega,qo,qo,(λy hy=>by rw[gdk.vr]at hy;cases hy),λav' J3 s3 d3=>?_⟩;rw[b4r _ gdk.vr]at d3;ext;refine⟨ga,_,dg,_,_,rfl,(s3 _ _ o12),T.cl_a4,T.no_a4_puts,b9w,?_⟩;ext;obtain⟨kv,p1,p2⟩:=o3.ex;have o32:a2h K J3 pp g.q:=⟨kv,s3 _ _ (ej2.off o4 p1).2,(p2.monoT ej2.pr.kt).mono s3⟩;refine⟨g.q,L.sub r g.d g.q,ak,true,_,cn,o32,by have:=hrw.2;omega,(hd1.monoT ej2.pr.kt).mono s3,d3,un,λtp np J4 s4 h4 _=>?_⟩;obtain⟨h4a,h4b,h4c⟩:=h4 rfl;ext;have jD4:=s4 _ _ (s3 _ _ jD2);have jal4:=s4 _ _ (s3 _ _ jal2);have ej4:=ej2.trans (.same (s3.trans s4));have o14:=(ej4.off o2 o1).2;have o54:=(ej4.off o6 o5).2;refine⟨.inl ⟨rfl,_,SqL.of jD4⟩,?_⟩;ext
  exists a0m h4a (v:=.ref np) rfl
  refine⟨ga,_,dg,_,_,rfl,o14,T.cl_a4,T.no_a4_done,b5p,?_⟩;ext;refine⟨ga,_,dg,_,_,rfl,o14,T.cl_a4,T.no_a4_reasons,b2z,?_⟩;ext;refine⟨ln qz,λpt hpt=>?_⟩;generalize e9:upd J4 pt _=J5;obtain⟨spt,kpt⟩:=nwq hpt e9;clear e9;ext;refine⟨ln qz,λpl hpl=>?_⟩;generalize e9:upd J5 pl _=J6;obtain⟨spl,kpl⟩:=nwq hpl e9;clear e9;ext;refine b1g ((spt.trans spl) _ _ o54) kpl (ln (by have:=o7.length;rw[length_map]at this;simp only[Z8];omega)) λpr hpr=>?_
  generalize e9:upd J6 pr _=J7;obtain⟨spr,kpr⟩:=nwq hpr e9;clear e9;ext;refineλrg dgn hr1 hr2 hne=>?_
  refine⟨dgn,a0c,λJ8 bt8 ho8=>⟨rfl,?_⟩⟩;have s8:Same J7 J8:=a7g hr1 hr2 bt8;have s48:=spt.trans (spl.trans (spr.trans s8));ext;have jD8:=s48 _ _ jD4;refine a1w jD8 (ln1 qo) ?_;have fj8:=(fj2.same (s3.trans s4)).same s48;have ej8:=ej4.trans (.same s48);obtain⟨f9,e9⟩:=Fil.lst (us':=ud++[.ref rg]) fb fj8 rfl rfl ej8 hD (fb.notM hD) jD8;have eg:∀D0:Addr,Ev K (D0::D::x1.M f) (D0::D::x1.M f) J (upd J8 D (.lst (ud++[.ref rg]))):=λD0=>(Ev.same sT).trans ((c3z (Zc _ (Zc _ (Ze ..))) fj2.ob bt2 kt2).trans ((Ev.same ((s3.trans s4).trans s48)).trans (ev_in (Zc _ (Ze ..)) jD8 (λ_ z=>by cases z) (λ_ _ z=>by cases z))))
  have nM:∀{a:Addr},a≠D->a∉x1.M f->a∉D::x1.M f:=λh1 h2 z=>(Zg.mp z).elim h1 h2
  have nf4:∀{a:Addr},J4 a=none->a≠D/\a∉x1.M f:=λ{a} e=>⟨λz=>(by rw[z,jD4]at e;cases e),(fj2.same (s3.trans s4)).notM e⟩
  have m4:∀{a:Addr},J4 a=none->a≠D/\a∉D::x1.M f:=λe=>⟨(nf4 e).1,nM (nf4 e).1 (nf4 e).2⟩
  have ejH:=av.ev.trans ej4;obtain⟨kv2,p21,p22⟩:=h4c.ex;obtain⟨r1,r2⟩:=m4 (a1c (spt.trans (spl.trans spr)) hr1);obtain⟨q1,q2⟩:np≠D/\np∉D::x1.M f:=by
   have z1:np≠D:=λz=>(by rw[z,s3 _ _ jD2]at h4b;cases h4b)
   exact⟨z1,nM z1 ((fj2.same s3).notM h4b)⟩
  obtain⟨u1,u2⟩:=m4 (a1c (spt.trans spl) hpr);have kt9:KT K J8 (upd J8 D (.lst (ud++[.ref rg]))):=.upd jD8 (λ_ z=>by cases z) (λ_ _ z=>by cases z);have st48:=((KT.same s48).trans kt9);have g48:∀D0 o,H D0=some o->GoAt K t.k_a4 (upd J8 D (.lst (ud++[.ref rg]))) (D0::D::x1.M f) (.ref rg) ⟨L.nxt r g.d g.q ak,g.d+1,g.rs++[(i,k)]⟩:=by
   intro D0 oo hD0;have nD0:∀{a:Addr},J4 a=none->a∉D::x1.M f->a∉D0::D::x1.M f:=λ{a} e n z=>(Zg.mp z).elim (λz=>by have:=ejH.nf _ e;rw[z,hD0]at this;cases this) n
   have nq0:np∉D0::D::x1.M f:=λz=>(Zg.mp z).elim (λz=>by have:=(av.ev.trans (ej2.trans (.same s3))).nf _ h4b;rw[z,hD0]at this;cases this) q2
   refine⟨rg,dgn,np,pr,ur++[.ref pt],rfl,(a0d r1).trans ?_,nD0 (a1c (spt.trans (spl.trans spr)) hr1) r2,?_,nq0,(a0d u1).trans (s8 _ _ kpr),nD0 (a1c (spt.trans spl) hpr) u2,?_⟩
   ·exact ho8
   ·exact⟨kv2,(a0d q1).trans (s48 _ _ p21),p22.monoT st48⟩
   ·rw[Zi];exact(o7.monoT (ej4.pr.kt.trans st48)).append (.cons (.tup ((((KT.same (spl.trans (spr.trans s8)))).trans kt9) _ _ (SqT.of kpt)) (.cons (.int _) (.cons (.int _) .nil))) .nil)
  refine⟨_,_,_,ud++[.ref rg],gs++[⟨L.nxt r g.d g.q ak,g.d+1,g.rs++[(i,k)]⟩],rfl,?_,e9,(a0d ?_).trans (s48 _ _ jal4),a0c,(λD0 o h0=>a5e (Paired.mapP (jg D0 o h0) λ_ _ z=>z.ev (eg D0)) (.cons (g48 D0 o h0) .nil)),by rw[Zk,Zk,gl];rfl,?_,λe he=>?_⟩
  ·rw[show x1.o.sp+((k+1:Nat):Int)=x1.o.sp+(k:Int)+1 by omega];exact f9
  ·exactλz=>fb.notM hD (z▸Zc _ (Zc _ (Zc _ (b0h (Zn hq0)).1)))
  ·rw[Zi,jq,We,Za hka,Zi,hak];rfl
  ·rcases Zr.mp he with z|z
   ·exact jo e z
   ·rw[Zd.mp z];refine⟨rfl,λp hp=>?_,by simp only[Zk,Z8];omega⟩;rcases Zr.mp hp with y|y
    ·exact(rso.ext av.gr.ex) p y
    ·rw[Zd.mp y];exact⟨_,hi,hka⟩
 ·obtain⟨o6',o7',o8',ud,gs,rfl,fj,ej,jal,jD,jg,gl,jq,jo⟩:=hP;rw[hul,Yr]at jq;ext;have e1:=Yv List.length jq;rw[length_map,length_map]at e1;refine q (x1.put x1.o.st (x1.o.sp+(us.length:Int)) x1.o.ch) D ud gs J fj ⟨av.ev.trans ej,av.gr,av.h0,av.pq,av.ld⟩ hDH ⟨tk1,jD,fb.notM hD,(λD0 o h0=>Paired.mapP (jg D0 o h0) λ_ _ z=>z.less λa ha=>(Zg.mp ha).elim (λz=>z▸Ze ..) λz=>Zc _ (Zc _ z)),⟨as,Zn hi,jq⟩,jo,?_⟩
  show x1.o.sp+(us.length:Int)=x.o.sp+(gs.length:Int)
  rw[hs1,e1,hul]
end
section
variable{P:Program}{w:World}{K:W.Frag}{mg:Str->Option Value}{base:Heap}{t:Ad}
theorem b3h(T:Txt K mg t)(G_b6:FnOk P w K mg base CX0 4 t.a_b6 t.d_b6 ["term"] (a8m K))(G_f4:FnOk P w K mg base CX0 75 t.a_f4 t.d_f4 ["self","goal","going"] (a4p K P w t.k_a0 t.k_a1 t.k_a4)):FnOk P w K mg base CX0 76 t.a_f1 t.d_f1 ["self","goal","going"] (a5f K P w t.k_a0 t.k_a1 t.k_a4):=by
 exists T.F_f1.ok b2q,a5f,(a0e (a1e (a3t K rfl (a0k G_b6 hr.o rfl T.m_b6 T.F_b6.kp T.b_b6 .nil a0o (a0a (mv 1) a0b))) (a0g (a0u (a3m (mv 0) T.cl_a0 T.me_f4 G_f4 hr.o T.b_f4 .nil a0o (a0a (mv 1) (a0a (mv 2) a0b))))) a1a) (a0e a2o (a0e a2o (a0g a2o)))),H,Q,E,hr,h
 rename_i f v gv;obtain⟨x,L,g0,r,g,fa,ok,tk,hd,hg,leg,hlt,rso,hrl,hsp,q⟩:=h;have hx:r.goals[g.d]? =some r.goals[g.d]:=Za hlt
 obtain⟨b1,b2,b3,b4,b5⟩:=ok.sb g0 r g.d g.q leg _ hx;obtain⟨w1,ks,eS,hw1⟩:=b3;ext;refine⟨w1,ks,by rw[<-eS];exact hd,hw1,λH1 s1=>?_⟩;ext;refine iteT ?_;ext;refine⟨f,x.dx,_,rfl,(fa.same s1).ob,a7p qk,?_⟩;ext;refine⟨x,L,g0,r,g,fa.same s1,ok,tk,hd.mono s1,hg.ev (.same s1),leg,hlt,rso,hrl,hsp,λx' D us gs H' fb av hD gn=>?_⟩;exact q x' D us gs H' fb ((Adv.same s1).trans av) (a1c s1 hD) { gn with pg:=λD0 o h=>gn.pg D0 o (s1 _ _ h)}
end
section
variable{P:Program}{w:World}{K:W.Frag}{mg:Str->Option Value}{base:Heap}{t:Ad}
theorem b1y(T:Txt K mg t)(G_b3:FnOk P w K mg base CX0 73 t.a_b3 t.d_b3 ["terms"] (a6g K))(G_b1:FnOk P w K mg base CX0 43 t.a_b1 t.d_b1 ["term","puts"] (a4l K)):FnOk P w K mg base CX0 74 t.a_e7 t.d_e7 ["self","table","number","going"] (a4q K P w t.k_a0 t.k_a1 t.k_a4):=by
 exists T.F_e7.ok a4j,a4q,(a0e (a0q (i:=4) (hs:=b4a) a4j.nd rfl (by nofun) (a0j (a0h K rfl) (a0k G_b3 hr.o rfl T.m_b3 T.F_b3.kp T.b_b3 .nil a0o (a0a (a1n (a0a (a0k G_b1 hr.o rfl T.m_b1 T.F_b1.kp T.b_b1 .nil a0o (a0a (a0v (mv 1) rfl) (a0a (a0v (mv 3) rfl) a0b))) a0b)) a0b)) a0f (λ_ _=>rfl))) (a0e (a1e (a0y (ko_inDn K P w rfl rfl rfl (a2z hr)) (mv 4) (a0v (mv 1) rfl) (by with_unfolding_all rfl)) (a0g c5q) a1a) (a0e (a1e (a0y a2a (a0v (mv 0) rfl) (a9i rfl T.m_g6) (a1b _)) (a0g a2o) a1a) (a0e (c5x (i:=5) a4j.nd rfl (by nofun) rfl (a1l K rfl (a0v (mv 3) rfl)) (a3p (a0i a3k) ["self","table","number","going","term","ranks"] ["self","table","number","going","term","ranks"] rfl rfl qk) (λ_ _ _ _ _=>a3o) (λ_ _ _ _ _=>(a0j (a0h K rfl) (a0j (a0h K rfl) (b1j K rfl (a0j (a0h K rfl) (b1j K rfl (mv 1) rfl) (a0j (a0h K rfl) (mv 0) a0f (λ_ _=>rfl)) (λ_ _=>rfl)) rfl) (a0j (a0h K rfl) (mv 0) a0f (λ_ _=>rfl)) (λ_ _=>rfl)) a0f (λ_ _=>rfl)))) (a0e (a1f (a2y K rfl Z7 Yl Yo a2d (a0v (mv 1) rfl) (a0a (a0s (a0a (mv 4) (a0a (a1g (a2b K rfl) (a1p (kc_maxL K rfl rfl) rfl T.n_h6 boot_max (a0a (a1g (a2b K rfl) (a1n (a0a a0f a0b)) (mv 5)) a0b)) a0f) (a0a (mv 2) (a0a (a2i (b5i K rfl) rfl T.n_f9 Ub (a0a (a0v (mv 3) rfl) a0b)) a0b))))) a0b))) (a0e (b3o a4d (c2a (a0v (mv 1) rfl) (mv 4) (d0h K P w rfl rfl rfl (a2z hr)))) (a0e (b3r (mv 0) a0f b7t) (a0g (a1q (mv 0) a4d rfl))))))))),H,Q,E,hr,h
 rename_i f ta nv gv;obtain⟨x,L,i,as,g,r,e,fa,ok,tk,⟨q0,hq0,hta⟩,hi,hg,hd,leg,rso,hrl,q⟩:=h;subst hta;rw[hd]at leg;obtain⟨hf,hans⟩:=ok.fi g r e.q leg;have gd:=ok.an _ _ hans;have gok:=ok.gl g (tk.un _ (Zn hi));have hrw:=(ok.rw _ _ _ _ leg).1;have hd10:=(ok.rw _ _ _ _ leg).2;obtain⟨y,e1,tq⟩:=a2j fa.tbs hq0;rw[hi]at e1;cases e1;obtain⟨us,hal,hus⟩:=tq.an;obtain⟨kvs,kn,kk⟩:=tq.kn;obtain⟨ga,dg,pp,rl,ur,rfl,o1,o2,o3,o4,o5,o6,o7⟩:=hg;have hul:ur.length=e.rs.length:=by
  have:=o7.length;rw[length_map]at this;exact this
 generalize hft:L.fin g e.q=ft at*;ext;refine⟨q0.t,_,q0.dt,_,_,rfl,tq.ob,T.cl_a1,T.no_a1_goal,b5o,?_⟩;ext;refine⟨ga,_,dg,_,_,rfl,o1,T.cl_a4,T.no_a4_puts,b9w,?_⟩;ext;refine⟨e.q,g,ft,o3,tq.go,hf,by have:=gok.sz;omega,λr' hr'=>by have:=hrw.1 r' hr';omega,gd.sz,λv1 H1 s1 d1=>?_⟩;ext;refine⟨ln qz,λp1 hp1=>?_⟩;generalize e9:upd H1 p1 _=H2;obtain⟨sp1,kp1⟩:=nwq hp1 e9;clear e9;ext;refine⟨[v1],[ft],SqL.of kp1,.cons (d1.mono sp1) .nil,by have:=gd.sz;simp only[Trm.sizeL];omega,λu hu'=>by have:=gd.sz;rw[Zd.mp hu'];omega,λp2 us2 H3 s2 hp2 k2 d2=>?_⟩;rw[c6m,told_gd gd.vr]at d2;obtain⟨tv,rfl,dt⟩:∃tv,us2=[tv]/\Den K H3 tv ft.data:=by
  cases d2 with
  |cons a b=>cases b;exact⟨_,rfl,a⟩
 refine a1j (SqL.of k2) (a6t _ _) ?_;obtain⟨tp,rfl⟩:∃tp,tv=.ref tp:=by
  cases ft<;>(cases dt;exact⟨_,rfl⟩)
 have s03:=s1.trans (sp1.trans s2);clear k2 kp1 hp2 hp1 d2 d1;have fb:=fa.same s03;ext;refine⟨q0.t,_,q0.dt,_,_,rfl,(s03 _ _ tq.ob),T.cl_a1,T.no_a1_known,c3y,?_⟩;ext;refine⟨tp,q0.kd,ft.data,kvs,rfl,rfl,kn.mono (KT.same s03) ((s03 _ _ kn.ob).trans kn.ob.symm),dt,gd.dp,a4u _,?_⟩;ext;cases hz:atN kvs ft.data with
 |some y=>
  refine iteT ?_;ext;refine q x H3 fb (.same s03) tk rfl λ_=>?_
  have hm:ft.data∈kvs.map (·.1):=by
   by_cases c:ft.data∈kvs.map (·.1)
   ·exact c
   ·rw[b2j.mpr c]at hz;cases hz
  rw[kk]at hm;obtain⟨a,ha,ea⟩:=Z1.mp hm;rw[<-Trm.data_inj ea];exact ha
 |none=>
  have hn:ft∉as:=λz=>b2j.mp hz (by rw[kk];exact Z1.mpr ⟨ft,z,rfl⟩)
  have tk2:=tk.ans hi hans hn;have ht2:=tk2.tot ok;rw[b5q hi]at ht2;have hal1:as.length<=tot x.tb:=by
   obtain⟨A,B,e⟩:=Xm (Zn hi);rw[e];unfold tot;simp only[Zi,Zt,Yz,Yu];omega
  refine iteF ?_;ext;refine⟨f,_,x.dx,_,_,rfl,fb.ob,T.cl_a0,T.no_a0_many_answers,b0q,?_⟩;ext;refine iteB (λe=>?_) (λ_=>?_)
  ·have e:x.o.mn=60:=Z5 (by simpa using e);have:=fa.mn;omega
  ext;refine⟨ga,_,dg,_,_,rfl,(s03 _ _ o1),T.cl_a4,T.no_a4_reasons,b2z,?_⟩;ext;refine⟨rl,rfl,⟨_,SqL.of (s03 _ _ o5)⟩,λD hD=>?_⟩;have o5':=s03 _ _ o5;refine a2q (a1i (xs:=ur)) (λj ys J=>Same H3 J/\J D=some (.lst ys)/\∃ns:List Int,ys=ns.map V.int) (ln qo) ⟨a0l hD _,a0c,[],rfl⟩ (λj ys J hP=>SqL.of (hP.1 _ _ o5')) (λj ys J Q' hj hl' hP kq=>?_) (λys J hl' hP=>?_)
  ·obtain⟨g1,g2,ns,rfl⟩:=hP;have hje:j<e.rs.length:=by omega
   obtain⟨tb1,hr1,hr2⟩:=rso _ (Z6 hje);obtain⟨d,w1,w2⟩:=o7.get (Za hj);rw[Zv,Za hje]at w1;have w1:rsE e.rs[j]=d:=Zl w1;subst w1;rw[getD_at hj];generalize ur[j]=uv at w2;generalize e.rs[j]=ej at hr1 hr2 w2;have s0J:=s03.trans g1;obtain⟨pr,rfl,wp⟩:∃pr,uv=.ref pr/\SqT K H pr [.int (ej.1:Int),.int (ej.2:Int)]:=by
    cases w2 with
    |tup w3 w4=>
     cases w4 with
     |cons w5 w6=>
      cases w6 with
      |cons w7 w8=>cases w5;cases w7;cases w8;exact⟨_,rfl,w3⟩
   obtain⟨q1,hq1,tq1⟩:=paired_at' fa.tbs hr1;obtain⟨us1,hal1,hus1⟩:=tq1.an;have hl1:us1.length=tb1.2.length:=Y0 hus1;have hej:ej.2<us1.length:=by rw[hl1];exact hr2
   have fj:=fb.same g1;ext;refine⟨f,_,x.dx,_,_,rfl,fj.ob,T.cl_a0,T.no_a0_tables,a3z,?_⟩;ext
   exists a0m ((KT.same s0J _ _ wp)) (v:=.int (ej.1:Int)) rfl
   refine a1j (SqL.of fj.tl) (v:=.ref q1.t) (a7e (by rw[Zv,hq1];rfl)) ?_;refine⟨q1.t,_,q1.dt,_,_,rfl,s0J _ _ tq1.ob,T.cl_a1,T.no_a1_answers,a9e,?_⟩;ext;refine a0m ((KT.same s0J _ _ wp)) (v:=.int (ej.2:Int)) rfl ?_;obtain⟨a,tv,rk,nn,xx,ea,an1,an2⟩:AnAt K H us1[ej.2] tb1.2[ej.2]:=by
    obtain⟨y,e1,e2⟩:=a2j hus1 (Za hej);rw[Za hr2]at e1;cases e1;exact e2
   ext
   exists a1j (SqL.of (s0J _ _ hal1)) (v:=.ref a) (a7e (by rw[Za hej,ea]))
   refine a0m ((KT.same s0J _ _ an1)) (v:=.int rk) rfl ?_;refine kq _ _ g2 ⟨a0x g1 hD,a0c,ns++[rk],by rw[Zi];rfl⟩
  obtain⟨g1,g2,ns,rfl⟩:=hP;have s0J:=s03.trans g1;have fj:=fb.same g1;ext;refine⟨q0.t,_,q0.dt,_,_,rfl,(s0J _ _ tq.ob),T.cl_a1,T.no_a1_answers,a9e,?_⟩;ext;refine⟨.inl ⟨rfl,_,SqL.of (s0J _ _ hal)⟩,?_⟩;ext;refine⟨ln qz,λz1 hz1=>?_⟩;generalize e9:upd J z1 _=J2;obtain⟨sz1,kz1⟩:=nwq hz1 e9;clear e9;ext;refine b1g kz1 (sz1 _ _ g2) (ln (by simp only[length_map,Z8]at hl' ⊢;omega)) λz2 hz2=>?_
  generalize e9:upd J2 z2 _=J3;obtain⟨sz2,kz2⟩:=nwq hz2 e9;clear e9;refine⟨z2,0::ns,rfl,SqL.of kz2,qz,λmx _=>?_⟩;ext;refine⟨ga,_,dg,_,_,rfl,((s0J.trans (sz1.trans sz2)) _ _ o1),T.cl_a4,T.no_a4_reasons,b2z,?_⟩;ext;refine⟨rl,ur,rfl,.inl (SqL.of ((s0J.trans (sz1.trans sz2)) _ _ o5)),λz3 hz3=>?_⟩;generalize e9:upd J3 z3 _=J4;obtain⟨sz3,kz3⟩:=nwq hz3 e9;clear e9;ext;refine⟨ln (by show 4<=100000;decide),λz4 hz4=>?_⟩;generalize e9:upd J4 z4 _=J5;obtain⟨sz4,kz4⟩:=nwq hz4 e9;clear e9;have sJ5:=sz1.trans (sz2.trans (sz3.trans sz4));have s05:=s0J.trans sJ5;have f5:=fj.same sJ5;have dt5:=dt.mono (g1.trans sJ5);have kn5:=kn.mono (KT.same s05) ((s05 _ _ kn.ob).trans kn.ob.symm);obtain⟨c1,c2,c3,c4,c5⟩:=f5.ans (av:=.ref z4) hq0 hi (s05 _ _ hal) (Paired.mapP hus λ_ _ z=>z.kt (KT.same s05)) kn5 kk ⟨z4,.ref tp,mx+1,nv,.ref z3,rfl,SqT.of kz4,dt5⟩ dt5 gd.dp hz qo;ext
  exists a1w (s05 _ _ hal) (ln1 (by have:us.length=as.length:=Y0 hus;omega))
  refine⟨q0.t,_,q0.dt,_,_,rfl,(a0d (a0z (s05 _ _ tq.ob) (s05 _ _ hal) (λz=>by cases z))).trans (s05 _ _ tq.ob),T.cl_a1,T.no_a1_known,c3y,?_⟩;ext;refine⟨q0.kd,tp,ft.data,kvs,rfl,rfl,c1,dt5.monoT c2,gd.dp,a4u _,hz,?_⟩;ext;refine⟨f,_,x.dx,_,_,rfl,c3,T.cl_a0,T.no_a0_many_answers,b0q,?_⟩;ext;refine⟨x.dx,_,c3,by show 8<1000;decide,?_⟩;rw[b8p];ext;refine⟨f,_,x.dx,_,rfl,a0c,T.cl_a0,T.no_a0_changed,by show 8<1000;decide,?_⟩;rw[b2y];rw[a7d];ext;exact q ⟨x.H0,x.dx,{ x.o with mn:=x.o.mn+1,ch:=true},x.qs,x.tb.set i (g,as++[ft])⟩ _ c4 ⟨(Ev.same s05).trans c5,.ans _ hi,rfl,λ_ _ h=>h,rfl,rfl,rfl⟩ tk2 rfl (λz=>by cases z)
end
section
variable{P:Program}{w:World}{K:W.Frag}{mg:Str->Option Value}{base:Heap}{t:Ad}
theorem b1z(T:Txt K mg t)(G_c3:FnOk P w K mg base CX0 1 t.a_c3 t.d_c3 ["self","puts","done","reasons"] (a6x t.k_a4))(G_e7:FnOk P w K mg base CX0 74 t.a_e7 t.d_e7 ["self","table","number","going"] (a4q K P w t.k_a0 t.k_a1 t.k_a4))(G_b1:FnOk P w K mg base CX0 43 t.a_b1 t.d_b1 ["term","puts"] (a4l K))(G_b2:FnOk P w K mg base CX0 73 t.a_b2 t.d_b2 ["term","n"] (a8t K))(G_f1:FnOk P w K mg base CX0 76 t.a_f1 t.d_f1 ["self","goal","going"] (a5f K P w t.k_a0 t.k_a1 t.k_a4)):FnOk P w K mg base CX0 77 t.a_f3 t.d_f3 ["self","table","rule","puts"] (a4r K P w t.k_a0 t.k_a1 t.k_a4):=by
 exists T.F_f3.ok a3d,a4r,(a0e (a0q (i:=4) (hs:=a5y) a3d.nd rfl (by nofun) (a1n (a0a (a7s T.mk_a4 G_c3 hr.o rfl T.m_a4 T.b_c3 .nil a0o (a0a (mv 3) (a0a a0f (a0a (a1n a0b) a0b)))) a0b))) (a0g (a5u Zz (a3t K rfl (mv 4)) (a0e (a0q (i:=5) (hs:=a1h) a3d.nd rfl (by nofun) (b3x K rfl Z7 Ws Vg b3w (mv 4))) (a0g (a1e (a0y a2a (a0v (mv 5) rfl) (a1p (a3u K rfl) rfl T.n_f8 Yt (a0a (a0j (a0h K rfl) (mv 2) a0f (λ_ _=>rfl)) a0b)) (a1b _)) (a0g (a1f (a3m (mv 0) T.cl_a0 T.me_e7 G_e7 hr.o T.b_e7 .nil a0o (a0a (mv 1) (a0a (a0j (a0h K rfl) (mv 2) a0f (λ_ _=>rfl)) (a0a (mv 5) a0b)))))) (a0e (a0q (i:=6) (hs:=a1h) a3d.nd rfl (by nofun) (a0k G_b1 hr.o rfl T.m_b1 T.F_b1.kp T.b_b1 .nil a0o (a0a (a0k G_b2 hr.o rfl T.m_b2 T.F_b2.kp T.b_b2 .nil a0o (a0a (a0j (a0h K rfl) (a0j (a0h K rfl) (mv 2) a0f (λ_ _=>rfl)) (a0v (mv 5) rfl) (λ_ _=>rfl)) (a0a a0f a0b))) (a0a (a0v (mv 5) rfl) a0b)))) (a0g (a1f (a2y K rfl Z7 X8 Vq (b0m K rfl) (mv 4) (a0a (b2i K rfl rfl rfl T.n_f9 rfl T.n_h3 (a0a (a3m (mv 0) T.cl_a0 T.me_f1 G_f1 hr.o T.b_f1 .nil a0o (a0a (mv 6) (a0a (mv 5) a0b))) a0b)) a0b))))))))))),H,Q,E,hr,h
 rename_i f ta rv pp;obtain⟨x,L,i,g,r,q,fa,ok,tk,tat,hd,rk,hq,hpp,leg,hsp,hpb,kq⟩:=h;obtain⟨tu,hv,gl,ug,rfl,hts,hh,hgl,hgn,hgd⟩:=d0w hd;obtain⟨kvp,p1,p2⟩:=hq.ex;have hgz:=hgd.length;rw[Trm.dataL_map,length_map]at hgz;have hl10:=rk.gl;have nM:∀{a:Addr},H a=none->a∉x.M f:=λe=>fa.notM e
 ext;refine⟨ln qz,λpr hpr=>?_⟩;generalize e9:upd H pr _=H1;obtain⟨spr,kpr⟩:=nwq hpr e9;clear e9;ext;refineλrg dgn hr1 hr2 hne=>?_
 refine⟨dgn,a0c,λH2 bt2 ho2=>⟨rfl,?_⟩⟩;have s2:Same H1 H2:=a7g hr1 hr2 bt2;ext;refine⟨ln qz,λD hD=>?_⟩;generalize e9:upd H2 D _=H3;obtain⟨sD,kD⟩:=nwq hD e9;clear e9;ext;have s3:Same H H3:=spr.trans (s2.trans sD);have hDH:H D=none:=a1c (spr.trans s2) hD;have ev0:Ev K (D::x.M f) (D::x.M f) H H3:=.same s3;have nDc:∀{a:Addr},H2 a≠none->a∉x.M f->a∉D::x.M f:=λh1 h2 z=>(Zg.mp z).elim (λz=>h1 (by rw[z];exact hD)) h2
 have g0:GoAt K t.k_a4 H3 (D::x.M f) (.ref rg) ⟨q,0,[]⟩:=⟨rg,dgn,pp,pr,[],rfl,sD _ _ ho2,nDc (by rw[ho2];simp) (nM (a1c spr hr1)),⟨kvp,s3 _ _ p1,p2.mono s3⟩,nDc (by rw[(spr.trans s2) _ _ p1];simp) hpp,(s2.trans sD) _ _ kpr,nDc (by rw[s2 _ _ kpr];simp) (nM hpr),.nil⟩;refine a4s (λn σ' J=>∃(o5 o6:Option V)(x':Fs)(us:List V)(gs:List Go),σ'=[some (.ref f),some (.ref ta),some (.ref tu),some (.ref pp),some (.ref D),o5,o6]/\FilA K P w t.k_a0 t.k_a1 L J f x'/\Adv K f H J x x'/\J D=some (.lst us)/\D∉x'.M f/\Paired (GoAt K t.k_a4 J (D::x'.M f)) us gs/\(∀e∈gs,e.d<=r.goals.length/\L.Leg g r e.d e.q/\RsOk x'.tb e.rs/\e.rs.length<=e.d)/\Tok L x'.tb/\x'.o.sp+(pS L g r gs:Int)<=x.o.sp+(L.pot g r 0:Int)/\n=gs.length+pS L g r gs/\n<=301/\(x'.o.ch=false->(∀e∈gs,Clo L x'.tb g r (r.goals.length-e.d) e.d e.q)->Clo L x'.tb g r r.goals.length 0 q)) (1+L.pot g r 0) ⟨none,none,x,[.ref rg],[⟨q,0,[]⟩],rfl,fa.same s3,.same s3,kD,nM hDH,.cons g0 .nil,(λe he=>by rw[Zd.mp he];exact⟨Z4 _,leg,λp hp=>(by simp at hp),Zm _⟩),tk,(by rw[c4b];exact Int.le_refl _),(by rw[c4b];rfl),(by omega),λ_ h=>h _ (Zd.mpr rfl)⟩ (λn σ' J R hP kT kF=>?_);clear g0 ev0;obtain⟨o5,o6,x',us,gs,rfl,fj,av,jD,nD,pg,pl,tk',hs',hn,hn3,hc⟩:=hP
 by_cases hge:gs=[]
 ·subst hge;cases pg;ext;refine .inl ⟨_,SqL.of jD,?_⟩
  exists kF J
  refine kq x' J fj av tk' ?_ λz=>hc z λe he=>by simp at he
  have:pS L g r []=0:=rfl;omega
 obtain⟨us1,uv,gs1,e,rfl,rfl,pg1,pge⟩:=b3j pg hge;rw[b8v,c4b]at hs' hn;rw[Zk,Z8]at hn;have hul1:us1.length=gs1.length:=Y0 pg1;obtain⟨hde,lege,rse,rle⟩:=pl e (Z3 _ (Zd.mpr rfl));ext;refine .inl ⟨_,SqL.of jD,?_⟩;rw[show(!(us1++[uv]).isEmpty)=true by simp];refine kT J (λD' e1 e2 hnx hct=>?_);ext;refine⟨.inl ⟨rfl,_,SqL.of jD⟩,?_⟩;refine b3y jD ?_;obtain⟨fj1,av1⟩:=FilA.lst (us':=us1) fa fj av hDH nD jD;have eD:Ev K (D::x'.M f) (D::x'.M f) J (upd J D (.lst us1)):=ev_in (Ze ..) jD (λ_ z=>by cases z) (λ_ _ z=>by cases z);have jD1:(upd J D (.lst us1)) D=some (.lst us1):=a0c;have pg1:=Paired.mapP pg1 λ_ _ z=>z.ev eD
 have pge:=pge.ev eD;generalize upd J D (.lst us1)=J1 at*;ext;have pge0:=pge;obtain⟨ga,dg,pp1,rl,ur,rfl,o1,o2,o3,o4,o5,o6,o7⟩:=pge;have hrd:=(ok.rw _ _ _ _ lege);have hts1:=av1.ev.pr.kt _ _ hts;have hgl1:=(av1.ev.off hgn hgl).2;have pg0:=pge0.less (M':=x'.M f) λa ha=>Zc _ ha
 refine⟨ga,_,dg,_,_,rfl,o1,T.cl_a4,T.no_a4_done,b5p,?_⟩;ext
 exists a0m hts1 (v:=.ref gl) rfl
 exists a5x (SqL.of hgl1)
 exists ee
 ·have ee:((e.d:Nat):Int)=(ug.length:Int):=Z5 (by rw[Zp]at ee;exact ee);have hdl:e.d=r.goals.length:=by omega
  ext;refine⟨f,x'.dx,_,rfl,fj1.ob,a7p qk,?_⟩;ext
  exists a0m hts1 (v:=.int (r.n:Int)) rfl
  obtain⟨q0,hq0,hta⟩:=tat.q;obtain⟨as0,has0⟩:=tat.t;obtain⟨more,hi'⟩:=av1.gr.ex _ _ has0;refine⟨x',L,i,as0++more,g,r,e,fj1,ok,tk',⟨q0,av1.pq _ _ hq0,hta⟩,hi',pg0,hdl,lege,rse,rle,λx2 J2 fj2 av2 tk2 hs2 hc2=>?_⟩;have jD2:=av2.ev.off nD jD1;have eD2:Ev K (D::x'.M f) (D::x2.M f) J1 J2:=av2.ev.cons jD1;refine hnx _ _ (gs1.length+pS L g r gs1) (by rw[hn];omega) ⟨_,_,x2,us1,gs1,rfl,fj2,av1.trans av2,jD2.2,jD2.1,Paired.mapP pg1 λ_ _ z=>z.ev eD2,λe' he'=>?_,tk2,by rw[hs2];omega,rfl,qo,λz h=>?_⟩
  ·obtain⟨y1,y2,y3,y4⟩:=pl e' (Yy _ he');exact⟨y1,y2,y3.ext av2.gr.ex,y4⟩
  ·obtain⟨z1,z2⟩:=av2.gr.st z;rw[z2]at h ⊢;refine hc z1 λe' he'=>?_
   rcases Zr.mp he' with y|y
   ·exact h e' y
   ·rw[Zd.mp y,show r.goals.length-e.d=0 by omega,Clo];exact⟨_,Zn hi',hc2 z⟩
 ·have ee:¬((e.d:Nat):Int)=(ug.length:Int):=Xc (by rw[Zp]at ee;exact ee);have hlt:e.d<r.goals.length:=by omega
  have hx:r.goals[e.d]? =some r.goals[e.d]:=Za hlt
  obtain⟨b1,b2,b3,b4,b5⟩:=ok.sb g r e.d e.q lege _ hx;obtain⟨hui,dk⟩:=a6s hgd hlt;have hgk:=rk.gz _ (Z6 hlt);have hgn':=rk.gn _ (Z6 hlt);obtain⟨kv3,p31,p32⟩:=o3.ex;ext
  exists a0m hts1 (v:=.ref gl) rfl
  refine⟨ga,_,dg,_,_,rfl,o1,T.cl_a4,T.no_a4_done,b5p,?_⟩;ext
  exists a1j (SqL.of hgl1) (v:=ug[e.d]) (a7e (Za hui))
  refine⟨r.goals[e.d],dk.monoT av1.ev.pr.kt,qo,qo,qo,hgn',λmv J2 s2' d2=>?_⟩;have d2:Den K J2 mv (ren (mrk 0) r.goals[e.d]).data:=d2;ext;refine⟨ga,_,dg,_,_,rfl,(s2' _ _ o1),T.cl_a4,T.no_a4_puts,b9w,?_⟩;ext;refine⟨e.q,ren (mrk 0) r.goals[e.d],L.sub r e.d e.q,⟨kv3,s2' _ _ p31,p32.mono s2'⟩,d2,b1,by rw[c3n];omega,λr' hr'=>by have:=hrd.1.1 r' hr';omega,b2,λgv2 J3 s3' d3=>?_⟩;ext;have s13:=s2'.trans s3';have jD3:=s13 _ _ jD1;refine⟨.inl ⟨rfl,_,SqL.of jD3⟩,?_⟩;ext;refine⟨f,x'.dx,_,rfl,(fj1.same s13).ob,a7p qk,?_⟩;ext;have hcap:L.cap (told (L.sub r e.d e.q))<=L.pot g r e.d:=Ye (Nat.le_mul_of_pos_right _ qo) b5;refine⟨x',L,g,r,e,fj1.same s13,ok,tk',d3,pg0.ev (.same s13),lege,hlt,rse,rle,qo,λx2 D2 us2 gs2 J4 fj4 av4 hD2 gn=>?_⟩;have jD4:=av4.ev.off nD jD3;have eD4:Ev K (D::x'.M f) (D::x2.M f) J1 J4:=(Ev.same s13).trans (av4.ev.cons jD3);have pg2:=gn.pg D _ jD3;obtain⟨as,pa1,pa2⟩:=gn.pa;have hl2:gs2.length=as.length:=by
   have:=Yv List.length pa2;rw[length_map,length_map]at this;exact this
  have hca:as.length<=L.cap (told (L.sub r e.d e.q)):=ok.ac _ b4 as (gn.tk.an _ pa1).1 (gn.tk.an _ pa1).2;have hdd:∀z∈gs2,z.d=e.d+1:=λz hz=>(gn.po z hz).1
  have hpo:=Sn (1+L.pot g r (e.d+1)) (Ye (T8 hl2) hca);rw[Nat.mul_add,Nat.mul_one]at hpo;have hus2:us2.length=gs2.length:=Y0 pg2;have h300:gs1.length<=90000:=by omega
  ext;refine⟨D2,us2,rfl,.inl (SqL.of gn.top),qo,λpv hpv=>?_⟩;generalize e9:upd J4 pv _=J5;obtain⟨spv,kpv⟩:=nwq hpv e9;clear e9;ext;have jD5:=spv _ _ jD4.2;refine c9j jD5 kpv (ln (by rw[Xh];omega)) ?_;have av5:=(av1.trans ((Adv.same s13).trans av4)).trans (Adv.same spv);obtain⟨f6,av6⟩:=FilA.lst (us':=us1++us2.reverse) fa (fj4.same spv) av5 hDH jD4.1 jD5;have eD6:Ev K (D::x2.M f) (D::x2.M f) J4 (upd J5 D (.lst (us1++us2.reverse))):=(Ev.same spv).trans (ev_in (Ze ..) jD5 (λ_ z=>by cases z) (λ_ _ z=>by cases z));refine hnx _ _ ((gs1++gs2.reverse).length+pS L g r (gs1++gs2.reverse)) ?_ ⟨_,_,x2,us1++us2.reverse,gs1++gs2.reverse,rfl,f6,av6,a0c,jD4.1,a5e (Paired.mapP pg1 λ_ _ z=>(z.ev eD4).ev eD6) (b8u (Paired.mapP pg2 λ_ _ z=>z.ev eD6)),λe' he'=>?_,gn.tk,?_,rfl,?_,λz h=>?_⟩
  ·rw[hn,b8v,b6y hdd,Zk,Xh];omega
  ·rcases Zr.mp he' with y|y
   ·obtain⟨y1,y2,y3,y4⟩:=pl e' (Yy _ y);exact⟨y1,y2,y3.ext av4.gr.ex,y4⟩
   ·have y:=U5.mp y;obtain⟨c1,c2,c3⟩:=gn.po e' y;refine⟨qo,?_,c2,qo⟩;have hm:e'.q∈as.map (L.nxt r e.d e.q):=by rw[<-pa2];exact Z1.mpr ⟨e',y,rfl⟩
    obtain⟨a,ha,ea⟩:=Z1.mp hm;rw[c1,<-ea];exact(ok.nx g r e.d e.q a lege hlt ((gn.tk.an _ pa1).2 a ha)).2
  ·have hsp2:=gn.sp;rw[b8v,b6y hdd];have hpo':(gs2.length+gs2.length*L.pot g r (e.d+1):Nat)<=L.pot g r e.d:=Ye hpo b5;omega
  ·rw[b8v,b6y hdd,Zk,Xh];omega
  ·obtain⟨z1,z2⟩:=av4.gr.st z;have h1:=gn.pa;rw[z2]at h h1 ⊢;refine hc z1 λe' he'=>?_
   rcases Zr.mp he' with y|y
   ·exact h e' (Yy _ y)
   ·rw[Zd.mp y];exact Clo.step hlt hdd h1 λz hz=>h z (Z3 _ (U5.mpr hz))
end
section
variable{P:Program}{w:World}{K:W.Frag}{mg:Str->Option Value}{base:Heap}{t:Ad}
theorem b4y(T:Txt K mg t)(G_a6:FnOk P w K mg base CX0 1 t.a_a6 t.d_a6 ["goal"] (a5d K))(G_b8:FnOk P w K mg base CX0 6 t.a_b8 t.d_b8 ["one","other","puts"] (a8q K))(G_b2:FnOk P w K mg base CX0 73 t.a_b2 t.d_b2 ["term","n"] (a8t K))(G_b9:FnOk P w K mg base CX0 1 t.a_b9 t.d_b9 ["self"] (a3g K P w t.k_a0 t.k_a1 t.k_a4))(G_f3:FnOk P w K mg base CX0 77 t.a_f3 t.d_f3 ["self","table","rule","puts"] (a4r K P w t.k_a0 t.k_a1 t.k_a4)):FnOk P w K mg base CX0 78 t.a_f2 t.d_f2 ["self","table"] (a6k K P w t.k_a0 t.k_a1 t.k_a4):=by
 exists T.F_f2.ok a6c,a6k,(a0g (a1y Zz rfl (a1l K rfl (c2j (a3v hr) (a0v (mv 0) rfl) (a0k G_a6 hr.o rfl T.m_a6 T.F_a6.kp T.b_a6 .nil a0o (a0a (a0v (mv 1) rfl) a0b)) (a1n a0b) ⟨rfl,rfl,rfl,rfl⟩)) (a1d (i:=2) a6c.nd rfl (by nofun)) (a0e (a0q (i:=3) (hs:=a1h) a6c.nd rfl (by nofun) (a0k G_b8 hr.o rfl T.m_b8 T.F_b8.kp T.b_b8 .nil a0o (a0a (a0v (mv 1) rfl) (a0a (a0k G_b2 hr.o rfl T.m_b2 T.F_b2.kp T.b_b2 .nil a0o (a0a (a0j (a0h K rfl) (mv 2) a0f (λ_ _=>rfl)) (a0a a0f a0b))) (a0a a6y a0b))))) (a0g (a1e (a0y a2a (a0j (a0h K rfl) (mv 3) a0f (λ_ _=>rfl)) a0t (a1b _)) (a0e (a1f (a9v (mv 0) T.cl_a0 T.me_b9 G_b9 hr.o T.b_b9 .nil a0o)) (a0g (a1f (a3m (mv 0) T.cl_a0 T.me_f3 G_f3 hr.o T.b_f3 .nil a0o (a0a (mv 1) (a0a (mv 2) (a0a (a0j (a0h K rfl) (mv 3) a0f (λ_ _=>rfl)) a0b))))))) a1a))))),H,Q,E,hr,h
 rename_i f ta;obtain⟨x,L,i,g,fa,ok,tk,tat,hsp,kq⟩:=h;obtain⟨q0,hq0,hta⟩:=tat.q;obtain⟨as,hi⟩:=tat.t;subst hta;have hu:g∈L.univ:=tk.un _ (Zn hi);obtain⟨⟨w1,ks,eg⟩,gsz,gdp,gnm,gan⟩:=ok.gl _ hu;have eg:g=.app w1 ks:=eg;have hrl:=ok.rl _ hu;have hcs:=ok.cs _ hu;have hap:=ok.ap _ hu;have hco:L.cost g<=300:=by
  have:=Tok.cost ok tk;obtain⟨A,B,e⟩:=Xm (Zn hi);rw[e]at this;simp only[Zi,Zt,Yz,Yu]at this;omega
 obtain⟨y,e1,tq⟩:=a2j fa.tbs hq0;rw[hi]at e1;cases e1;obtain⟨kvs,hk,tb⟩:=fa.rl;have hgo:Den K H q0.gv g.data:=tq.go;have hgo2:=hgo;rw[eg]at hgo2;ext;refine⟨f,_,x.dx,_,_,rfl,fa.ob,T.cl_a0,T.no_a0_rules,d3v,?_⟩;ext;refine⟨x.o.rd,rfl,.inr ⟨kvs,.inl hk⟩,?_⟩;ext;refine⟨q0.t,_,q0.dt,_,_,rfl,tq.ob,T.cl_a1,T.no_a1_goal,b5o,?_⟩;ext;refine⟨w1,ks,hgo2,λp H1 s1 hp=>?_⟩;ext;refine⟨ln qz,λp2 hp2=>?_⟩;generalize e9:upd H1 p2 _=H2;obtain⟨sp2,kp2⟩:=nwq hp2 e9;clear e9;ext;have s2:=s1.trans sp2;refine⟨_,DGet.t (s2 _ _ hk) (sp2 _ _ hp),?_⟩;have np2:p2∉x.M f:=(fa.same s1).notM hp2;have hD:Dm K H2 (x.M f) ((valV kvs (nd w1 ks.length)).getD (.ref p2)) (rlD (L.rules g)):=by
  have er:L.rules g=a3f L.tab (nd w1 ks.length):=by rw[Lw.rules,eg];rfl
  rw[er];rcases c6l (tb.ev (.same s2)) (nd w1 ks.length)with⟨e1,e2⟩|⟨v,e1,e2⟩
  ·rw[e1,e2];exact .lst kp2 np2 .nil
  ·rw[e1];exact e2
 generalize (valV kvs (nd w1 ks.length)).getD (.ref p2)=fv at hD ⊢;generalize hrule:L.rules g=rules at hD hrl hcs hap;obtain⟨a,us,rfl,ha,hn,hd⟩:=rl_list hD;have hul:=hd.length;rw[length_map]at hul;ext;refine⟨a,rfl,⟨_,SqL.of ha⟩,?_⟩;have av2:Adv K f H H2 x x:=.same s2;have h30:(0:Int)<10^30:=by decide+kernel
 refine a1s (a1i (xs:=us)) (λk σ' J=>∃(o2 o3:Option V)(x':Fs),σ'=[some (.ref f),some (.ref q0.t),o2,o3]/\FilA K P w t.k_a0 t.k_a1 L J f x'/\Adv K f H2 J x x'/\Tok L x'.tb/\x'.o.sp<=x.o.sp+((((rules.take k).map λr=>1+L.pot g r 0).sum:Nat):Int)/\(x'.o.ch=false->∀r∈rules.take k,∀q,L.app g r=some q->Clo L x'.tb g r r.goals.length 0 q)) ⟨none,none,x,rfl,fa.same s2,.refl,tk,(by simp),λ_ r hr=>(by simp at hr)⟩ (λk σ' J hP=>by obtain⟨_,_,x',_,_,av,_⟩:=hP;exact SqL.of (av.ev.off hn ha).2) (λk σ' J hk' hP=>?_) (λσ' J hP=>?_);rotate_left
 ·obtain⟨o2,o3,x',rfl,fj,av,tk',hs',hc⟩:=hP;rw[hul,Yr]at hs' hc;ext;exact kq x' J fj (av2.trans av) tk' qo λz r hr q e=>hc z r (hrule▸hr) q e
 ·obtain⟨o2,o3,x',rfl,fj,av,tk',hs',hc⟩:=hP;have hkr:k<rules.length:=by omega
  obtain⟨d,d1,d2⟩:=hd.at (Za hk');rw[Zv,Za hkr]at d1;have d1:rules[k].data=d:=Zl d1;subst d1;have hm:rules[k]∈rules:=Z6 hkr;have rk:=hrl.2 _ hm;have hsum:((rules.take (k+1)).map λr=>1+L.pot g r 0).sum=((rules.take k).map λr=>1+L.pot g r 0).sum+(1+L.pot g rules[k] 0):=by
   rw[a2k hkr,Zi,Yz,Wv,Uh]
  have hle:=c4c (f:=λr=>1+L.pot g r 0) rules (k+1);rw[hsum]at hle;have hap':=hap _ hm;have hnew:∀r,r∈rules.take (k+1)->r∈rules.take k\/r=rules[k]:=λr hr=>by
   rw[a2k hkr]at hr;rcases Zr.mp hr with z|z
   ·exact .inl z
   ·exact .inr (Zd.mp z)
  rw[getD_at hk'];generalize us[k]=uv at d2;have d2j:=d2.ev av.ev;obtain⟨tu,hv,gl,ug,rfl,hts,hh,hgl,hgn,hgd⟩:=d0w d2j;have ob2:=(av2.trans av).ev.off tq.nt tq.ob;have hgoJ:=hgo.monoT (av2.trans av).ev.pr.kt;ext;refine⟨q0.t,_,q0.dt,_,_,rfl,ob2.2,T.cl_a1,T.no_a1_goal,b5o,?_⟩;ext
  exists a0m hts (v:=hv) rfl
  refine⟨rules[k].head,hh,by have:=rk.hz;omega,qo,qo,rk.hn,λmv J1 s1' d1=>?_⟩;have d1:Den K J1 mv (ren (mrk 0) rules[k].head).data:=d1;ext;refineλpd hpd=>?_
  generalize e9:upd J1 pd _=J2;obtain⟨spd,kpd⟩:=nwq hpd e9;clear e9;ext;have s12:=s1'.trans spd;rcases hap' with⟨q,c,hq,un,leg⟩|⟨hno,q,c,un⟩
  ·refine⟨[],g,ren (mrk 0) rules[k].head,true,q,c,⟨[],kpd,.nil⟩,Z4 _,hgoJ.mono s12,d1.mono spd,un,λtp np J3 s3 h4 _=>?_⟩;obtain⟨h4a,h4b,h4c⟩:=h4 rfl;ext
   exists a0m h4a (v:=.str "one") rfl
   refine iteT ?_;have s13:=s12.trans s3;have f3:=fj.same s13;ext;refine⟨f,x'.dx,_,rfl,f3.ob,a7p qk,?_⟩;ext;refine⟨x',L,f3,qo,λJ4 f4 bt4 kt4=>?_⟩;have e34:=c3z (M:=x'.M f) (Ze ..) f4.ob bt4 kt4;ext;refine⟨f,x'.dx,_,rfl,f4.ob,a7p qk,?_⟩;ext;refine a0m (e34.pr.kt _ _ h4a) (v:=.ref np) rfl ?_;have np3:np∉x'.M f:=by
    have:=(fj.same s12).notM h4b;exact this
   obtain⟨kv4,k41,k42⟩:=h4c.ex;have av4:Adv K f J J4 x' (x'.put x'.o.st (x'.o.sp+1) x'.o.ch):=⟨(Ev.same s13).trans e34,.refl _ _,rfl,λ_ _ h=>h,rfl,rfl,rfl⟩;obtain⟨more,hi'⟩:=av.gr.ex _ _ hi;refine⟨x'.put x'.o.st (x'.o.sp+1) x'.o.ch,L,i,g,rules[k],q,f4,ok,tk',⟨⟨q0,av.pq _ _ hq0,rfl⟩,_,hi'⟩,d2j.ev av4.ev,rk,⟨kv4,(e34.off np3 k41).2,k42.monoT kt4⟩,np3,leg,by show x'.o.sp+1+_<=_;omega,qo,λx2 J5 f5 av5 tk5 hs5 hc5=>?_⟩;have hs5:x2.o.sp<=x'.o.sp+1+(L.pot g rules[k] 0:Int):=hs5;refine⟨_,_,x2,rfl,f5,av.trans (av4.trans av5),tk5,by rw[hsum];omega,λz r hr q2 e2=>?_⟩;obtain⟨z1,z2⟩:=av5.gr.st z;rcases hnew r hr with y|y
   ·have:=hc z1 r y q2 e2;rw[z2];exact this
   ·subst y;rw[hq]at e2;cases e2;exact hc5 z
  ·refine⟨[],g,ren (mrk 0) rules[k].head,false,q,c,⟨[],kpd,.nil⟩,Z4 _,hgoJ.mono s12,d1.mono spd,un,λtp np J3 s3 _ h4=>?_⟩;obtain⟨s,ys,h4a,h4b⟩:=h4 rfl;ext
   exists a0m h4a (v:=.str s) (a6t _ _)
   rw[Zs h4b];refine iteF ?_;ext;refine⟨_,_,x',rfl,fj.same (s12.trans s3),av.trans (.same (s12.trans s3)),tk',by rw[hsum];omega,λz r hr q2 e2=>?_⟩;rcases hnew r hr with y|y
   ·exact hc z r y q2 e2
   ·subst y;rw[hno]at e2;cases e2
end
section
variable{P:Program}{w:World}{K:W.Frag}{mg:Str->Option Value}{base:Heap}{t:Ad}
theorem b1b(T:Txt K mg t)(G_f2:FnOk P w K mg base CX0 78 t.a_f2 t.d_f2 ["self","table"] (a6k K P w t.k_a0 t.k_a1 t.k_a4)):FnOk P w K mg base CX0 79 t.a_e9 t.d_e9 ["self"] (a4c K P w t.k_a0 t.k_a1 t.k_a4):=by
 exists T.F_e9.ok a4b,a4c,(a0e (a1q (mv 0) a0f rfl) (a0g (a1y Zz rfl (a1l K rfl (a1p (d3l w rfl rfl) rfl T.n_i0 boot_sorted (a0a (a2i (mc_setZ K w rfl rfl rfl) rfl T.n_h8 boot_set (a0a (a4e rfl (a1l K rfl (a0v (mv 0) rfl)) (a3p (a0i a3b) ["self","layer","table"] ["self","layer","%table"] rfl rfl qk) (λ_ _ _ _ _=>a3o) (λ_ _ _ _ _=>(b1j K rfl (mv 0) rfl))) a0b)) a0b))) (a1d (i:=1) a4b.nd rfl (by nofun)) (a0e (a1q (mv 0) (a1p (a3u K rfl) rfl T.n_f8 Yt (a0a (a0v (mv 0) rfl) a0b)) rfl) (a0e (a1y Zz rfl (a1l K rfl (a7t (a9k K rfl) (a0v (mv 0) rfl) a9g (a9h (a0v (mv 0) rfl)))) (a1d (i:=2) a4b.nd rfl (by nofun)) (a0g (a1e (a0y a2a (a0v (mv 2) rfl) (mv 1) (a1b _)) (a0g (a1f (a3m (mv 0) T.cl_a0 T.me_f2 G_f2 hr.o T.b_f2 .nil a0o (a0a (mv 2) a0b)))) a1a))) (a0g (a1e (a3t K rfl (a0v (mv 0) rfl)) (a0g c5q) a1a))))))),H,Q,E,hr,h
 rename_i f;obtain⟨x,L,fa,ok,tk,hch,hne,kq⟩:=h;ext;refine⟨f,_,x.dx,_,rfl,fa.ob,T.cl_a0,T.no_a0_steps,by show 8<1000;decide,?_⟩;rw[c3w];obtain⟨fb,ev1⟩:=fa.set x.o.st 0 x.o.ch;have fb:FilA K P w t.k_a0 t.k_a1 L (upd H f (.ins t.k_a0 x.dx { x.o with st:=x.o.st,sp:=0,ch:=x.o.ch}.fs)) f (x.put x.o.st 0 x.o.ch):=fb;have av1:Adv K f H (upd H f (.ins t.k_a0 x.dx { x.o with st:=x.o.st,sp:=0,ch:=x.o.ch}.fs)) x (x.put x.o.st 0 x.o.ch):=⟨ev1,.refl _ _,rfl,λ_ _ h=>h,rfl,rfl,rfl⟩;generalize upd H f (.ins t.k_a0 x.dx { x.o with st:=x.o.st,sp:=0,ch:=x.o.ch}.fs)=H1 at*;have hql:x.qs.length=x.tb.length:=Y0 fa.tbs;have htl:=tk.len ok;have hnu:=ok.nu;have hpos:0<x.tb.length:=List.length_pos_iff.mpr hne;ext;refine⟨f,_,x.dx,_,_,rfl,fb.ob,T.cl_a0,T.no_a0_tables,a3z,?_⟩;ext;refine⟨x.o.tl,rfl,⟨_,SqL.of fb.tl⟩,λD hD=>?_⟩;refine a2q (a1i (xs:=x.qs.map λq=>V.ref q.t)) (λj ys J=>Same H1 J/\J D=some (.lst ys)/\ys=List.replicate j (V.int 0)) (ln (by rw[length_map];omega)) ⟨a0l hD _,a0c,rfl⟩ (λj ys J hP=>SqL.of (hP.1 _ _ fb.tl)) (λj ys J Q' hj hl' hP kq'=>?_) (λys J hl' hP=>?_)
 ·obtain⟨g1,g2,rfl⟩:=hP;have hj':j<x.qs.length:=by rw[length_map]at hj;exact hj
  obtain⟨y,e1,tq⟩:=a2j fb.tbs (Za hj');rw[getD_at (by rw[length_map];exact hj'),Wn];ext;refine⟨_,_,_,_,_,rfl,g1 _ _ tq.ob,T.cl_a1,T.no_a1_layer,c3x,?_⟩;refine kq' _ _ g2 ⟨a0x g1 hD,a0c,by rw[Sr]⟩
 obtain⟨g1,g2,rfl⟩:=hP;rw[length_map]at g2;obtain⟨n,hn⟩:∃n,x.qs.length=n+1:=⟨x.qs.length-1,qo⟩;rw[hn]at g2;ext;refine⟨D,n,rfl,SqL.of g2,λp1 hp1=>?_⟩;generalize e9:upd J p1 _=J1;obtain⟨sp1,kp1⟩:=nwq hp1 e9;clear e9;ext;refine⟨p1,rfl,kp1,λp2 hp2=>?_⟩;generalize e9:upd J1 p2 _=J2;obtain⟨sp2,kp2⟩:=nwq hp2 e9;clear e9;ext;refine⟨p2,rfl,⟨_,SqL.of kp2⟩,?_⟩;have s12:=g1.trans (sp1.trans sp2);have fc:=fb.same s12;have av2:=av1.trans (.same s12);have hp2M:p2∉x.M f:=((fb.same (g1.trans sp1)).notM hp2:p2∉(x.put x.o.st 0 x.o.ch).M f);refine a1s (a1i (xs:=[V.int 0])) (λk σ' J=>J p2=some (.lst [.int 0])/\((k=0/\σ'=[some (.ref f),none,none]/\J=J2)\/(k=1/\∃x',FilA K P w t.k_a0 t.k_a1 L J f x'/\Adv K f H J x x'/\Tok L x'.tb/\(x'.o.ch=false->∀y∈x'.tb,ClT L x'.tb y.1)))) ⟨kp2,.inl ⟨rfl,rfl,rfl⟩⟩ (λk σ' J hP=>SqL.of hP.1) (λk σ' J hk hP=>?_) (λσ' J hP=>?_);rotate_left
 ·obtain⟨h1,⟨h2,_⟩|⟨_,x',h3,h4,h5,h6⟩⟩:=hP
  ·cases h2
  ·ext;exact kq x' J h3 h4 h5 h6
 ·have hk:k<1:=hk;have hk:k=0:=by omega
  subst hk;obtain⟨_,⟨_,rfl,rfl⟩|⟨h2,_⟩⟩:=hP;rotate_left
  ·cases h2
  ext;refine⟨f,_,x.dx,_,_,rfl,fc.ob,T.cl_a0,T.no_a0_tables,a3z,?_⟩;ext;refine a5x (SqL.of fc.tl) ?_;rw[length_map];ext;refine⟨f,_,x.dx,_,rfl,fc.ob,T.cl_a0,T.no_a0_settled,by show 8<1000;decide,?_⟩;rw[c7p];obtain⟨fd,ev3⟩:=fc.set (x.qs.length:Int) 0 x.o.ch;have fd:FilA K P w t.k_a0 t.k_a1 L (upd J f (.ins t.k_a0 x.dx { x.o with st:=(x.qs.length:Int),sp:=0,ch:=x.o.ch}.fs)) f (x.put (x.qs.length:Int) 0 x.o.ch):=fd;have av3:Adv K f H (upd J f (.ins t.k_a0 x.dx { x.o with st:=(x.qs.length:Int),sp:=0,ch:=x.o.ch}.fs)) x (x.put (x.qs.length:Int) 0 x.o.ch):=av2.trans ⟨ev3,.refl _ _,rfl,λ_ _ h=>h,rfl,rfl,rfl⟩;have hp3:=(ev3.off hp2M kp2).2;generalize upd J f (.ins t.k_a0 x.dx { x.o with st:=(x.qs.length:Int),sp:=0,ch:=x.o.ch}.fs)=J3 at*;ext;refine⟨f,_,x.dx,_,_,rfl,fd.ob,T.cl_a0,T.no_a0_tables,a3z,?_⟩;ext;refine⟨f,_,x.dx,_,_,rfl,fd.ob,T.cl_a0,T.no_a0_settled,c7o,?_⟩;ext;refine b7s (SqL.of fd.tl) λp4 hp4=>?_
  rw[show cutV ((x.put (x.qs.length:Int) 0 x.o.ch).qs.map λq=>V.ref q.t) none (some (x.put (x.qs.length:Int) 0 x.o.ch).o.st)=x.qs.map λq=>V.ref q.t from cut_all (by rw[length_map])];generalize e9:upd J3 p4 _=J4;obtain⟨sp4,kp4⟩:=nwq hp4 e9;clear e9;have fe:=fd.same sp4;have hp4M:p4∉x.M f:=(fd.notM hp4:p4∉(x.put (x.qs.length:Int) 0 x.o.ch).M f);have av4:=av3.trans (.same sp4);refine⟨p4,rfl,⟨_,SqL.of kp4⟩,?_⟩;refine a1s (a1i (xs:=x.qs.map λq=>V.ref q.t)) (λj σ' J'=>∃(o2:Option V)(x':Fs),σ'=[some (.ref f),some (.int 0),o2]/\FilA K P w t.k_a0 t.k_a1 L J' f x'/\Adv K f J4 J' (x.put (x.qs.length:Int) 0 x.o.ch) x'/\Tok L x'.tb/\x'.o.sp<=((((x.tb.take j).map λy=>L.cost y.1).sum:Nat):Int)/\(x'.o.ch=false->∀y∈x.tb.take j,ClT L x'.tb y.1)) ⟨none,_,rfl,fe,.refl,tk,Int.le_refl _,λ_ y hy=>by simp at hy⟩ (λj σ' J' hP=>by obtain⟨_,x',_,_,av,_⟩:=hP;exact SqL.of (av.ev.off hp4M kp4).2) (λj σ' J' hj hP=>?_) (λσ' J' hP=>?_)
  ·obtain⟨o2,x',rfl,fj,av,tk',hs',hc⟩:=hP;have hj:j<x.qs.length:=by rw[length_map]at hj;exact hj
   have hjt:j<x.tb.length:=by omega
   obtain⟨y,e1,tq⟩:=a2j fe.tbs (Za hj);rw[Za hjt]at e1;cases e1;rw[getD_at (by rw[length_map];exact hj),Wn];have hco:=Tok.cost ok tk;have hsum:((x.tb.take (j+1)).map λy=>L.cost y.1).sum=((x.tb.take j).map λy=>L.cost y.1).sum+L.cost x.tb[j].1:=by
    rw[a2k hjt,Zi,Yz,Wv,Uh]
   have hle:=c4c (f:=λy=>L.cost y.1) x.tb (j+1);rw[hsum]at hle;have ht0:x.tb[j]? =some (x.tb[j].1,x.tb[j].2):=Za hjt
   obtain⟨more,ht1⟩:=av.gr.ex _ _ ht0;have obj:=(av.ev.off tq.nt tq.ob).2;ext;refine⟨_,_,_,_,_,rfl,obj,T.cl_a1,T.no_a1_layer,c3x,?_⟩;ext;refine iteT ?_;ext;refine⟨f,x'.dx,_,rfl,fj.ob,a7p qk,?_⟩;ext;refine⟨x',L,j,x.tb[j].1,fj,ok,tk',⟨⟨x.qs[j],av.pq _ _ (Za hj),rfl⟩,_,ht1⟩,qo,λx2 J5 f5 av5 tk5 hs5 hc5=>?_⟩;refine⟨_,x2,rfl,f5,av.trans av5,tk5,by rw[hsum];omega,λz y hy=>?_⟩;obtain⟨z1,z2⟩:=av5.gr.st z;rw[a2k hjt]at hy;rcases Zr.mp hy with e|e
   ·rw[z2];exact hc z1 y e
   ·rw[Zd.mp e];exact hc5 z
  ·obtain⟨o2,x',rfl,fj,av,tk',hs',hc⟩:=hP;have avH:=av4.trans av;have hp5:=(av.ev.off (show p2∉(x.put (x.qs.length:Int) 0 x.o.ch).M f from hp2M) (sp4 _ _ hp3)).2;have hcl:x'.o.ch=false->∀y∈x'.tb,ClT L x'.tb y.1:=λz y hy=>by
    obtain⟨z1,z2⟩:=av.gr.st z;have z2:x'.tb=x.tb:=z2;rw[length_map,hql,Yr]at hc;exact hc z y (by rw[<-z2];exact hy)
   ext;refine⟨f,_,x'.dx,_,_,rfl,fj.ob,T.cl_a0,T.no_a0_changed,b8o,?_⟩;ext;cases hh:x'.o.ch with
   |true=>
    refine iteT ?_;ext;exact kq x' J' fj avH tk' hcl
   |false=>
    refine iteF ?_;ext;exact⟨hp5,.inr ⟨rfl,x',fj,avH,tk',hcl⟩⟩
end
section
variable{P:Program}{w:World}{K:W.Frag}{mg:Str->Option Value}{base:Heap}{t:Ad}
theorem c4u(T:Txt K mg t)(G_c8:FnOk P w K mg base CX0 5 t.a_c8 t.d_c8 ["rules"] (a8g K))(G_d9:FnOk P w K mg base CX0 1 t.a_d9 t.d_d9 ["leanings"] (a7c K))(G_c7:FnOk P w K mg base CX0 1 t.a_c7 t.d_c7 ["layers","leanings"] (a7q K))(G_a6:FnOk P w K mg base CX0 1 t.a_a6 t.d_a6 ["goal"] (a5d K)):FnOk P w K mg base CX0 6 t.a_e1 t.d_e1 ["rules"] (b0i K):=by
 exists T.F_e1.ok a6d,b0i,(a0e (a0q (i:=1) (hs:=a1h) a6d.nd rfl (by nofun) (a0k G_c8 hr.o rfl T.m_c8 T.F_c8.kp T.b_c8 .nil a0o (a0a (mv 0) a0b))) (a0e (a1f (a0k G_d9 hr.o rfl T.m_d9 T.F_d9.kp T.b_d9 .nil a0o (a0a (mv 1) a0b))) (a0e (a0q (i:=2) a6d.nd rfl (by nofun) c2i) (a0e (a1y Zz rfl (a1l K rfl (mv 0)) (a1d (i:=3) a6d.nd rfl (by nofun)) (a0g (a7u (a3v hr) (mv 2) (a0k G_a6 hr.o rfl T.m_a6 T.F_a6.kp T.b_a6 .nil a0o (a0a (a0j (a0h K rfl) (mv 3) a0f (λ_ _=>rfl)) a0b)) a0f rfl))) (a0e (a1y Zz rfl (a1l K rfl (mv 1)) (a1d (i:=4) a6d.nd rfl (by nofun)) (a0g (a7u (a3v hr) (mv 2) (a0j (a0h K rfl) (mv 4) a0f (λ_ _=>rfl)) a0f rfl))) (a0e (a5u Zz (a3t K rfl (a0k G_c7 hr.o rfl T.m_c7 T.F_c7.kp T.b_c7 .nil a0o (a0a (mv 2) (a0a (mv 1) a0b)))) (a0g ps_pass)) (a0g (a0u (mv 2))))))))),H,Q,E,hr,h
 rename_i a;obtain⟨us,rs,hrs,q⟩:=h;have hrs0:=hrs;obtain⟨hs,hdl,hok,hl100⟩:=hrs;have hul:=hdl.length;rw[length_map]at hul;ext;refine⟨us,rs,hrs0,λp ls H1 s1 hpH h1 h2 h3=>?_⟩;ext;refine⟨ls,rs,h1,h3,?_⟩;ext;refineλd hd=>?_
 generalize e9:upd H1 d _=H2;obtain⟨sd,kd⟩:=nwq hd e9;clear e9;ext;have hdH:H d=none:=a1c s1 hd;refine⟨a,rfl,⟨_,(s1.trans sd).seq hs⟩,?_⟩;have h12:=sd _ _ h1;refine a1s (a1i (xs:=us)) (λk σ' J=>∃(o3:Option V)(kvs:List (List Key×V)),σ'=[some (.ref a),some (.ref p),some (.ref d),o3,none]/\Same H J/\J d=some (.dT kvs)/\J p=some (.lst ls)/\(∀u∈ls,LnAt rs J u)/\Z0 kvs/\kvs.length<=k/\∀x∈rs.take k,keyT x.1∈kvs.map (·.1)) ⟨none,[],rfl,s1.trans sd,kd,h12,λu hu=>(h3 u hu).same sd,λ_ z=>by simp at z,Zm _,λx hx=>by simp at hx⟩ (λk σ' J hP=>by obtain⟨_,_,_,s,_⟩:=hP;exact s.seq hs) (λk σ' J hk hP=>?_) (λσ' J hP=>?_)
 ·obtain⟨o3,kvs,rfl,s,e1,e2,e3,e4,e5,e6⟩:=hP;have hkr:k<rs.length:=by omega
  have htk:=a2k hkr;obtain⟨d,d1,d2⟩:=hdl.get (Za hk);rw[Zv,Za hkr]at d1;have d1:ruE rs[k]=d:=Zl d1;subst d1;have hm:rs[k]∈rs:=Z6 hkr;obtain⟨rok,rnn⟩:=hok _ hm;rw[getD_at hk];generalize us[k]=uv at d2;generalize rs[k]=x at d2 hm rok rnn htk;obtain⟨pu,hv,pg,ug,rfl,ht,hh,htg,hdg⟩:∃(pu:Addr)(hv:V)(pg:Addr)(ug:List V),uv=.ref pu/\SqT K H pu [hv,.ref pg]/\Den K H hv x.1.data/\SqT K H pg ug/\DenL K H ug (Trm.dataL x.2):=by
   cases d2 with
   |tup w3 w4=>
    cases w4 with
    |cons w5 w6=>
     cases w6 with
     |cons w7 w8=>
      cases w8;cases w7 with
      |tup y1 y2=>exact⟨_,_,_,_,rfl,w3,w5,y1,y2⟩
  have hgl:=hdg.length;rw[Trm.dataL_map,length_map]at hgl;have hl10:=rok.l;obtain⟨w0,k0,e0,wd0⟩:=rnn.hd;rw[e0]at hh;ext;refine a0m (KT.same s _ _ ht) (v:=hv) rfl ?_;refine⟨w0,k0,hh.mono s,λpa J4 s4 hpa=>?_⟩;obtain⟨z1,z2,z3,z4⟩:=d1b (k:=nd w0 k0.length) e4;refine⟨d,_,rfl,DPut.t (s4 _ _ e1) hpa (ln1 qo),?_⟩;refine⟨_,_,rfl,a0x (s.trans s4) hdH,a0c,(a0d (a0z (s4 _ _ e2) (s4 _ _ e1) (λz=>by cases z))).trans (s4 _ _ e2),λu hu=>((e3 u hu).same s4).putT (s4 _ _ e1),z1,qo,λy hy=>?_⟩;rw[htk]at hy;rcases Zr.mp hy with z|z
  ·exact z3 _ (e6 y z)
  ·rw[Zd.mp z,e0];exact z2
 obtain⟨o3,kvs,rfl,s,e1,e2,e3,e4,e5,e6⟩:=hP;rw[hul,Yr]at e6;ext;refine⟨p,rfl,⟨_,SqL.of e2⟩,?_⟩;refine a1s (a1i (xs:=ls)) (λk σ' J2=>∃(o4:Option V)(kvs:List (List Key×V)),σ'=[some (.ref a),some (.ref p),some (.ref d),o3,o4]/\Same H J2/\J2 d=some (.dT kvs)/\J2 p=some (.lst ls)/\(∀u∈ls,LnAt rs J2 u)/\Z0 kvs/\kvs.length<=100+k/\(∀x∈rs,keyT x.1∈kvs.map (·.1))/\∀u∈ls.take k,LnIn kvs J2 u) ⟨none,kvs,rfl,s,e1,e2,e3,e4,qo,e6,λx hx=>by simp at hx⟩ (λk σ' J hP=>by obtain⟨_,_,_,_,_,z,_⟩:=hP;exact SqL.of z) (λk σ' J2 hk hP=>?_) (λσ' J2 hP=>?_)
 ·obtain⟨o4,kv2,rfl,s2,f1,f2,f3,f4,f5,f6,f7⟩:=hP;have htk:=a2k hk;have hm:ls[k]∈ls:=Z6 hk;rw[getD_at hk];generalize ls[k]=u at hm htk;obtain⟨pp,pa,pb,x,kb,g0,rfl,g2,g3,g4⟩:=f3 u hm;ext;refine a0m (SqT.of g2) (v:=.ref pb) rfl ?_;obtain⟨z1,z2,z3,z4⟩:=d1b (k:=kb) f4;refine⟨d,_,rfl,DPut.t f1 g4 (ln1 qo),?_⟩;refine⟨_,_,rfl,a0x s2 hdH,a0c,(a0d (a0z f2 f1 (λz=>by cases z))).trans f2,λu hu=>(f3 u hu).putT f1,z1,qo,λy hy=>z3 _ (f6 y hy),λu hu=>?_⟩;rw[htk]at hu;rcases Zr.mp hu with z|z
  ·exact(f7 u z).put f1 z3
  ·rw[Zd.mp z];exact LnIn.put (kvs:=(putK kv2 kb (.int 0))) ⟨pp,pa,pb,keyT x.1,kb,rfl,g2,g3,g4,z3 _ (f6 x g0),z2⟩ f1 λ_ z=>z
 obtain⟨o4,kv2,rfl,s2,f1,f2,f3,f4,f5,f6,f7⟩:=hP;rw[Yr]at f7;ext;refine a4s (λn σ' J3=>σ'=[some (.ref a),some (.ref p),some (.ref d),o3,o4]/\J3=J2) 0 ⟨rfl,rfl⟩ (λn σ' J3 R hP kT kF=>?_);obtain⟨rfl,rfl⟩:=hP;ext;refine⟨kv2,ls,f1,f4,f2,f7,?_⟩;ext
 exists kF J3
 exact q d kv2 J3 s2 hdH f1 f4
end
section
variable{P:Program}{w:World}{K:W.Frag}{mg:Str->Option Value}{base:Heap}{t:Ad}
theorem b9d(T:Txt K mg t)(G_e1:FnOk P w K mg base CX0 6 t.a_e1 t.d_e1 ["rules"] (b0i K))(G_d8:FnOk P w K mg base CX0 74 t.a_d8 t.d_d8 ["rules"] (b2w K)):FnOk P w K mg base CX0 75 t.a_f6 t.d_f6 ["self","rules"] (a7r K P w t.k_a0 t.k_a1 t.k_a4):=by
 exists T.F_f6.ok b8i,a7r,(a0e (a1q (mv 0) (a0k G_e1 hr.o rfl T.m_e1 T.F_e1.kp T.b_e1 .nil a0o (a0a (mv 1) a0b)) rfl) (a0e (a1q (mv 0) (a0k G_d8 hr.o rfl T.m_d8 T.F_d8.kp T.b_d8 .nil a0o (a0a (mv 1) a0b)) rfl) (a0e (a1q (mv 0) (a1n a0b) rfl) (a0e (a1q (mv 0) (c3l P w rfl rfl) rfl) (a0e (a1q (mv 0) a0f rfl) (a0e (a1q (mv 0) a0f rfl) (a0e (a1q (mv 0) a0f rfl) (a0g (a1q (mv 0) a4d rfl))))))))),H,Q,E,hr,h
 rename_i f ra;obtain⟨H0,dx,us,rs,h1,s1,h0,hrs,q⟩:=h;ext;refine⟨us,rs,hrs.same s1,λd kvl H1 s2 hd hdl hz=>?_⟩;have d0:H0 d=none:=a1c s1 hd;ext;refine⟨f,_,dx,_,rfl,(s2 _ _ h1),T.cl_a0,T.no_a0_layers,by show 0<1000;decide,?_⟩;have nfd:d≠f:=a0p h1 hd|>.symm;generalize e9:upd H1 f _=H2;have f2:H2 f=some (.ins t.k_a0 dx (putF (ofString "layers") (.ref d) [])):=by rw[<-e9];exact a0c
 have s02:Same H0 H2:=by rw[<-e9];exact a0x (s1.trans s2) h0
 have d2:H2 d=some (.dT kvl):=by rw[<-e9,a0d nfd];exact hdl
 clear e9;ext;have hr2:=hrs.same s02;refine⟨us,rs,hr2.1,hr2.2.1,λx hx=>(hr2.2.2.1 x hx).1,hr2.2.2.2,λp kvr H3 s3 hp hpr tab=>?_⟩;ext;refine⟨f,_,dx,_,rfl,(s3 _ _ f2),T.cl_a0,T.no_a0_rules,by show 1<1000;decide,?_⟩;have nfp:p≠f:=a0p f2 hp|>.symm;have p0:H0 p=none:=a1c s02 hp;have f3:=s3 _ _ f2;ext;refine⟨Z4 _,λtl htl=>?_⟩;have ntl:tl≠f:=λz=>by rw[z,a0c]at htl;cases htl
 rw[a0d ntl]at htl;generalize e9:upd H3 f _=H4;have f4:H4 f=some (.ins t.k_a0 dx (putF (ofString "rules") (.ref p) (putF (ofString "layers") (.ref d) []))):=by rw[<-e9];exact a0c
 have n4:∀b,b≠f->H4 b=H3 b:=λb hb=>by rw[<-e9,a0d hb]
 clear e9;ext;refine⟨f,_,dx,_,rfl,((a0d ntl.symm).trans f4),T.cl_a0,T.no_a0_tables,by show 2<1000;decide,?_⟩;ext;intro pd hpd lo;have npf:pd≠f:=λz=>by rw[z,a0c]at hpd;cases hpd
 rw[a0d npf]at hpd;have npt:pd≠tl:=λz=>by rw[z,a0c]at hpd;cases hpd
 rw[a0d npt,n4 _ npf]at hpd;ext;refine⟨f,_,dx,_,rfl,((a0d npf.symm).trans a0c),T.cl_a0,T.no_a0_places,by show 3<1000;decide,?_⟩;ext;refine⟨f,_,dx,_,rfl,a0c,T.cl_a0,T.no_a0_settled,by show 4<1000;decide,?_⟩;ext;refine⟨f,_,dx,_,rfl,a0c,T.cl_a0,T.no_a0_many_answers,by show 5<1000;decide,?_⟩;ext;refine⟨f,_,dx,_,rfl,a0c,T.cl_a0,T.no_a0_steps,by show 6<1000;decide,?_⟩;ext;refine⟨f,_,dx,_,rfl,a0c,T.cl_a0,T.no_a0_changed,by show 7<1000;decide,?_⟩;ext;rw[a7d,a7d,a7d,a7d];generalize e9:upd (upd _ pd _) f _=H5;have f5:H5 f=some (.ins t.k_a0 dx (FO.fs ⟨d,p,tl,pd,0,0,0,false⟩)):=by rw[<-e9];exact a0c
 have n5:∀b,b≠f->b≠tl->b≠pd->H5 b=H3 b:=λb h1 h2 h3=>by rw[<-e9,a0d h1,a0d h3,a0d h1,a0d h2,n4 _ h1]
 have t5:H5 tl=some (.lst []):=by rw[<-e9,a0d ntl,a0d npt.symm,a0d ntl,a0c]
 have p5:H5 pd=some (dnO P w pd []):=by rw[<-e9,a0d npf,a0c]
 clear e9;have k5:∀a o,a≠f->H3 a=some o->H5 a=some o:=λa o h1 h2=>(n5 a h1 (a0p h2 htl) (a0p h2 hpd)).trans h2
 have s03:=s02.trans s3
 have kt5:KT K H3 H5:=(KT.upd (o:=.ins t.k_a0 dx (FO.fs ⟨d,p,tl,pd,0,0,0,false⟩)) f3 (λ_ z=>by cases z) (λ_ _ z=>by cases z)).trans (KT.same λa o e=>by
  by_cases c:a=f
  ·subst c;rw[a0c]at e;rw[<-e];exact f5
  ·rw[a0d c]at e
   exact k5 a o c e)
 have ev5:Ev K [f,tl,pd] [f,tl,pd] H3 H5:=⟨⟨λa o n e=>k5 a o (λz=>n (z▸Ze ..)) e,kt5⟩,λ_ z=>.inl z,λa z=>by
  by_cases c1:a=f
  ·rw[c1,f5]at z;cases z
  by_cases c2:a=tl
  ·rw[c2];exact htl
  by_cases c3:a=pd
  ·rw[c3];exact hpd
  rw[n5 a c1 c2 c3]at z
  exact z⟩
 have tab3:Tab K H3 [f,tl,pd] kvr (b2v rs):=Paired.mapP tab λ_ _ z=>⟨z.1,Dm.into (.refl _) (λm hm us e=>by
  simp only[Zg,Yk,Xv]at hm;rcases hm with z|z|z
  ·rw[z,f3]at e;cases e
  ·rw[z,htl]at e;cases e
  ·rw[z,hpd]at e;cases e) z.2⟩
 exact q ⟨d,p,tl,pd,0,0,0,false⟩ H5 ⟨λa o e=>k5 a o (a0p e h0) (s03 _ _ e),f5,λa ha=>by
  simp only[mu,mq,List.flatMap_nil,Zg,Yk,Xv]at ha;rcases ha with z|z|z
  ·rw[z];exact h0
  ·rw[z];exact a1c s03 htl
  ·rw[z];exact a1c s03 hpd,by simp[mu,mq,ntl.symm,npf.symm,npt.symm],t5,.nil,⟨[],⟨p5,lo,Z4 _,λ_ z=>by simp at z,.nil⟩,rfl,λi x z=>by simp at z⟩,⟨kvl,k5 _ _ nfd (s3 _ _ d2),hz⟩,⟨kvr,k5 _ _ nfp hpr,tab3.ev ev5⟩,rfl⟩ rfl
end
section
variable{P:Program}{w:World}{K:W.Frag}{mg:Str->Option Value}{base:Heap}{t:Ad}
theorem b7d(T:Txt K mg t)  :FnOk P w K mg base CX0 1 t.a_d3 t.d_d3 ["rules"] (a7b K):=by
 exists T.F_d3.ok b0e,a7b,(a0g (a1y Zz rfl (a1l K rfl (mv 0)) (a1d (i:=1) b0e.nd rfl (by nofun)) (a0g (a1e (a0y (c2u K rfl) (a7w rfl T.m_g2) (a4e rfl (b5h K rfl (a0j (a0h K rfl) (mv 1) a0f (λ_ _=>rfl))) (a3p (a0i a5q) ["rules","told"] ["rules","told"] rfl rfl qk) (λ_ _ _ _ _=>a3o) (λ_ _ _ _ _=>(a0j (a0h K rfl) (mv 0) a0f (λ_ _=>rfl)))) (by with_unfolding_all rfl)) (a0g a2o) a1a)))),H,Q,E,hr,h
 rename_i a;obtain⟨us,rs,hrs,q⟩:=h;obtain⟨hs,hdl,hok,hl100⟩:=hrs;have hul:=hdl.length;rw[length_map]at hul;ext;refine⟨a,rfl,⟨_,hs⟩,?_⟩;refine a1s (a1i (xs:=us)) (λk σ' J=>∃(o1:Option V),σ'=[some (.ref a),o1]/\Same H J) ⟨none,rfl,.refl _⟩ (λk σ' J hP=>by obtain⟨_,_,s⟩:=hP;exact s.seq hs) (λk σ' J hk hP=>?_) (λσ' J hP=>?_);rotate_left
 ·obtain⟨o1,rfl,s⟩:=hP;ext;exact q J s
 ·obtain⟨o1,rfl,s⟩:=hP;have hkr:k<rs.length:=by omega
  obtain⟨d,d1,d2⟩:=hdl.get (Za hk);rw[Zv,Za hkr]at d1;have d1:ruE rs[k]=d:=Zl d1;subst d1;have hm:rs[k]∈rs:=Z6 hkr;obtain⟨rok,rnn⟩:=hok _ hm;rw[getD_at hk];generalize us[k]=uv at d2;generalize rs[k]=x at d2 hm rok rnn;obtain⟨pu,hv,pg,ug,rfl,ht,hh,htg,hdg⟩:∃(pu:Addr)(hv:V)(pg:Addr)(ug:List V),uv=.ref pu/\SqT K H pu [hv,.ref pg]/\Den K H hv x.1.data/\SqT K H pg ug/\DenL K H ug (Trm.dataL x.2):=by
   cases d2 with
   |tup w3 w4=>
    cases w4 with
    |cons w5 w6=>
     cases w6 with
     |cons w7 w8=>
      cases w8;cases w7 with
      |tup y1 y2=>exact⟨_,_,_,_,rfl,w3,w5,y1,y2⟩
  have hgl:=hdg.length;rw[Trm.dataL_map,length_map]at hgl;have hl10:=rok.l;ext;refine a0m (KT.same s _ _ ht) (v:=.ref pg) rfl ?_;refine⟨pg,rfl,⟨_,KT.same s _ _ htg⟩,λD hD=>?_⟩;refine a2q (b5g (xs:=ug)) (λj ys J2=>Same J J2/\J2 D=some (.lst ys)/\∃ws:List Str,ys=ws.map V.str/\∀w'∈ws,w'≠b2t) (ln qo) ⟨a0l hD _,a0c,[],rfl,λw' hw=>by simp at hw⟩ (λj ys J2 hP=>KT.same (s.trans hP.1) _ _ htg) (λj ys J2 Q' hj hl' hP kq=>?_) (λys J2 hl' hP=>?_)
  ·obtain⟨g1,g2,ws,rfl,hws⟩:=hP;have hjx:j<x.2.length:=by omega
   obtain⟨hui,dk⟩:=a6s hdg hjx;obtain⟨w1,k1,e1,wd⟩:=rnn.gs _ (Z6 hjx);rw[getD_at hui];rw[e1]at dk;have dk:=dk.mono (s.trans g1);ext;obtain⟨pk,rk,e2,h2⟩:∃(pk:Addr)(rk:List V),ug[j]=.ref pk/\SqT K J2 pk (.str appS::.str w1::rk):=by
    generalize ug[j]=uj at dk;cases dk with
    |tup y1 y2=>
     cases y2 with
     |cons y3 y4=>
      cases y3;cases y4 with
      |cons y5 y6=>cases y5;exact⟨_,_,rfl,y1⟩
   rw[e2];refine a0m h2 (v:=.str w1) (at_one _ _ _) ?_;refine kq _ _ g2 ⟨a0x g1 hD,a0c,ws++[w1],by rw[Zi];rfl,λw' hw=>?_⟩;rcases Zr.mp hw with z|z
   ·exact hws w' z
   ·rw[Zd.mp z];exact wd.kp
  ·obtain⟨g1,g2,ws,rfl,hws⟩:=hP;refine⟨D,_,rfl,.inl (SqL.of g2),rfl,c4e ws,?_⟩;ext;rw[show(if false=true then !inV (.str "keep") (ws.map V.str)else inV (.str "keep") (ws.map V.str))=false from c6r hws];refine iteF ?_;ext;exact⟨_,rfl,s.trans g1⟩
end
section
variable{P:Program}{w:World}{K:W.Frag}{mg:Str->Option Value}{base:Heap}{t:Ad}
theorem b3l(T:Txt K mg t)(G_c1:FnOk P w K mg base CX0 74 t.a_c1 t.d_c1 ["self","goal"] (a3l K P w t.k_a0 t.k_a1 t.k_a4))(G_b1:FnOk P w K mg base CX0 43 t.a_b1 t.d_b1 ["term","puts"] (a4l K))(G_e9:FnOk P w K mg base CX0 79 t.a_e9 t.d_e9 ["self"] (a4c K P w t.k_a0 t.k_a1 t.k_a4)):FnOk P w K mg base CX0 80 t.a_f0 t.d_f0 ["self","goal"] (a5p K P w t.k_a0 t.k_a1 t.k_a4):=by
 exists T.F_f0.ok b3k,a5p,(a0e (a1f (a3m (mv 0) T.cl_a0 T.me_c1 G_c1 hr.o T.b_c1 .nil a0o (a0a (a0k G_b1 hr.o rfl T.m_b1 T.F_b1.kp T.b_b1 .nil a0o (a0a (mv 1) (a0a a6y a0b))) a0b))) (a0g (a5u Zz (a3t K rfl (a0v (mv 0) rfl)) (a0e (a1q (mv 0) a4d rfl) (a0g (a1f (a9v (mv 0) T.cl_a0 T.me_e9 G_e9 hr.o T.b_e9 .nil a0o))))))),H,Q,E,hr,h
 rename_i f v;obtain⟨x,L,g,tt,fa,ok,hnil,hch,hd,het,htz,hu,kq⟩:=h;obtain⟨gap,gsz,gdp,gnm,gan⟩:=ok.gl _ hu;ext;refine⟨f,x.dx,_,rfl,fa.ob,a7p qk,?_⟩;ext;refineλpd hpd=>?_
 generalize e9:upd H pd _=H1;obtain⟨spd,kpd⟩:=nwq hpd e9;clear e9;ext;refine⟨[],tt,tt,⟨[],kpd,.nil⟩,hd.mono spd,c4d tt,qo,λr hr=>by simp at hr,qo,λv1 H2 s2 d1=>?_⟩;have s02:=spd.trans s2;have tk0:Tok L x.tb:=by rw[hnil];exact⟨λy hy=>by simp at hy,.nil,λy hy=>by simp at hy⟩
 ext;refine⟨x,L,tt,fa.same s02,ok,tk0,d1,qo,by rw[het];exact hu,λx1 i as H3 fb av tk1 _ hi hlen=>?_⟩;rw[het]at hi;have hi0:i=0:=by
  have:=(Zy.mp hi).1;rw[hnil]at hlen;have:x1.tb.length<=1:=hlen;omega
 subst hi0;have hc1:x1.o.ch=true:=by
  cases c:x1.o.ch with
  |true=>rfl
  |false=>
   have:=(av.gr.st c).2;rw[hnil]at this;rw[this]at hi;cases hi
 have e3:Ev K (x.M f) (x1.M f) H H3:=(Ev.same s02).trans av.ev;ext;refine a4s (λn σ' J=>∃x',σ'=[some (.ref f),some v]/\FilA K P w t.k_a0 t.k_a1 L J f x'/\Ev K (x.M f) (x'.M f) H J/\x'.H0=x.H0/\Tok L x'.tb/\(∃as,x'.tb[0]? =some (g,as))/\n=2*(85-siz x'.tb)+(if x'.o.ch then 1 else 0)/\(x'.o.ch=false->∀y∈x'.tb,ClT L x'.tb y.1)) _ ⟨x1,rfl,fb,e3,av.h0,tk1,⟨as,hi⟩,rfl,λz=>by rw[hc1]at z;cases z⟩ (λn σ' J R hP kT kF=>?_);obtain⟨x1,rfl,fb,e3,hh0,tk1,⟨as,hi⟩,hn,hcl⟩:=hP;ext;refine⟨f,_,x1.dx,_,_,rfl,fb.ob,T.cl_a0,T.no_a0_changed,b8o,?_⟩;ext;cases hc:x1.o.ch with
 |false=>
  exists kF J
  exact kq x1 J fb e3 hh0 ⟨tk1,hcl hc,as,hi⟩
 |true=>
  rw[hc]at hn;refine kT J (λD' e1 e2 hnx hct=>?_);ext;refine⟨f,_,x1.dx,_,rfl,fb.ob,T.cl_a0,T.no_a0_changed,by show 8<1000;decide,?_⟩;rw[b2y];obtain⟨fc,ev1⟩:=fb.set x1.o.st x1.o.sp false;have fc:FilA K P w t.k_a0 t.k_a1 L (upd J f (.ins t.k_a0 x1.dx { x1.o with st:=x1.o.st,sp:=x1.o.sp,ch:=false}.fs)) f (x1.put x1.o.st x1.o.sp false):=fc;have ev1:Ev K (x1.M f) (x1.M f) J (upd J f (.ins t.k_a0 x1.dx { x1.o with st:=x1.o.st,sp:=x1.o.sp,ch:=false}.fs)):=ev1;have e4:{ x1.o with ch:=false}={ x1.o with st:=x1.o.st,sp:=x1.o.sp,ch:=false}:=rfl;rw[e4];generalize upd J f (.ins t.k_a0 x1.dx { x1.o with st:=x1.o.st,sp:=x1.o.sp,ch:=false}.fs)=J1 at*;ext;refine⟨f,x1.dx,_,rfl,fc.ob,a7p qk,?_⟩;ext;refine⟨x1.put x1.o.st x1.o.sp false,L,fc,ok,tk1,rfl,λz=>(by rw[show(x1.put x1.o.st x1.o.sp false).tb=x1.tb from rfl]at z;rw[z]at hi;cases hi),λx2 J2 fd av2 tk2 hcl2=>?_⟩;have hz2:=tk2.siz ok;have hup:siz x1.tb<=siz x2.tb:=av2.gr.up;have hcg:x2.o.ch=true->siz x1.tb<siz x2.tb:=λz=>(av2.gr.cg z).elim (λz=>by cases z) id
  obtain⟨more,hi2⟩:=av2.gr.ex _ _ (show(x1.put x1.o.st x1.o.sp false).tb[0]? =some (g,as)from hi);refine hnx _ _ (2*(85-siz x2.tb)+(if x2.o.ch then 1 else 0)) ?_ ⟨x2,rfl,fd,e3.trans (ev1.trans av2.ev),av2.h0.trans hh0,tk2,⟨_,hi2⟩,rfl,hcl2⟩;rw[hn,if_pos rfl];cases hc2:x2.o.ch with
  |true=>
   have:=hcg hc2;rw[if_pos rfl];omega
  |false=>
   simp only[Xw,Vb];omega
end
section
variable{P:Program}{w:World}{K:W.Frag}{mg:Str->Option Value}{base:Heap}{t:Ad}
theorem ok_c5(T:Txt K mg t)(G_d3:FnOk P w K mg base CX0 1 t.a_d3 t.d_d3 ["rules"] (a7b K))(G_f6:FnOk P w K mg base CX0 75 t.a_f6 t.d_f6 ["self","rules"] (a7r K P w t.k_a0 t.k_a1 t.k_a4))(G_f0:FnOk P w K mg base CX0 80 t.a_f0 t.d_f0 ["self","goal"] (a5p K P w t.k_a0 t.k_a1 t.k_a4)):FnOk P w K mg base CX0 81 t.a_c5 t.d_c5 ["rules","goal"] (b9y K P w t.k_a0 t.k_a1 t.k_a4):=by
 exists T.F_c5.ok c6j,b9y,(a0e (a1f (a0k G_d3 hr.o rfl T.m_d3 T.F_d3.kp T.b_d3 .nil a0o (a0a (mv 0) a0b))) (a0e (a0q (i:=2) (hs:=a1h) c6j.nd rfl (by nofun) (a7s T.mk_a0 G_f6 hr.o rfl T.m_a0 T.b_f6 .nil a0o (a0a (mv 0) a0b))) (a0e (ps_try0 (λ_ _ z=>z) (a0g (a1f (a3m (mv 2) T.cl_a0 T.me_f0 G_f0 hr.o T.b_f0 .nil a0o (a0a (mv 1) a0b))))) (a0g (a0u (a0s (a0a a0t (a0a (a4e rfl (a1l K rfl (a0v (mv 2) rfl)) (a3p (a0i b8f) ["rules","goal","filling"] ["rules","goal","filling"] rfl rfl qk) (λ_ _ _ _ _=>a3o) (λ_ _ _ _ _=>(a0s (a0a (b1j K rfl (mv 0) rfl) (a0a (b1j K rfl (mv 0) rfl) a0b))))) a0b)))))))),H,Q,E,hr,h
 rename_i ra gv;obtain⟨us,rs,L,g,tt,hrs,htab,ok,hu,hd,het,htz,q⟩:=h;ext;refine⟨us,rs,hrs,λH1 s1=>?_⟩;ext;refineλf df hf hdf hne=>?_
 have h0f:(upd H1 df (.own f)) f=none:=(a0d hne.symm).trans hf;have s10:Same H1 (upd H1 df (.own f)):=a0l hdf _;refine⟨upd H1 df (.own f),df,us,rs,a0c,a0l h0f _,h0f,hrs.same (s1.trans s10),λo H2 fi hch=>⟨rfl,?_⟩⟩;have fi:FilA K P w t.k_a0 t.k_a1 L H2 f ⟨upd H1 df (.own f),df,o,[],[]⟩:=by
  rw[<-htab]at fi;exact fi
 have s02:Same H H2:=s1.trans (s10.trans fi.sm);ext;refine⟨f,df,_,rfl,fi.ob,a7p qk,?_⟩;ext;refine⟨_,L,g,tt,fi,ok,rfl,hch,hd.mono s02,het,htz,hu,λx2 H3 fj ev hh0 fld=>?_⟩;have hh0:x2.H0=upd H1 df (.own f):=hh0;have sm3:Same H H3:=s1.trans (s10.trans (by rw[<-hh0];exact fj.sm));have hql:x2.qs.length=x2.tb.length:=Y0 fj.tbs;have htl:=fld.tk.len ok;have hnu:=ok.nu;obtain⟨as,ht0⟩:=fld.t0;obtain⟨q0,hq0,tq⟩:=paired_at' fj.tbs ht0;obtain⟨uv,hal,hus⟩:=tq.an;have nal:H q0.al=none:=by
  have:x2.H0 q0.al=none:=fj.f0 _ (Zc _ (Zc _ (Zc _ (b0h (Zn hq0)).1)));rw[hh0]at this;exact a1c (s1.trans s10) this
 ext;refine⟨f,_,x2.dx,_,_,rfl,fj.ob,T.cl_a0,T.no_a0_tables,a3z,?_⟩;ext;refine⟨x2.o.tl,rfl,⟨_,SqL.of fj.tl⟩,λD hD=>?_⟩;have hDH:H D=none:=a1c sm3 hD;have nDal:q0.al≠D:=a0p hal hD;refine a2q (a1i (xs:=x2.qs.map λq=>V.ref q.t)) (λj ys J=>Same H3 J/\J D=some (.lst ys)/\ys.length=j/\(0<j->∃t0 rest,ys=.ref t0::rest/\J t0=some (.tup [q0.gv,.ref q0.al]))) (ln (by rw[length_map];omega)) ⟨a0l hD _,a0c,rfl,λz=>by omega⟩ (λj ys J hP=>SqL.of (hP.1 _ _ fj.tl)) (λj ys J Q' hj hl' hP kq=>?_) (λys J hl' hP=>?_)
 ·obtain⟨g1,g2,g3,g4⟩:=hP;have hj':j<x2.qs.length:=by rw[length_map]at hj;exact hj
  obtain⟨y,e1,tj⟩:=a2j fj.tbs (Za hj');rw[getD_at (by rw[length_map];exact hj'),Wn];ext;refine⟨_,_,_,_,_,rfl,g1 _ _ tj.ob,T.cl_a1,T.no_a1_goal,b5o,?_⟩;ext;refine⟨_,_,_,_,_,rfl,g1 _ _ tj.ob,T.cl_a1,T.no_a1_answers,a9e,?_⟩;ext;refine⟨ln (by show 2<=100000;decide),λpt hpt=>?_⟩;generalize e9:upd J pt _=J1;obtain⟨spt,kpt⟩:=nwq hpt e9;clear e9;have hD1:=spt _ _ g2;refine kq _ _ hD1 ⟨a0x (g1.trans spt) hD,a0c,by rw[Zk,Z8,g3],λ_=>?_⟩;cases ys with
  |nil=>
   have hj0:j=0:=g3.symm;subst hj0;rw[Za hj']at hq0;have hq0:x2.qs[0]=q0:=Zl hq0;refine⟨pt,[],rfl,?_⟩;rw[a0d (a0z kpt hD1 (λz=>by cases z)),<-hq0];exact kpt
  |cons y1 yr=>
   obtain⟨t0,rest,e1,e2⟩:=g4 (by rw[<-g3];exact Nat.succ_pos _);refine⟨t0,rest++[.ref pt],by rw[e1];rfl,?_⟩;rw[a0d (a0z (spt _ _ e2) hD1 (λz=>by cases z))];exact spt _ _ e2
 obtain⟨g1,g2,g3,g4⟩:=hP;rw[length_map]at g4 hl';have hpos:0<x2.qs.length:=(Zy.mp hq0).1;obtain⟨t0,rest,rfl,e2⟩:=g4 hpos;ext;refine⟨ln (by show 2<=100000;decide),λpt hpt=>?_⟩;generalize e9:upd J pt _=J1;obtain⟨spt,kpt⟩:=nwq hpt e9;clear e9;have s31:=g1.trans spt;rw[length_cons]at hl';exact q pt D q0.al x2.tb as uv J1 ⟨sm3.trans s31,fld,ht0,kpt,hDH,⟨t0,q0.gv,rest,spt _ _ g2,qo,spt _ _ e2,tq.go.mono s31⟩,nal,nDal,s31 _ _ hal,Paired.mapP hus λ_ _ z=>z.kt (KT.same s31)⟩
end
section
variable{P:Program}{w:World}{K:W.Frag}{mg:Str->Option Value}{base:Heap}{t:Ad}
theorem c4v(T:Txt K mg t)  :FnOk P w K mg base CX0 1 t.a_a7 t.d_a7 ["_law_script","_law_k"] (a4f K):=by
 exists T.F_a7.ok c3q,a4f,(a0e (a1e (a0y c1s (mv 1) (a1p (a3u K rfl) rfl T.n_f8 Yt (a0a (mv 0) a0b)) (a1b _)) (a0g (a0u (a0j (a0h K rfl) (mv 0) (mv 1) (λ_ _=>rfl)))) a1a) (a0g (a0u a0f))),H,Q,E,hr,h
 rename_i a k;obtain⟨ns,hS,h0,h1,q⟩:=h;ext
 exists a5x hS
 exists e
 ·ext;have hk:k<((ns.map V.int).length:Int):=Z5 e;obtain⟨v,hv,hv2⟩:=a7i (xs:=ns.map V.int) h0 hk;obtain⟨x,rfl⟩:=ints_at hv;refine a1j hS hv ?_;exact q _
 ·ext;exact q _
theorem d1n{ns:List Int}{i:Int}(h0:0<=i)(h1:i<(ns.length:Int)):∃n∈ns,atI (ns.map V.int) i=some (.int n):=by
 obtain⟨v,hv,_⟩:=a7i (xs:=ns.map V.int) (i:=i) h0 (by simpa using h1);have:=c5z hv;obtain⟨n,hn,e⟩:=Z1.mp this;exact⟨n,hn,by rw[hv,<-e]⟩
theorem d1o(T:Txt K mg t)  :FnOk P w K mg base CX0 1 t.a_a3 t.d_a3 ["_law_cell","_law_k","_law_many"] (a6j):=by
 exists T.F_a3.ok c0x,a6j,(a0e (a0q (i:=3) (hs:=b4a) c0x.nd rfl (by nofun) (a0j (a0h K rfl) (a1n (a0a a0f (a0a a0f (a0a a0f (a0a a0f (a0a a0f (a0a a0f (a0a a0f a0b)))))))) (a1g a7h (mv 1) a0f) (λ_ _=>rfl))) (a0g (a0u (a1g a7h (a1g a7h (a1g (a2b K rfl) (a1g c2l (mv 0) (mv 3)) (a1g c2l a0f (mv 1))) (a0j (a0h K rfl) (a1n (a0a a0f (a0a a0f (a0a a0f a0b)))) (a1g a7h (mv 1) a0f) (λ_ _=>rfl))) (mv 2))))),H,Q,E,hr,h
 rename_i c k m;obtain⟨h0,h1,hm,q⟩:=h;ext;refine⟨ln (by show 7<=100000;decide),λp1 hp1=>?_⟩;have s1:=a0l hp1 (.lst [.int 48271,.int 69621,.int 39373,.int 16807,.int 40692,.int 52774,.int 33614]);have k1:(upd H p1 (.lst [.int 48271,.int 69621,.int 39373,.int 16807,.int 40692,.int 52774,.int 33614])) p1=some (.lst ([48271,69621,39373,16807,40692,52774,33614].map V.int)):=a0c;generalize upd H p1 (.lst [.int 48271,.int 69621,.int 39373,.int 16807,.int 40692,.int 52774,.int 33614])=H1 at s1 k1 ⊢;ext;obtain⟨x,hx,hv⟩:=d1n (ns:=[48271,69621,39373,16807,40692,52774,33614]) (i:=k%7) qo (by simp;omega);have hx:-(2^64)<x/\x<2^64:=(by decide:∀x∈([48271,69621,39373,16807,40692,52774,33614]:List Int),-(2^64)<x/\x<2^64) x hx
 exists a1j (SqL.of k1) hv
 exists c2q (c5c hx)
 exists c2q (b7r qd)
 refine⟨ln (by show 3<=100000;decide),λp2 hp2=>?_⟩;have s2:=a0l hp2 (.lst [.int 1000003,.int 999983,.int 999979]);have k2:(upd H1 p2 (.lst [.int 1000003,.int 999983,.int 999979])) p2=some (.lst ([1000003,999983,999979].map V.int)):=a0c;generalize upd H1 p2 (.lst [.int 1000003,.int 999983,.int 999979])=H2 at s2 k2 ⊢;ext;obtain⟨y,hy,hw⟩:=d1n (ns:=[1000003,999983,999979]) (i:=k%3) qo (by simp;omega);have hy:0<y:=(by decide:∀y∈([1000003,999983,999979]:List Int),0<y) y hy
 exists a1j (SqL.of k2) hw
 exists m2_i hy
 refine m2_i hm ?_;exact q _ _ (Vf _ qo) (Uj _ hm) (s1.trans s2)
end
section
variable{P:Program}{w:World}{K:W.Frag}{mg:Str->Option Value}{base:Heap}{t:Ad}
theorem d1p(T:Txt K mg t)(G_c5:FnOk P w K mg base CX0 81 t.a_c5 t.d_c5 ["rules","goal"] (b9y K P w t.k_a0 t.k_a1 t.k_a4)):FnOk P w K mg base CX0 82 t.a_d6 t.d_d6 ["_law_rules_here","_law_words_here","_law_places_here","_law_asked","_law_due_here"] (b4v K):=by
 exists T.F_d6.ok a4t,b4v,(a0e (a0q (i:=5) (hs:=b1h) a4t.nd rfl (by nofun) (a0s (a0a a0t (a0a (a0j (a0h K rfl) (mv 1) a0f (λ_ _=>rfl)) (a0a (a0s (a0a (a0s (a0a a0t (a0a a0t a0b))) (a0a (a0s (a0a a0t (a0a a0t a0b))) a0b))) a0b))))) (a0e (a1e (a0y c1s (mv 3) a0f (a1b _)) (a0g (a0q (i:=5) (hs:=b1h) a4t.nd rfl (by nofun) (a0s (a0a a0t (a0a (a0j (a0h K rfl) (mv 1) a0f (λ_ _=>rfl)) (a0a (a0s (a0a (a0j (a0h K rfl) (mv 2) (mv 3) (λ_ _=>rfl)) (a0a (a0s (a0a a0t (a0a a0t a0b))) a0b))) a0b)))))) a1a) (a0e (b3o (a0k G_c5 hr.o rfl T.m_c5 T.F_c5.kp T.b_c5 .nil a0o (a0a (mv 0) (a0a (mv 5) a0b))) (b5j K rfl rfl (a2p (a1d (i:=6) a4t.nd rfl (by nofun)) (a2p (a1d (i:=7) a4t.nd rfl (by nofun)) a9f)))) (a0e (a1e (PW.pt (b7f (a0y mo_ne (mv 6) a0t (a1b _)) (b3m (a0y (ko_neT K rfl (a2z hr)) (a0j (a0h K rfl) (a0j (a0h K rfl) (a0j (a0h K rfl) (a0j (a0h K rfl) (mv 7) a0f (λ_ _=>rfl)) a0f (λ_ _=>rfl)) a0f (λ_ _=>rfl)) a0f (λ_ _=>rfl)) (a0s (a0a a0t (a0a (a0j (a0h K rfl) (a1n (a0a a0t (a0a a0t a0b))) (a2i b7v rfl T.n_g1 Tf (a0a (a2x c1s (mv 3) a0f (a1b _)) a0b)) (λ_ _=>rfl)) a0b))) (a1b _))))) (a0g (a0u a4d)) a1a) (a0e (a0q (i:=8) (hs:=a1h) a4t.nd rfl (by nofun) (a2i (b5i K rfl) rfl T.n_f9 Ub (a0a (a0j (a0h K rfl) (a0j (a0h K rfl) (mv 7) a0f (λ_ _=>rfl)) a0f (λ_ _=>rfl)) a0b))) (a0e (a1y Zz rfl (a1l K rfl (mv 8)) (a1d (i:=9) a4t.nd rfl (by nofun)) (a0g (a1e (PW.pt (b7f (b7g (a3t K rfl (a1p (kc_is K rfl) rfl T.n_g8 U8 (a0a (a0j (a0h K rfl) (mv 9) a0f (λ_ _=>rfl)) (a0a (c2o rfl T.n_g1 Tf) a0b))))) (b3m (a3t K rfl (a1p (kc_is K rfl) rfl T.n_g8 U8 (a0a (a0j (a0h K rfl) (mv 9) a0f (λ_ _=>rfl)) (a0a (c2o rfl T.n_i1 boot_bool) a0b))))))) (a0g (a0u a4d)) a1a))) (a0e (a0q (i:=10) a4t.nd rfl (by nofun) (a4e rfl (a1l K rfl (mv 8)) (a3p (a0i b0d) ["_law_rules_here","_law_words_here","_law_places_here","_law_asked","_law_due_here","_law_goal","_law_end","_law_tables","_law_rows","_law_row","_law_terms"] ["_law_rules_here","_law_words_here","_law_places_here","_law_asked","_law_due_here","_law_goal","_law_end","_law_tables","_law_rows","%_law_row","_law_terms"] rfl rfl qk) (λ_ _ _ _ _=>a3o) (λ_ _ _ _ _=>(a0j (a0h K rfl) (mv 0) a0f (λ_ _=>rfl))))) (a0e (a1f (a2y K rfl Z7 Yl Yo a2d (a0j (a0h K rfl) (a0j (a0h K rfl) (mv 7) a0f (λ_ _=>rfl)) a0f (λ_ _=>rfl)) (a0a a0f a0b))) (a0e (a1f (a2y K rfl Z7 Yl Yo a2d (mv 7) (a0a a0f a0b))) (a0g (a0u (b7p (a2x a2a (a1p (a3u K rfl) rfl T.n_f8 Yt (a0a (mv 10) a0b)) (a1p (a3u K rfl) rfl T.n_f8 Yt (a0a (mv 4) a0b)) (a1b _)) (b7h (a2x (b9j K rfl) a4d (a4e rfl (a1l K rfl (mv 4)) (a3p (a0i b0d) ["_law_rules_here","_law_words_here","_law_places_here","_law_asked","_law_due_here","_law_goal","_law_end","_law_tables","_law_rows","_law_row","_law_terms"] ["_law_rules_here","_law_words_here","_law_places_here","_law_asked","_law_due_here","_law_goal","_law_end","_law_tables","_law_rows","_law_row","_law_terms"] rfl rfl qk) (λ_ _ _ _ _=>a3o) (λ_ _ _ _ _=>(a2x (ko_inTs K rfl (a2z hr)) (mv 0) (mv 11) (by with_unfolding_all rfl)))) (by with_unfolding_all rfl))))))))))))))),H,Q,E,hr,h
 rename_i rp wp pp i dp;obtain⟨ws,ps,ls,sh,us,rs,x,y,z,due,hW,hok,hP2,hpl,hb,hl6,hrp,hrd,R,h0,h5,hdp,hdue,q⟩:=h;have kok:=kd_ok (sh:=sh) hok hpl hb hl6;obtain⟨x0,x1,x2,x3,x4,rfl⟩:∃x0 x1 x2 x3 x4,ws=[x0,x1,x2,x3,x4]:=by
  have:=hok.l
  match ws,this with
  | [a,b,c,d,e],_=>exact⟨a,b,c,d,e,rfl⟩
 have hW:H wp=some (.lst [.str x0,.str x1,.str x2,.str x3,.str x4]):=hW;ext
 exists a1j (SqL.of hW) (v:=.str x0) rfl
 refine⟨ln qz,λq1 hq1=>?_⟩;generalize e9:upd H q1 _=G1;obtain⟨sq1,kq1⟩:=nwq hq1 e9;clear e9;ext;refine⟨ln qz,λq2 hq2=>?_⟩;generalize e9:upd G1 q2 _=G2;obtain⟨sq2,kq2⟩:=nwq hq2 e9;clear e9;ext;refine⟨ln qz,λq3 hq3=>?_⟩;generalize e9:upd G2 q3 _=G3;obtain⟨sq3,kq3⟩:=nwq hq3 e9;clear e9;ext;refine⟨ln qz,λq4 hq4=>?_⟩;generalize e9:upd G3 q4 _=G4;obtain⟨sq4,kq4⟩:=nwq hq4 e9;clear e9;have u4:=sq1.trans (sq2.trans (sq3.trans sq4));have dg:Den K G4 (.ref q4) (pr x0 (.any (ofString "A")) (.any (ofString "B"))).data:=a3q (SqT.of kq4) (SqT.of (sq4 _ _ kq3)) (.cons (a9l (SqT.of ((sq2.trans (sq3.trans sq4)) _ _ kq1))) (.cons (a9l (SqT.of ((sq3.trans sq4) _ _ kq2))) .nil))
 (with_reducible refine b9g ?_)
 (with_reducible refine b6i (λσ' J=>∃gv tt,σ'=[some (.ref rp),some (.ref wp),some (.ref pp),some (.int i),some (.ref dp),some gv,none,none,none,none,none]/\Same H J/\Den K J gv tt.data/\told tt=a0n (kdOf [x0,x1,x2,x3,x4] ps ls sh) x0 (askO i)/\tt.size<=40) (λσ' J hP=>?_) (λkk=>?_))
 rotate_left
 ·ext
  exists ee
  ·have ee:i<4:=Z5 ee;obtain⟨n,rfl⟩:∃n:Nat,i=(n:Int):=⟨i.toNat,qo⟩;obtain⟨up1,va,ua1,ab1,ac1⟩:=b3f (hP2.same u4) hpl (show n<4 by omega);ext
   exists a1j (SqL.of (u4 _ _ hW)) (v:=.str x0) rfl
   exists a1j (SqL.of ua1) ab1
   refine⟨ln qz,λq5 hq5=>?_⟩;generalize e9:upd G4 q5 _=G5;obtain⟨sq5,kq5⟩:=nwq hq5 e9;clear e9;ext;refine⟨ln qz,λq6 hq6=>?_⟩;generalize e9:upd G5 q6 _=G6;obtain⟨sq6,kq6⟩:=nwq hq6 e9;clear e9;ext;refine⟨ln qz,λq7 hq7=>?_⟩;generalize e9:upd G6 q7 _=G7;obtain⟨sq7,kq7⟩:=nwq hq7 e9;clear e9;ext;have u7:=sq5.trans (sq6.trans sq7)
   have hpg:=(hpl.pg (PP ps n) (by
    have hn':n<ps.length:=by rw[hpl.pl];omega
    unfold PP;rw[Za hn']
    exact Z6 hn'))
   refine kk _ _ ⟨.ref q7,pr x0 (PP ps n) (.any (ofString "B")),rfl,u4.trans u7,a3q (SqT.of kq7) (SqT.of (sq7 _ _ kq6)) (.cons (ac1.mono u7) (.cons (a9l (SqT.of ((sq6.trans sq7) _ _ kq5))) .nil)),?_,by rw[a1o];show 1+(PP ps n).size+1<=40;omega⟩;rw[a9p hpg.1];unfold askO;rw[if_pos ee,Int.toNat_natCast];rfl
  ·have ee:¬i<4:=Xc ee
   (with_reducible refine a9j ?_)
   refine kk _ _ ⟨.ref q4,_,rfl,u4,dg,?_,by rw[a1o];show 1+1+1<=40;decide⟩;rw[b9z qk];unfold askO;rw[if_neg ee];rfl
 obtain⟨gv,tt,rfl,s0,hgv,het,htz⟩:=hP;obtain⟨hru,hrl⟩:=ru_ok kok R;have bo:bdO (askO i):=λn e=>by
  unfold askO at e;split at e
  ·have:=Zl e;omega
  ·cases e
 ext;refine⟨us,rs,(kdOf [x0,x1,x2,x3,x4] ps ls sh).L rs,a0n (kdOf [x0,x1,x2,x3,x4] ps ls sh) x0 (askO i),tt,⟨SqL.of (s0 _ _ hrp),hrd.mono s0,hru,hrl⟩,rfl,lw_ok kok R,a5g.mpr ⟨_,_,.inl rfl,bo,rfl⟩,hgv,het,htz,λp lp al tb as us' H1 fld=>?_⟩;obtain⟨t0,gv2,rest,e1,e2,e3,e4⟩:=fld.tbs;obtain⟨hal,han⟩:=fld.an;obtain⟨an1,an2⟩:=all_ans kok R bo fld.fi fld.t0;have s1:=s0.trans fld.sm;have nlp:H lp=none:=a1c s0 fld.nl;have nal:H al=none:=a1c s0 fld.na;obtain⟨kk,hk1,hk2⟩:=u_at i;obtain⟨a0,ha0⟩:=hk1 (kdOf [x0,x1,x2,x3,x4] ps ls sh) x0;rw[ha0]at e4;obtain⟨pg,pk,k1,k2,rfl,d1,d2,d3⟩:=pr_den e4
 exists b7w (SqT.of fld.top) rfl
 rw[show(true^^decide (ofString "done"=ofString "done"))=false by rw[Zw rfl];rfl];refine iteF ?_;ext
 exists a1j (SqL.of e1) (v:=.ref t0) (a6t _ _)
 exists a0m (SqT.of e3) (v:=.ref pg) rfl
 exists a0m d1 (v:=.ref pk) rfl
 exists a0m d2 (v:=k2) rfl
 refine⟨ln qz,λr1 hr1=>?_⟩;generalize e9:upd H1 r1 _=H2;obtain⟨sr1,kr1⟩:=nwq hr1 e9;clear e9;ext;refine a1j (SqL.of kr1) (v:=.str kk) ?_ ?_
 ·exact hk2
 ext;refine⟨ln qz,λr2 hr2=>?_⟩;generalize e9:upd H2 r2 _=H3;obtain⟨sr2,kr2⟩:=nwq hr2 e9;clear e9;ext;have s23:=sr1.trans sr2;refine⟨.any kk,.any kk,d3.mono s23,a9l (SqT.of kr2),by show 1<=70;decide,?_⟩;rw[a6z];ext;refine iteF ?_;ext
 exists a1j (SqL.of (s23 _ _ e1)) (v:=.ref t0) (a6t _ _)
 exists a0m (SqT.of (s23 _ _ e3)) (v:=.ref al) rfl
 have hal3:=s23 _ _ hal;refine c9i (SqL.of hal3) λp8 hp8=>?_
 generalize e9:upd H3 p8 _=H4;obtain⟨sp8,kp8⟩:=nwq hp8 e9;clear e9;have s14:=s23.trans sp8;have sH4:=s1.trans s14;have han4:=Paired.mapP han λ_ _ z=>z.kt (KT.same s14)
 have hul:us'.length=as.length:=Y0 han;have hal60:as.length<=60:=by
  have h1:=fld.fi.tk.tot (lw_ok kok R);obtain⟨A,B,e⟩:=Xm (Zn fld.t0);rw[e]at h1;unfold tot at h1;simp only[Zi,Zt,Yz,Yu]at h1;omega
 ext;refine⟨p8,rfl,⟨_,SqL.of kp8⟩,?_⟩;refine a1s (a1i (xs:=us')) (λk σ' J=>∃(o9:Option V),σ'=[some (.ref rp),some (.ref wp),some (.ref pp),some (.int i),some (.ref dp),some gv,some (.str "done"),some (.ref lp),some (.ref p8),o9,none]/\J=H4) ⟨none,rfl,rfl⟩ (λk σ' J hP=>by obtain⟨_,_,rfl⟩:=hP;exact SqL.of kp8) (λk σ' J hk hP=>?_) (λσ' J hP=>?_)
 ·obtain⟨o9,rfl,rfl⟩:=hP;obtain⟨y2,w1,a,tv,rk,nn,xx,ea,an1,an2⟩:=a2j han4 (Za hk);rw[getD_at hk,ea];ext
  exists a0m an1 (v:=.int rk) rfl
  exists a0m an1 (v:=.int rk) rfl
  first
   |exact⟨_,rfl,rfl⟩
   | (refine iteF ?_;ext;exact⟨_,rfl,rfl⟩)
 obtain⟨o9,rfl,rfl⟩:=hP;ext;refine⟨p8,rfl,⟨_,SqL.of kp8⟩,λD hD=>?_⟩;refine a2q (a1i (xs:=us')) (λj ys J2=>Same J J2/\J2 D=some (.lst ys)/\DenL K J2 ys (Trm.dataL (as.take j))) (ln qo) ⟨a0l hD _,a0c,.nil⟩ (λj ys J2 hP=>SqL.of (hP.1 _ _ kp8)) (λj ys J2 Q' hj hl' hP kq=>?_) (λys J2 hl' hP=>?_)
 ·obtain⟨g1,g2,g3⟩:=hP;have hja:j<as.length:=by omega
  obtain⟨y2,w1,a,tv,rk,nn,xx,ea,an1,an2⟩:=a2j han4 (Za hj);rw[Za hja]at w1;have w1:as[j]=y2:=Zl w1;subst w1;rw[getD_at hj,ea];ext;refine a0m (KT.same g1 _ _ an1) (v:=tv) (a6t _ _) ?_;refine kq _ _ g2 ⟨a0x g1 hD,a0c,?_⟩;rw[a2k hja,a3w];exact(g3.append (.cons (an2.mono g1) .nil)).lst g2
 obtain⟨g1,g2,g3⟩:=hP;rw[hul,Yr]at g3;have s1J:=s14.trans g1;have e1J:=s1J _ _ e1;have halJ:=s1J _ _ hal;have neD:al≠D:=a0p (s14 _ _ hal) hD;have neD2:lp≠D:=a0p (s14 _ _ e1) hD;ext
 exists a1j (SqL.of e1J) (v:=.ref t0) (a6t _ _)
 refine a0m (SqT.of (s1J _ _ e3)) (v:=.ref al) rfl ?_;refine⟨.inl ⟨rfl,_,SqL.of halJ⟩,?_⟩;ext;refine a1w halJ (ln1 qo) ?_;have e1F:(upd J2 al (.lst (us'++[.int 1]))) lp=some (.lst (.ref t0::rest)):=(a0d (Ne.symm fld.ne)).trans e1J;ext;refine⟨.inl ⟨rfl,_,SqL.of e1F⟩,?_⟩;ext;refine a1w e1F (ln1 (by rw[length_cons];omega)) ?_;have ktF:KT K J2 (upd (upd J2 al (.lst (us'++[.int 1]))) lp (.lst ((.ref t0::rest)++[.int 2]))):=(KT.upd halJ (λ_ z=>by cases z) (λ_ _ z=>by cases z)).trans (.upd e1F (λ_ z=>by cases z) (λ_ _ z=>by cases z));have sF:Same H (upd (upd J2 al (.lst (us'++[.int 1]))) lp (.lst ((.ref t0::rest)++[.int 2]))):=a0x (a0x (s1.trans s1J) nal) nlp;have kD:(upd (upd J2 al (.lst (us'++[.int 1]))) lp (.lst ((.ref t0::rest)++[.int 2]))) D=some (.lst ys):=(a0d neD2.symm).trans ((a0d neD.symm).trans g2);have dD:=g3.monoT ktF;generalize upd (upd J2 al (.lst (us'++[.int 1]))) lp (.lst ((.ref t0::rest)++[.int 2]))=F at*;obtain⟨ud,hd1,hd2⟩:=hdp.same sF;have hudl:=hd2.length;rw[Trm.dataL_map,length_map]at hudl;have hlen:as.length=due.length:=d4c an1 hdue.1 λu=>(an2 u).trans (hdue.2 u).symm
 ext
 exists a5x (SqL.of kD)
 exists a5x (SqL.of hd1)
 have hyl:ys.length=as.length:=by omega
 rw[hyl,hudl,hlen,show(false^^decide ((due.length:Int)=(due.length:Int)))=true by rw[Zw rfl];rfl];refine iteT ?_;ext;refine⟨dp,rfl,⟨_,SqL.of hd1⟩,λD2 hD2=>?_⟩;refine a2q (a1i (xs:=ud)) (λj ys2 J3=>Same F J3/\J3 D2=some (.lst ys2)/\ys2=(List.replicate j true).map V.bl) (ln (by omega)) ⟨a0l hD2 _,a0c,rfl⟩ (λj ys2 J3 hP=>SqL.of (hP.1 _ _ hd1)) (λj ys2 J3 Q' hj hl2 hP kq=>?_) (λys2 J3 hl2 hP=>?_)
 ·obtain⟨f1,f2,rfl⟩:=hP;have hjd:j<due.length:=by omega
  obtain⟨hui,dk⟩:=a6s hd2 hjd;rw[getD_at hui];ext;refine⟨D,due[j],ys,as,rfl,SqL.of (f1 _ _ kD),dD.mono f1,dk.mono f1,λu hu=>?_,?_⟩
  ·obtain⟨i1,j1,_,hr,rfl⟩:=(an2 u).mp hu;obtain⟨b1,b2⟩:=hb.rb hr;have z1:=kok.sz b1;have z2:=kok.sz b2;rw[a1o];omega
  ·rw[any_in ((an2 _).mpr ((hdue.2 _).mp (Z6 hjd)))];refine kq _ _ f2 ⟨a0x f1 hD2,a0c,by rw[Sr,Zi];rfl⟩
 obtain⟨f1,f2,rfl⟩:=hP;obtain⟨bl1,bl2⟩:=bls_in ud.length;refine⟨D2,_,rfl,.inl (SqL.of f2),rfl,bl1,?_⟩;rw[bl2];ext;exact q J3 (sF.trans f1)
end
section
variable{P:Program}{w:World}{K:W.Frag}{mg:Str->Option Value}{base:Heap}{t:Ad}
theorem c7w(T:Txt K mg t)(G_a3:FnOk P w K mg base CX0 1 t.a_a3 t.d_a3 ["_law_cell","_law_k","_law_many"] (a6j))(G_a7:FnOk P w K mg base CX0 1 t.a_a7 t.d_a7 ["_law_script","_law_k"] (a4f K)):FnOk P w K mg base CX0 2 t.a_d2 t.d_d2 ["_law_script","_law_words_here","_law_places_here","_law_links_here","_law_shape"] (b3d K):=by
 exists T.F_d2.ok a2u,b3d,(a0e (b3o (a4e rfl (a1l K rfl (a1n (a0a a0t (a0a a0t (a0a (a1g (a2b K rfl) a0t (a0j (a0h K rfl) (mv 1) a0f (λ_ _=>rfl))) a0b))))) (a3p (a0i b0p) ["_law_script","_law_words_here","_law_places_here","_law_links_here","_law_shape","_law_x","_law_y","_law_z","_law_near","_law_far","_law_way","_law_rules_here","_law_k","_law_fact"] ["_law_script","_law_words_here","_law_places_here","_law_links_here","_law_shape","_law_x","_law_y","_law_z","_law_near","_law_far","_law_way","_law_rules_here","_law_k","_law_fact"] rfl rfl qk) (λ_ _ _ _ _=>a3o) (λ_ _ _ _ _=>(a0s (a0a a0t (a0a (mv 0) a0b))))) (kpg_lsu K rfl rfl (a2p (a1d (i:=5) a2u.nd rfl (by nofun)) (a2p (a1d (i:=6) a2u.nd rfl (by nofun)) (a2p (a1d (i:=7) a2u.nd rfl (by nofun)) a9f))))) (a0e (a0q (i:=8) (hs:=b1h) a2u.nd rfl (by nofun) (a0s (a0a a0t (a0a (a0j (a0h K rfl) (mv 1) (a2i b7v rfl T.n_g1 Tf (a0a (a2x a2a (mv 4) a0f (a1b _)) a0b)) (λ_ _=>rfl)) (a0a (a0s (a0a (mv 5) (a0a (mv 7) a0b))) a0b))))) (a0e (a0q (i:=9) (hs:=b1h) a2u.nd rfl (by nofun) (a0s (a0a a0t (a0a (a0j (a0h K rfl) (mv 1) (a2i b7v rfl T.n_g1 Tf (a0a (a2x a2a (mv 4) a0f (a1b _)) a0b)) (λ_ _=>rfl)) (a0a (a0s (a0a (mv 7) (a0a (mv 6) a0b))) a0b))))) (a0e (a0q (i:=10) (hs:=b1h) a2u.nd rfl (by nofun) (a0s (a0a a0t (a0a (a0j (a0h K rfl) (mv 1) a0f (λ_ _=>rfl)) (a0a (a0s (a0a (mv 5) (a0a (mv 6) a0b))) a0b))))) (a0e (a0q (i:=11) (hs:=a5y) a2u.nd rfl (by nofun) (a1n (a0a (a0s (a0a (mv 10) (a0a (a0s (a0a (a0s (a0a a0t (a0a (a0j (a0h K rfl) (mv 1) a0f (λ_ _=>rfl)) (a0a (a0s (a0a (mv 5) (a0a (mv 6) a0b))) a0b)))) a0b)) a0b))) (a0a (a0s (a0a (mv 10) (a0a (a0s (a0a (mv 8) (a0a (mv 9) a0b))) a0b))) a0b)))) (a0e (a1y Zz rfl (a5v rfl T.n_g0 (a0a (a1p (a3u K rfl) rfl T.n_f8 Yt (a0a (mv 3) a0b)) a0b)) (a1d (i:=12) a2u.nd rfl (by nofun)) (a0e (a0q (i:=13) (hs:=b1h) a2u.nd rfl (by nofun) (a0s (a0a (a0s (a0a a0t (a0a (a0j (a0h K rfl) (mv 1) a0f (λ_ _=>rfl)) (a0a (a0s (a0a (a0j (a0h K rfl) (mv 2) (a0j (a0h K rfl) (a0j (a0h K rfl) (mv 3) (mv 12) (λ_ _=>rfl)) a0f (λ_ _=>rfl)) (λ_ _=>rfl)) (a0a (a0j (a0h K rfl) (mv 2) (a0j (a0h K rfl) (a0j (a0h K rfl) (mv 3) (mv 12) (λ_ _=>rfl)) a0f (λ_ _=>rfl)) (λ_ _=>rfl)) a0b))) a0b)))) (a0a (a0s a0b) a0b)))) (a0g (a1f (a2y K rfl Z7 Rr F.type_list_insert d0a (mv 11) (a0a (a0k G_a3 hr.o rfl T.m_a3 T.F_a3.kp T.b_a3 .nil a0o (a0a (a0k G_a7 hr.o rfl T.m_a7 T.F_a7.kp T.b_a7 .nil a0o (a0a (mv 0) (a0a (a1g (a2b K rfl) a0f (mv 12)) a0b))) (a0a a0f (a0a (a1g (a2b K rfl) (a1p (a3u K rfl) rfl T.n_f8 Yt (a0a (mv 11) a0b)) a0f) a0b)))) (a0a (mv 13) a0b))))))) (a0g (a0u (mv 11))))))))),H,Q,E,hr,h
 rename_i a wp pp lp sh;obtain⟨ns,ws,ps,ls,hS,hW,hok,hP2,hpl,hL,hb,hl6,q⟩:=h;obtain⟨x0,x1,x2,x3,x4,rfl⟩:∃x0 x1 x2 x3 x4,ws=[x0,x1,x2,x3,x4]:=by
  have:=hok.l
  match ws,this with
  | [a,b,c,d,e],_=>exact⟨a,b,c,d,e,rfl⟩
 have hW:H wp=some (.lst [.str x0,.str x1,.str x2,.str x3,.str x4]):=hW;have wd0:=hok.w x0 qz;ext
 exists a1j (SqL.of hW) (v:=.str x0) rfl
 exists c2p (ln (by have:=wd0.ln;have:(ofString "Z").length=1:=(by decide+kernel);omega))
 refine⟨ln qz,λp5 hp5=>?_⟩;generalize e9:upd H p5 _=H5;obtain⟨sp5,kp5⟩:=nwq hp5 e9;clear e9;ext;refine⟨p5,rfl,⟨_,SqL.of kp5⟩,λD hD=>?_⟩;refine a2q (a1i (xs:=[.str xS,.str yS,.str (zS x0)])) (λi ys J=>Same H5 J/\J D=some (.lst ys)/\DenL K J ys (Trm.dataL (([xS,yS,zS x0].take i).map Trm.any))) (ln qz) ⟨a0l hD _,a0c,.nil⟩ (λi ys J hP=>SqL.of (hP.1 _ _ kp5)) (λi ys J Q' hi hl' hP k=>?_) (λys J hl' hP=>?_)
 ·obtain⟨f1,f2,f3⟩:=hP;have hi:i<[xS,yS,zS x0].length:=hi;have hgi:([.str xS,.str yS,.str (zS x0)]:List V).getD i .non=.str ([xS,yS,zS x0][i]):=by
   rw[show([.str xS,.str yS,.str (zS x0)]:List V)=[xS,yS,zS x0].map V.str from rfl,getD_at (by rw[length_map];exact hi),Wn]
  rw[hgi,];ext;refine⟨ln qz,λp7 hp7=>?_⟩;have s7:=a0l hp7 (.tup [.str "any",.str ([xS,yS,zS x0][i])]);have g6:=s7 _ _ f2;refine k _ _ g6 ⟨a0x (f1.trans s7) hD,a0c,?_⟩;rw[a2k hi,Zi,a3w];exact((f3.mono s7).append (.cons (a9l (SqT.of a0c)) .nil)).lst g6
 obtain⟨f1,f2,f3⟩:=hP;have f3:DenL K J ys (Trm.dataL [.any xS,.any yS,.any (zS x0)]):=f3;obtain⟨ax,ay,az,eys,hx,hy,hz⟩:∃ax ay az,ys=[ax,ay,az]/\Den K J ax (Trm.any xS).data/\Den K J ay (Trm.any yS).data/\Den K J az (Trm.any (zS x0)).data:=by
  cases f3 with
  |cons d1 r=>
   cases r with
   |cons d2 r=>
    cases r with
    |cons d3 r=>
     cases r;exact⟨_,_,_,rfl,d1,d2,d3⟩
 subst eys;have tJ:=sp5.trans f1
 exists gLsu_i (SqL.of f2) rfl
 obtain⟨hA,hB⟩:=sh_at x0 x1 x2 x3 x4 sh
 exists a1j (SqL.of (tJ _ _ hW)) hA
 refine⟨ln qz,λq1 hq1=>?_⟩;generalize e9:upd J q1 _=J1;obtain⟨sq1,kq1⟩:=nwq hq1 e9;clear e9;ext;refine⟨ln qz,λq2 hq2=>?_⟩;generalize e9:upd J1 q2 _=J2;obtain⟨sq2,kq2⟩:=nwq hq2 e9;clear e9;ext;have u2:=tJ.trans (sq1.trans sq2)
 exists a1j (SqL.of (u2 _ _ hW)) hB
 refine⟨ln qz,λq3 hq3=>?_⟩;generalize e9:upd J2 q3 _=J3;obtain⟨sq3,kq3⟩:=nwq hq3 e9;clear e9;ext;refine⟨ln qz,λq4 hq4=>?_⟩;generalize e9:upd J3 q4 _=J4;obtain⟨sq4,kq4⟩:=nwq hq4 e9;clear e9;ext;have u4:=u2.trans (sq3.trans sq4)
 exists a1j (SqL.of (u4 _ _ hW)) (v:=.str x0) rfl
 refine⟨ln qz,λq5 hq5=>?_⟩;generalize e9:upd J4 q5 _=J5;obtain⟨sq5,kq5⟩:=nwq hq5 e9;clear e9;ext;refine⟨ln qz,λq6 hq6=>?_⟩;generalize e9:upd J5 q6 _=J6;obtain⟨sq6,kq6⟩:=nwq hq6 e9;clear e9;ext;have u6:=u4.trans (sq5.trans sq6)
 exists a1j (SqL.of (u6 _ _ hW)) (v:=.str x1) rfl
 refine⟨ln qz,λq7 hq7=>?_⟩;generalize e9:upd J6 q7 _=J7;obtain⟨sq7,kq7⟩:=nwq hq7 e9;clear e9;ext;refine⟨ln qz,λq8 hq8=>?_⟩;generalize e9:upd J7 q8 _=J8;obtain⟨sq8,kq8⟩:=nwq hq8 e9;clear e9;ext;refine⟨ln qz,λq9 hq9=>?_⟩;generalize e9:upd J8 q9 _=J9;obtain⟨sq9,kq9⟩:=nwq hq9 e9;clear e9;ext;refine⟨ln qz,λqa hqa=>?_⟩;generalize e9:upd J9 qa _=Ja;obtain⟨sqa,kqa⟩:=nwq hqa e9;clear e9;ext;refine⟨ln qz,λqb hqb=>?_⟩;generalize e9:upd Ja qb _=Jb;obtain⟨sqb,kqb⟩:=nwq hqb e9;clear e9;ext;refine⟨ln qz,λqc hqc=>?_⟩;generalize e9:upd Jb qc _=Jc;obtain⟨sqc,kqc⟩:=nwq hqc e9;clear e9;ext;refine⟨ln qz,λqd hqd=>?_⟩;generalize e9:upd Jc qd _=Jd;obtain⟨sqd,kqd⟩:=nwq hqd e9;clear e9;ext;have s2d:=sq3.trans (sq4.trans (sq5.trans (sq6.trans (sq7.trans (sq8.trans (sq9.trans (sqa.trans (sqb.trans (sqc.trans sqd)))))))));have ud:=u2.trans s2d;have s4d:=sq5.trans (sq6.trans (sq7.trans (sq8.trans (sq9.trans (sqa.trans (sqb.trans (sqc.trans sqd)))))));have s6d:=sq7.trans (sq8.trans (sq9.trans (sqa.trans (sqb.trans (sqc.trans sqd)))));have sJd:=(sq1.trans sq2).trans s2d;have hx:=hx.mono sJd;have hy:=hy.mono sJd;have hz:=hz.mono sJd;have dA:Den K Jd (.ref q2) (pr (shA [x0,x1,x2,x3,x4] sh) (.any xS) (.any (zS x0))).data:=a3q (SqT.of (s2d _ _ kq2)) (SqT.of ((sq2.trans s2d) _ _ kq1)) (.cons hx (.cons hz .nil));have dB:Den K Jd (.ref q4) (pr (shB [x0,x1,x2,x3,x4] sh) (.any (zS x0)) (.any yS)).data:=a3q (SqT.of (s4d _ _ kq4)) (SqT.of ((sq4.trans s4d) _ _ kq3)) (.cons hz (.cons hy .nil));have dW:Den K Jd (.ref q6) (pr x0 (.any xS) (.any yS)).data:=a3q (SqT.of (s6d _ _ kq6)) (SqT.of ((sq6.trans s6d) _ _ kq5)) (.cons hx (.cons hy .nil));have s8d:=sq9.trans (sqa.trans (sqb.trans (sqc.trans sqd)));have dL:Den K Jd (.ref q8) (pr x1 (.any xS) (.any yS)).data:=a3q (SqT.of (s8d _ _ kq8)) (SqT.of ((sq8.trans s8d) _ _ kq7)) (.cons hx (.cons hy .nil));have dR1:Den K Jd (.ref qa) (ruE (pr x0 (.any xS) (.any yS),[pr x1 (.any xS) (.any yS)])):=.tup (SqT.of ((sqb.trans (sqc.trans sqd)) _ _ kqa)) (.cons dW (.cons (.tup (SqT.of ((sqa.trans (sqb.trans (sqc.trans sqd))) _ _ kq9)) (.cons dL .nil)) .nil));have dR2:Den K Jd (.ref qc) (ruE (pr x0 (.any xS) (.any yS),[pr (shA [x0,x1,x2,x3,x4] sh) (.any xS) (.any (zS x0)),pr (shB [x0,x1,x2,x3,x4] sh) (.any (zS x0)) (.any yS)])):=.tup (SqT.of (sqd _ _ kqc)) (.cons dW (.cons (.tup (SqT.of ((sqc.trans sqd) _ _ kqb)) (.cons dA (.cons dB .nil))) .nil));have nqd:H qd=none:=a1c (u2.trans (sq3.trans (sq4.trans (sq5.trans (sq6.trans (sq7.trans (sq8.trans (sq9.trans (sqa.trans (sqb.trans sqc)))))))))) hqd;obtain⟨ul,hl1,hl2⟩:=hL;have hll:=hl2.length;rw[length_map]at hll;refine a5x (SqL.of (ud _ _ hl1)) ?_;refine⟨(ul.length:Int),rfl,qo,qo,?_⟩;refine a1s (a5w 0 ul.length) (λi σ' J=>∃(o12 o13:Option V)(ur:List V)(rs:List (Trm×List Trm)),σ'=[some (.ref a),some (.ref wp),some (.ref pp),some (.ref lp),some (.int sh),some ax,some ay,some az,some (.ref q2),some (.ref q4),some (.ref q6),some (.ref qd),o12,o13]/\Same H J/\J qd=some (.lst ur)/\DenL K J ur (rs.map ruE)/\rs.Perm (R1 (kdOf [x0,x1,x2,x3,x4] ps ls sh) xS yS::R2 (kdOf [x0,x1,x2,x3,x4] ps ls sh) xS yS (zS x0)::(ls.take i).map (Fc (kdOf [x0,x1,x2,x3,x4] ps ls sh)))) ⟨none,none,[.ref qa,.ref qc],[R1 (kdOf [x0,x1,x2,x3,x4] ps ls sh) xS yS,R2 (kdOf [x0,x1,x2,x3,x4] ps ls sh) xS yS (zS x0)],rfl,ud,kqd,.cons dR1 (.cons dR2 .nil),.refl _⟩ (λi σ' J _=>trivial) (λi σ' J hi hP=>?_) (λσ' J hP=>?_);rotate_left
 ·obtain⟨o12,o13,ur,rs,rfl,g1,g2,g3,g4⟩:=hP;rw[hll,Yr]at g4;ext;exact q qd ur rs xS yS (zS x0) J g1 g2 g3 ⟨g4,xy_ne,xz_ne x0,yz_ne x0⟩
 ·obtain⟨o12,o13,ur,rs,rfl,g1,g2,g3,g4⟩:=hP;have hil:i<ls.length:=by omega
  have gl:=g3.length;rw[length_map]at gl;have pl:=g4.length_eq;rw[length_cons,length_cons,length_map,Ys]at pl;obtain⟨d,d1,d2⟩:=hl2.get (Za (show i<ul.length from hi));rw[Zv,Za hil]at d1;have d1:rsE ls[i]=d:=Zl d1;subst d1;have hm:=Z6 hil;have htk:=a2k hil;have hix:atI ul (0+(i:Int))=some ul[i]:=by rw[Ux];exact a7e (Za hi)
  generalize ul[i]=uv at d2 hix;generalize ls[i]=l at d2 hm htk;obtain⟨l1,l2⟩:=hb l hm;obtain⟨pq,rfl,hpq⟩:=c4q (d2.mono g1);obtain⟨up1,va,ua1,ab1,ac1⟩:=b3f (hP2.same g1) hpl l1;obtain⟨up2,vb,ua2,ab2,ac2⟩:=b3f (hP2.same g1) hpl l2;ext
  exists a1j (SqL.of (g1 _ _ hW)) (v:=.str x1) rfl
  exists a1j (SqL.of (g1 _ _ hl1)) hix
  exists a0m hpq (v:=.int (l.1:Int)) rfl
  exists a1j (SqL.of ua1) ab1
  exists a1j (SqL.of (g1 _ _ hl1)) hix
  exists a0m hpq (v:=.int (l.2:Int)) rfl
  exists a1j (SqL.of ua2) ab2
  refine⟨ln qz,λb1 hb1=>?_⟩;generalize e9:upd J b1 _=B1;obtain⟨sb1,kb1⟩:=nwq hb1 e9;clear e9;ext;refine⟨ln qz,λb2 hb2=>?_⟩;generalize e9:upd B1 b2 _=B2;obtain⟨sb2,kb2⟩:=nwq hb2 e9;clear e9;ext;refine⟨Z4 _,λb3 hb3=>?_⟩;generalize e9:upd B2 b3 _=B3;obtain⟨sb3,kb3⟩:=nwq hb3 e9;clear e9;ext;refine⟨ln qz,λb4 hb4=>?_⟩;generalize e9:upd B3 b4 _=B4;obtain⟨sb4,kb4⟩:=nwq hb4 e9;clear e9;ext;have t4:=sb1.trans (sb2.trans (sb3.trans sb4));have dF:Den K B4 (.ref b4) (ruE (Fc (kdOf [x0,x1,x2,x3,x4] ps ls sh) l)):=.tup (SqT.of kb4) (.cons (a3q (SqT.of ((sb3.trans sb4) _ _ kb2)) (SqT.of ((sb2.trans (sb3.trans sb4)) _ _ kb1)) (.cons (ac1.mono t4) (.cons (ac2.mono t4) .nil))) (.cons (.tup (SqT.of (sb4 _ _ kb3)) .nil) .nil));have g2':=t4 _ _ g2;refine⟨.inl ⟨rfl,_,SqL.of g2'⟩,?_⟩;ext;refine⟨ns,(g1.trans t4).seq hS,qo,qo,λc0=>?_⟩;ext
  exists a5x (SqL.of g2')
  refine⟨qk,qk,qo,λv1 B5 v10 v11 s5=>?_⟩;ext;have t5:=t4.trans s5;refine⟨qd,v1,.ref b4,ur,rfl,rfl,s5 _ _ g2',v10,qo,qo,?_⟩;refine⟨_,_,ur.take v1.toNat++.ref b4::ur.drop v1.toNat,rs.take v1.toNat++Fc (kdOf [x0,x1,x2,x3,x4] ps ls sh) l::rs.drop v1.toNat,rfl,a0x (g1.trans t5) nqd,a0c,?_,?_⟩
  ·rw[Zi,Zt,Tq,Ue];exact(((g3.mono t5).take _).append (.cons (dF.mono s5) ((g3.mono t5).drop _))).lst (t5 _ _ g2)
  ·rw[htk,Zi];exact d4b g4
end
section
variable{P:Program}{w:World}{K:W.Frag}{mg:Str->Option Value}{base:Heap}{t:Ad}
theorem c4w(T:Txt K mg t)  :FnOk P w K mg base CX0 1 t.a_d0 t.d_d0 ["_law_links_here","_law_at"] (b0l K):=by
 exists T.F_d0.ok a6e,b0l,(a0e (a0q (i:=2) (hs:=a5y) a6e.nd rfl (by nofun) (a1n a0b)) (a0e (a1y Zz rfl (a5v rfl T.n_g0 (a0a a0f a0b)) (a1d (i:=3) a6e.nd rfl (by nofun)) (a0g (a1y Zz rfl (a1l K rfl (mv 0)) (b5j K rfl rfl (a2p (a1d (i:=4) a6e.nd rfl (by nofun)) (a2p (a1d (i:=5) a6e.nd rfl (by nofun)) a9f))) (a0g (a1e (PW.pt (b3n (PW.pt (b7f (a0y a2a (mv 4) (mv 1) (a1b _)) (b3m (a0y (c2u K rfl) (mv 4) (mv 2) (by with_unfolding_all rfl))))) (b5a (a0y (b9j K rfl) (mv 5) (mv 2) (by with_unfolding_all rfl))))) (a0g (a1f (a2y K rfl Z7 Yl Yo a2d (mv 2) (a0a (mv 5) a0b)))) a1a))))) (a0g (a0u (mv 2))))),H,Q,E,hr,h
 rename_i lp i;obtain⟨ls,hL,hb,hl6,h0,h4,q⟩:=h;obtain⟨us,hu,hd⟩:=hL;have hul:=hd.length;rw[length_map]at hul;obtain⟨n,rfl⟩:∃n:Nat,i=(n:Int):=⟨i.toNat,qo⟩;ext;refine⟨Z4 _,λp hp=>?_⟩;generalize e9:upd H p _=H0;obtain⟨sp,kp⟩:=nwq hp e9;clear e9;ext;have hp0:=hp;refine⟨6,rfl,qd,qd,?_⟩;refine a1s (a5w 0 6) (λm σ' J=>∃(o3 o4 o5:Option V),σ'=[some (.ref lp),some (.int (n:Int)),some (.ref p),o3,o4,o5]/\Same H J/\J p=some (.lst (ysV (rnds n ls m)))) ⟨none,none,none,rfl,sp,kp⟩ (λm σ' J _=>trivial) (λm σ' J hm hP=>?_) (λσ' J hP=>?_);rotate_left
 ·obtain⟨o3,o4,o5,rfl,g1,g2⟩:=hP;ext;exact q p (rnds n ls 6) J g1 hp0 g2 (b3e n ls 6).nd (λj=>d4a hb j)
 ·obtain⟨o3,o4,o5,rfl,g1,g2⟩:=hP;ext;refine⟨lp,rfl,⟨_,SqL.of (g1 _ _ hu)⟩,?_⟩;refine a1s (a1i (xs:=us)) (λj σ' J2=>∃(o4 o5:Option V),σ'=[some (.ref lp),some (.int (n:Int)),some (.ref p),some (.int (0+(m:Int))),o4,o5]/\Same H J2/\J2 p=some (.lst (ysV (rnd n (ls.take j) (rnds n ls m))))) ⟨o4,o5,rfl,g1,g2⟩ (λj σ' J2 hP=>by obtain⟨_,_,_,z,_⟩:=hP;exact SqL.of (z _ _ hu)) (λj σ' J2 hj hP=>?_) (λσ' J2 hP=>?_);rotate_left
  ·obtain⟨o4,o5,rfl,g1,g2⟩:=hP;rw[hul,Yr]at g2;exact⟨_,_,_,rfl,g1,g2⟩
  ·obtain⟨o4,o5,rfl,g1,g2⟩:=hP;have hjl:j<ls.length:=by omega
   have g3:=rch_len hb (c0c (l2:=ls.take j) (b3e n ls m) λl hl=>Wi hl);obtain⟨d,d1,d2⟩:=hd.get (Za hj);rw[Zv,Za hjl]at d1;have d1:rsE ls[j]=d:=Zl d1;subst d1;rw[getD_at hj];rw[a2k hjl,d3z];generalize ls[j]=l at d2;generalize us[j]=uv at d2;obtain⟨pr,rfl,hpr⟩:=c4q (d2.mono g1)
   exists b7w hpr rfl
   generalize rnd n (ls.take j) (rnds n ls m)=acc at g2 g3 ⊢
   exists ee
   ·have ee:l.1=n:=by
     rw[Zp]at ee;have:=Z5 ee;omega
    refine iteT ?_;ext;refine⟨p,_,rfl,.inl (SqL.of g2),rfl,b5w _,?_⟩;rw[c1x];ext
    by_cases c2:l.2∈acc
    ·rw[Zw c2];refine iteF ?_;ext;refine⟨_,_,rfl,g1,?_⟩;rw[show turn n l acc=acc from if_neg λz=>z.2 c2];exact g2
    ·rw[Zs c2];refine iteT ?_;ext;refine⟨.inl ⟨rfl,_,SqL.of g2⟩,?_⟩;ext;refine a1w g2 (ln1 (by unfold ysV;rw[length_map];omega)) ?_;refine⟨_,_,rfl,a0x g1 hp0,?_⟩;rw[show turn n l acc=acc++[l.2]from if_pos ⟨.inl ee,c2⟩,c4r];exact a0c
   ·have ee:¬l.1=n:=by
     rw[Zp]at ee;have:=Xc ee;omega
    ext;refine⟨p,_,rfl,.inl (SqL.of g2),rfl,b5w _,?_⟩;rw[show(if false=true then !inV (V.int (l.1:Int)) (ysV acc)else inV (V.int (l.1:Int)) (ysV acc))=decide (l.1∈acc)from c1x _ _];ext
    by_cases c1:l.1∈acc
    ·rw[Zw c1];refine iteT ?_;ext;refine⟨p,_,rfl,.inl (SqL.of g2),rfl,b5w _,?_⟩;rw[c1x];ext
     by_cases c2:l.2∈acc
     ·rw[Zw c2];refine iteF ?_;ext;refine⟨_,_,rfl,g1,?_⟩;rw[show turn n l acc=acc from if_neg λz=>z.2 c2];exact g2
     ·rw[Zs c2];refine iteT ?_;ext;refine⟨.inl ⟨rfl,_,SqL.of g2⟩,?_⟩;ext;refine a1w g2 (ln1 (by unfold ysV;rw[length_map];omega)) ?_;refine⟨_,_,rfl,a0x g1 hp0,?_⟩;rw[show turn n l acc=acc++[l.2]from if_pos ⟨.inr c1,c2⟩,c4r];exact a0c
    ·rw[Zs c1];refine iteF ?_;ext;refine⟨_,_,rfl,g1,?_⟩;rw[show turn n l acc=acc from if_neg λz=>z.1.elim ee c1];exact g2
end
section
variable{P:Program}{w:World}{K:W.Frag}{mg:Str->Option Value}{base:Heap}{t:Ad}
theorem d4d(T:Txt K mg t)(G_d0:FnOk P w K mg base CX0 1 t.a_d0 t.d_d0 ["_law_links_here","_law_at"] (b0l K)):FnOk P w K mg base CX0 2 t.a_d5 t.d_d5 ["_law_links_here","_law_words_here","_law_places_here","_law_asked"] (b6z K):=by
 exists T.F_d5.ok b2r,b6z,(a0e (a0q (i:=4) (hs:=a5y) b2r.nd rfl (by nofun) (a1n a0b)) (a0e (a1y Zz rfl (a5v rfl T.n_g0 (a0a a0f a0b)) (a1d (i:=5) b2r.nd rfl (by nofun)) (a0g (a1e (PW.pt (b7f (a0y a2a (mv 5) (mv 3) (a1b _)) (b3m (a0y a2a (mv 3) a0f (a1b _))))) (a0g (a1y Zz rfl (a1l K rfl (a0k G_d0 hr.o rfl T.m_d0 T.F_d0.kp T.b_d0 .nil a0o (a0a (mv 0) (a0a (mv 5) a0b)))) (a1d (i:=6) b2r.nd rfl (by nofun)) (a0g (a1f (a2y K rfl Z7 Yl Yo a2d (mv 4) (a0a (a0s (a0a a0t (a0a (a0j (a0h K rfl) (mv 1) a0f (λ_ _=>rfl)) (a0a (a0s (a0a (a0j (a0h K rfl) (mv 2) (mv 5) (λ_ _=>rfl)) (a0a (a0j (a0h K rfl) (mv 2) (mv 6) (λ_ _=>rfl)) a0b))) a0b)))) a0b)))))) a1a))) (a0g (a0u (mv 4))))),H,Q,E,hr,h
 rename_i lp wp pp i;obtain⟨ws,ps,ls,hW,hok,hP2,hpl,hL,hb,hl6,h0,h5,q⟩:=h;obtain⟨x0,x1,x2,x3,x4,rfl⟩:∃x0 x1 x2 x3 x4,ws=[x0,x1,x2,x3,x4]:=by
  have:=hok.l
  match ws,this with
  | [a,b,c,d,e],_=>exact⟨a,b,c,d,e,rfl⟩
 have hW:H wp=some (.lst [.str x0,.str x1,.str x2,.str x3,.str x4]):=hW;ext;refine⟨Z4 _,λp hp=>?_⟩;generalize e9:upd H p _=H0;obtain⟨sp,kp⟩:=nwq hp e9;clear e9;ext;have hp0:=hp;have hao:∀a:Nat,a<4->(okO (askO i) a↔((a:Int)=i\/i=4)):=λa ha=>by
  unfold askO okO
  by_cases c:i<4
  ·rw[if_pos c]
   constructor
   ·rintro(z|z)
    ·cases z
    ·have:=Zl z;omega
   ·intro z;right;congr 1;omega
  ·rw[if_neg c];exact⟨λ_=>.inr qo,λ_=>.inl rfl⟩
 refine⟨4,rfl,qd,qd,?_⟩;refine a1s (a5w 0 4) (λn σ' J=>∃(o5 o6:Option V)(us:List V)(due:List Trm),σ'=[some (.ref lp),some (.ref wp),some (.ref pp),some (.int i),some (.ref p),o5,o6]/\Same H J/\J p=some (.lst us)/\DenL K J us (Trm.dataL due)/\due.length<=4*n/\due.Nodup/\∀u,u∈due↔∃a j,a<n/\okO (askO i) a/\a1u ls a j/\u=pr x0 (PP ps a) (PP ps j)) ⟨none,none,[],[],rfl,sp,kp,.nil,Z4 _,.nil,due_nil⟩ (λn σ' J _=>trivial) (λn σ' J hn hP=>?_) (λσ' J hP=>?_);rotate_left
 ·obtain⟨o5,o6,us,due,rfl,g1,g2,g3,g4,g5,g6⟩:=hP;ext;refine q p due J g1 ⟨us,g2,g3⟩ ⟨g5,λu=>(g6 u).trans ⟨λ⟨a,j,_,z1,z2,z3⟩=>⟨a,j,z1,z2,z3⟩,λ⟨a,j,z1,z2,z3⟩=>⟨a,j,(hb.rb z2).1,z1,z2,z3⟩⟩⟩
 ·obtain⟨o5,o6,us,due,rfl,g1,g2,g3,g4,g5,g6⟩:=hP;have hn4:n<4:=hn;have hz:(0+(n:Int)).toNat=n:=by omega
  have skip:¬okO (askO i) n->∀u,u∈due↔∃a j,a<n+1/\okO (askO i) a/\a1u ls a j/\u=pr x0 (PP ps a) (PP ps j):=λc u=>(g6 u).trans ⟨λ⟨a,j,z,z1,z2,z3⟩=>⟨a,j,qo,z1,z2,z3⟩,λ⟨a,j,z,z1,z2,z3⟩=>⟨a,j,Nat.lt_of_le_of_ne qo (λe=>c (e▸z1)),z1,z2,z3⟩⟩
  ext
  exists ee
  ·have ee:(0+(n:Int))=i:=Z5 (by rw[Zp]at ee;exact ee);have c:okO (askO i) n:=(hao n hn4).mpr (.inl qo);refine iteT ?_;ext;refine⟨ls,hL.same g1,hb,hl6,qo,qo,λp2 ys J2 s2 hp2 k2 nd2 hy2=>?_⟩;rw[hz]at hy2;have hne:p2≠p:=(a0p g2 hp2).symm;have hyl:ys.length<=4:=b8y nd2 λj hj=>(hb.rb ((hy2 j).mp hj)).2
   refine⟨p2,rfl,⟨_,SqL.of k2⟩,?_⟩;refine a1s (a1i (xs:=ysV ys)) (λm σ' J3=>∃(o6:Option V)(us:List V)(d2:List Trm),σ'=[some (.ref lp),some (.ref wp),some (.ref pp),some (.int i),some (.ref p),some (.int (0+(n:Int))),o6]/\Same H J3/\J3 p2=some (.lst (ysV ys))/\J3 p=some (.lst us)/\DenL K J3 us (Trm.dataL d2)/\d2.length<=4*n+m/\d2.Nodup/\∀u,u∈d2↔u∈due\/∃j∈ys.take m,u=pr x0 (PP ps n) (PP ps j)) ⟨o6,us,due,rfl,g1.trans s2,k2,s2 _ _ g2,g3.mono s2,g4,g5,λu=>by simp⟩ (λm σ' J3 hP=>by obtain⟨_,_,_,_,_,z,_⟩:=hP;exact SqL.of z) (λm σ' J3 hm hP=>?_) (λσ' J3 hP=>?_);rotate_left
   ·obtain⟨o6,us3,d3,rfl,f1,f2,f3,f4,f5,f6,f7⟩:=hP;rw[show(ysV ys).length=ys.length by unfold ysV;rw[length_map]]at f5 f7;rw[Yr]at f7;refine⟨_,_,us3,d3,rfl,f1,f3,f4,qo,f6,λu=>(f7 u).trans ⟨λz=>?_,λ⟨a,j,z,z1,z2,z3⟩=>?_⟩⟩
    ·rcases z with z|⟨j,z1,z2⟩
     ·obtain⟨a,j,z,z1,z2,z3⟩:=(g6 u).mp z;exact⟨a,j,qo,z1,z2,z3⟩
     ·exact⟨n,j,Wl n,c,(hy2 j).mp z1,z2⟩
    ·by_cases e:a=n
     ·subst e;exact .inr ⟨j,(hy2 j).mpr z2,z3⟩
     ·exact .inl ((g6 u).mpr ⟨a,j,qo,z1,z2,z3⟩)
   ·obtain⟨o6,us3,d3,rfl,f1,f2,f3,f4,f5,f6,f7⟩:=hP;have hm':m<ys.length:=by unfold ysV at hm;rw[length_map]at hm;exact hm
    have hjm:=Z6 hm';have hr:=(hy2 _).mp hjm;have hj4:=(hb.rb hr).2;have htk:=a2k hm';have hnot:ys[m]∉ys.take m:=λz=>by
     have n2:=nd2;rw[<-Wb m ys,Yb]at n2;refine n2.2.2 _ z ys[m] ?_ rfl;rw[Xk hm'];exact Ze ..
    rw[show(ysV ys).getD m .non=.int ((ys[m]:Nat):Int) by unfold ysV;rw[getD_at (by rw[length_map];exact hm'),Wn]];generalize ys[m]=jj at hjm hr hj4 htk hnot;have ul3:=f4.length;rw[Trm.dataL_map,length_map]at ul3;obtain⟨up,va,ua,ab,ac⟩:=b3f (hP2.same f1) hpl hn4;obtain⟨up2,vb,ua2,ab2,ac2⟩:=b3f (hP2.same f1) hpl hj4;ext;refine⟨.inl ⟨rfl,_,SqL.of f3⟩,?_⟩;ext
    exists a1j (SqL.of (f1 _ _ hW)) (v:=.str x0) rfl
    exists a1j (SqL.of ua) (v:=va) (by rw[Ux];exact ab)
    exists a1j (SqL.of ua2) (v:=vb) ab2
    refine⟨ln qz,λq1 hq1=>?_⟩;generalize e9:upd J3 q1 _=J4;obtain⟨sq1,kq1⟩:=nwq hq1 e9;clear e9;ext;refine⟨ln qz,λq2 hq2=>?_⟩;generalize e9:upd J4 q2 _=J5;obtain⟨sq2,kq2⟩:=nwq hq2 e9;clear e9;ext;have dn:Den K J5 (.ref q2) (pr x0 (PP ps n) (PP ps jj)).data:=a3q (SqT.of kq2) (SqT.of (sq2 _ _ kq1)) (.cons (ac.mono (sq1.trans sq2)) (.cons (ac2.mono (sq1.trans sq2)) .nil));have t5:=sq1.trans sq2;refine a1w (t5 _ _ f3) (ln1 qo) ?_;have nfr:pr x0 (PP ps n) (PP ps jj)∉d3:=λz=>by
     rcases(f7 _).mp z with y|⟨j,y1,y2⟩
     ·obtain⟨a,j,y0,y1,y2,y3⟩:=(g6 _).mp y;have:=b8z hpl hn4 qo (a4a y3).2.1;omega
     ·have:=b8z hpl hj4 (hb.rb ((hy2 j).mp (Wi y1))).2 (a4a y2).2.2;exact hnot (this▸y1)
    refine⟨_,us3++[.ref q2],d3++[pr x0 (PP ps n) (PP ps jj)],rfl,a0x (f1.trans t5) hp0,(a0d hne).trans (t5 _ _ f2),a0c,?_,by rw[Zk,Z8];omega,Yb.mpr ⟨f6,qz,λa ha b hb e=>nfr (by rw[<-Zd.mp hb,<-e];exact ha)⟩,λu=>?_⟩
    ·rw[a3w];exact((f4.mono t5).append (.cons dn .nil)).lst (t5 _ _ f3)
    ·rw[Zr,f7,htk,Zd]
     constructor
     ·rintro((z|⟨j,z1,z2⟩)|z)
      ·exact .inl z
      ·exact .inr ⟨j,Yy _ z1,z2⟩
      ·exact .inr ⟨jj,Z3 _ (Zd.mpr rfl),z⟩
     ·rintro(z|⟨j,z1,z2⟩)
      ·exact .inl (.inl z)
      ·rcases Zr.mp z1 with y|y
       ·exact .inl (.inr ⟨j,y,z2⟩)
       ·exact .inr (by rw[z2,Zd.mp y])
  ·have ee:¬(0+(n:Int))=i:=Xc (by rw[Zp]at ee;exact ee);ext
   exists e2
   ·have e2:i=4:=Z5 (by rw[Zp]at e2;exact e2);have c:okO (askO i) n:=(hao n hn4).mpr (.inr e2);ext;refine⟨ls,hL.same g1,hb,hl6,qo,qo,λp2 ys J2 s2 hp2 k2 nd2 hy2=>?_⟩;rw[hz]at hy2;have hne:p2≠p:=(a0p g2 hp2).symm;have hyl:ys.length<=4:=b8y nd2 λj hj=>(hb.rb ((hy2 j).mp hj)).2
    refine⟨p2,rfl,⟨_,SqL.of k2⟩,?_⟩;refine a1s (a1i (xs:=ysV ys)) (λm σ' J3=>∃(o6:Option V)(us:List V)(d2:List Trm),σ'=[some (.ref lp),some (.ref wp),some (.ref pp),some (.int i),some (.ref p),some (.int (0+(n:Int))),o6]/\Same H J3/\J3 p2=some (.lst (ysV ys))/\J3 p=some (.lst us)/\DenL K J3 us (Trm.dataL d2)/\d2.length<=4*n+m/\d2.Nodup/\∀u,u∈d2↔u∈due\/∃j∈ys.take m,u=pr x0 (PP ps n) (PP ps j)) ⟨o6,us,due,rfl,g1.trans s2,k2,s2 _ _ g2,g3.mono s2,g4,g5,λu=>by simp⟩ (λm σ' J3 hP=>by obtain⟨_,_,_,_,_,z,_⟩:=hP;exact SqL.of z) (λm σ' J3 hm hP=>?_) (λσ' J3 hP=>?_);rotate_left
    ·obtain⟨o6,us3,d3,rfl,f1,f2,f3,f4,f5,f6,f7⟩:=hP;rw[show(ysV ys).length=ys.length by unfold ysV;rw[length_map]]at f5 f7;rw[Yr]at f7;refine⟨_,_,us3,d3,rfl,f1,f3,f4,qo,f6,λu=>(f7 u).trans ⟨λz=>?_,λ⟨a,j,z,z1,z2,z3⟩=>?_⟩⟩
     ·rcases z with z|⟨j,z1,z2⟩
      ·obtain⟨a,j,z,z1,z2,z3⟩:=(g6 u).mp z;exact⟨a,j,qo,z1,z2,z3⟩
      ·exact⟨n,j,Wl n,c,(hy2 j).mp z1,z2⟩
     ·by_cases e:a=n
      ·subst e;exact .inr ⟨j,(hy2 j).mpr z2,z3⟩
      ·exact .inl ((g6 u).mpr ⟨a,j,qo,z1,z2,z3⟩)
    ·obtain⟨o6,us3,d3,rfl,f1,f2,f3,f4,f5,f6,f7⟩:=hP;have hm':m<ys.length:=by unfold ysV at hm;rw[length_map]at hm;exact hm
     have hjm:=Z6 hm';have hr:=(hy2 _).mp hjm;have hj4:=(hb.rb hr).2;have htk:=a2k hm';have hnot:ys[m]∉ys.take m:=λz=>by
      have n2:=nd2;rw[<-Wb m ys,Yb]at n2;refine n2.2.2 _ z ys[m] ?_ rfl;rw[Xk hm'];exact Ze ..
     rw[show(ysV ys).getD m .non=.int ((ys[m]:Nat):Int) by unfold ysV;rw[getD_at (by rw[length_map];exact hm'),Wn]];generalize ys[m]=jj at hjm hr hj4 htk hnot;have ul3:=f4.length;rw[Trm.dataL_map,length_map]at ul3;obtain⟨up,va,ua,ab,ac⟩:=b3f (hP2.same f1) hpl hn4;obtain⟨up2,vb,ua2,ab2,ac2⟩:=b3f (hP2.same f1) hpl hj4;ext;refine⟨.inl ⟨rfl,_,SqL.of f3⟩,?_⟩;ext
     exists a1j (SqL.of (f1 _ _ hW)) (v:=.str x0) rfl
     exists a1j (SqL.of ua) (v:=va) (by rw[Ux];exact ab)
     exists a1j (SqL.of ua2) (v:=vb) ab2
     refine⟨ln qz,λq1 hq1=>?_⟩;generalize e9:upd J3 q1 _=J4;obtain⟨sq1,kq1⟩:=nwq hq1 e9;clear e9;ext;refine⟨ln qz,λq2 hq2=>?_⟩;generalize e9:upd J4 q2 _=J5;obtain⟨sq2,kq2⟩:=nwq hq2 e9;clear e9;ext;have dn:Den K J5 (.ref q2) (pr x0 (PP ps n) (PP ps jj)).data:=a3q (SqT.of kq2) (SqT.of (sq2 _ _ kq1)) (.cons (ac.mono (sq1.trans sq2)) (.cons (ac2.mono (sq1.trans sq2)) .nil));have t5:=sq1.trans sq2;refine a1w (t5 _ _ f3) (ln1 qo) ?_;have nfr:pr x0 (PP ps n) (PP ps jj)∉d3:=λz=>by
      rcases(f7 _).mp z with y|⟨j,y1,y2⟩
      ·obtain⟨a,j,y0,y1,y2,y3⟩:=(g6 _).mp y;have:=b8z hpl hn4 qo (a4a y3).2.1;omega
      ·have:=b8z hpl hj4 (hb.rb ((hy2 j).mp (Wi y1))).2 (a4a y2).2.2;exact hnot (this▸y1)
     refine⟨_,us3++[.ref q2],d3++[pr x0 (PP ps n) (PP ps jj)],rfl,a0x (f1.trans t5) hp0,(a0d hne).trans (t5 _ _ f2),a0c,?_,by rw[Zk,Z8];omega,Yb.mpr ⟨f6,qz,λa ha b hb e=>nfr (by rw[<-Zd.mp hb,<-e];exact ha)⟩,λu=>?_⟩
     ·rw[a3w];exact((f4.mono t5).append (.cons dn .nil)).lst (t5 _ _ f3)
     ·rw[Zr,f7,htk,Zd]
      constructor
      ·rintro((z|⟨j,z1,z2⟩)|z)
       ·exact .inl z
       ·exact .inr ⟨j,Yy _ z1,z2⟩
       ·exact .inr ⟨jj,Z3 _ (Zd.mpr rfl),z⟩
      ·rintro(z|⟨j,z1,z2⟩)
       ·exact .inl (.inl z)
       ·rcases Zr.mp z1 with y|y
        ·exact .inl (.inr ⟨j,y,z2⟩)
        ·exact .inr (by rw[z2,Zd.mp y])
   ·have e2:¬i=4:=Xc (by rw[Zp]at e2;exact e2);ext;exact⟨_,_,us,due,rfl,g1,g2,g3,qo,g5,skip λz=>((hao n hn4).mp z).elim (λz=>ee qo) e2⟩
end
section
variable{P:Program}{w:World}{K:W.Frag}{mg:Str->Option Value}{base:Heap}{t:Ad}
theorem c5o(T:Txt K mg t)(G_a3:FnOk P w K mg base CX0 1 t.a_a3 t.d_a3 ["_law_cell","_law_k","_law_many"] (a6j)):FnOk P w K mg base CX0 2 t.a_d4 t.d_d4 ["_law_cell","_law_words_here"] (b1a K):=by
 exists T.F_d4.ok b6d,b1a,(a0e (a0q (i:=2) (hs:=a5y) b6d.nd rfl (by nofun) (a1n (a0a (a0s (a0a a0t (a0a (a1g a7h (mv 0) (a1g c9d a0f a0f)) a0b))) (a0a (a0s (a0a a0t (a0a (a0j (a0h K rfl) (mv 1) a0f (λ_ _=>rfl)) (a0a (a0s a0b) a0b)))) (a0a (a0s (a0a a0t (a0a (a0j (a0h K rfl) (mv 1) a0f (λ_ _=>rfl)) (a0a (a0s a0b) a0b)))) a0b))))) (a0g (a0u (a1g (a2b K rfl) (mv 2) (a1n (a0a (a0j (a0h K rfl) (a1n (a0a (a0s (a0a a0t (a0a (a0j (a0h K rfl) (mv 1) a0f (λ_ _=>rfl)) (a0a (a0s (a0a (a0s (a0a a0t (a0a (a1g a7h (mv 0) a0f) a0b))) a0b)) a0b)))) (a0a (a0s (a0a a0t (a0a (a1g b3v (a1g b3v a0f a0f) (a1g a7h (mv 0) (a1g c9d a0f a0f))) a0b))) a0b))) (a0k G_a3 hr.o rfl T.m_a3 T.F_a3.kp T.b_a3 .nil a0o (a0a (mv 0) (a0a a0f (a0a a0f a0b)))) (λ_ _=>rfl)) a0b)))))),H,Q,E,hr,h
 rename_i c wp;obtain⟨ws,hW,hok,q⟩:=h;obtain⟨x0,x1,x2,x3,x4,rfl⟩:∃x0 x1 x2 x3 x4,ws=[x0,x1,x2,x3,x4]:=by
  have:=hok.l
  match ws,this with
  | [a,b,c,d,e],_=>exact⟨a,b,c,d,e,rfl⟩
 have hW:H wp=some (.lst [.str x0,.str x1,.str x2,.str x3,.str x4]):=hW;have hnd:=hok.n;simp only[Yn,Zg,not_or,Yk,not_false_eq_true,and_true,List.nodup_nil,Xv]at hnd;ext;refine m2_i (C:=CPow) ⟨qd,qd,qd⟩ ?_
 exists m2_i (C:=λ_ j=>0<j) qd
 refine⟨ln qz,λp1 hp1=>?_⟩;generalize e9:upd H p1 _=H1;obtain⟨sp1,kp1⟩:=nwq hp1 e9;clear e9;ext
 exists a1j (SqL.of (sp1 _ _ hW)) (v:=.str x2) rfl
 refine⟨Z4 _,λp2 hp2=>?_⟩;generalize e9:upd H1 p2 _=H2;obtain⟨sp2,kp2⟩:=nwq hp2 e9;clear e9;ext;refine⟨ln qz,λp3 hp3=>?_⟩;generalize e9:upd H2 p3 _=H3;obtain⟨sp3,kp3⟩:=nwq hp3 e9;clear e9;ext;have t3:=sp1.trans (sp2.trans sp3)
 exists a1j (SqL.of (t3 _ _ hW)) (v:=.str x3) rfl
 refine⟨Z4 _,λp4 hp4=>?_⟩;generalize e9:upd H3 p4 _=H4;obtain⟨sp4,kp4⟩:=nwq hp4 e9;clear e9;ext;refine⟨ln qz,λp5 hp5=>?_⟩;generalize e9:upd H4 p5 _=H5;obtain⟨sp5,kp5⟩:=nwq hp5 e9;clear e9;ext;refine⟨ln qz,λp6 hp6=>?_⟩;generalize e9:upd H5 p6 _=H6;obtain⟨sp6,kp6⟩:=nwq hp6 e9;clear e9;ext;have t6:=t3.trans (sp4.trans (sp5.trans sp6))
 exists a1j (SqL.of (t6 _ _ hW)) (v:=.str x4) rfl
 refine⟨ln qz,λp7 hp7=>?_⟩;generalize e9:upd H6 p7 _=H7;obtain⟨sp7,kp7⟩:=nwq hp7 e9;clear e9;ext;refine⟨ln qz,λp8 hp8=>?_⟩;generalize e9:upd H7 p8 _=H8;obtain⟨sp8,kp8⟩:=nwq hp8 e9;clear e9;ext;refine⟨ln qz,λp9 hp9=>?_⟩;generalize e9:upd H8 p9 _=H9;obtain⟨sp9,kp9⟩:=nwq hp9 e9;clear e9;ext;refine m2_i (C:=CPow) ⟨qd,qd,qd⟩ ?_
 exists m2_i (C:=λ_ j=>0<j) qd
 refine⟨ln qz,λpA hpA=>?_⟩;generalize e9:upd H9 pA _=HA;obtain⟨spA,kpA⟩:=nwq hpA e9;clear e9;ext;refine⟨ln qz,λpB hpB=>?_⟩;generalize e9:upd HA pB _=HB;obtain⟨spB,kpB⟩:=nwq hpB e9;clear e9;ext;refine⟨qd,qd,qd,λvC HC vC0 vC1 sC=>?_⟩;ext;have t6C:=sp7.trans (sp8.trans (sp9.trans (spA.trans (spB.trans sC))));have dN:Den K H1 (.ref p1) (Trm.num (c%10^(30:Int).toNat)).data:=b9i (SqT.of kp1);have d3:Den K H3 (.ref p3) (Trm.app x2 []).data:=a3q (SqT.of kp3) (SqT.of (sp3 _ _ kp2)) .nil;have d5:Den K H5 (.ref p5) (Trm.app x3 []).data:=a3q (SqT.of kp5) (SqT.of (sp5 _ _ kp4)) .nil;have d7:Den K H7 (.ref p7) (Trm.num (c%3)).data:=b9i (SqT.of kp7);have d9:Den K H9 (.ref p9) (Trm.app x4 [.num (c%3)]).data:=a3q (SqT.of kp9) (SqT.of (sp9 _ _ kp8)) (.cons (d7.mono (sp8.trans sp9)) .nil);have dA:Den K HA (.ref pA) (Trm.num (0-1-c%10^(12:Int).toNat)).data:=b9i (SqT.of kpA);obtain⟨v,tv,htv,hat,hdv⟩:=trm_at (K:=K) (H:=HC) (us:=[.ref p9,.ref pA]) (ts:=[.app x4 [.num (c%3)],.num (0-1-c%10^(12:Int).toNat)]) (.cons (d9.mono (spA.trans (spB.trans sC))) (.cons (dA.mono (spB.trans sC)) .nil)) (i:=vC) vC0 (by simpa using vC1)
 exists a1j (SqL.of (sC _ _ kpB)) hat
 refine⟨ln qz,λpD hpD=>?_⟩;generalize e9:upd HC pD _=HD;obtain⟨spD,kpD⟩:=nwq hpD e9;clear e9;ext;have t6D:=t6C.trans spD;refine b1g (t6D _ _ kp6) kpD (ln qz) λpE hpE=>?_
 have sE:=a0l hpE (.lst ([.ref p1,.ref p3,.ref p5]++[v]));have t6E:Same H6 _:=t6D.trans sE;have hmod:0<=c%10^(30:Int).toNat:=Vf _ qk;have hmod2:0<=c%10^(12:Int).toNat:=Vf _ qk;generalize c%10^(30:Int).toNat=n30 at dN hmod;generalize c%10^(12:Int).toNat=n12 at htv hmod2;generalize c%3=n3 at htv;refine q pE [.num n30,.app x2 [],.app x3 [],tv] _ (t6.trans t6E) ⟨_,a0c,.cons (dN.mono (sp2.trans (sp3.trans (sp4.trans (sp5.trans (sp6.trans t6E)))))) (.cons (d3.mono (sp4.trans (sp5.trans (sp6.trans t6E)))) (.cons (d5.mono (sp6.trans t6E)) (.cons (hdv.mono (spD.trans sE)) .nil)))⟩ ?_;have n23:x2≠x3:=λz=>by simp[z]at hnd
 have n24:x2≠x4:=λz=>by simp[z]at hnd
 have n34:x3≠x4:=λz=>by simp[z]at hnd
 have dep:∀m:Int,(Trm.num m).data.depth<=5:=λm=>by
  simp only[Trm.data,PyData.depth,PyData.depthAll];omega
 have dap:∀s,(Trm.app s []).data.depth<=5:=λs=>by
  simp only[Trm.data,Trm.dataL,PyData.depth,PyData.depthAll];omega
 have dap1:(Trm.app x4 [.num n3]).data.depth<=5:=by
  simp only[Trm.data,Trm.dataL,PyData.depth,PyData.depthAll];omega
 simp only[Zg,Yk,Xv]at htv;rcases htv with rfl|rfl
 ·refine⟨rfl,by simp[n23,n24,n34],λp hp=>?_,λs ks ls h1 h2=>?_⟩
  ·simp only[Zg,Yk,Xv]at hp;rcases hp with rfl|rfl|rfl|rfl
   ·exact⟨rfl,by show 1<=5;decide,dep _⟩
   ·exact⟨rfl,by show 1<=5;decide,dap _⟩
   ·exact⟨rfl,by show 1<=5;decide,dap _⟩
   ·exact⟨rfl,by show 2<=5;decide,dap1⟩
  ·simp only[Zg,Yk,Xv]at h1 h2;rcases h1 with h1|h1|h1|h1<;>rcases h2 with h2|h2|h2|h2<;>simp_all
 ·refine⟨rfl,by simp[n23];omega,λp hp=>?_,λs ks ls h1 h2=>?_⟩
  ·simp only[Zg,Yk,Xv]at hp;rcases hp with rfl|rfl|rfl|rfl
   ·exact⟨rfl,by show 1<=5;decide,dep _⟩
   ·exact⟨rfl,by show 1<=5;decide,dap _⟩
   ·exact⟨rfl,by show 1<=5;decide,dap _⟩
   ·exact⟨rfl,by show 1<=5;decide,dep _⟩
  ·simp only[Zg,Yk,Xv]at h1 h2;rcases h1 with h1|h1|h1|h1<;>rcases h2 with h2|h2|h2|h2<;>simp_all
theorem c7x(T:Txt K mg t)(G_a7:FnOk P w K mg base CX0 1 t.a_a7 t.d_a7 ["_law_script","_law_k"] (a4f K))(G_a3:FnOk P w K mg base CX0 1 t.a_a3 t.d_a3 ["_law_cell","_law_k","_law_many"] (a6j)):FnOk P w K mg base CX0 2 t.a_e4 t.d_e4 ["_law_script","_law_many"] (b3c K):=by
 exists T.F_e4.ok a9c,b3c,(a0e (a0q (i:=2) (hs:=a5y) a9c.nd rfl (by nofun) (a1n a0b)) (a0e (a1y Zz rfl (a5v rfl T.n_g0 (a0a (mv 1) a0b)) (a1d (i:=3) a9c.nd rfl (by nofun)) (a0e (a0q (i:=4) (hs:=a1h) a9c.nd rfl (by nofun) (a0k G_a7 hr.o rfl T.m_a7 T.F_a7.kp T.b_a7 .nil a0o (a0a (mv 0) (a0a (a1g (a2b K rfl) a0f (mv 3)) a0b)))) (a0g (a1f (a2y K rfl Z7 Yl Yo a2d (mv 2) (a0a (a0s (a0a (a0k G_a3 hr.o rfl T.m_a3 T.F_a3.kp T.b_a3 .nil a0o (a0a (mv 4) (a0a a0f (a0a a0f a0b)))) (a0a (a0k G_a3 hr.o rfl T.m_a3 T.F_a3.kp T.b_a3 .nil a0o (a0a (mv 4) (a0a a0f (a0a a0f a0b)))) a0b))) a0b)))))) (a0g (a0u (mv 2))))),H,Q,E,hr,h
 rename_i a many;obtain⟨ns,hS,hm0,hm1,q⟩:=h;ext;refine⟨Z4 _,λp0 hp0=>?_⟩;generalize e9:upd H p0 _=H0;obtain⟨sp0,kp0⟩:=nwq hp0 e9;clear e9;ext;have hp0:=hp0;refine⟨many,rfl,qo,qo,?_⟩;refine a1s (a5w 0 many.toNat) (λi σ' J=>∃(o3 o4:Option V)(ls:List (Nat×Nat))(us:List V),σ'=[some (.ref a),some (.int many),some (.ref p0),o3,o4]/\Same H J/\J p0=some (.lst us)/\DenL K J us (ls.map rsE)/\lsB ls/\ls.length=i) ⟨none,none,[],[],rfl,sp0,kp0,.nil,(λl hl=>by cases hl),rfl⟩ (λi σ' J _=>trivial) (λi σ' J hi hP=>?_) (λσ' J hP=>?_)
 ·obtain⟨o3,o4,ls,us,rfl,g1,g2,g3,g4,g5⟩:=hP;have gl:=g3.length;rw[length_map]at gl;ext;refine⟨ns,g1.seq hS,qo,qo,λc0=>?_⟩;ext;refine⟨.inl ⟨rfl,_,SqL.of g2⟩,?_⟩;ext;refine⟨qd,qd,qd,λv1 J1 v10 v11 s1=>?_⟩;ext;refine⟨qd,qd,qd,λv2 J2 v20 v21 s2=>?_⟩;ext;refine⟨ln qz,λpp hpp=>?_⟩;generalize e9:upd J2 pp _=J3;obtain⟨spp,kpp⟩:=nwq hpp e9;clear e9;ext;have t3:=s1.trans (s2.trans spp);refine a1w (t3 _ _ g2) (ln1 qo) ?_;refine⟨_,_,ls++[(v1.toNat,v2.toNat)],us++[.ref pp],rfl,a0x (g1.trans t3) hp0,a0c,?_,λl hl=>?_,by rw[Zk,g5];rfl⟩
  ·rw[Zi];refine((g3.mono t3).append (.cons (.tup (SqT.of kpp) ?_) .nil)).lst (t3 _ _ g2)
   show DenL K J3 [.int v1,.int v2] [.int ((v1.toNat:Nat):Int),.int ((v2.toNat:Nat):Int)]
   rw[S4 v10,S4 v20];exact .cons (.int _) (.cons (.int _) .nil)
  ·rcases Zr.mp hl with z|z
   ·exact g4 l z
   ·rw[Zd.mp z]
    show v1.toNat<4/\v2.toNat<4
    omega
 ·obtain⟨o3,o4,ls,us,rfl,g1,g2,g3,g4,g5⟩:=hP;ext;exact q p0 ls J g1 ⟨us,g2,g3⟩ g4 qo
end
section
variable{P:Program}{w:World}{K:W.Frag}{mg:Str->Option Value}{base:Heap}{t:Ad}
theorem depth_le{n:Nat}:∀{ds:List PyData},(∀d∈ds,d.depth<=n)->PyData.depthAll ds<=n
 | [],_=>Z4 _
 |d::r,h=>by
  have h1:=h d (Ze ..);have h2:=depth_le (n:=n) (ds:=r) λe he=>h e (Zc _ he)
  simp only[PyData.depthAll];omega
theorem c1f(x:Str):(Trm.any x).data.depth<=5:=by
 simp only[Trm.data,PyData.depth,PyData.depthAll];omega
theorem b7e{h:Trm}{gs:List Trm}(h1:h.data.depth<=8)(h2:∀g∈gs,g.data.depth<=8):(ruE (h,gs)).depth<=149:=by
 have h3:PyData.depthAll (Trm.dataL gs)<=8:=depth_le λd hd=>by
  rw[Trm.dataL_map]at hd;obtain⟨g,hg,rfl⟩:=Z1.mp hd;exact h2 g hg
 unfold ruE;simp only[PyData.depth,PyData.depthAll];omega
theorem d4e{k:Kd}(h:KOk k){rs:List (Trm×List Trm)}{x y z:Str}(R:RsK k rs x y z):PyData.depthAll (rs.map ruE)<=149:=by
 have an:∀(w a b:Str),(pr w (.any a) (.any b)).data.depth<=8:=λw a b=>by
  have:=b0j w (.any a) (.any b);have:=c1f a;have:=c1f b;omega
 refine depth_le λd hd=>?_
 obtain⟨u,hu,rfl⟩:=Z1.mp hd;rcases R.mem.mp hu with rfl|rfl|⟨l,hl,rfl⟩
 ·refine b7e (an _ _ _) λg hg=>?_
  rw[Zd.mp hg];exact an _ _ _
 ·refine b7e (an _ _ _) λg hg=>?_
  rcases Zg.mp hg with e|e
  ·rw[e];exact an _ _ _
  ·rw[Zd.mp e];exact an _ _ _
 ·obtain⟨l1,l2⟩:=h.lb l hl;have:=b0j k.wL (k.P l.1) (k.P l.2);have:=(h.pg _ (h.P_mem l1)).2.2;have:=(h.pg _ (h.P_mem l2)).2.2;exact b7e qo λg hg=>by cases hg
theorem ok_law(T:Txt K mg t)(G_d1:FnOk P w K mg base CX0 2 t.a_d1 t.d_d1 ["_law_cell"] (b2x K))(G_d4:FnOk P w K mg base CX0 2 t.a_d4 t.d_d4 ["_law_cell","_law_words_here"] (b1a K))(G_a7:FnOk P w K mg base CX0 1 t.a_a7 t.d_a7 ["_law_script","_law_k"] (a4f K))(G_e4:FnOk P w K mg base CX0 2 t.a_e4 t.d_e4 ["_law_script","_law_many"] (b3c K))(G_a3:FnOk P w K mg base CX0 1 t.a_a3 t.d_a3 ["_law_cell","_law_k","_law_many"] (a6j))(G_d2:FnOk P w K mg base CX0 2 t.a_d2 t.d_d2 ["_law_script","_law_words_here","_law_places_here","_law_links_here","_law_shape"] (b3d K))(G_d6:FnOk P w K mg base CX0 82 t.a_d6 t.d_d6 ["_law_rules_here","_law_words_here","_law_places_here","_law_asked","_law_due_here"] (b4v K))(G_d5:FnOk P w K mg base CX0 2 t.a_d5 t.d_d5 ["_law_links_here","_law_words_here","_law_places_here","_law_asked"] (b6z K)):FnOk P w K mg base CX0 83 t.a_law t.d_law ["_law_script"] (b4w K):=by
 exists T.F_law.ok a6f,b4w,(a0e (a0q (i:=1) (hs:=a1h) a6f.nd rfl (by nofun) (a0k G_d1 hr.o rfl T.m_d1 T.F_d1.kp T.b_d1 .nil a0o (a0a (a0k G_a7 hr.o rfl T.m_a7 T.F_a7.kp T.b_a7 .nil a0o (a0a (mv 0) (a0a a0f a0b))) a0b))) (a0e (a0q (i:=2) (hs:=a1h) a6f.nd rfl (by nofun) (a0k G_d4 hr.o rfl T.m_d4 T.F_d4.kp T.b_d4 .nil a0o (a0a (a0k G_a7 hr.o rfl T.m_a7 T.F_a7.kp T.b_a7 .nil a0o (a0a (mv 0) (a0a a0f a0b))) (a0a (mv 1) a0b)))) (a0e (a0q (i:=3) (hs:=a1h) a6f.nd rfl (by nofun) (a0k G_a7 hr.o rfl T.m_a7 T.F_a7.kp T.b_a7 .nil a0o (a0a (mv 0) (a0a a0f a0b)))) (a0e (a0q (i:=4) (hs:=a1h) a6f.nd rfl (by nofun) (a0k G_e4 hr.o rfl T.m_e4 T.F_e4.kp T.b_e4 .nil a0o (a0a (mv 0) (a0a (a0k G_a3 hr.o rfl T.m_a3 T.F_a3.kp T.b_a3 .nil a0o (a0a (mv 3) (a0a a0f (a0a a0f a0b)))) a0b)))) (a0e (a1e (a0y a2a (a0k G_a3 hr.o rfl T.m_a3 T.F_a3.kp T.b_a3 .nil a0o (a0a (mv 3) (a0a a0f (a0a a0f a0b)))) a0f (a1b _)) (a0g (a0q (i:=4) (hs:=b3z) a6f.nd rfl (by nofun) (a1g (a2b K rfl) (a1g (a2b K rfl) (a7t (a9k K rfl) (mv 4) a9g (a9h a0f)) (d3c K rfl rfl (a1l K rfl (a7t (a9k K rfl) (mv 4) a9g (a9h a0f))) (d2x (a0i c1w) ["_law_script","_law_words_here","_law_places_here","_law_way","_law_links_here","_law_shape","_law_rules_here","_law_handed","_law_asked","_law_k"] ["_law_script","_law_words_here","_law_places_here","_law_way","_law_links_here","_law_shape","_law_rules_here","_law_handed","_law_asked","_law_k"] rfl rfl qk) (λ_ _ _ _ _=>(a0s (a0a (mv 1) (a0a (mv 0) a0b)))))) (a7t (a9k K rfl) (mv 4) (a9h a0f) a9g)))) a1a) (a0e (a0q (i:=5) (hs:=a1h) a6f.nd rfl (by nofun) (a0k G_a3 hr.o rfl T.m_a3 T.F_a3.kp T.b_a3 .nil a0o (a0a (mv 3) (a0a a0f (a0a a0f a0b))))) (a0e (a0q (i:=6) (hs:=a1h) a6f.nd rfl (by nofun) (a0k G_d2 hr.o rfl T.m_d2 T.F_d2.kp T.b_d2 .nil a0o (a0a (mv 0) (a0a (mv 1) (a0a (mv 2) (a0a (mv 4) (a0a (mv 5) a0b))))))) (a0e (a0q (i:=7) (hs:=a1h) a6f.nd rfl (by nofun) (a2i (b5i K rfl) rfl T.n_f9 Ub (a0a (mv 6) a0b))) (a0e (a0q (i:=8) (hs:=a1h) a6f.nd rfl (by nofun) (a0k G_a3 hr.o rfl T.m_a3 T.F_a3.kp T.b_a3 .nil a0o (a0a (a0k G_a7 hr.o rfl T.m_a7 T.F_a7.kp T.b_a7 .nil a0o (a0a (mv 0) (a0a a0f a0b))) (a0a a0f (a0a a0f a0b))))) (a0e (a1y Zz rfl (a1l K rfl (a1n (a0a (mv 8) (a0a (a1g a7h (a1g (a2b K rfl) (mv 8) a0f) a0f) (a0a (mv 8) a0b))))) (a1d (i:=9) a6f.nd rfl (by nofun)) (a0g (a1e (b7g (a3t K rfl (a0k G_d6 hr.o rfl T.m_d6 T.F_d6.kp T.b_d6 .nil a0o (a0a (mv 7) (a0a (mv 1) (a0a (mv 2) (a0a (mv 9) (a0a (a0k G_d5 hr.o rfl T.m_d5 T.F_d5.kp T.b_d5 .nil a0o (a0a (mv 4) (a0a (mv 1) (a0a (mv 2) (a0a (mv 9) a0b))))) a0b)))))))) (a0g (a0u a4d)) a1a))) (a0g (a0u (a2x (ko_eqX K rfl (a2z hr)) (mv 7) (mv 6) (a1b _)))))))))))))),H,Q,E,hr,h
 rename_i a;obtain⟨ns,hS,hns,q⟩:=h;ext;refine⟨ns,hS,qd,qd,λc0=>?_⟩;ext;refineλwp ws H1 s1 kw hwl hwn hwd=>?_
 have hok:WsOk ws:=⟨hwl,hwn,hwd⟩;ext;refine⟨ns,s1.seq hS,qd,qd,λc1=>?_⟩;ext;refine⟨ws,kw,hok,λpp ps H2 s2 hps hpl=>?_⟩;have t2:=s1.trans s2;ext;refine⟨ns,t2.seq hS,qd,qd,λway=>?_⟩;ext;refine⟨qd,qd,qd,λmany H3 mn0 mn1 s3=>?_⟩;have t3:=t2.trans s3;ext;refine⟨ns,t3.seq hS,mn0,mn1,λlp0 ls0 H4 s4 hl0 hb0 hn0=>?_⟩;have t4:=t3.trans s4;have kw4:=(s2.trans (s3.trans s4)) _ _ kw;have ps4:=hps.same (s3.trans s4)
 (with_reducible refine b9g ?_)
 (with_reducible refine b6i (λσ' J=>∃lp ls,σ'=[some (.ref a),some (.ref wp),some (.ref pp),some (.int way),some (.ref lp),none,none,none,none,none]/\Same H4 J/\LkAt K J lp ls/\lsB ls/\ls.length<=6) (λσ' J hP=>?_) (λkk=>?_))
 rotate_left
 ·ext;refine⟨qd,qd,qd,λv1 H5 v10 v11 s5=>?_⟩;ext
  exists e
  ·ext;obtain⟨ul,hu1,hu2⟩:=hl0.same s5;have hull:=hu2.length;rw[length_map]at hull;refine b7s (SqL.of hu1) λa1' ha1=>?_
   generalize e9:upd H5 a1' _=G1;obtain⟨sa1,ka1⟩:=nwq ha1 e9;clear e9;refine d2y ?_;ext;refine b7s (SqL.of (sa1 _ _ hu1)) λa2' ha2=>?_
   generalize e9:upd G1 a2' _=G2;obtain⟨sa2,ka2⟩:=nwq ha2 e9;clear e9;have dl1:=c2t (a:=a1') (lo:=none) (hi:=some 2) (hu2.mono (sa1.trans sa2));rw[<-Ue,<-Tq]at dl1;generalize hla:(ls0.drop (HT.sIx (ls0.map rsE).length 0 none)).take (HT.sIx (ls0.map rsE).length (ls0.map rsE).length (some 2)-HT.sIx (ls0.map rsE).length 0 none)=la at dl1;have hla2:la.length<=2/\∀l∈la,l∈ls0:=by
    rw[<-hla];refine⟨?_,λl hl=>Ss (Wi hl)⟩;rw[Ys];have:HT.sIx (ls0.map rsE).length (ls0.map rsE).length (some 2)=min 2 (ls0.map rsE).length:=HT.sIx_nat _ _ 2;omega
   generalize cutV ul none (some 2)=ua at dl1 ka1 ka2;have hual:=dl1.length;rw[length_map]at hual;refine⟨a2',rfl,⟨_,SqL.of ka2⟩,λD hD=>?_⟩;refine d0d (a1i (xs:=ua)) (λj ys J=>Same G2 J/\J D=some (.lst ys)/\DenL K J ys (((la.take j).map λl=>(l.2,l.1)).map rsE)) (ln qo) ⟨a0l hD _,a0c,.nil⟩ (λj ys J hP=>SqL.of (hP.1 _ _ ka2)) (λj ys J Q' hj hl' hP kq=>?_) (λys J hl' hP=>?_)
   ·obtain⟨g1,g2,g3⟩:=hP;have hjl:j<la.length:=by omega
    obtain⟨d,d1,d2⟩:=dl1.get (Za hj);rw[Zv,Za hjl]at d1;have d1:rsE la[j]=d:=Zl d1;subst d1;have htk:=a2k hjl;rw[getD_at hj];generalize ua[j]=uv at d2;generalize la[j]=l at d2 htk;obtain⟨pq,rfl,hpq⟩:=c4q (d2.mono g1);refine⟨pq,_,_,rfl,hpq,?_⟩;ext;refine⟨ln (by show 2<=100000;decide),λpt hpt=>?_⟩;generalize e9:upd J pt _=J1;obtain⟨spt,kpt⟩:=nwq hpt e9;clear e9;have g2':=spt _ _ g2;refine kq _ _ g2' ⟨a0x (g1.trans spt) hD,a0c,?_⟩;rw[htk,Zi,Zi];exact((g3.mono spt).append (.cons (.tup (SqT.of kpt) (.cons (.int _) (.cons (.int _) .nil))) .nil)).lst g2'
   obtain⟨g1,g2,g3⟩:=hP;rw[hual,Yr]at g3;have sG:=sa2.trans g1;refine b1g (sG _ _ ka1) g2 (ln qo) λa3 ha3=>?_
   generalize e9:upd J a3 _=J3;obtain⟨sa3,ka3⟩:=nwq ha3 e9;clear e9;ext;have s53:=sa1.trans (sG.trans sa3);refine b7s (SqL.of (s53 _ _ hu1)) λa4 ha4=>?_
   generalize e9:upd J3 a4 _=J4;obtain⟨sa4,ka4⟩:=nwq ha4 e9;clear e9;have dl2:=c2t (a:=a4) (lo:=some 4) (hi:=none) (hu2.mono (s53.trans sa4));rw[<-Ue,<-Tq]at dl2;generalize hlc:(ls0.drop (HT.sIx (ls0.map rsE).length 0 (some 4))).take (HT.sIx (ls0.map rsE).length (ls0.map rsE).length none-HT.sIx (ls0.map rsE).length 0 (some 4))=lc at dl2;have hlc2:lc.length<=2/\∀l∈lc,l∈ls0:=by
    rw[<-hlc];refine⟨?_,λl hl=>Ss (Wi hl)⟩;rw[Ys,W6];have h1:HT.sIx (ls0.map rsE).length 0 (some 4)=min 4 (ls0.map rsE).length:=HT.sIx_nat _ _ 4;rw[h1,length_map];omega
   generalize cutV ul (some 4) none=uc at dl2 ka4;have hucl:=dl2.length;rw[length_map]at hucl;refine b1g (sa4 _ _ ka3) ka4 (ln (by rw[Zk];omega)) λa5 ha5=>?_
   generalize e9:upd J4 a5 _=J5;obtain⟨sa5,ka5⟩:=nwq ha5 e9;clear e9;ext;have d5:DenL K J5 ((ua++ys)++uc) (((la++la.map λl=>(l.2,l.1))++lc).map rsE):=by
    rw[Zi,Zi];exact((dl1.mono (g1.trans (sa3.trans (sa4.trans sa5)))).append (g3.mono (sa3.trans (sa4.trans sa5)))).append (dl2.mono sa5)
   refine kk _ _ ⟨a5,(la++la.map λl=>(l.2,l.1))++lc,rfl,s5.trans (s53.trans (sa4.trans sa5)),⟨_,ka5,d5⟩,λl hl=>?_,?_⟩
   ·rcases Zr.mp hl with z|z
    ·rcases Zr.mp z with y|y
     ·exact hb0 l (hla2.2 l y)
     ·obtain⟨l',h1,h2⟩:=Z1.mp y;rw[<-h2];exact⟨(hb0 l' (hla2.2 l' h1)).2,(hb0 l' (hla2.2 l' h1)).1⟩
    ·exact hb0 l (hlc2.2 l z)
   ·rw[Zk,Zk,length_map];have:=hla2.1;have:=hlc2.1;omega
  ·(with_reducible refine a9j ?_)
   exact kk _ _ ⟨lp0,ls0,rfl,s5,hl0.same s5,hb0,qo⟩
 obtain⟨lp,ls,rfl,s5,hlk,hb,hl6⟩:=hP;have t5:=t4.trans s5;have kw5:=s5 _ _ kw4;have ps5:=ps4.same s5;ext;refine⟨qd,qd,qd,λsh H6 sh0 sh1 s6=>?_⟩;ext;refine⟨ns,ws,ps,ls,(t5.trans s6).seq hS,s6 _ _ kw5,hok,ps5.same s6,hpl,hlk.same s6,hb,hl6,λrp us rs x y z H7 s7 hrp hrd R=>?_⟩;have s67:=s6.trans s7;ext;refine c9i (SqL.of hrp) λhp hhp=>?_
 generalize e9:upd H7 hp _=H8;obtain⟨shp,khp⟩:=nwq hhp e9;clear e9;have s68:=s67.trans shp;ext;refine⟨ns,(t5.trans s68).seq hS,qd,qd,λc3=>?_⟩;ext;refine⟨qd,qd,qd,λak H9 ak0 ak1 s9=>?_⟩;ext;refine⟨ln qz,λpA hpA=>?_⟩;generalize e9:upd H9 pA _=HA;obtain⟨spA,kpA⟩:=nwq hpA e9;clear e9;have s6A:=s68.trans (s9.trans spA);have s7A:=shp.trans (s9.trans spA);have tA:=t5.trans s6A;have kwA:=s6A _ _ kw5;have psA:=ps5.same s6A;have hlA:=hlk.same s6A;have mod5:0<=(ak+1)%5/\(ak+1)%5<5:=⟨Vf _ qd,Uj _ qd⟩;refine⟨pA,rfl,⟨_,SqL.of kpA⟩,?_⟩;refine a1s (a1i (xs:=[V.int ak,.int ((ak+1)%5),.int ak])) (λm σ' J=>∃(o9:Option V),σ'=[some (.ref a),some (.ref wp),some (.ref pp),some (.int way),some (.ref lp),some (.int sh),some (.ref rp),some (.ref hp),some (.int ak),o9]/\Same HA J) ⟨none,rfl,.refl _⟩ (λm σ' J hP=>by obtain⟨_,_,s⟩:=hP;exact SqL.of (s _ _ kpA)) (λm σ' J hm hP=>?_) (λσ' J hP=>?_)
 ·obtain⟨o9,rfl,sJ⟩:=hP;obtain⟨v,hv,hv0,hv1⟩:∃v:Int,([V.int ak,.int ((ak+1)%5),.int ak]:List V).getD m .non=.int v/\0<=v/\v<5:=by
   have hm:m<3:=hm;rcases(by omega:m=0\/m=1\/m=2)with rfl|rfl|rfl
   ·exact⟨ak,rfl,ak0,ak1⟩
   ·exact⟨(ak+1)%5,rfl,mod5.1,mod5.2⟩
   ·exact⟨ak,rfl,ak0,ak1⟩
  rw[hv];ext;refine⟨ws,ps,ls,sJ _ _ kwA,hok,psA.same sJ,hpl,hlA.same sJ,hb,hl6,hv0,hv1,λdp due HB sB hdp hdue=>?_⟩;ext;have sAB:=sJ.trans sB;refine⟨ws,ps,ls,sh,us,rs,x,y,z,due,sAB _ _ kwA,hok,psA.same sAB,hpl,hb,hl6,((s9.trans spA).trans sAB) _ _ khp,hrd.mono (s7A.trans sAB),R,hv0,hv1,hdp,hdue,λHC sC=>?_⟩;ext;refine iteF ?_;ext;exact⟨_,rfl,sAB.trans sC⟩
 obtain⟨o9,rfl,sJ⟩:=hP;ext;have s7J:=s7A.trans sJ;have dx:=DmL.dx (DenL.dm (M:=[]) (hrd.mono s7J));refine⟨hp,rp,us,us,rs.map ruE,rfl,rfl,.inr ⟨SqL.of (((s9.trans spA).trans sJ) _ _ khp),SqL.of (s7J _ _ hrp)⟩,dx,dx,?_,?_⟩
 ·exact d4e (kd_ok hok hpl hb hl6) R
 ·exact q J
end
section
variable{P:Program}{w:World}{K:W.Frag}{mg:Str->Option Value}{base:Heap}{t:Ad}
def lt(i:Int):Nat:=97+i.toNat
theorem c1g:a5h.cps.toList=(List.range 26).map (97+ ·):=by decide+kernel
theorem lt_at{i:Int}(h0:0<=i)(h1:i<26):atI a5h.cps.toList i=some (lt i):=by
 obtain⟨v,e1,e2⟩:=a7i (xs:=a5h.cps.toList) (i:=i) h0 (by rw[c1g];simp;omega);rw[e1];rw[c1g,Zv,S3 qo]at e2;exact e2.symm
theorem d1q:∀n<26,inner (one (97+n))=true/\inS (one (97+n)) a5h=true:=by decide+kernel
def zs(bs:List Int)(at_:Int)(k:Int)(j:Nat):List Nat:=(List.range j).map λm=>lt ((bs.getD m 0+k*(if(m:Int)=at_ then 1 else 0))%26)
theorem b2a(bs:List Int)(at_ k:Int)(j:Nat):(zs bs at_ k j).length=j:=by simp[zs]
theorem zs_succ(bs:List Int)(at_ k:Int)(j:Nat):zs bs at_ k (j+1)=zs bs at_ k j++[lt ((bs.getD j 0+k*(if(j:Int)=at_ then 1 else 0))%26)]:=by
 unfold zs;rw[U9,Zi];rfl
theorem zs_low{bs:List Int}{at_ k:Int}{j:Nat}:∀c∈zs bs at_ k j,∃n,n<26/\c=97+n:=λc hc=>by
 obtain⟨m,_,e⟩:=Z1.mp hc;refine⟨((bs.getD m 0+k*(if(m:Int)=at_ then 1 else 0))%26).toNat,?_,e.symm⟩;omega
theorem zs_inj{bs:List Int}{at_:Int}{i k:Int}{j:Nat}(h0:0<=at_)(h1:at_<j)(hi:0<=i/\i<5)(hk:0<=k/\k<5)(e:zs bs at_ i j=zs bs at_ k j):i=k:=by
 have h2:at_.toNat<j:=by omega
 have h3:((at_.toNat:Nat):Int)=at_:=by omega
 have e1:(zs bs at_ i j)[at_.toNat]? =(zs bs at_ k j)[at_.toNat]?:=by rw[e]
 unfold zs at e1;rw[Zv,Zv,S3 h2,Option.map_some,Option.map_some,h3,if_pos rfl]at e1;have e2:=Zl e1;unfold lt at e2;omega
abbrev bad3:List Str:=[b2t,notS,ofString "infix"]
def sOf(z:List Nat):Str:=⟨z.toArray⟩
theorem sOf_inj{y z:List Nat}(h:sOf y=sOf z):y=z:=by
 unfold sOf at h;have:=Yv Str.cps h
 simpa using this
theorem c4x(z:List Nat)(c:Nat):sOf z++(⟨#[c]⟩:Str)=sOf (z++[c]):=by
 show(⟨z.toArray++ #[c]⟩:Str)=⟨(z++[c]).toArray⟩
 simp
theorem b5x(z:List Nat):(sOf z).length=z.length:=by simp[sOf,Str.length]
def fz(z:List Nat):List Nat:=if sOf z∈bad3 then z++[51]else z
theorem fz_eq(z:List Nat):sOf (fz z)=if sOf z∈bad3 then sOf z++ofString "3" else sOf z:=by
 unfold fz
 split
 ·exact(c4x z 51).symm
 ·rfl
theorem fz_inj{y z:List Nat}(hl:y.length=z.length)(h:sOf (fz y)=sOf (fz z)):y=z:=by
 have h:=sOf_inj h;unfold fz at h
 by_cases a:sOf y∈bad3<;>by_cases b:sOf z∈bad3
 ·rw[if_pos a,if_pos b]at h;exact List.append_cancel_right h
 ·rw[if_pos a,if_neg b]at h;have:=Yv List.length h
  simp at this
  omega
 ·rw[if_neg a,if_pos b]at h;have:=Yv List.length h
  simp at this
  omega
 ·rw[if_neg a,if_neg b]at h;exact h
theorem wd_of{z:List Nat}(h1:1<=z.length)(h2:z.length<=8)(hz:∀c∈z,∃n,n<26/\c=97+n):Wd (sOf (fz z)):=by
 have key:∀y:List Nat,1<=y.length->y.length<=9->(∀c∈y,inner (one c)=true)->(∃n,n<26/\y.head? =some (97+n))->called (sOf y) a5h=true:=by
  intro y a b c ⟨n,hn,hd⟩;cases y with
  |nil=>simp at a
  |cons x r=>
   have hx:x=97+n:=by simpa using hd
   unfold called;rw[b5x,show fst (sOf (x::r))=one x from rfl,show one x=one (97+n) by rw[hx],(d1q n hn).2,Zw (show(1:Int)<=((x::r).length:Int) by omega),Zw (show((x::r).length:Int)<=12 by omega)]
   show(true&&(true&&(sOf (x::r)).cps.toList.all λc=>inner (one c)))=true
   rw[Vy,Vy,Xn];intro w hw;exact c w hw
 have inl:∀c∈z,inner (one c)=true:=λc hc=>by
  obtain⟨n,hn,rfl⟩:=hz c hc;exact(d1q n hn).1
 have hhd:∃n,n<26/\z.head? =some (97+n):=by
  cases z with
  |nil=>simp at h1
  |cons x r=>
   obtain⟨n,hn,e⟩:=hz x (Ze ..);exact⟨n,hn,by rw[e];rfl⟩
 have cl:called (sOf (fz z)) a5h=true:=by
  unfold fz
  split
  ·refine key _ qz (by simp;omega) (λc hc=>?_) ?_
   ·rcases Zr.mp hc with e|e
    ·exact inl c e
    ·rw[Zd]at e;rw[e]
     decide+kernel
   ·obtain⟨n,hn,e⟩:=hhd;refine⟨n,hn,?_⟩;cases z with
    |nil=>simp at h1
    |cons x r=>exact e
  ·exact key _ h1 qo inl hhd
 have ne:∀w∈[b2t,notS],sOf (fz z)≠w:=by
  intro w hw e;rw[fz_eq]at e
  by_cases a:sOf z∈bad3
  ·rw[if_pos a]at e;have:∀x∈bad3,∀w∈[b2t,notS],x++ofString "3"≠w:=by decide+kernel
   exact this _ a w hw e
  ·rw[if_neg a]at e;rw[e]at a;simp only[Zg,Yk,Xv]at hw;rcases hw with rfl|rfl
   ·exact a qz
   ·exact a qz
 refine⟨cl,ne _ qz,ne _ qz,λe=>?_,?_⟩
 ·rw[e]at cl;exact absurd cl qk
 ·rw[b5x];unfold fz
  split
  ·simp;omega
  ·omega
theorem c7y(T:Txt K mg t)(G_a3:FnOk P w K mg base CX0 1 t.a_a3 t.d_a3 ["_law_cell","_law_k","_law_many"] (a6j)):FnOk P w K mg base CX0 2 t.a_d1 t.d_d1 ["_law_cell"] (b2x K):=by
 exists T.F_d1.ok a2t,b2x,(a0e (a0q (i:=1) a2t.nd rfl (by nofun) a0t) (a0e (c5x (i:=2) a2t.nd rfl (by nofun) rfl (a5v rfl T.n_g0 (a0a (a1g (a2b K rfl) a0f (a0k G_a3 hr.o rfl T.m_a3 T.F_a3.kp T.b_a3 .nil a0o (a0a (mv 0) (a0a a0f (a0a a0f a0b))))) a0b)) (a3p (a0i b0o) ["_law_cell","_law_letters","_law_base","_law_at","_law_words_here","_law_k","_law_word","_law_j"] ["_law_cell","_law_letters","_law_base","_law_at","_law_words_here","%_law_k","_law_word","_law_j"] rfl rfl qk) (λ_ _ _ _ _=>a3o) (λ_ _ _ _ _=>(a0k G_a3 hr.o rfl T.m_a3 T.F_a3.kp T.b_a3 .nil a0o (a0a (mv 1) (a0a (mv 0) (a0a a0f a0b)))))) (a0e (a0q (i:=3) (hs:=a1h) a2t.nd rfl (by nofun) (a0k G_a3 hr.o rfl T.m_a3 T.F_a3.kp T.b_a3 .nil a0o (a0a (mv 0) (a0a a0f (a0a (a1p (a3u K rfl) rfl T.n_f8 Yt (a0a (mv 2) a0b)) a0b))))) (a0e (a0q (i:=4) (hs:=a5y) a2t.nd rfl (by nofun) (a1n a0b)) (a0e (a1y Zz rfl (a5v rfl T.n_g0 (a0a a0f a0b)) (a1d (i:=5) a2t.nd rfl (by nofun)) (a0e (a0q (i:=6) a2t.nd rfl (by nofun) a0t) (a0e (a1y Zz rfl (a5v rfl T.n_g0 (a0a (a1p (a3u K rfl) rfl T.n_f8 Yt (a0a (mv 2) a0b)) a0b)) (a1d (i:=7) a2t.nd rfl (by nofun)) (a0g (a0q (i:=6) (hs:=b3z) a2t.nd rfl (by nofun) (a1g (a2b K rfl) (mv 6) (a0j (a0h K rfl) (mv 1) (a1g a7h (a1g (a2b K rfl) (a0j (a0h K rfl) (mv 2) (mv 7) (λ_ _=>rfl)) (a1g c2l (mv 5) (a2i b7v rfl T.n_g1 Tf (a0a (a2x a2a (mv 7) (mv 3) (a1b _)) a0b)))) a0f) (λ_ _=>rfl)))))) (a0e (a1e (a0y (c2u K rfl) (mv 6) (a0s (a0a a0t (a0a a0t (a0a a0t a0b)))) (by with_unfolding_all rfl)) (a0g (a0q (i:=6) (hs:=b3z) a2t.nd rfl (by nofun) (a1g (a2b K rfl) (mv 6) a0t))) a1a) (a0g (a1f (a2y K rfl Z7 Yl Yo a2d (mv 4) (a0a (mv 6) a0b)))))))) (a0g (a0u (mv 4)))))))),H,Q,E,hr,h
 rename_i c;ext;refine⟨qd,qd,qd,λn H1 n0 n1 s1=>?_⟩;ext;refine⟨1+n,rfl,qo,qo,?_⟩;intro D hD;refine a2q (a5w 0 (1+n).toNat) (λi ys Hi=>Same H1 Hi/\(∃bs:List Int,ys=bs.map V.int)/\Hi D=some (.lst ys)) (ln qo) ⟨a0l hD _,⟨[],rfl⟩,a0c⟩ (λ_ _ _ _=>trivial) (λi ys Hi Q' hi hl hP kk=>?_) (λys Hi hl hP=>?_)
 ·obtain⟨si,⟨bs,rfl⟩,kD⟩:=hP;ext;refine⟨qo,qo,qd,λv H2 v0 v1 s2=>?_⟩;refine kk _ _ (s2 _ _ kD) ⟨c3u (si.trans s2) hD,⟨bs++[v],qz⟩,a0c⟩
 obtain⟨si,⟨bs,rfl⟩,kD⟩:=hP;have hbs:bs.length=(1+n).toNat:=by simpa using hl
 ext
 exists a5x (SqL.of kD)
 rw[length_map];refine⟨qd,qd,qo,λat_ H3 a0 a1 s3=>?_⟩;ext;refine⟨ln (by show 0<=100000;decide),λpw hpw=>?_⟩;have s4:=a0l hpw (.lst []);have k4:(upd H3 pw (.lst [])) pw=some (.lst []):=a0c;generalize upd H3 pw (.lst [])=H4 at s4 k4 ⊢;ext;refine⟨5,rfl,qd,qd,?_⟩;have sD:Same H1 H4:=si.trans (s3.trans s4);have kD4:H4 D=some (.lst (bs.map V.int)):=s4 _ _ (s3 _ _ kD);refine a1s (a5w 0 (5:Int).toNat) (λk σ' Hk=>∃(o5 o6 o7:Option V),σ'=[some (.int c),some (.str a5h),some (.ref D),some (.int at_),some (.ref pw),o5,o6,o7]/\Same H3 Hk/\Hk pw=some (.lst (((List.range k).map λi:Nat=>sOf (fz (zs bs at_ (i:Int) bs.length))).map V.str)))
  ⟨none,none,none,rfl,s4,k4⟩ (λ_ _ _ _=>trivial) (λk σ' Hk hk hP=>?_) (λσ' Hk hP=>?_)
 ·obtain⟨o5,o6,o7,rfl,sk,kk⟩:=hP;have hk:k<5:=hk;ext
  exists a5x (SqL.of (sk _ _ (s3 _ _ kD)))
  rw[length_map];refine⟨(bs.length:Int),rfl,qo,qo,?_⟩;refine a1s (a5w 0 (bs.length:Int).toNat) (λj σ' Hj=>∃(o7:Option V),σ'=[some (.int c),some (.str a5h),some (.ref D),some (.int at_),some (.ref pw),some (.int (0+(k:Int))),some (.str (sOf (zs bs at_ (0+(k:Int)) j))),o7]/\Hj=Hk)
   ⟨o7,rfl,rfl⟩ (λ_ _ _ _=>trivial) (λj σ' Hj hj hP=>?_) (λσ' Hj hP=>?_)
  ·obtain⟨o7,rfl,rfl⟩:=hP;have hj:j<bs.length:=by simpa using hj
   ext;have hb:atI (bs.map V.int) (0+(j:Int))=some (.int (bs.getD j 0)):=by
    obtain⟨v,e1,e2⟩:=a7i (xs:=bs.map V.int) (i:=0+(j:Int)) qo (by rw[length_map];omega);rw[e1];rw[show(0+(j:Int)).toNat=j by omega,Zv,Za hj]at e2;rw[Yd,Za hj];exact e2.symm
   exists a1j (SqL.of (sk _ _ (s3 _ _ kD))) hb
   exists c2q (b7r qo)
   exists mIx_s (ln qk) (lt_at (Vf _ qd) (Uj _ qd))
   exists c2p (ln (by rw[b5x,b2a];show j+1<=100000;omega))
   refine⟨some (.int (0+(j:Int))),?_,rfl⟩;rw[c4x,zs_succ];simp only[Ux,Zp,Ur];rfl
  ·obtain⟨o7,rfl,rfl⟩:=hP;have e0:(bs.length:Int).toNat=bs.length:=rfl;rw[e0];have ez:(0+(k:Int))=(k:Int):=by omega
   rw[ez];ext;refine⟨ln (by show 3<=100000;decide),λp5 hp5=>?_⟩;have s5:=a0l hp5 (.tup [.str "keep",.str "not",.str "infix"]);have k5:(upd Hj p5 (.tup [.str "keep",.str "not",.str "infix"])) p5=some (.tup (bad3.map V.str)):=a0c;generalize upd Hj p5 (.tup [.str "keep",.str "not",.str "infix"])=H5 at s5 k5 ⊢;ext;refine in_strs bad3 (.inr (SqT.of k5)) ?_;have fin:∀w:Str,w=sOf (fz (zs bs at_ (k:Int) bs.length))->(Same H3 (upd H5 pw (.lst (((List.range k).map λi:Nat=>sOf (fz (zs bs at_ (i:Int) bs.length))).map V.str++[.str w])))/\(upd H5 pw (.lst (((List.range k).map λi:Nat=>sOf (fz (zs bs at_ (i:Int) bs.length))).map V.str++[.str w]))) pw=some (.lst (((List.range (k+1)).map λi:Nat=>sOf (fz (zs bs at_ (i:Int) bs.length))).map V.str))):=λw e=>by
    refine⟨c3u (sk.trans s5) hpw,?_⟩;rw[a0c,U9,e]
    simp
   ext
   exists e
   ·have e:sOf (zs bs at_ (k:Int) bs.length)∈bad3:=Z5 e;ext
    exists c2p (ln (by rw[b5x,b2a];show bs.length+1<=100000;omega))
    refine⟨.inl ⟨rfl,_,SqL.of (s5 _ _ kk)⟩,?_⟩;ext
    exists a1w (s5 _ _ kk) (ln (by simp;omega))
    obtain⟨f1,f2⟩:=fin (sOf (zs bs at_ (k:Int) bs.length)++ofString "3") (by rw[fz_eq,if_pos e]);exact⟨_,_,_,rfl,f1,f2⟩
   ·have e:¬sOf (zs bs at_ (k:Int) bs.length)∈bad3:=Xc e;ext;refine⟨.inl ⟨rfl,_,SqL.of (s5 _ _ kk)⟩,?_⟩;ext
    exists a1w (s5 _ _ kk) (ln (by simp;omega))
    obtain⟨f1,f2⟩:=fin (sOf (zs bs at_ (k:Int) bs.length)) (by rw[fz_eq,if_neg e]);exact⟨_,_,_,rfl,f1,f2⟩
 ·obtain⟨o5,o6,o7,rfl,sk,kk⟩:=hP;ext;have kk:Hk pw=some (.lst (((List.range 5).map λi:Nat=>sOf (fz (zs bs at_ (i:Int) bs.length))).map V.str)):=kk;refine h pw _ _ (s1.trans (si.trans (s3.trans sk))) kk qz ?_ λw hw=>?_
  ·rw[Vp,List.pairwise_map];refine(Vp.mp List.nodup_range).imp_of_mem ?_;intro i j hi hj hne e;rw[Y2]at hi hj;refine hne ?_;have:=zs_inj (bs:=bs) (j:=bs.length) a0 qo (i:=(i:Int)) (k:=(j:Int)) qo qo (fz_inj (by rw[b2a,b2a]) e);omega
  ·obtain⟨i,_,e⟩:=Z1.mp hw;rw[<-e];exact wd_of (by rw[b2a];omega) (by rw[b2a];omega) zs_low
end
section
variable{P:Program}{w:World}{K:W.Frag}{mg:Str->Option Value}{base:Heap}{t:Ad}
theorem c7z(T:Txt K mg t)(G_b3:FnOk P w K mg base CX0 73 t.a_b3 t.d_b3 ["terms"] (a6g K))(G_a6:FnOk P w K mg base CX0 1 t.a_a6 t.d_a6 ["goal"] (a5d K)):FnOk P w K mg base CX0 74 t.a_d8 t.d_d8 ["rules"] (b2w K):=by
 exists T.F_d8.ok a7n,b2w,(a0e (a0q (i:=1) a7n.nd rfl (by nofun) c2i) (a0e (a1y Zz rfl (c2v K rfl rfl T.n_h5 (a0a (mv 0) a0b)) (b5j K rfl rfl (a2p (a1d (i:=2) a7n.nd rfl (by nofun)) (a2p (a1d (i:=3) a7n.nd rfl (by nofun)) a9f))) (a0e (a0q (i:=4) (hs:=a1h) a7n.nd rfl (by nofun) (a0k G_b3 hr.o rfl T.m_b3 T.F_b3.kp T.b_b3 .nil a0o (a0a (a1g (a2b K rfl) (a1n (a0a (a0j (a0h K rfl) (mv 3) a0f (λ_ _=>rfl)) a0b)) (a2i (b5i K rfl) rfl T.n_f9 Ub (a0a (a0j (a0h K rfl) (mv 3) a0f (λ_ _=>rfl)) a0b))) a0b))) (a0g (a1f (a2y K rfl Z7 Yl Yo a2d (a2y K rfl F.plainAttrs_dict Sd F.type_dict_setdefault (d2z (a2z hr)) (mv 1) (a0a (a0k G_a6 hr.o rfl T.m_a6 T.F_a6.kp T.b_a6 .nil a0o (a0a (a0j (a0h K rfl) (mv 4) a0f (λ_ _=>rfl)) a0b)) (a0a (a1n a0b) a0b))) (a0a (a0s (a0a (a1g (a2b K rfl) (mv 2) a0f) (a0a (a0j (a0h K rfl) (mv 4) a0f (λ_ _=>rfl)) (a0a (a7t (a9k K rfl) (mv 4) (a9h a0f) a9g) a0b)))) a0b)))))) (a0g (a0u (mv 1))))),H,Q,E,hr,h
 rename_i a;obtain⟨us,rs,hS,hd,hok,hl,q⟩:=h;have hul:=hd.length;rw[length_map]at hul;ext;intro p hp;have s1:Same H (upd H p (.dT [])):=a0l hp _;have k1:(upd H p (.dT [])) p=some (.dT []):=a0c;generalize upd H p (.dT [])=H1 at s1 k1 ⊢;ext;refine⟨a,us,rfl,s1.seq hS,?_⟩;refine c0s (λi σ' J=>∃(o1 o2 o3:Option V)(M:List Addr)(kvs:List (List Key×V)),σ'=[some (.ref a),some (.ref p),o1,o2,o3]/\TabM K H J p M kvs (tabF (rs.take i) 0 [])/\kvs.length<=i) ⟨none,none,none,[],[],rfl,⟨s1,k1,hp,λm hm=>by simp at hm,.nil,qz,λm hm=>by simp at hm⟩,Zm _⟩ (λi σ' J hP=>by obtain⟨_,_,_,_,_,_,tm,_⟩:=hP;exact tm.sm.seq hS) (λi σ' J T' hi hP hT=>?_) (λσ' J hP=>?_)
 ·obtain⟨o1,o2,o3,M,kvs,rfl,tm,hkl⟩:=hP;have hki:i<rs.length:=by omega
  have hx:us[i]? =some us[i]:=Za hi
  obtain⟨d,e1,e2⟩:=hd.get hx;rw[Zv,Za hki]at e1;have e1:ruE rs[i]=d:=Zl e1;subst e1;have hg:us.getD i .non=us[i]:=by rw[Yd,hx];rfl
  rw[hg];have rok:=hok _ (Z6 hki);refine b7w (SqT.of a0c) rfl ?_;have sT:=a0l hT (.tup [.int i,us[i]]);have tm1:=tm.same sT;generalize upd J T' (.tup [.int i,us[i]])=J1 at sT tm1 ⊢;have e2:=e2.mono tm1.sm;obtain⟨w1,ks,ehd⟩:=rok.ap;generalize hx0:rs[i]=x0 at e2 rok ehd;generalize us[i]=u0 at e2 ⊢;obtain⟨ta,hv,gp,ug,rfl,hts,hhd,hgp,hgd⟩:∃ta hv gp ug,u0=.ref ta/\SqT K J1 ta [hv,.ref gp]/\Den K J1 hv x0.1.data/\SqT K J1 gp ug/\DenL K J1 ug (Trm.dataL x0.2):=by
   cases e2 with
   |tup c d=>
    cases d with
    |cons e f=>
     cases f with
     |cons g h=>
      cases h;cases g with
      |tup i j=>exact⟨_,_,_,_,rfl,c,e,i,j⟩
  have hgl:=a5l hgd;have hg10:=rok.l;ext
  exists a0m hts (v:=hv) rfl
  refine⟨ln (by show 1<=100000;decide),λp2 hp2=>?_⟩;have sp2:Same J1 (upd J1 p2 (.lst [hv])):=a0l hp2 _;have kp2:(upd J1 p2 (.lst [hv])) p2=some (.lst [hv]):=a0c;generalize upd J1 p2 (.lst [hv])=J2 at sp2 kp2 ⊢;ext
  exists a0m (sp2.tup hts) (v:=.ref gp) rfl
  refine⟨gp,ug,rfl,.inr (sp2.tup hgp),λp3 hp3=>?_⟩;have s3:=a0l hp3 (.lst ug);have k3:(upd J2 p3 (.lst ug)) p3=some (.lst ug):=a0c;generalize upd J2 p3 (.lst ug)=J3 at s3 k3 ⊢;ext;refine b1g (s3 _ _ kp2) k3 (ln (by show 1+ug.length<=_;omega)) λp4 hp4=>?_
  have s4:=a0l hp4 (.lst ([hv]++ug));have k4:(upd J3 p4 (.lst ([hv]++ug))) p4=some (.lst (hv::ug)):=a0c;generalize upd J3 p4 (.lst ([hv]++ug))=J4 at s4 k4 ⊢;have s14:=sp2.trans (s3.trans s4);ext;have hz1:=rok.z1;have hz2:=d3u rok.z2;have hz3:x0.2.length*60<=10*60:=Sn _ hg10;refine⟨hv::ug,x0.1::x0.2,SqL.of k4,.cons (hhd.mono s14) (hgd.mono s14),by rw[Trm.sizeL];omega,λt ht=>?_,λp5 us5 J5 s5 hp5 kp5 d5=>?_⟩
  ·rcases Zg.mp ht with z|z
   ·rw[z];omega
   ·have:=rok.z2 t z;omega
  rw[d0x]at d5;cases d5 with
  | @cons u5 us5 _ _ du5 dus5=>
  have tm5:=tm1.same (s14.trans s5);have tm4:=tm1.same s14;have n5:p5∉M:=tm4.notM hp5;have eR:ren (fAn x0) x0.1=.app w1 (renL (fAn x0) ks):=by rw[ehd,ren]
  have eK:keyT x0.1=nd w1 (renL (fAn x0) ks).length:=by rw[ehd,a8a,length_map];rfl
  ext;refine⟨.inr (.inr (.inl ⟨rfl,.inr ⟨_,tm5.top⟩⟩)),?_⟩;ext
  exists a1j (SqL.of kp5) (a6t _ _)
  refine⟨w1,renL (fAn x0) ks,by rw[<-eR];exact du5,λp6 J6 s6 hp6=>?_⟩;have tm6:=tm5.same s6;ext;refine⟨Z4 _,λp7 hp7=>?_⟩;ext;refine tm6.setd hp6 hp7 qo λJ8 m8 M8 kvs8 tab8 tm8 hv8 ha8 hl8 kt8 kl8=>?_
  obtain⟨us8,e8⟩:=tm8.at hv8;obtain⟨k58,n58⟩:=kl8 p5 _ n5 (s6 _ _ kp5);ext;refine⟨.inl ⟨rfl,_,SqL.of e8⟩,?_⟩;ext
  exists a1j (SqL.of k58) (a6t _ _)
  refine⟨p5,_,rfl,SqL.of k58,λp9 hp9=>?_⟩;rw[c3r _ 1 qd,show(u5::us5).drop (1:Int).toNat=us5 from rfl];have s9:Same J8 (upd J8 p9 (.lst us5)):=a0l hp9 _;have k9:(upd J8 p9 (.lst us5)) p9=some (.lst us5):=a0c;generalize upd J8 p9 (.lst us5)=J9 at s9 k9 ⊢;ext;refine⟨ln (by show 3<=100000;decide),λpA hpA=>?_⟩;have sA:Same J9 (upd J9 pA (.tup [.int ((i:Int)+1),u5,.ref p9])):=a0l hpA _;have kA:(upd J9 pA (.tup [.int ((i:Int)+1),u5,.ref p9])) pA=some (.tup [.int ((i+1:Nat):Int),u5,.ref p9]):=a0c;generalize upd J9 pA (.tup [.int ((i:Int)+1),u5,.ref p9])=JA at sA kA ⊢;have tmA:=tm8.same (s9.trans sA);have ktA:KT K J5 JA:=(KT.same s6).trans (kt8.trans (KT.same (s9.trans sA)));have dA:Dm K JA M8 (.ref pA) (mkRl (i+1) x0).data:=.tup (SqT.of kA) (.cons (.int _) (.cons ((b8n _).mpr (du5.monoT ktA)) (.cons (.lst (sA _ _ k9) (tm8.notM hp9) ((a9n _).mpr (dus5.monoT ktA))) .nil)));obtain⟨usA,eA,⟨bA,hbA,hlA⟩,tmB,prB⟩:=tmA.app hv8 dA;rw[ha8,<-eK]at hbA tmB;have hlen:=b6x (n:=i) (λb hb=>by have:=c3t (rs:=rs.take i) (n:=0) (tb:=[]) (λb hb=>by simp at hb) b hb;rw[Ys]at this;omega) bA hbA;ext;refine a1w eA (ln1 qo) ?_;refine⟨_,_,_,M8,kvs8,rfl,?_,qo⟩;rw[take_succ' hki,c1a,Ys,hx0,show 0+min i rs.length+1=i+1 by omega];exact tmB
 obtain⟨o1,o2,o3,M,kvs,rfl,tm,hkl⟩:=hP;rw[Y6 qo]at tm;ext;exact q p kvs J tm.sm hp tm.top (Paired.mapP tm.row λ_ _ ⟨e,m,us,e1,e2,e3,e4⟩=>⟨e,by rw[e1];exact .lst e3 qz e4.weak⟩)
end
section
variable{P:Program}{w:World}{K:W.Frag}{mg:Str->Option Value}{base:Heap}{t:Ad}
theorem ok_all(T:Txt K mg t):FnOk P w K mg base CX0 83 t.a_law t.d_law ["_law_script"] (b4w K):=by
 have h_c4:=c5m (P:=P) (w:=w) (base:=base) T;have h_f7:=b9b (P:=P) (w:=w) (base:=base) T;have h_c0:=b9c (P:=P) (w:=w) (base:=base) T;have h_f5:=c1o (P:=P) (w:=w) (base:=base) T;have h_c3:=c1n (P:=P) (w:=w) (base:=base) T;have h_b9:=b1t (P:=P) (w:=w) (base:=base) T;have h_c2:=c7r (P:=P) (w:=w) (base:=base) T;have h_a9:=ok_a9 (P:=P) (w:=w) (base:=base) T;have h_c9:=c5k (P:=P) (w:=w) (base:=base) T;have h_b7:=c0d (P:=P) (w:=w) (base:=base) T;have h_d3:=b7d (P:=P) (w:=w) (base:=base) T;have h_a6:=c7v (P:=P) (w:=w) (base:=base) T;have h_d9:=b7b (P:=P) (w:=w) (base:=base) T;have h_c7:=b9a (P:=P) (w:=w) (base:=base) T;have h_a8:=d1g (P:=P) (w:=w) (base:=base) T;have h_b4:=d1j (P:=P) (w:=w) (base:=base) T;have h_e2:=b7c (P:=P) (w:=w) (base:=base) T;have h_a7:=c4v (P:=P) (w:=w) (base:=base) T;have h_a3:=d1o (P:=P) (w:=w) (base:=base) T;have h_d0:=c4w (P:=P) (w:=w) (base:=base) T;have h_c6:=b4x T h_e2 h_c0;have h_d7:=c4t T h_c9;have h_e0:=c0e T h_a8;have h_d1:=c7y T h_a3;have h_d4:=c5o T h_a3;have h_e4:=c7x T h_a7 h_a3;have h_d2:=c7w T h_a3 h_a7;have h_d5:=d4d T h_d0;have h_e6:=b1u T h_c4;have h_e3:=c7u T h_d7;have h_e8:=b1v T h_a8 h_e6 h_c6 h_b4 h_c0;have h_b6:=c5l T h_e3;have h_e5:=b1w T h_c4 h_e8;have h_c8:=c0g T h_b6 h_a6;have h_e1:=c4u T h_c8 h_d9 h_c7 h_a6;have h_b8:=c5n T h_e5 h_f7;have h_b5:=d1i T h_a8 h_a9 40;have h_b1:=c0f T h_b5 h_e0;have h_b0:=c7t T h_c2 h_a9 70;have h_b3:=c4s T h_b7 h_b0;have h_b2:=d1k T h_b7 h_b0;have h_c1:=b3g T h_b3 h_f5 h_a6;have h_e7:=b1y T h_b3 h_b1;have h_d8:=c7z T h_b3 h_a6;have h_f6:=b9d T h_e1 h_d8;have h_f4:=b1x T h_c1 h_b9 h_b8 h_b2 h_c3;have h_f1:=b3h T h_b6 h_f4;have h_f3:=b1z T h_c3 h_e7 h_b1 h_b2 h_f1;have h_f2:=b4y T h_a6 h_b8 h_b2 h_b9 h_f3;have h_e9:=b1b T h_f2;have h_f0:=b3l T h_c1 h_b1 h_e9;have h_c5:=ok_c5 T h_d3 h_f6 h_f0;have h_d6:=d1p T h_c5;exact ok_law T h_d1 h_d4 h_a7 h_e4 h_a3 h_d2 h_d6 h_d5
end
theorem walk{l:W.OpenLaw}{q:Program}{loose:List Str}{XP:(Str->Option Value)->Heap->Prop}{YP:World->Heap->Prop}{d:DefRec}{K:Params->W.Frag}(hn:l.most=some 63)(hdf:d.params.defaults=[])
  (hY:∀(w:World)(h:Heap),YP w h->(K w.params).In h)
  (F:∀(w:World)(mg:Str->Option Value)(fa:Addr)(h:Heap),(K w.params).In h->h.Ns mainGlobals mg->mg d.name=some (.ref fa)->
   ∃fd:FuncData,(∀(s:Shared)(u:Value),BindsTo s fd ⟨[u],[]⟩ [("_law_script",u)])/\∀base:Heap,(K w.params).In base->base.Ns mainGlobals mg->FnOk l.prog w (K w.params) mg base CX0 83 fa fd ["_law_script"] (b4w (K w.params))):
  W.WalkO q loose XP YP l.row.toRowW d [] (λf vs=>PySem.call f vs):=
 L2.walk_of (n:=63) (k:=83) (x:="_law_script") (CX:=λ_=>CX0) (sp:=λw=>b4w (K w.params)) hn qd hdf ⟨rfl,qd,qd,rfl⟩ hY F (λ_ _ a ns hl hO hS=>⟨ns,hS,hl,λ_=>rfl⟩) λ_ _ _ _ _ z=>z
end My
open PySem PySem.W PyProof.Rows L2
set_option maxRecDepth 100000 in
set_option maxHeartbeats 0 in
theorem PySem.Challenge.cw_goaltrail_k64_rings_of_asking_end_holds : PySem.Challenge.rw_goaltrail_k64_rings_of_asking_end.Holds := by
 w_on;refine W.holds_law My.said1 λsaid=>?_
 refine W.holds_open (q:=My.Q) (loose:=My.loose) (Xt:=My.Xt) (XP:=W.XL My.Q []) (Yf:=λs=>My.ads.map s.heap.get?) (Ya:=λw=>(My.KK w.params).map λ(p:Addr×Obj)=>some p.2) (YP:=W.InK My.KK) (N:=4279) My.left1 (W.InK.of (λ_=>by kernel_rfl)) W.InK.keeps (λs e=>W.xl_of s (Vd.mp e).1) W.XL.keeps (by rfl) (by rfl) (by rfl) (λs e=>W.recFacts_of (Vd.mp e).2) (by rfl) (by assumption) qk ⟨rfl,rfl,rfl,rfl,rfl,qk⟩ ?hw ?hc
 (case hw=>w_witness2)
 k_fill
 refine My.walk (l:=PySem.Challenge.rw_goaltrail_k64_rings_of_asking_end) rfl rfl (λw h Y=>Y) ?F
 case F=>
  intro w mg fa h KX G hmg;have TT:∃t:My.Ad,My.Txt (L2.KOf KX) mg t/\∀(s:Shared)(u:Value),BindsTo s t.d_law ⟨[u],[]⟩ [("_law_script",u)]:=by
   dsimp only[L2.KOf]
   apply Exists.intro (My.Ad.mk _ _ _ _ _ _ _ _ _ _ _ _ _ _ _ _ _ _ _ _ _ _ _ _ _ _ _ _ _ _ _ _ _ _ _ _ _ _ _ _ _ _ _ _ _ _ _ _ _ _ _ _ _ _ _ _ _ _ _ _ _ _ _ _ _ _ _ _ _ _ _ _ _ _ _ _ _ _ _ _ _ _ _ _ _ _ _ _ _ _ _ _ _ _ _ _ _ _ _ _ _ _ _ _ _ _ _ _ _ _ _ _ _ _ _ _ _ _ _ _ _ _ _)
   apply And.intro
   case left=>
    constructor
    all_goals try dsimp only
    all_goals try exact W.mg_of KX G (by k_is)
    all_goals try exact W.mg_none_of KX G (by k_is)
    all_goals first|exact xc_of (by k_is) qz qz qz (by simp)|exact⟨[],qz,rfl⟩|exact⟨[_],qz,rfl⟩|exact XAttr.mk (by k_is) (by k_is) (by k_is)|exact na_of (by k_is)|exact XMk.mk (xc_of (by k_is) qz qz qz qz) (by k_is) (by k_is) (by k_is)|exact XIs.mk (by k_is) (by k_is) (by k_is) (by k_is)|exact XClsM.mk (by k_is) (by k_is) (by k_is) (by k_is)|exact Cls.mk (by k_is) (by k_is) (by k_is) (by k_is)|exact Mk.mk (by k_is) (by k_is) (is_fn (by k_is)) (by k_is)|exact Meth.mk (by k_is) (is_fn (by k_is)) (by k_is)|exact fun_mk (by k_is) (by k_is) (by k_is)|exact funD_mk (by k_is) (by k_is) (by k_is)|exact bi1 λ_=>rfl|exact bi2 λ_ _=>rfl|exact bi3 λ_ _ _=>rfl|exact bi4 λ_ _ _ _=>rfl|exact bi5 λ_ _ _ _ _=>rfl|kit_is
   exactλs u=>.of_eq rfl
  obtain⟨t,T,e1⟩:=TT;have e0:=hmg.symm.trans T.m_law;cases e0;exact⟨t.d_law,e1,λbase kb nb=>My.ok_all T⟩
