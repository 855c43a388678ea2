import PyProof.Rows.All
import PyProof.StrBlock2
import PyProof.Rows.StrIntSpec
import KE.KItemsList
import KE.KDictLaws
import PyProof.SumWalkG
import KE.KRevIter
import PyProof.ListRange
import PyProof.Rows.SortWalk
import KE.KSortedM
import PyProof.Rows.SortStr
import KE.KIntText
import PyProof.Rows.ListMul
import PyProof.ReprHeadsTuple
import KE.KSortTup
import Wide.All
import OpenK.AllK
import Wide.FinOn
import Lean
import PyProof.EqAt
import PyProof.EqKinds
import PyProof.TupleCall
import PyProof.NeKinds
import PyProof.DictUpdate
import KE.KDictList
import KE.KEqDict
import PyProof.Draws
import PyProof.Rows.EnumRows
import PyProof.StationsW
import PyProof.ExcClass3
import PyProof.RulesAs
import PyProof.ExcBaseAll.ValueError
import PyProof.InstStoreFacts
import PyProof.ExcArgsOwn
import PyProof.NsDelKeeps
import KE.RegKIsAll
import PyProof.Rows.LoopZipPat
import PyProof.StrLawsRepr
import KE.KDictOf
import PyProof.WalksS
import PyProof.AttrMissHeap
import PySem.Challenge.RW_goaltrail_k71_good_rows_of_deeds
set_option Elab.async false
set_option linter.all false
set_option maxRecDepth 100000
set_option genSizeOf false
set_option bootstrap.genMatcherCode false
set_option compiler.extract_closed false
open PySem.Str (ofString)
open PySem.PyData (keyHash)
open List (length_cons length_map length_nil)
section
open PySem PySem.Spec PyProof.Rows
def Za:=@wpAny_bind
def Zb:=@List.getElem?_eq_getElem
def Zc:=@Heap.get?_push_of_some
def Zd:=@List.size_toArray
def Ze:=@wpAny_pure
def Zf:=@of_decide_eq_true
def Zg:=@Nat.le_refl
def Zh:=@Heap.lt_size
def Zi:=@List.mem_cons
def Zj:=@List.length_append
def Zk:=@Heap.get?_push_size
def Zl:=@Option.some.inj
def Zm:=@List.length_singleton
def Zn:=@Bool.false_xor
def Zo:=@decide_eq_false
def Zp:=@Bool.false_ne_true
def Zq:=@of_decide_eq_false
def Zr:=@List.getD_eq_getElem?_getD
def Zs:=@List.not_mem_nil
def Zt:=@List.map_append
def Zu:=@List.mem_singleton
def Zv:=@Nat.ne_of_lt
def Zw:=@List.getElem?_cons_zero
def Zx:=@decide_eq_true
def Zy:=@PySem.boot_len
def Zz:=@Heap.get?_update_other
def Z0:=@wpAny_field
def Z1:=@Nat.lt_of_lt_of_le
def Z2:=@Option.some.injEq
def Z3:=@Heap.get?_update_self
def Z4:=@List.map_cons
def Z5:=@List.getElem?_map
def Z6:=@PySem.mem_of_lookup
def Z7:=@List.getElem?_eq_some_iff
def Z8:=@List.mem_cons_of_mem
def Z9:=@List.mem_append_right
def Yb:=@List.mem_map
def Yc:=@Heap.size_push
def Yd:=@Nat.le_trans
def Ye:=@Bool.true_and
def Yg:=@sizeLine_eq
def Yh:=@PyProof.Rows.callWith_type1
def Yi:=@List.length_take
def Yj:=@wpAny_loadPart_at
def Yk:=@Array.getElem?_eq_some_iff
def Yl:=@List.getElem?_cons_succ
def Ym:=@wpAny_call_entry
def Yn:=@Nat.le_add_right
def Yo:=@wpAny_newObj_type
def Yp:=@List.mem_cons_self
def Yq:=@builtinLookup_eq_fast
def Yr:=@beq_eq_false_iff_ne
def Ys:=@wpAny_ite_split
def Yt:=@List.mem_append
def Yu:=@wpAny_seqItems
def Yv:=@or_false
def Yw:=@Bool.false_and
def Yx:=@Nat.zero_le
def Yy:=@List.mem_of_getElem?
def Yz:=@Int.emod_lt_of_pos
def Y0:=@congrArg
def Y1:=@PyProof.Rows.slot_tuple_getitem
def Y2:=@List.mem_range
def Y3:=@PassesOwn.never
def Y4:=@Nat.lt_irrefl
def Y5:=@F.slot_zip_next
def Y6:=@Nat.ne_of_gt
def Y7:=@List.take_of_length_le
def Y8:=@List.replicate_succ
def Y9:=@F.plainAttrs_list
def Xb:=@Int.emod_nonneg
def Xe:=@wpAny_setField_rec
def Xf:=@List.all_eq_true
def Xg:=@Bool.and_eq_true
def Xh:=@wpAny_holding
def Xi:=@List.cons.inj
def Xj:=@Bool.and_false
def Xk:=@wpAny_isSubtype_exc
def Xl:=@Array.length_toList
def Xm:=@wpAny_specialOf
def Xn:=@typeLookup_type
def Xo:=@Obj.isFreed_of_fields
def Xp:=@List.getElem_mem
def Xq:=@List.contains_cons
def Xr:=@Bool.false_eq_true
def Xs:=@wpAny_setField
def Xu:=@wpAny_truthy_bool
def Xv:=@List.reverse_cons
def Xw:=@wpAny_mono
def Xx:=@SeqAt.EqAt.same
def Xy:=@wpAny_attempt
def Xz:=@List.lookup_cons
def X0:=@List.cons_append
def X1:=@Obj.data_mapFields
def X2:=@List.getElem?_eq_none
def X3:=@wpAny_updateSeq
def X4:=@List.range_succ
def X5:=@List.nodup_cons
def X6:=@List.find?_cons
def X7:=@List.append_nil
def X8:=@Bool.eq_iff_iff
def X9:=@lookup_relabel_local
def Wa:=@List.any_cons
def Wb:=@Array.getElem?_setIfInBounds_ne
def Wc:=@Heap.SameBut.update
def We:=@F.plain_extend_loop
def Wf:=@wpAny_isInstance
def Wg:=@isSubtype_type
def Wh:=@decide_eq_decide
def Wi:=@W.kia_one
def Wj:=@Int.mul_le_mul_of_nonneg_left
def Wk:=@wpAny_rule
def Wl:=@F.slot_list_append
def Wm:=@wpAny_passesOwn
def Wn:=@List.nil_append
def Wo:=@List.singleton_append
def Wp:=@Array.getElem?_toList
def Wq:=@F.args_zip_next_1
def Wr:=@Array.getD_eq_getD_getElem?
def Ws:=@wpAny_of_eq
def Wt:=@F.slot_tuple_iterator_next
def Wu:=@Bool.and_eq_true_iff
def Wv:=@List.map_nil
def Ww:=@List.length_drop
def Wx:=@F.entry_zip_next
def Wz:=@Array.getElem?_eq_getElem
def W0:=@List.length_reverse
def W1:=@if_false
def W2:=@wpAny_execs_nil
def W3:=@List.forIn_cons
def W4:=@wpAny_Call_Name_kw
def W5:=@call_meets
def W6:=@List.mem_replicate
def W7:=@F.type_list_append
def W8:=@Calls.spliced_cons
def W9:=@Option.map_eq_some_iff
def Va:=@Nat.lt_succ_of_lt
def Vb:=@List.nodup_append
def Vc:=@List.forIn_nil
def Vd:=@F.slot_dict_setdefault
def Ve:=@Calls.spliced_nil
def Vf:=@List.length_replicate
def Vg:=@wpAny_pyIter_zip
def Vh:=@wpAny_execs_cons
def Vi:=@wpAny_updateSeq_pair
def Vj:=@wpAny_letGo
def Vk:=@F.excBase_ValueError
def Vl:=@List.reverse_append
def Vm:=@codeAny_mono
def Vn:=@W.callWith_K
def Vo:=@wpAny_pyIter_tuple
def Vp:=@tupleKind_room_in1
def Vq:=@SeqAt.EqAt.str_str
def Vr:=@SeqAt.EqAt.int_int
def Vs:=@List.take_zero
def Vt:=@F.slot_list_extend
def Vu:=@List.getElem?_append_left
def Vv:=@List.drop_eq_getElem_cons
def Vw:=@atKey_none_of_get
def Vx:=@Obj.cls_mapFields
def Vy:=@Nat.le_succ
def Vz:=@List.flatten_cons
def V0:=@Int.toNat_natCast
def V1:=@wpAny_standAt
def V2:=@wpAny_onRaise
def V3:=@wpAny_comprehension_free
def V4:=@SeqAt.RcAt.lists_lengths
def V5:=@Paired.length
def V6:=@Bool.false_or
def V7:=@Bool.and_true
def V8:=@Nat.lt_succ_self
def V9:=@List.reverse_nil
def Ua:=@wpAny_typeOf
def Ub:=@wpAny_call
def Uc:=@beq_iff_eq
def Ud:=@Nat.succ.inj
def Ue:=@Nat.lt_trans
def Uf:=@List.map_map
def Ug:=@Calls.callWith_builtin
def Uh:=@Bool.or_true
def Ui:=@W.methodCall_KW
def Uj:=@Nat.min_eq_left
def Uk:=@List.of_mem_zip
def Ul:=@List.cons.injEq
def Um:=@F.slot_int_rmul
def Uo:=@List.take_append_drop
def Up:=@isSubtype_stop
def Uq:=@Sum.inr.inj
def Ur:=@Nat.log2_lt
def Us:=@List.reverse_reverse
def Ut:=@Int.le_refl
def Uu:=@List.filterMap_cons
def Uv:=@strLen_append
def Uw:=@plainId_quiet
def Ux:=@List.all_cons
def Uy:=@typeIs_int
def Uz:=@slot_tuple_getitem
def U0:=@SeqAt.EqAt.str_int
def U1:=@SeqAt.EqAt.of_refs
def U2:=@SeqAt.EqAt.int_str
def U3:=@List.find?_eq_none
def U4:=@F.args_tuple_add_2
def U5:=@AutoListH.list___mul___list_int_3
def U6:=@wpAny_pyIter_list
def U7:=@wpAny_assign_Name
def U8:=@wpAny_Return_some
def U9:=@decide_eq_true_eq
def Ta:=@call_meetsIn
def Tb:=@PySem.Within.cons
def Tc:=@List.take_add_one
def Td:=@List.length_range
def Te:=@List.append_assoc
def Tf:=@F.plainAttrs_dict
def Tg:=@F.entry_tuple_add
def Th:=@plainObj_wpAny_Assign_Attribute
def Ti:=@wpAny_lookBehind
def Tj:=@pastItsLine_dict
def Tk:=@noFill_tuple_add
def Tl:=@boot_list
def Tmq:=@beq_self_eq_true
def Tn:=@List.zipIdx_cons
def To:=@F.slot_tuple_add
def Tp:=@Int.mul_le_mul_of_nonpos_left
def Tq:=@List.zipIdx_nil
def Tr:=@List.foldl_cons
def Ts:=@F.slot_list_pop
def Tt:=@F.slot_dict_get
def Tu:=@F.args_tuple_iterator_next_1
def Tv:=@F.entry_tuple_iterator_next
def Tw:=@wpAny_newTuple
def Tx:=@Nat.not_lt
def Ty:=@List.getElem?_append_right
def Tz:=@Calls.Name_function_global
def T0:=@wpAny_binaryOp_repeat_ref
def T1:=@List.pairwise_iff_getElem
def T3:=@seq_tuple_add
def T4:=@W.plainGet_of
def T5:=@List.getElem?_take_of_lt
def T6:=@F.args_dict_setdefault_3
def T7:=@Bool.true_xor
def T8:=@Bool.or_false
def T9:=@Int.eq_ofNat_of_zero_le
def Sa:=@F.entry_dict_setdefault
def Sb:=@wpAny_nsSet1
def Sc:=@subscriptTail_builtinR
def Sd:=@seqIndex_neg
def Se:=@concat_meets
def Sf:=@codeAny_compStart_list
def Sg:=@callType_new
def Sh:=@Option.map_eq_none_iff
def Si:=@Nat.le_of_lt
def Sj:=@List.range_succ_eq_map
def Sk:=@List.getElem?_set_self
def Sl:=@List.find?_cons_of_pos
def Sm:=@List.find?_cons_of_neg
def Sn:=@List.drop_of_length_le
def So:=@F.type_dict_setdefault
def Sq:=@Bool.true_or
def Sr:=@int___rmul___int_list
def Ss:=@PyProof.Rows.boot_abs
def Su:=@List.getElem?_toArray
def Sv:=@wpAny_newFunctionEnv
def Sw:=@storedH_new
def Sx:=@seqIndex_of
def Sy:=@codeAny_call_builtin
def Sz:=@boot_int
def S0:=@boot_all
def S1:=@W.kitx_list
def S2:=@Paired.snoc
def S3:=@Obj.data_mapDictKeys
def S4:=@Nat.mul_le_mul_right
def S5:=@List.mem_of_mem_drop
def S6:=@List.mem_append_left
def S7:=@List.getElem?_set_ne
def S8:=@F.args_object_init_3
def S9:=@F.args_list_extend_2
def Ra:=@Calls.evalArgs_plain
def Rb:=@Around.under_plainId
def Rc:=@entry_tuple_getitem
def Re:=@SeqAt.RcNeAt.tuples
def Rf:=@PySem.wpAt_of_wpAny
def Rg:=@List.getElem_of_mem
def Rh:=@Heap.get?_update_ne
def Ri:=@F.slot_list_reverse
def Rj:=@F.entry_list_extend
def Rk:=@F.entry_extend_loop
def Rm:=@Array.toList_append
def Rn:=@wpAny_Name
def Ro:=@decide_eq_true_iff
def Rp:=@boot_tuple
def Rq:=@args_tuple_getitem
def Rr:=@Subscript_
def Rs:=@Option.isSome_some
def Rt:=@List.zip_cons_cons
def Ru:=@List.mem_filterMap
def Rv:=@List.forIn_toArray
def Rw:=@F.type_list_extend
def Ry:=@F.args_list_init_2
def Rz:=@Code.quiet_builtin
def R0:=@Calls.Constant_str
def R1:=@Bool.not_eq_false'
end
noncomputable section
theorem qk{p:Prop}[Decidable p](h:decide p=true:=by decide +kernel):p:=of_decide_eq_true h
theorem qo{p:Prop}(h:p:=by omega):p:=h
theorem qd{p:Prop}(h:p:=by decide):p:=h
theorem qz{p:Prop}(h:p:=by simp):p:=h
theorem qn{p:Prop}(h:p:=by exact⟨rfl,rfl,rfl,qk,rfl,qk,qk⟩):p:=h
namespace L2
open PySem PySem.Spec PyProof.Rows
abbrev Key:=Sum Int Str
def b2o:Key->Value->Bool
 | .inl k,v=>Value.isInt k v
 | .inr x,v=>Value.isStrOf x v
def keyH(w:World):Key->Int
 | .inl k=>hashInt k
 | .inr x=>hashStr w x
theorem a2v:∀{k:Key}{v:Value},b2o k v=true->(∃i t,k=Sum.inl i/\v=Value.int i t)\/(∃x t,k=Sum.inr x/\v=Value.str x t)
 | .inl i,v,h=>by
  obtain⟨t,e⟩:=Value.isInt_shape (k:=i) (v:=v) h;exact .inl ⟨i,t,rfl,e⟩
 | .inr x,v,h=>by
  obtain⟨t,e⟩:=Value.isStrOf_shape (x:=x) (v:=v) h;exact .inr ⟨x,t,rfl,e⟩
theorem c4s(i:Int)(t:Tok):b2o (.inl i) (.int i t)=true:=by simp[b2o,Value.isInt]
theorem c4t(x:Str)(t:Tok):b2o (.inr x) (.str x t)=true:=by simp[b2o,Value.isStrOf]
theorem c4u(a b:Int):decide ((Sum.inl a:Key)=Sum.inl b)=(a==b):=by
 by_cases e:a=b
 ·subst e;simp
 ·have h:¬(Sum.inl a:Key)=Sum.inl b:=λq=>e (Sum.inl.inj q)
  rw[Zo h];exact(Yr.mpr e).symm
theorem c4v(a b:Str):decide ((Sum.inr a:Key)=Sum.inr b)=decide (a=b):=by
 by_cases e:a=b
 ·subst e;simp
 ·have h:¬(Sum.inr a:Key)=Sum.inr b:=λq=>e (Uq q)
  rw[Zo h,Zo e]
theorem c4w(a:Int)(b:Str):decide ((Sum.inl a:Key)=Sum.inr b)=false:=Zo (λq=>nomatch q)
theorem c4x(a:Str)(b:Int):decide ((Sum.inr a:Key)=Sum.inl b)=false:=Zo (λq=>nomatch q)
def a1q(prog:Program)(w:World):PySem.KeyKind prog w Key where
 is:=b2o
 hash:=keyH w
 inj:=λv a b ha hb=>by
  rcases a2v ha with⟨i,t,rfl,rfl⟩|⟨x,t,rfl,rfl⟩
  ·rcases a2v hb with⟨j,u,rfl,e⟩|⟨y,u,rfl,e⟩
   ·injection e with e1 _;rw[e1]
   ·exact nomatch e
  ·rcases a2v hb with⟨j,u,rfl,e⟩|⟨y,u,rfl,e⟩
   ·exact nomatch e
   ·injection e with e1 _;rw[e1]
 byValue:=λk v h=>by
  rcases a2v h with⟨i,t,rfl,rfl⟩|⟨x,t,rfl,rfl⟩<;>rfl
 pyHash:=λhv h=>by
  rcases a2v hv with⟨i,t,rfl,rfl⟩|⟨x,t,rfl,rfl⟩
  ·exact wpAny_pyHash_int h
  ·exact wpAny_pyHash_str h
 eqBool:=λhu hv h=>by
  rcases a2v hu with⟨i,t,rfl,rfl⟩|⟨x,t,rfl,rfl⟩
  ·rcases a2v hv with⟨j,u,rfl,rfl⟩|⟨y,u,rfl,rfl⟩
   ·rw[c4u]at h;exact wpAny_eqBool_int h
   ·rw[c4w]at h;exact U2 i t y u _ _ _ _ h
  ·rcases a2v hv with⟨j,u,rfl,rfl⟩|⟨y,u,rfl,rfl⟩
   ·rw[c4x]at h;exact U0 x t j u _ _ _ _ h
   ·rw[c4v]at h;exact wpAny_eqBool_str h
 «strs»:=λk x t v h=>by
  rcases a2v h with⟨i,u,rfl,e⟩|⟨y,u,rfl,e⟩
  ·exact nomatch e
  ·injection e with e1 _
   subst e1;cases v<;>rfl
theorem a9d(prog:Program)(w:World)(i:Int)(t:Tok):(a1q prog w).is (.inl i) (.int i t)=true:=c4s i t
theorem a9e(prog:Program)(w:World)(x:Str)(t:Tok):(a1q prog w).is (.inr x) (.str x t)=true:=c4t x t
inductive V where
 |non|bl(b:Bool)|int(i:Int)|str(x:Str)|byt(b:Array UInt8)|flt(b:UInt64)|ref(a:Addr)|ty(n:String)
 deriving DecidableEq
def RelV:V->Value->Prop
 | .non,u=>u=Value.none
 | .bl b,u=>u=Value.bool b
 | .int i,u=>∃t,u=Value.int i t
 | .str x,u=>∃t,u=Value.str x t
 | .byt b,u=>∃t,u=Value.bytes b t
 | .flt b,u=>∃t,u=Value.float b t
 | .ref a,u=>u=Value.ref a
 | .ty n,u=>u=Value.type n
abbrev Vals:List V->List Value->Prop:=Paired RelV
theorem Vals.length{xs:List V}{us:List Value}(r:Vals xs us):xs.length=us.length:=V5 r
theorem Vals.get:∀{xs:List V}{us:List Value}{i:Nat}{x:V},Vals xs us->xs[i]? =some x->∃u,us[i]? =some u/\RelV x u
 |_,_,_,_,.nil,e=>by simp at e
 |_,_,0,_,.cons r _,e=>by simp at e;subst e;exact⟨_,rfl,r⟩
 |_,_,i+1,x,.cons _ t,e=>by
  obtain⟨u,h1,h2⟩:=Vals.get (i:=i) (x:=x) t (by simpa using e);exact⟨u,by simpa using h1,h2⟩
theorem Vals.set{x:V}{u:Value}(r:RelV x u):∀{xs:List V}{us:List Value}(i:Nat),Vals xs us->Vals (xs.set i x) (us.set i u)
 |_,_,_,.nil=>.nil
 |_,_,0,.cons _ t=>.cons r t
 |_,_,i+1,.cons q t=>.cons q (Vals.set r i t)
theorem Vals.append:∀{xs ys:List V}{us ws:List Value},Vals xs us->Vals ys ws->Vals (xs++ys) (us++ws)
 |_,_,_,_,.nil,s=>s
 |_,_,_,_,.cons r t,s=>.cons r (Vals.append t s)
theorem Vals.take:∀{xs:List V}{us:List Value}(n:Nat),Vals xs us->Vals (xs.take n) (us.take n)
 |_,_,0,_=>.nil
 |_,_,_+1,.nil=>.nil
 |_,_,n+1,.cons r t=>.cons r (Vals.take n t)
theorem Vals.drop:∀{xs:List V}{us:List Value}(n:Nat),Vals xs us->Vals (xs.drop n) (us.drop n)
 |_,_,0,r=>r
 |_,_,_+1,.nil=>.nil
 |_,_,n+1,.cons _ t=>Vals.drop n t
def RelO:Option V->Option Value->Prop
 |some v,some u=>RelV v u
 |none,none=>True
 |_,_=>False
def KV{κ:Type}:List (κ×V)->List (κ×Value)->Prop:=Paired λ(p:κ×V) (q:κ×Value)=>p.1=q.1/\RelV p.2 q.2
def kV:Key->V
 | .inl i=>.int i
 | .inr x=>.str x
inductive HO where
 |lst(xs:List V)
 |tup(xs:List V)
 |dK(kvs:List (Key×V))|dT(kvs:List (List Key×V))
 |set(S:Int->Bool)(n:Nat)
 |ins(C dx:Addr)(fs:List (Str×V))
 |own(x:Addr)
 |xd(fs:List (Str×V))
 |met(f x:Addr)
 |rng(lo hi:Int)
 |frz(o:Obj)(u:HO)
 |tbl(ps:Array Value)
 |ext(φ:Heap->Prop)
abbrev Hp:=Addr->Option HO
def upd(H:Hp)(a:Addr)(o:HO):Hp:=λb=>if b=a then some o else H b
theorem a0c{H:Hp}{a:Addr}{o:HO}:upd H a o a=some o:=by unfold upd;rw[if_pos rfl]
theorem a0p{H:Hp}{a b:Addr}{o:HO}(h:b≠a):upd H a o b=H b:=by unfold upd;rw[if_neg h]
theorem a6t{H:Hp}{a b:Addr}{o u:HO}(h:H a=some o)(h':H b=some u)(d:o≠u):a≠b:=by
 intro e;subst e;rw[h]at h';exact d (Zl h')
theorem a1p{H:Hp}{a b:Addr}{o:HO}(h:H a=some o)(h':H b=none):a≠b:=by
 intro e;subst e;rw[h]at h';cases h'
section
variable(P:Program)(w:World)
def a1s(H:Hp)(h:Heap)(a:Addr):HO->Prop
 | .lst xs=>xs.length<=sizeLine/\∃(its:List Value)(n:Nat),Vals xs its/\h.get? a=some { cls:=.type "list",data:=.seq its.toArray n}
 | .tup xs=>xs.length<=sizeLine/\∃its:List Value,Vals xs its/\IsTup h a its.toArray
 | .dK kvs=>kvs.length<=sizeLine/\(a==sysModules)=false/\∃vs,KV kvs vs/\h.DictOf (a1q P w) a vs
 | .dT kvs=>kvs.length<=sizeLine/\(a==sysModules)=false/\∃xs:List (List Key×Addr×Value),
   Paired (λ(p:List Key×V) (q:List Key×Addr×Value)=>p.1=q.1/\H q.2.1=some (.tup (p.1.map kV))/\RelV p.2 q.2.2) kvs xs/\
   ∃o es ep,h.get? a=some o/\o.ExactDict/\o.data=.dict es ep/\es.toList=xs.map (entryOfKey (tupleKind (a1q P w)))/\(xs.map (·.1)).Nodup
 | .set S n=>h.SetOf (intKind P w) a S n
 | .ins C dx fs=>H dx=some (.own a)/\fs.length<=1000/\dx≠a/\h.get? a=some (W.instObj C dx)/\
   ∃mA,h.Ns1 dx mA/\(∀f,RelO (fs.lookup f) (mA f))/\PySem.Within mA (fs.map (·.1))
 | .own _=>∃o,h.get? a=some o
 | .xd fs=>∃mA,h.Ns1 a mA/\∀f,RelO (fs.lookup f) (mA f)
 | .rng lo hi=>∃t u v,h.get? a=some { cls:=.type "range",data:=.fields #[.int lo t,.int hi u,.int 1 v]}
 | .frz o u=>h.get? a=some o/\a1s H h a u
 | .tbl ps=>h.get? a=some { cls:=.none,data:=.fields ps}
 | .met f x=>h.get? a=some (W.methodObj (.ref f) (.ref x))
 | .ext φ=>φ h/\(∃o,h.get? a=some o)/\∀h1 h2:Heap,φ h1->(∀o,h1.get? a=some o->h2.get? a=some o)->φ h2
def HOk(H:Hp)(h:Heap):Prop:=∀a o,H a=some o->a1s P w H h a o
end
section
variable{P:Program}{w:World}{H H':Hp}{h h':Heap}{a:Addr}{o:HO}
theorem a1s.lt(x:a1s P w H h a o):a<h.objs.size:=by
 cases o with
 |lst xs=>obtain⟨_,_,_,_,e⟩:=x;exact Zh e
 |tup xs=>obtain⟨_,_,_,p⟩:=x;exact p.lt
 |dK kvs=>obtain⟨_,_,_,_,o,_,_,e,_⟩:=x;exact Zh e
 |dT kvs=>obtain⟨_,_,_,_,o,_,_,e,_⟩:=x;exact Zh e
 |set S n=>obtain⟨o,_,_,_,e,_⟩:=x;exact Zh e
 |ins C dx fs=>obtain⟨_,_,_,e,_⟩:=x;exact Zh e
 |own y=>obtain⟨_,e⟩:=x;exact Zh e
 |xd fs=>obtain⟨_,⟨_,_,_,e,_⟩,_⟩:=x;exact Zh e
 |rng lo hi=>obtain⟨_,_,_,e⟩:=x;exact Zh e
 |frz ob u=>obtain⟨e,_⟩:=x;exact Zh e
 |tbl ps=>exact Zh (show h.get? a=some _ from x)
 |met f y=>exact Zh (show h.get? a=some _ from x)
 |ext φ=>obtain⟨_,⟨_,e⟩,_⟩:=x;exact Zh e
theorem Paired.mapP{α β:Type}{F G:α->β->Prop}:∀{l₁:List α}{l₂:List β},Paired F l₁ l₂->(∀a b,F a b->G a b)->Paired G l₁ l₂
 |_,_,.nil,_=>.nil
 |_,_,.cons r t,f=>.cons (f _ _ r) (Paired.mapP t f)
theorem a1s.stay(x:a1s P w H h a o)(k:∀b u,(b=a\/H b=some (.own a))->h.get? b=some u->h'.get? b=some u)
  (ho:∀b,H b=some (.own a)->H' b=some (.own a))(ht:∀b xs,H b=some (.tup xs)->H' b=some (.tup xs)):a1s P w H' h' a o:=by
 induction o with
 |lst xs=>obtain⟨z,its,n,r,e⟩:=x;exact⟨z,its,n,r,k _ _ (.inl rfl) e⟩
 |tup xs=>obtain⟨z,its,r,ob,e,c⟩:=x;exact⟨z,its,r,ob,k _ _ (.inl rfl) e,c⟩
 |dK kvs=>obtain⟨z,y,vs,r,ob,es,ep,e,c⟩:=x;exact⟨z,y,vs,r,ob,es,ep,k _ _ (.inl rfl) e,c⟩
 |dT kvs=>
  obtain⟨z,y,xs,r,ob,es,ep,e,c⟩:=x;exact⟨z,y,xs,Paired.mapP r λp q z=>⟨z.1,ht _ _ z.2.1,z.2.2⟩,ob,es,ep,k _ _ (.inl rfl) e,c⟩
 |set S n=>obtain⟨ob,es,ep,t,e,c⟩:=x;exact⟨ob,es,ep,t,k _ _ (.inl rfl) e,c⟩
 |ins C dx fs=>
  obtain⟨d,z,ne,e,mA,⟨od,es,ep,e2,c⟩,r⟩:=x;exact⟨ho _ d,z,ne,k _ _ (.inl rfl) e,mA,⟨od,es,ep,k _ _ (.inr d) e2,c⟩,r⟩
 |own y=>obtain⟨ob,e⟩:=x;exact⟨ob,k _ _ (.inl rfl) e⟩
 |xd fs=>obtain⟨mA,⟨od,es,ep,e,c⟩,r⟩:=x;exact⟨mA,⟨od,es,ep,k _ _ (.inl rfl) e,c⟩,r⟩
 |rng lo hi=>obtain⟨t,u,v,e⟩:=x;exact⟨t,u,v,k _ _ (.inl rfl) e⟩
 |frz ob u ih=>obtain⟨e,q⟩:=x;exact⟨k _ _ (.inl rfl) e,ih q⟩
 |tbl ps=>
  have e:h.get? a=some { cls:=.none,data:=.fields ps}:=x
  show h'.get? a=some { cls:=.none,data:=.fields ps}
  exact k a _ (.inl rfl) e
 |met f y=>
  have e:h.get? a=some (W.methodObj (.ref f) (.ref y)):=x
  show h'.get? a=some (W.methodObj (.ref f) (.ref y))
  exact k a _ (.inl rfl) e
 |ext φ=>obtain⟨p,⟨o,e⟩,st⟩:=x;exact⟨st _ _ p λo q=>k _ _ (.inl rfl) q,⟨o,k _ _ (.inl rfl) e⟩,st⟩
theorem HOk.lt(x:HOk P w H h)(e:H a=some o):a<h.objs.size:=(x a o e).lt
theorem HOk.fresh(x:HOk P w H h)(e:h.objs.size<=a):H a=none:=by
 cases q:H a with
 |none=>rfl
 |some u=>exact absurd (Z1 (x.lt q) e) (Y4 _)
theorem HOk.kept(x:HOk P w H h)(k:∀b u,h.get? b=some u->h'.get? b=some u):HOk P w H h':=λa o e=>
 (x a o e).stay (λb u _ q=>k b u q) (λ_ q=>q) λ_ _ q=>q
theorem HOk.laid(x:HOk P w H h)(k:∀b u,h.get? b=some u->h'.get? b=some u)(hp:h.objs.size<=a)(new:a1s P w (upd H a o) h' a o):HOk P w (upd H a o) h':=λb u e=>by
 have hn:=x.fresh hp
 by_cases hb:b=a
 ·subst hb;rw[a0c]at e;cases e;exact new
 ·rw[a0p hb]at e;exact(x b u e).stay (λc v _ q=>k c v q) (λc q=>by rw[a0p (a1p q hn)];exact q) λc xs q=>by rw[a0p (a1p q hn)];exact q
end
def Rd(H:Hp)(a:Addr)(u:HO):Prop:=H a=some u\/∃o,H a=some (.frz o u)
theorem Rd.ok{P:Program}{w:World}{H:Hp}{h:Heap}{a:Addr}{u:HO}(r:Rd H a u)(x:HOk P w H h):a1s P w H h a u:=by
 rcases r with r|⟨o,r⟩
 ·exact x a u r
 ·obtain⟨_,q⟩:=x a _ r;exact q
def Mut:Option HO->Prop
 |some (.lst _)=>True
 |some (.dK _)=>True
 |some (.dT _)=>True
 |some (.set _ _)=>True
 |some (.ins _ _ _)=>True
 |some (.ext _)=>True
 |_=>False
section
variable{P:Program}{w:World}{H:Hp}{h h':Heap}{x e:Addr}{o':HO}
theorem HOk.write(ok:HOk P w H h)(mu:Mut (H x))(he:e=x\/H e=some (.own x))(k:∀b u,b≠e->h.get? b=some u->h'.get? b=some u)(heo:∃u,h'.get? e=some u)
  (new:a1s P w (upd H x o') h' x o'):HOk P w (upd H x o') h':=λb u q=>by
 have nown:∀c y,H c=some (.own y)->c≠x:=λc y r z=>by subst z;rw[r]at mu;exact mu
 have ntup:∀c xs,H c=some (.tup xs)->c≠x:=λc xs r z=>by subst z;rw[r]at mu;exact mu
 by_cases hb:b=x
 ·subst hb;rw[a0c]at q;cases q;exact new
 ·rw[a0p hb]at q
  by_cases hbe:b=e
  ·have q':H b=some (.own x):=by
    rcases he with z|z
    ·exact absurd (hbe.trans z) hb
    ·rw[hbe];exact z
   rw[q]at q';cases q';obtain⟨v,hv⟩:=heo;exact⟨v,by rw[hbe];exact hv⟩
  ·refine(ok b u q).stay (λc v hc r=>k c v ?_ r) (λc r=>by rw[a0p (nown c b r)];exact r) λc xs r=>by rw[a0p (ntup c xs r)];exact r
   rcases hc with rfl|hc
   ·exact hbe
   ·rintro rfl
    rcases he with z|z
    ·exact nown c b hc z
    ·rw[hc]at z;cases z;exact hb rfl
end
structure Un(fs ex:List Addr)(H H':Hp)(h h':Heap):Prop where
 keep:∀b o,h.get? b=some o->H b=none->b∉fs->b∉ex->h'.get? b=some o
 slot:∀b o,h.get? b=some o->H b=none->b∈fs->b∉ex->∃sl,h'.get? b=some { o with slots:=sl}
 free:∀b o,h.get? b=some o->H b=none->b∉ex->H' b=none
 there:∀b o,h.get? b=some o->b∉ex->∃o',h'.get? b=some o'
 tups:∀b xs,H b=some (.tup xs)->H' b=some (.tup xs)
 frzs:∀b o u,H b=some (.frz o u)->H' b=some (.frz o u)
 tbls:∀b ps,H b=some (.tbl ps)->∃more,H' b=some (.tbl (ps++more))
section
variable{fs fs' ex ex':List Addr}{H H1 H2:Hp}{h h1 h2 h':Heap}{a x e:Addr}{o:HO}
theorem Un.any(u:Un fs ex H H1 h h1){b:Addr}{ob:Obj}(q:h.get? b=some ob)(n:H b=none)(hx:b∉ex):∃sl,h1.get? b=some { ob with slots:=sl}:=by
 by_cases hb:b∈fs
 ·exact u.slot b ob q n hb hx
 ·exact⟨ob.slots,u.keep b ob q n hb hx⟩
theorem Un.kept(k:∀b u,h.get? b=some u->h'.get? b=some u):Un fs ex H H h h':=
 ⟨λb ob q _ _ _=>k b ob q,λb ob q _ _ _=>⟨ob.slots,k b ob q⟩,λ_ _ _ n _=>n,λb ob q _=>⟨ob,k b ob q⟩,λ_ _ q=>q,λ_ _ _ q=>q,λ_ ps q=>⟨#[],by rw[q];simp⟩⟩
theorem Un.refl:Un fs ex H H h h:=Un.kept λ_ _ q=>q
theorem Un.laid(k:∀b u,h.get? b=some u->h'.get? b=some u)(hp:h.objs.size<=a)(hn:H a=none):Un fs ex H (upd H a o) h h' where
 keep:=λb u q _ _ _=>k b u q
 slot:=λb u q _ _ _=>⟨u.slots,k b u q⟩
 free:=λb u q n _=>by rw[a0p (Zv (Z1 (Zh q) hp))];exact n
 there:=λb u q _=>⟨u,k b u q⟩
 tups:=λb xs q=>by rw[a0p (a1p q hn)];exact q
 frzs:=λb u xs q=>by rw[a0p (a1p q hn)];exact q
 tbls:=λb ps q=>⟨#[],by rw[a0p (a1p q hn),q];simp⟩
theorem Un.write(mu:Mut (H x))(he:e=x\/H e=some (.own x))(k:∀b u,b≠e->h.get? b=some u->h'.get? b=some u)(heo:∃u,h'.get? e=some u):Un fs ex H (upd H x o) h h':=by
 have hx:∀b,H b=none->b≠x:=λb n z=>by subst z;rw[n]at mu;exact mu
 have hb:∀b,H b=none->b≠e:=λb n z=>by
  subst z;rcases he with r|r
  ·exact hx b n r
  ·rw[n]at r;cases r
 have hm:∀b u,H b=some u->¬Mut (some u)->b≠x:=λb u q nm z=>by subst z;rw[q]at mu;exact nm mu
 refine⟨λb u q n _ _=>k b u (hb b n) q,λb u q n _ _=>⟨u.slots,k b u (hb b n) q⟩,λb u q n _=>by rw[a0p (hx b n)];exact n,λb u q _=>?_,
  λb xs q=>by rw[a0p (hm b _ q λz=>z)];exact q,λb u xs q=>by rw[a0p (hm b _ q λz=>z)];exact q,λb ps q=>⟨#[],by rw[a0p (hm b _ q λz=>z),q];simp⟩⟩
 by_cases hbe:b=e
 ·subst hbe;exact heo
 ·exact⟨u,k b u hbe q⟩
end
def trk(h:Heap)(H:Hp):List Addr:=(List.range h.objs.size).filter λa=>(H a).isSome
def hidT(h:Heap)(H:Hp):Heap:=W.hideAll h (trk h H)
theorem c4y(h:Heap)(H:Hp):(hidT h H).objs.size=h.objs.size:=W.hideAll_size _ _
theorem c8j{h:Heap}{H:Hp}{b:Addr}{o:Obj}(e:h.get? b=some o)(n:H b=none):(hidT h H).get? b=some o:=
 W.hideAll_get _ e λhm=>by
  have q:(H b).isSome=true:=(List.mem_filter.mp hm).2;rw[n]at q;simp at q
theorem of_hidT{h:Heap}{H:Hp}{b:Addr}{o:Obj}(e:(hidT h H).get? b=some o):h.get? b=some o/\H b=none:=by
 have e':h.get? b=some o:=W.of_hideAll (trk h H) e;refine⟨e',?_⟩;cases q:H b with
 |none=>rfl
 |some x=>
  have hm:b∈trk h H:=List.mem_filter.mpr ⟨Y2.mpr (Zh e'),by simp[q]⟩;have z:(hidT h H).get? b=none:=W.hideAll_none (trk h H) hm;rw[z]at e;cases e
def allNews(g h:Heap)(L:Addr):List (Addr×Obj):=(List.range h.objs.size).filterMap λa=>if a=L\/(g.get? a).isSome=true then none else(h.get? a).map λo=>(a,o)
def rest(g h:Heap)(L d:Addr):List (Addr×Obj):=(allNews g h L).filter λp=>decide (p.1≠d)
structure Mod(K:W.Frag)(mg:Str->Option Value)(base:Heap):Prop where
 kin:K.In base
 glob:base.Ns mainGlobals mg
 blt:∃mb,base.Ns builtinsNs mb/\∀x:Str,x≠"__name__"->mb x=bootBuiltins x
 nolimit:base.NoLimit
structure Cx where
 prog:Program
 w:World
 K:W.Frag
 mg:Str->Option Value
 base:Heap
 A:Around
 N:List Str
 s₀:Shared
 H₀:Hp
 env:Env
 outer:List Env
 stack:List Env
 ex:List Addr
 fn:Str->Bool
 calm:Bool
 pn:List (Addr×Obj)
 xe:Value->Shared->Prop
def frs(l:List Env):List Addr:=l.filterMap (·.frame)
abbrev Cx.fs(X:Cx):List Addr:=frs X.outer
def Vis(sc:Scope)(x:Str):Prop:=sc.names.lookup x=some .local\/sc.names.lookup x=some .cell\/sc.names.lookup x=some .free
def Loc(sc:Scope)(x:Str):Prop:=sc.names.lookup x=some .local\/sc.names.lookup x=some .cell
def Look(env:Env)(h:Heap)(m:Str->Option Value)(x:Str)(u:Value):Prop:=
 (env.kindOf x=some .local/\m x=some u)\/((env.kindOf x=some .cell\/env.kindOf x=some .free)/\∃c,env.cells.lookup x=some c/\h.IsCell c (some u))
structure Cx.Ok(X:Cx):Prop where
 mod:Mod X.K X.mg X.base
 kind:X.env.scope.kind=.function
 glob:X.env.globals=mainGlobals
 blt:X.env.builtins=builtinsNs
 above:X.s₀.heap.objs.size<=X.env.locals
 inj:∀x y c,X.env.cells.lookup x=some c->X.env.cells.lookup y=some c->x=y
 has:∀x,(X.env.kindOf x=some .cell\/X.env.kindOf x=some .free)->∃c,X.env.cells.lookup x=some c
 cab:∀x c,X.fn x=true->X.env.cells.lookup x=some c->X.s₀.heap.objs.size<=c
 hd:X.calm=true->X.A.handled=none
 frames:X.A.frames=some X.stack
 stk:X.stack=X.outer\/(X.stack=X.env::X.outer/\X.env.frame=some X.env.locals)
 exf:∀b∈X.ex,b≠X.env.locals/\∀x c,X.env.cells.lookup x=some c->c≠b
 bs:∀b o,X.base.get? b=some o->X.s₀.heap.get? b=some o/\X.H₀ b=none
 bsz:X.base.objs.size<=X.s₀.heap.objs.size
 noex:∀b o,X.base.get? b=some o->b∉X.ex
 exfs:∀b∈X.ex,b∉X.fs
 funs:X.s₀.heap.FunFrames X.base X.outer
 frf:∀b∈X.fs,X.H₀ b=none
structure Inv(X:Cx)(pins:List (Addr×Obj))(σ:List (Option V))(H:Hp)(s:Shared):Prop where
 ok:X.Ok
 os:s.os=X.s₀.os
 bare:AllBare s.gens
 base:Un X.fs X.ex X.H₀ H X.s₀.heap s.heap
 loc:∃m,s.heap.Ns X.env.locals m/\∀(i:Nat)(x:Str)(v:V),X.N[i]? =some x->σ[i]? =some (some v)->Vis X.env.scope x->∃u,RelV v u/\Look X.env s.heap m x u
 cell:∀x c,X.env.cells.lookup x=some c->∃v,s.heap.IsCell c v
 free:H X.env.locals=none
 freeC:∀x c,X.env.cells.lookup x=some c->H c=none
 pin:∀p∈X.pn++pins,s.heap.get? p.1=some p.2/\H p.1=none/\p.1≠X.env.locals/\p.1∉X.fs/\∀v,p.2.data≠.cell v
 hok:HOk X.prog X.w H s.heap
 len:σ.length=X.N.length
section
variable{X:Cx}{pins:List (Addr×Obj)}{σ:List (Option V)}{H H':Hp}{s:Shared}{h':Heap}
theorem Cx.Ok.nofr(ok:X.Ok){b:Addr}{o:Obj}(e:X.base.get? b=some o):b∉X.fs:=λhb=>by
 have:=(ok.funs.mem hb).1;rw[e]at this;cases this
theorem Inv.bs(I:Inv X pins σ H s):∀b o,X.base.get? b=some o->s.heap.get? b=some o/\H b=none:=λb o e=>
 ⟨I.base.keep b o (I.ok.bs b o e).1 (I.ok.bs b o e).2 (I.ok.nofr e) (I.ok.noex b o e),I.base.free b o (I.ok.bs b o e).1 (I.ok.bs b o e).2 (I.ok.noex b o e)⟩
theorem Inv.bk(I:Inv X pins σ H s):∀b o,X.base.get? b=some o->s.heap.get? b=some o:=λb o e=>(I.bs b o e).1
theorem Inv.mod(I:Inv X pins σ H s):Mod X.K X.mg X.base:=I.ok.mod
theorem Inv.kIn(I:Inv X pins σ H s):X.K.In s.heap:=I.ok.mod.kin.keeps I.bk
theorem Inv.fr(I:Inv X pins σ H s):∃m,Fr X.base X.env.locals s.heap m:=
 let⟨m,hn,_⟩:=I.loc
 ⟨m,hn,I.bk,Yd I.ok.bsz I.ok.above⟩
theorem Inv.lt(I:Inv X pins σ H s):X.env.locals<s.heap.objs.size:=let⟨_,hn,_⟩:=I.loc;hn.lt
theorem Inv.sz(I:Inv X pins σ H s):X.s₀.heap.objs.size<=s.heap.objs.size:=Yd I.ok.above (Si I.lt)
theorem Inv.nofs(I:Inv X pins σ H s){a:Addr}(h:s.heap.objs.size<=a):a∉X.fs:=λhb=>by
 obtain⟨_,o,ho,_⟩:=I.ok.funs.mem hb;exact absurd (Z1 (Zh ho) (Yd I.sz h)) (Y4 _)
theorem Inv.cne(I:Inv X pins σ H s):∀x c,X.env.cells.lookup x=some c->c≠X.env.locals:=λx c e z=>by
 obtain⟨v,o,ho,hd⟩:=I.cell x c e;obtain⟨m,⟨o',es,ep,ho',hd',_⟩,_⟩:=I.loc;rw[z,ho']at ho;cases ho;rw[hd']at hd;cases hd
theorem Inv.funs(I:Inv X pins σ H s):s.heap.FunFrames X.base X.outer:=by
 have all:∀(l:List Env),(∀b∈frs l,b∈X.fs)->X.s₀.heap.FunFrames X.base l->s.heap.FunFrames X.base l:=by
  intro l
  induction l with
  |nil=>intro _ _;trivial
  |cons env r ih=>
   intro hs hl;obtain⟨hk,⟨L,o,hf,hn,ho,hd⟩,hr⟩:=hl;have hL:L∈X.fs:=hs L (by unfold frs;rw[Uu,hf];exact Yp);obtain⟨sl,e⟩:=I.base.slot L o ho (I.ok.frf L hL) hL λz=>I.ok.exfs L z hL
   exact⟨hk,⟨L,_,hf,hn,e,hd⟩,ih (λb hb=>hs b (by unfold frs;rw[Uu,hf];exact Z8 _ hb)) hr⟩
 exact all X.outer (λ_ hb=>hb) I.ok.funs
theorem Inv.stack(I:Inv X pins σ H s):s.heap.FunFrames X.base X.stack:=by
 rcases I.ok.stk with e|⟨e,hf⟩
 ·rw[e];exact I.funs
 ·rw[e];obtain⟨m,hn,_⟩:=I.loc;refine .cons (by rw[I.ok.kind];decide) hf hn ?_ I.funs;exact Heap.get?_none_of_le (Yd I.ok.bsz I.ok.above)
theorem Inv.stkSub(I:Inv X pins σ H s):∀b∈frs X.stack,b∈X.env.locals::X.fs:=λb hb=>by
 rcases I.ok.stk with e|⟨e,hf⟩
 ·rw[e]at hb;exact Z8 _ hb
 ·rw[e]at hb;unfold frs at hb;rw[Uu,hf]at hb;exact hb
theorem Inv.stkFree(I:Inv X pins σ H s):∀b∈frs X.stack,H b=none:=λb hb=>by
 rcases Zi.mp (I.stkSub b hb)with e|hb
 ·rw[e];exact I.free
 ·obtain⟨_,o,ho,_⟩:=I.ok.funs.mem hb;exact I.base.free b o ho (I.ok.frf b hb) λz=>I.ok.exfs b z hb
theorem Inv.step{g':Array GenState}{t':Nat}{d':Drawn}{ch:List Addr}(I:Inv X pins σ H s)
  (hch:∀b∈ch,(b∈X.ex\/X.s₀.heap.objs.size<=b)/\b≠X.env.locals/\(∀x c,X.env.cells.lookup x=some c->c≠b)/\∀p∈X.pn++pins,p.1≠b)
  (keep:∀b o,b≠X.env.locals->b∉X.fs->b∉ch->s.heap.get? b=some o->H b=none->h'.get? b=some o)
  (slot:∀b o,b≠X.env.locals->b∈X.fs->b∉ch->s.heap.get? b=some o->H b=none->∃sl,h'.get? b=some { o with slots:=sl})(free:∀b o,b∉ch->s.heap.get? b=some o->H b=none->H' b=none)
  (there:∀b o,b∉ch->s.heap.get? b=some o->∃o',h'.get? b=some o')
  (tups:∀b xs,H b=some (.tup xs)->H' b=some (.tup xs))(frzs:∀b o u,H b=some (.frz o u)->H' b=some (.frz o u))(tbls:∀b ps,H b=some (.tbl ps)->∃more,H' b=some (.tbl (ps++more)))
  (ns:∀m,s.heap.Ns X.env.locals m->h'.Ns X.env.locals m)(hok:HOk X.prog X.w H' h')(hg:AllBare g'):
  Inv X pins σ H' { s with heap:=h',gens:=g',drawn:=d',toks:=t'}:=by
 have neL:∀b o,X.s₀.heap.get? b=some o->b≠X.env.locals:=λb o e=>Zv (Z1 (Zh e) I.ok.above)
 have neC:∀b o,X.s₀.heap.get? b=some o->b∉X.ex->b∉ch:=λb o e hx hb=>by
  rcases(hch b hb).1 with z|z
  ·exact hx z
  ·exact absurd (Z1 (Zh e) z) (Y4 _)
 have cellK:∀x c,X.env.cells.lookup x=some c->∀v,s.heap.IsCell c v->h'.IsCell c v:=λx c e v ⟨o,ho,hd⟩=>by
  have nch:c∉ch:=λz=>(hch c z).2.2.1 x c e rfl
  by_cases hc:c∈X.fs
  ·obtain⟨sl,q⟩:=slot c o (I.cne x c e) hc nch ho (I.freeC x c e);exact⟨_,q,hd⟩
  ·exact⟨o,keep c o (I.cne x c e) hc nch ho (I.freeC x c e),hd⟩
 refine⟨I.ok,I.os,hg,⟨λb o e n hb hx=>?_,λb o e n hb hx=>?_,λb o e n hx=>?_,λb o e hx=>?_,λb xs e=>tups b xs (I.base.tups b xs e),λb o xs e=>frzs b o xs (I.base.frzs b o xs e),λb ps e=>?_⟩,?_,λx c e=>?_,?_,λx c e=>?_,λp hp=>?_,hok,I.len⟩
 ·exact keep b o (neL b o e) hb (neC b o e hx) (I.base.keep b o e n hb hx) (I.base.free b o e n hx)
 ·obtain⟨sl,e1⟩:=I.base.slot b o e n hb hx;obtain⟨sl',e2⟩:=slot b _ (neL b o e) hb (neC b o e hx) e1 (I.base.free b o e n hx);exact⟨sl',e2⟩
 ·obtain⟨o',e1⟩:=I.base.there b o e hx;exact free b o' (neC b o e hx) e1 (I.base.free b o e n hx)
 ·obtain⟨o',e1⟩:=I.base.there b o e hx;exact there b o' (neC b o e hx) e1
 ·obtain⟨m1,e1⟩:=I.base.tbls b ps e;obtain⟨m2,e2⟩:=tbls b _ e1;exact⟨m1++m2,by rw[e2,Array.append_assoc]⟩
 ·obtain⟨m,hn,hl⟩:=I.loc;refine⟨m,ns m hn,λi x v e1 e2 e3=>?_⟩;obtain⟨u,r,l⟩:=hl i x v e1 e2 e3;refine⟨u,r,?_⟩;rcases l with l|⟨k,c,e,z⟩
  ·exact .inl l
  ·exact .inr ⟨k,c,e,cellK x c e _ z⟩
 ·obtain⟨v,z⟩:=I.cell x c e;exact⟨v,cellK x c e v z⟩
 ·obtain⟨m,⟨o,_,_,ho,_⟩,_⟩:=I.loc;exact free _ o (λz=>(hch _ z).2.1 rfl) ho I.free
 ·obtain⟨v,o,ho,hd⟩:=I.cell x c e;exact free c o (λz=>(hch c z).2.2.1 x c e rfl) ho (I.freeC x c e)
 ·obtain⟨e,n,ne,nf,d⟩:=I.pin p hp;have nch:p.1∉ch:=λz=>(hch p.1 z).2.2.2 p hp rfl
  exact⟨keep p.1 p.2 ne nf nch e n,free p.1 p.2 nch e n,ne,nf,d⟩
theorem Inv.un{t':Nat}(I:Inv X pins σ H s)(u:Un X.fs [] H H' s.heap h')(hok:HOk X.prog X.w H' h'):Inv X pins σ H' { s with heap:=h',toks:=t'}:=by
 obtain⟨m,⟨o,es,ep,ho,r⟩,_⟩:=id I.loc;obtain⟨sl,hL⟩:=u.any ho I.free qz
 exact I.step (g':=s.gens) (d':=s.drawn) (ch:=[]) (λ_ z=>nomatch z) (λb o _ hb _ e n=>u.keep b o e n hb qz) (λb o _ hb _ e n=>u.slot b o e n hb qz) (λb o _ e n=>u.free b o e n qz) (λb o _ e=>u.there b o e qz) u.tups u.frzs u.tbls (λm' hm=>by
  obtain⟨o',es',ep',ho',r'⟩:=hm;rw[ho]at ho';cases ho'
  exact⟨_,es',ep',hL,r'⟩) hok I.bare
theorem Inv.call{g':Array GenState}{t':Nat}{d':Drawn}{ch:List Addr}(I:Inv X pins σ H s)(u:Un (frs X.stack) ch H H' s.heap h')(hok:HOk X.prog X.w H' h')(hg:AllBare g')
  (hch:∀b∈ch,(b∈X.ex\/X.s₀.heap.objs.size<=b)/\b≠X.env.locals/\(∀x c,X.env.cells.lookup x=some c->c≠b)/\∀p∈X.pn++pins,p.1≠b):
  Inv X pins σ H' { s with heap:=h',gens:=g',drawn:=d',toks:=t'}:=by
 obtain⟨m,⟨o,es,ep,ho,r⟩,_⟩:=id I.loc;obtain⟨sl,hL⟩:=u.any ho I.free λz=>(hch _ z).2.1 rfl
 exact I.step (ch:=ch) hch (λb o hL hb hc e n=>u.keep b o e n (λz=>(Zi.mp (I.stkSub b z)).elim hL hb) hc) (λb o _ _ hc e n=>u.any e n hc) (λb o hc e n=>u.free b o e n hc) (λb o hc e=>u.there b o e hc) u.tups u.frzs u.tbls (λm' hm=>by
  obtain⟨o',es',ep',ho',r'⟩:=hm;rw[ho]at ho';cases ho'
  exact⟨_,es',ep',hL,r'⟩) hok hg
theorem Inv.turned{t':Nat}{it:Addr}(I:Inv X pins σ H s)(k:∀b o,b≠it->s.heap.get? b=some o->h'.get? b=some o)(hn:H it=none)(hL:it≠X.env.locals)
  (h1:it∈X.ex\/X.s₀.heap.objs.size<=it)(h2:∀x c,X.env.cells.lookup x=some c->c≠it)(h3:∀p∈X.pn++pins,p.1≠it):Inv X pins σ H { s with heap:=h',toks:=t'}:=by
 have nit:∀b u,H b=some u->b≠it:=λb u e z=>by rw[z,hn]at e;cases e
 refine I.step (g':=s.gens) (d':=s.drawn) (ch:=[it]) (λb hb=>?_) (λb o _ _ hc e _=>k b o (λz=>hc (by simp[z])) e) (λb o _ _ hc e _=>⟨o.slots,k b o (λz=>hc (by simp[z])) e⟩) (λ_ _ _ _ n=>n)
  (λb o hc e=>⟨o,k b o (λz=>hc (by simp[z])) e⟩) (λ_ _ e=>e) (λ_ _ _ e=>e) (λb ps e=>⟨#[],by rw[e];simp⟩) (λm hm=>?_) (λb u e=>?_) I.bare
 ·have e:b=it:=by simpa using hb
  subst e;exact⟨h1,hL,h2,h3⟩
 ·obtain⟨o,es,ep,ho,r⟩:=hm;exact⟨o,es,ep,k _ o (Ne.symm hL) ho,r⟩
 ·refine(I.hok b u e).stay (λc v hc q=>k c v ?_ q) (λ_ q=>q) λ_ _ q=>q
  rcases hc with z|z
  ·rw[z];exact nit b u e
  ·exact nit c _ z
theorem Inv.tok(I:Inv X pins σ H s)(t:Nat):Inv X pins σ H { s with toks:=t}:=I.un (h':=s.heap) (t':=t) Un.refl I.hok
theorem Inv.kept{t':Nat}(I:Inv X pins σ H s)(k:∀b u,s.heap.get? b=some u->h'.get? b=some u):Inv X pins σ H { s with heap:=h',toks:=t'}:=I.un (Un.kept k) (I.hok.kept k)
theorem Inv.laid{a:Addr}{o:HO}{t':Nat}(I:Inv X pins σ H s)(k:∀b u,s.heap.get? b=some u->h'.get? b=some u)(hp:s.heap.objs.size<=a)(new:a1s X.prog X.w (upd H a o) h' a o):
  Inv X pins σ (upd H a o) { s with heap:=h',toks:=t'}:=I.un (Un.laid k hp (I.hok.fresh hp)) (I.hok.laid k hp new)
theorem Inv.write{x e:Addr}{o:HO}{t':Nat}(I:Inv X pins σ H s)(mu:Mut (H x))(he:e=x\/H e=some (.own x))(k:∀b u,b≠e->s.heap.get? b=some u->h'.get? b=some u)(heo:∃u,h'.get? e=some u)
  (new:a1s X.prog X.w (upd H x o) h' x o):Inv X pins σ (upd H x o) { s with heap:=h',toks:=t'}:=I.un (Un.write mu he k heo) (I.hok.write mu he k heo new)
theorem Inv.pins_of{pins':List (Addr×Obj)}(I:Inv X pins σ H s)(h:∀p∈pins',s.heap.get? p.1=some p.2/\H p.1=none/\p.1≠X.env.locals/\p.1∉X.fs/\∀v,p.2.data≠.cell v):Inv X pins' σ H s:=
 ⟨I.ok,I.os,I.bare,I.base,I.loc,I.cell,I.free,I.freeC,λp hp=>(Yt.mp hp).elim (λz=>I.pin p (S6 _ z)) (h p),I.hok,I.len⟩
theorem b8m{N:List Str}(hN:N.Nodup){i j:Nat}{x:Str}(a:N[i]? =some x)(b:N[j]? =some x):i=j:=by
 obtain⟨h1,e1⟩:=Z7.mp a;obtain⟨h2,e2⟩:=Z7.mp b;exact(List.getElem_inj hN).mp (e1.trans e2.symm)
theorem b6v{M:Model}{A:Around}{E:Value->Shared->Prop}{i:Nat}{x:Str}{v:V}{u:Value}{Q:Unit->Shared->Prop}(I:Inv X pins σ H s)(hN:X.N.Nodup)(hi:X.N[i]? =some x)(hx:Loc X.env.scope x)(r:RelV v u)
  (h:∀s',Inv X pins (σ.set i (some v)) H s'->(∃a,Heap.SameBut a s.heap s'.heap/\(a=X.env.locals\/X.env.cells.lookup x=some a))->Q () s')(hf:X.fn x=true\/X.env.scope.names.lookup x=some .local:=by first|exact .inl rfl|exact .inr rfl|assumption):wpAny M A (storeName X.env x u) Q E s:=by
 obtain⟨m,hn,hl⟩:=id I.loc;have hcls:(X.env.scope.kind==.class|| (X.env.scope.kind==.module&&X.env.locals !=X.env.globals))=false:=by rw[I.ok.kind];rfl
 have hiσ:i<σ.length:=by rw[I.len];exact(Z7.mp hi).1
 have cne:=I.cne;have tracked:∀{a:Addr}{h':Heap},(∃o,s.heap.get? a=some o/\H a=none)->Heap.SameBut a s.heap h'->HOk X.prog X.w H h':=λ{a h'} ha hs b ob e=>by
  obtain⟨_,_,hfree⟩:=ha;refine(I.hok b ob e).stay (λc w' hc q=>(hs.2 c ?_).trans q) (λ_ q=>q) λ_ _ q=>q
  rintro rfl
  rcases hc with rfl|hc
  ·rw[hfree]at e;cases e
  ·rw[hfree]at hc;cases hc
 rcases hx with hk|hk
 ·refine wpAny_storeName_local hk hn (λh' hn' hs=>?_) hcls;obtain⟨oL,_,_,hoL,_⟩:=id hn;refine h _ ⟨I.ok,I.os,I.bare,⟨λb o e n hb hx=>?_,λb o e n hb hx=>?_,I.base.free,λb o e hx=>?_,I.base.tups,I.base.frzs,I.base.tbls⟩,⟨_,hn',λj y v' e1 e2 e3=>?_⟩,λy c e=>?_,I.free,I.freeC,λp hp=>?_,tracked ⟨oL,hoL,I.free⟩ hs,by simpa using I.len⟩ ⟨_,hs,.inl rfl⟩
  ·exact(hs.2 b (Zv (Z1 (Zh e) I.ok.above))).trans (I.base.keep b o e n hb hx)
  ·obtain⟨sl,e1⟩:=I.base.slot b o e n hb hx;exact⟨sl,(hs.2 b (Zv (Z1 (Zh e) I.ok.above))).trans e1⟩
  ·obtain⟨o',e1⟩:=I.base.there b o e hx;exact⟨o',(hs.2 b (Zv (Z1 (Zh e) I.ok.above))).trans e1⟩
  ·by_cases hj:j=i
   ·subst hj;rw[hi]at e1;cases e1;rw[Sk hiσ]at e2;cases e2;exact⟨u,r,.inl ⟨hk,qz⟩⟩
   ·rw[S7 (Ne.symm hj)]at e2;obtain⟨u',r',q⟩:=hl j y v' e1 e2 e3;refine⟨u',r',?_⟩;rcases q with⟨k,e⟩|⟨k,c,e,z⟩
    ·refine .inl ⟨k,?_⟩;have:y≠x:=λe=>hj (b8m hN e1 (e▸hi))
     simp[this,e]
    ·exact .inr ⟨k,c,e,z.sameBut hs (cne y c e)⟩
  ·obtain⟨w',z⟩:=I.cell y c e;exact⟨w',z.sameBut hs (cne y c e)⟩
  ·obtain⟨e,n,ne,nf,d⟩:=I.pin p hp;exact⟨(hs.2 p.1 ne).trans e,n,ne,nf,d⟩
 ·have hfn:X.fn x=true:=by
   rcases hf with z|z
   ·exact z
   ·rw[z]at hk;cases hk
  obtain⟨c,hc⟩:=I.ok.has x (.inl hk);obtain⟨w',z⟩:=I.cell x c hc;refine wpAny_storeName_cell I.ok.kind hk hc z (λh' hc' hs=>?_);obtain⟨oc,hoc,hocd⟩:=id z;refine h { s with heap:=h'} ⟨I.ok,I.os,I.bare,⟨λb o e n hb hx=>?_,λb o e n hb hx=>?_,I.base.free,λb o e hx=>?_,I.base.tups,I.base.frzs,I.base.tbls⟩,⟨m,hn.sameBut hs (Ne.symm (cne x c hc)),λj y v' e1 e2 e3=>?_⟩,λy c' e=>?_,I.free,I.freeC,λp hp=>?_,tracked ⟨oc,hoc,I.freeC x c hc⟩ hs,by simpa using I.len⟩ ⟨c,hs,.inr hc⟩
  ·exact(hs.2 b (Zv (Z1 (Zh e) (I.ok.cab x c hfn hc)))).trans (I.base.keep b o e n hb hx)
  ·obtain⟨sl,e1⟩:=I.base.slot b o e n hb hx;exact⟨sl,(hs.2 b (Zv (Z1 (Zh e) (I.ok.cab x c hfn hc)))).trans e1⟩
  ·obtain⟨o',e1⟩:=I.base.there b o e hx;exact⟨o',(hs.2 b (Zv (Z1 (Zh e) (I.ok.cab x c hfn hc)))).trans e1⟩
  ·by_cases hj:j=i
   ·subst hj;rw[hi]at e1;cases e1;rw[Sk hiσ]at e2;cases e2;exact⟨u,r,.inr ⟨.inl hk,c,hc,hc'⟩⟩
   ·rw[S7 (Ne.symm hj)]at e2;obtain⟨u',r',q⟩:=hl j y v' e1 e2 e3;refine⟨u',r',?_⟩;rcases q with q|⟨k,c',e,z'⟩
    ·exact .inl q
    ·refine .inr ⟨k,c',e,z'.sameBut hs ?_⟩
     rintro rfl
     exact hj (b8m hN e1 (I.ok.inj _ _ _ e hc▸hi))
  ·by_cases hcc:c'=c
   ·subst hcc;exact⟨_,hc'⟩
   ·obtain⟨w2,z2⟩:=I.cell y c' e;exact⟨w2,z2.sameBut hs hcc⟩
  ·obtain⟨e,n,ne,nf,d⟩:=I.pin p hp;refine⟨(hs.2 p.1 ?_).trans e,n,ne,nf,d⟩;intro q;rw[q,hoc]at e;have q':oc=p.2:=Zl e;exact d w' (by rw[<-q'];exact hocd)
theorem b3p{M:Model}{A:Around}{E:Value->Shared->Prop}{i:Nat}{x:Str}{v:V}{u:Value}{Q:Unit->Shared->Prop}(I:Inv X pins σ H s)(hN:X.N.Nodup)(hi:X.N[i]? =some x)(hx:Loc X.env.scope x)(r:RelV v u)
  (h:∀s',Inv X pins (σ.set i (some v)) H s'->Q () s')(hf:X.fn x=true\/X.env.scope.names.lookup x=some .local:=by first|exact .inl rfl|exact .inr rfl|assumption):wpAny M A (storeName X.env x u) Q E s:=
 b6v I hN hi hx r (λs' I' _=>h s' I') hf
theorem Inv.call'{s':Shared}{ch:List Addr}(I:Inv X pins σ H s)(ho:s'.os=s.os)(u:Un (frs X.stack) ch H H' s.heap s'.heap)(hok:HOk X.prog X.w H' s'.heap)(hg:AllBare s'.gens)
  (hch:∀b∈ch,(b∈X.ex\/X.s₀.heap.objs.size<=b)/\b≠X.env.locals/\(∀x c,X.env.cells.lookup x=some c->c≠b)/\∀p∈X.pn++pins,p.1≠b):Inv X pins σ H' s':=by
 obtain⟨h',g',d',t',o'⟩:=s';have e:o'=s.os:=ho;subst e;exact I.call (g':=g') (t':=t') (d':=d') u hok hg hch
end
abbrev XK:=Value->Option Addr->Hp->Prop
abbrev St:=List (Option V)
abbrev VK:=V->Hp->Prop
abbrev TE:=St->Hp->VK->Prop
abbrev TT:=St->Hp->(Bool->Hp->Prop)->Prop
abbrev TA:=St->Hp->(List V->Hp->Prop)->Prop
structure Ends where
 nx:St->Hp->Prop
 rt:VK
 bk:St->Hp->Prop:=λ_ _=>False
 ct:St->Hp->Prop:=λ_ _=>False
abbrev TS:=Ends->St->Hp->Prop
def EP(X:Cx)(pins:List (Addr×Obj))(σ:St)(Q:VK)(u:Value)(s':Shared):Prop:=∃v H',Inv X pins σ H' s'/\RelV v u/\Q v H'
def TP(X:Cx)(pins:List (Addr×Obj))(σ:St)(Q:Bool->Hp->Prop)(b:Bool)(s':Shared):Prop:=∃H',Inv X pins σ H' s'/\Q b H'
def AP(X:Cx)(pins:List (Addr×Obj))(σ:St)(Q:List V->Hp->Prop)(us:List Value)(s':Shared):Prop:=∃vs H',Inv X pins σ H' s'/\Vals vs us/\Q vs H'
def SP(X:Cx)(pins:List (Addr×Obj))(D:Ends)(f:Flow)(s':Shared):Prop:=
 match f with
 | .next=>∃σ' H',Inv X pins σ' H' s'/\D.nx σ' H'
 | .brk=>∃σ' H',Inv X pins σ' H' s'/\D.bk σ' H'
 | .cont=>∃σ' H',Inv X pins σ' H' s'/\D.ct σ' H'
 | .ret u=>∃v σ' H',Inv X pins σ' H' s'/\RelV v u/\D.rt v H'
def PE(X:Cx)(e:Expr)(t:TE):Prop:=
 ∀(pins:List (Addr×Obj))(s:Shared)(σ:St)(H:Hp)(Q:VK),Inv X pins σ H s->t σ H Q->wpAny (model X.prog X.w) X.A (eval e X.env) (EP X pins σ Q) X.xe s
def PT(X:Cx)(e:Expr)(t:TT):Prop:=
 ∀(pins:List (Addr×Obj))(s:Shared)(σ:St)(H:Hp)(Q:Bool->Hp->Prop),Inv X pins σ H s->t σ H Q->wpAny (model X.prog X.w) X.A (isTrue e X.env (eval e X.env)) (TP X pins σ Q) X.xe s
def PW(X:Cx)(e:Expr)(t:TT):Prop:=
 ∀(whole:Sem Value)(pins:List (Addr×Obj))(s:Shared)(σ:St)(H:Hp)(Q:Bool->Hp->Prop),Inv X pins σ H s->t σ H Q->wpAny (model X.prog X.w) X.A (isTrue e X.env whole) (TP X pins σ Q) X.xe s
theorem PW.pt{X:Cx}{e:Expr}{t:TT}(h:PW X e t):PT X e t:=h _
def PA(X:Cx)(es:List Expr)(t:TA):Prop:=
 ∀(pos:Pos)(pins:List (Addr×Obj))(s:Shared)(σ:St)(H:Hp)(Q:List V->Hp->Prop),Inv X pins σ H s->t σ H Q->wpAny (model X.prog X.w) X.A (spliced (backTo pos (starEach es X.env))) (AP X pins σ Q) X.xe s
def PS(X:Cx)(st:Stmt)(t:TS):Prop:=
 ∀(pins:List (Addr×Obj))(s:Shared)(σ:St)(H:Hp)(D:Ends),Inv X pins σ H s->t D σ H->wpAny (model X.prog X.w) X.A (exec st X.env) (SP X pins D) X.xe s
def PSs(X:Cx)(st:List Stmt)(t:TS):Prop:=
 ∀(pins:List (Addr×Obj))(s:Shared)(σ:St)(H:Hp)(D:Ends),Inv X pins σ H s->t D σ H->wpAny (model X.prog X.w) X.A (execs st X.env) (SP X pins D) X.xe s
theorem thn{α:Type}{t:Sem α}{Q Q':α->Shared->Prop}{M:Model}{A:Around}{E:Value->Shared->Prop}{s:Shared}(h:wpAny M A t Q E s)(hQ:∀a s,Q a s->Q' a s):wpAny M A t Q' E s:=Xw h hQ λ_ _ x=>x
section
variable{X:Cx}
def tVar(i:Nat):TE:=λσ H Q=>∃v,σ[i]? =some (some v)/\Q v H
def tC(v:V):TE:=λ_ H Q=>Q v H
theorem pe_var{i:Nat}{x:Str}{pos:Pos}(hN:X.N[i]? =some x)(hv:Vis X.env.scope x)(hd:(x==("__debug__":Str))=false:=by decide)(hcd:(x==("__classdict__":Str))=false:=by decide):PE X (.Name x pos) (tVar i):=by
 intro pins s σ H Q I h;obtain⟨v,e,h⟩:=h;obtain⟨m,hn,hl⟩:=I.loc;obtain⟨u,r,l⟩:=hl i x v hN e hv;have fin:EP X pins σ Q u s:=⟨v,H,I,r,h⟩;rcases l with⟨hk,hm⟩|⟨hk,c,hc,hcell⟩
 ·exact Rn (wpAny_loadName_local I.ok.kind hk hn hm fin) hd
 ·rcases hk with hk|hk
  ·exact Rn (wpAny_loadName_cell I.ok.kind hk hc hcell fin) hd
  ·exact Rn (wpAny_loadName_free I.ok.kind hk hc hcell fin hcd) hd
theorem a0b{i j pos}:PE X (.Constant (.int i) j pos) (tC (.int i)):=λ_ _ _ H _ I h=>wpAny_Constant_int ⟨.int i,H,I.tok _,⟨_,rfl⟩,h⟩
theorem a6u{b j pos}:PE X (.Constant (.bool b) j pos) (tC (.bl b)):=λ_ _ _ H _ I h=>Constant_bool ⟨.bl b,H,I,rfl,h⟩
theorem a3n{j pos}:PE X (.Constant .none j pos) (tC .non):=λ_ _ _ H _ I h=>Constant_none ⟨.non,H,I,rfl,h⟩
theorem a0j{x j pos}:PE X (.Constant (.str x) j pos) (tC (.str x)):=λ_ _ _ H _ I h=>R0 ⟨.str x,H,I.tok _,⟨_,rfl⟩,h⟩
def Gl(X:Cx)(x:Str):Prop:=X.env.kindOf x=some .globalImplicit
theorem a9k{E:Value->Shared->Prop}{pins:List (Addr×Obj)}{s:Shared}{σ:St}{H:Hp}{x:Str}{u:Value}{pos:Pos}{Q:Value->Shared->Prop}(I:Inv X pins σ H s)(hg:Gl X x)(hm:X.mg x=some u)(h:Q u s)
  (hd:(x==("__debug__":Str))=false:=by decide):wpAny (model X.prog X.w) X.A (eval (.Name x pos) X.env) Q E s:=
 Tz I.ok.kind hg (Calls.loadGlobal_global (by rw[I.ok.glob];exact I.mod.glob.keeps I.bk) hm h) hd
theorem a4w{E:Value->Shared->Prop}{pins:List (Addr×Obj)}{s:Shared}{σ:St}{H:Hp}{x:Str}{u:Value}{pos:Pos}{Q:Value->Shared->Prop}(I:Inv X pins σ H s)(hg:Gl X x)(hm:X.mg x=none)(hv:bootBuiltins x=some u)(h:Q u s)
  (hn:x≠"__name__":=by decide)(hd:(x==("__debug__":Str))=false:=by decide):wpAny (model X.prog X.w) X.A (eval (.Name x pos) X.env) Q E s:=by
 obtain⟨mb,h1,h2⟩:=I.mod.blt;exact Tz I.ok.kind hg (Calls.loadGlobal_builtin (by rw[I.ok.glob];exact I.mod.glob.keeps I.bk) hm (by rw[I.ok.blt];exact h1.keeps I.bk) ((h2 x hn).trans hv) h) hd
theorem b2p{x:Str}{v:V}{u:Value}{pos:Pos}(hg:Gl X x)(hm:X.mg x=some u)(r:RelV v u)(hd:(x==("__debug__":Str))=false:=by decide):PE X (.Name x pos) (tC v):=
 λ_ _ _ H _ I h=>a9k I hg hm ⟨v,H,I,r,h⟩ hd
theorem pe_bltn{x:Str}{v:V}{u:Value}{pos:Pos}(hg:Gl X x)(hm:X.mg x=none)(hv:bootBuiltins x=some u)(r:RelV v u)(hn:x≠"__name__":=by decide)(hd:(x==("__debug__":Str))=false:=by decide):PE X (.Name x pos) (tC v):=
 λ_ _ _ H _ I h=>a4w I hg hm hv ⟨v,H,I,r,h⟩ hn hd
variable{a b:Expr}{ta tb:TE}{pos:Pos}
variable{tA tB':TT}{rest:List Expr}
def tAnd(t u:TT):TT:=λσ H Q=>t σ H λc H1=>if c=true then u σ H1 Q else Q false H1
def tOr(t u:TT):TT:=λσ H Q=>t σ H λc H1=>if c=true then Q true H1 else u σ H1 Q
def tNot(t:TT):TT:=λσ H Q=>t σ H λc H1=>Q (!c) H1
theorem a8c(ha:PT X a tA):PW X (.BoolOp .And [a] pos) tA:=by
 intro wh pins s σ H Q I h;refine isTrue_and (thn (ha pins s σ H Q I h) λc s1 e=>?_);cases c with
 |true=>exact isTrue_and_nil e
 |false=>exact e
theorem a7c(ha:PT X a tA):PW X (.BoolOp .Or [a] pos) tA:=by
 intro wh pins s σ H Q I h;refine isTrue_or (thn (ha pins s σ H Q I h) λc s1 e=>?_);cases c with
 |false=>exact isTrue_or_nil e
 |true=>exact e
theorem a9l(ha:PT X a tA)(hb:PW X (.BoolOp .And (b::rest) pos) tB'):PW X (.BoolOp .And (a::b::rest) pos) (tAnd tA tB'):=by
 intro wh pins s σ H Q I h;refine isTrue_and (thn (ha pins s σ H _ I h) λc s1 z9=>?_);obtain⟨H1,I1,q1⟩:=z9;cases c with
 |true=>exact hb wh pins s1 σ H1 Q I1 q1
 |false=>exact⟨H1,I1,q1⟩
theorem a6v(ha:PT X a tA)(hb:PW X (.BoolOp .Or (b::rest) pos) tB'):PW X (.BoolOp .Or (a::b::rest) pos) (tOr tA tB'):=by
 intro wh pins s σ H Q I h;refine isTrue_or (thn (ha pins s σ H _ I h) λc s1 z9=>?_);obtain⟨H1,I1,q1⟩:=z9;cases c with
 |true=>exact⟨H1,I1,q1⟩
 |false=>exact hb wh pins s1 σ H1 Q I1 q1
theorem a9m(ha:PT X a tA):PT X (.UnaryOp .Not a pos) (tNot tA):=by
 intro pins s σ H Q I h;exact isTrue_not (ha pins s σ H (λc H1=>Q (!c) H1) I h)
def tAndV(ta tb:TE):TE:=λσ H Q=>ta σ H λx H1=>∃c,x=.bl c/\if c=true then tb σ H1 Q else Q (.bl false) H1
def tOrV(ta tb:TE):TE:=λσ H Q=>ta σ H λx H1=>∃c,x=.bl c/\if c=true then Q (.bl true) H1 else tb σ H1 Q
theorem a2p{op}{t:TE}(h:PE X a t):PE X (.BoolOp op [a] pos) t:=λpins s σ H Q I hw=>BoolOp_one (h pins s σ H Q I hw)
theorem pe_and(ha:PE X a ta)(hb:PE X (.BoolOp .And (b::rest) pos) tb):PE X (.BoolOp .And (a::b::rest) pos) (tAndV ta tb):=by
 intro pins s σ H Q I h;refine BoolOp_and (thn (ha pins s σ H _ I h) λv s1 z9=>?_);obtain⟨x,H1,I1,r1,q1⟩:=z9;obtain⟨c,rfl,q1⟩:=q1;cases r1;refine Xu ?_;cases c with
 |true=>exact hb pins s1 σ H1 Q I1 q1
 |false=>exact⟨.bl false,H1,I1,rfl,q1⟩
theorem pe_or(ha:PE X a ta)(hb:PE X (.BoolOp .Or (b::rest) pos) tb):PE X (.BoolOp .Or (a::b::rest) pos) (tOrV ta tb):=by
 intro pins s σ H Q I h;refine BoolOp_or (thn (ha pins s σ H _ I h) λv s1 z9=>?_);obtain⟨x,H1,I1,r1,q1⟩:=z9;obtain⟨c,rfl,q1⟩:=q1;cases r1;refine Xu ?_;cases c with
 |false=>exact hb pins s1 σ H1 Q I1 q1
 |true=>exact⟨.bl true,H1,I1,rfl,q1⟩
def tIf(t:TT)(ta tb:TE):TE:=λσ H Q=>t σ H λc H1=>if c=true then ta σ H1 Q else tb σ H1 Q
theorem a8i{c:Expr}(hc:PT X c tA)(ha:PE X a ta)(hb:PE X b tb):PE X (.IfExp c a b pos) (tIf tA ta tb):=by
 intro pins s σ H Q I h;refine wpAny_IfExp (thn (hc pins s σ H _ I h) λd s1 z9=>?_);obtain⟨H1,I1,q1⟩:=z9;cases d with
 |true=>exact ha pins s1 σ H1 Q I1 q1
 |false=>exact hb pins s1 σ H1 Q I1 q1
end
def SqL(K:W.Frag)(H:Hp)(a:Addr)(xs:List V):Prop:=
 Rd H a (.lst xs)\/
  ∃(o:Obj)(its:Array Value)(n:Nat),K.lookup a=some o/\o.cls=.type "list"/\o.dict=none/\o.data=.seq its n/\its.size<=sizeLine/\Vals xs its.toList
def SqT(K:W.Frag)(H:Hp)(a:Addr)(xs:List V):Prop:=
 Rd H a (.tup xs)\/
  ∃(o:Obj)(its:Array Value)(n:Nat),K.lookup a=some o/\o.cls=.type "tuple"/\o.data=.seq its n/\its.size<=sizeLine/\Vals xs its.toList
def absV:Value->Option V
 | .none=>some .non
 | .bool b=>some (.bl b)
 | .int i _=>some (.int i)
 | .str x _=>some (.str x)
 | .bytes b _=>some (.byt b)
 | .float b _=>some (.flt b)
 | .ref a=>some (.ref a)
 | .type n=>some (.ty n)
 |_=>none
theorem RelV.abs{x:V}{u:Value}(r:RelV x u):absV u=some x:=by
 cases x with
 |non=>cases r;rfl
 |bl _=>cases r;rfl
 |int _=>obtain⟨t,rfl⟩:=r;rfl
 |str _=>obtain⟨t,rfl⟩:=r;rfl
 |byt _=>obtain⟨t,rfl⟩:=r;rfl
 |flt _=>obtain⟨t,rfl⟩:=r;rfl
 |ref _=>cases r;rfl
 |ty _=>cases r;rfl
theorem RelV.inj{x y:V}{u:Value}(r:RelV x u)(q:RelV y u):x=y:=Zl (r.abs.symm.trans q.abs)
theorem Vals.inj{xs ys:List V}{us:List Value}(h:Vals xs us)(g:Vals ys us):xs=ys:=by
 induction h generalizing ys with
 |nil=>cases g;rfl
 |cons r _ ih=>cases g with
  |cons r' t'=>rw[r.inj r',ih t']
section
variable{X:Cx}{pins:List (Addr×Obj)}{σ:St}{H:Hp}{s:Shared}{a:Addr}{xs ys:List V}
theorem SqL.of{K:W.Frag}(h:H a=some (.lst xs)):SqL K H a xs:=.inl (.inl h)
theorem SqT.of{K:W.Frag}(h:H a=some (.tup xs)):SqT K H a xs:=.inl (.inl h)
theorem Inv.list(I:Inv X pins σ H s)(h:SqL X.K H a xs):∃its:List Value,Vals xs its/\PlainL s.heap a its.toArray/\xs.length<=sizeLine:=by
 rcases h with h|⟨o,its,n,hk,hc,hd,hs,hz,r⟩
 ·obtain⟨z,its,n,r,e⟩:=h.ok I.hok;exact⟨its,r,⟨_,n,e,rfl,rfl,rfl⟩,z⟩
 ·refine⟨its.toList,r,⟨o,n,I.kIn a o hk,hc,hd,by simpa using hs⟩,?_⟩;have e:=r.length;simp only[Xl]at e;omega
theorem Inv.tuple(I:Inv X pins σ H s)(h:SqT X.K H a xs):∃its:List Value,Vals xs its/\IsTup s.heap a its.toArray/\xs.length<=sizeLine:=by
 rcases h with h|⟨o,its,n,hk,hc,hs,hz,r⟩
 ·obtain⟨z,its,r,p⟩:=h.ok I.hok;exact⟨its,r,p,z⟩
 ·refine⟨its.toList,r,⟨o,I.kIn a o hk,hc,n,by simpa using hs⟩,?_⟩;have e:=r.length;simp only[Xl]at e;omega
theorem Inv.list_inj(I:Inv X pins σ H s)(h:SqL X.K H a xs)(h':SqL X.K H a ys):xs=ys:=by
 obtain⟨its,r,⟨o,n,e,_,_,d⟩,_⟩:=I.list h;obtain⟨its',r',⟨o',n',e',_,_,d'⟩,_⟩:=I.list h';rw[e]at e';cases e';rw[d]at d'
 injection d' with d1 _
 have:its=its':=by simpa using Y0 Array.toList d1
 subst this;exact r.inj r'
theorem Inv.tuple_inj(I:Inv X pins σ H s)(h:SqT X.K H a xs)(h':SqT X.K H a ys):xs=ys:=by
 obtain⟨its,r,⟨o,e,_,n,d⟩,_⟩:=I.tuple h;obtain⟨its',r',⟨o',e',_,n',d'⟩,_⟩:=I.tuple h';rw[e]at e';cases e';rw[d]at d'
 injection d' with d1 _
 have:its=its':=by simpa using Y0 Array.toList d1
 subst this;exact r.inj r'
end
abbrev Cx.wish(X:Cx)(E:Value->Shared->Prop):Cx:={ X with xe:=E}
abbrev Cx.nox(X:Cx):Cx:=X.wish λ_ _=>False
theorem Cx.Ok.wish{X:Cx}(ok:X.Ok)(E:Value->Shared->Prop):(X.wish E).Ok:=
 ⟨ok.mod,ok.kind,ok.glob,ok.blt,ok.above,ok.inj,ok.has,ok.cab,ok.hd,ok.frames,ok.stk,ok.exf,ok.bs,ok.bsz,ok.noex,ok.exfs,ok.funs,ok.frf⟩
theorem Cx.Ok.unwish{X:Cx}{E:Value->Shared->Prop}(ok:(X.wish E).Ok):X.Ok:=
 ⟨ok.mod,ok.kind,ok.glob,ok.blt,ok.above,ok.inj,ok.has,ok.cab,ok.hd,ok.frames,ok.stk,ok.exf,ok.bs,ok.bsz,ok.noex,ok.exfs,ok.funs,ok.frf⟩
section
variable{X:Cx}{pins:List (Addr×Obj)}{σ:St}{H:Hp}{s:Shared}{E:Value->Shared->Prop}
theorem Inv.wish(I:Inv X pins σ H s)(E:Value->Shared->Prop):Inv (X.wish E) pins σ H s:=⟨I.ok.wish E,I.os,I.bare,I.base,I.loc,I.cell,I.free,I.freeC,I.pin,I.hok,I.len⟩
theorem Inv.unwish(I:Inv (X.wish E) pins σ H s):Inv X pins σ H s:=⟨I.ok.unwish,I.os,I.bare,I.base,I.loc,I.cell,I.free,I.freeC,I.pin,I.hok,I.len⟩
theorem SP.unwish{D:Ends}{f:Flow}{s':Shared}(h:SP (X.wish E) pins D f s'):SP X pins D f s':=by
 cases f with
 |next=>obtain⟨σ',H',I,q⟩:=h;exact⟨σ',H',I.unwish,q⟩
 |brk=>obtain⟨σ',H',I,q⟩:=h;exact⟨σ',H',I.unwish,q⟩
 |cont=>obtain⟨σ',H',I,q⟩:=h;exact⟨σ',H',I.unwish,q⟩
 |ret u=>obtain⟨v,σ',H',I,r,q⟩:=h;exact⟨v,σ',H',I.unwish,r,q⟩
theorem PSs.nox{st:List Stmt}{t:TS}(h:PSs X.nox st t):PSs X st t:=λpins s σ H D I hw=>
 Xw (h pins s σ H D (I.wish _) hw) (λ_ _ q=>q.unwish) λ_ _ z=>False.elim z
end
section
variable{X:Cx}{st:Stmt}{rest:List Stmt}{t u:TS}{e:Expr}{te:TE}{pos:Pos}
def tNext:TS:=λD σ H=>D.nx σ H
def tSeq(t u:TS):TS:=λD σ H=>t { D with nx:=u D} σ H
theorem a0u:PSs X [] tNext:=λ_ _ σ H _ I h=>W2 ⟨σ,H,I,h⟩
theorem a0g(h1:PS X st t)(h2:PSs X rest u):PSs X (st::rest) (tSeq t u):=by
 intro pins s σ H D I h;refine Vh (thn (h1 pins s σ H { D with nx:=u D} I h) λf s1 q=>?_);cases f with
 |next=>
  obtain⟨σ',H',I',q⟩:=q;exact h2 pins s1 σ' H' D I' q
 |ret v=>exact q
 |brk=>exact q
 |cont=>exact q
theorem a0h(h1:PS X st t):PSs X [st] t:=by
 intro pins s σ H D I h;refine Vh (thn (h1 pins s σ H D I h) λf s1 q=>?_);cases f with
 |next=>exact W2 q
 |ret v=>exact q
 |brk=>exact q
 |cont=>exact q
theorem Inv.quiet{pins:List (Addr×Obj)}{σ:St}{H:Hp}{s:Shared}(I:Inv X pins σ H s):interactive X.env=false:=by simp[interactive,I.ok.kind]
def tDrop(te:TE):TS:=λD σ H=>te σ H λ_ H1=>D.nx σ H1
theorem a4m(he:PE X e te)(hs:swapsWith e none pos.line X.env=pure false:=by rfl):PS X (.Expr e pos) (tDrop te):=by
 intro pins s σ H D I h;exact wpAny_Expr_any (thn (he pins s σ H _ I h) λv s1 ⟨x,H1,I1,r1,q1⟩=>⟨σ,H1,I1,q1⟩) I.quiet hs
def tRet(te:TE):TS:=λD σ H=>te σ H D.rt
theorem a0t(he:PE X e te):PS X (.Return (some e) pos) (tRet te):=by
 intro pins s σ H D I h;exact U8 (thn (he pins s σ H _ I h) λv s1 ⟨x,H1,I1,r1,q1⟩=>⟨x,σ,H1,I1,r1,q1⟩)
def tIfS(c:TT)(t u:TS):TS:=λD σ H=>c σ H λb H1=>if b=true then t D σ H1 else u D σ H1
theorem a1a{c:Expr}{a b:List Stmt}{tc:TT}(hc:PT X c tc)(ha:PSs X a t)(hb:PSs X b u):PS X (.If c a b pos) (tIfS tc t u):=by
 intro pins s σ H D I h;refine wpAny_If (thn (hc pins s σ H _ I h) λd s1 z9=>?_);obtain⟨H1,I1,q1⟩:=z9;cases d with
 |true=>exact ha pins s1 σ H1 D I1 q1
 |false=>exact hb pins s1 σ H1 D I1 q1
def tNever:TS:=λ_ _ _=>False
theorem b0b:PS X st tNever:=λ_ _ _ _ _ _ h=>h.elim
end
abbrev TG:=V->St->Hp->(St->Hp->Prop)->Prop
abbrev TGs:=List V->St->Hp->(St->Hp->Prop)->Prop
def PG(X:Cx)(target:Expr)(t:TG):Prop:=
 ∀(pins:List (Addr×Obj))(s:Shared)(σ:St)(H:Hp)(v:V)(u:Value)(Q:St->Hp->Prop),Inv X pins σ H s->RelV v u->t v σ H Q->
  wpAny (model X.prog X.w) X.A (assign target X.env u) (λ_ s'=>∃σ' H',Inv X pins σ' H' s'/\Q σ' H') X.xe s
def PGs(X:Cx)(ts:List Expr)(t:TGs):Prop:=
 ∀(pins:List (Addr×Obj))(s:Shared)(σ:St)(H:Hp)(vs:List V)(us:List Value)(Q:St->Hp->Prop),Inv X pins σ H s->Vals vs us->t vs σ H Q->
  wpAny (model X.prog X.w) X.A (assignInOrder ((assignEach ts X.env).map (·.2)) us) (λ_ s'=>∃σ' H',Inv X pins σ' H' s'/\Q σ' H') X.xe s
abbrev TSet:=V->V->V->Hp->(Hp->Prop)->Prop
def PSet(X:Cx)(t:TSet):Prop:=
 ∀(pins:List (Addr×Obj))(s:Shared)(σ:St)(H:Hp)(o i v:V)(ov iv u:Value)(Q:Hp->Prop),Inv X pins σ H s->RelV o ov->RelV i iv->RelV v u->t o i v H Q->
  wpAny (model X.prog X.w) X.A (setItem ov iv u) (λ_ s'=>∃H',Inv X pins σ H' s'/\Q H') X.xe s
section
variable{X:Cx}{pos:Pos}
def a7r(i:Nat):TG:=λv σ H Q=>Q (σ.set i (some v)) H
theorem a2f{i:Nat}{x:Str}(hN:X.N.Nodup)(hi:X.N[i]? =some x)(hx:Loc X.env.scope x)(hf:X.fn x=true\/X.env.scope.names.lookup x=some .local:=by first|exact .inl rfl|exact .inr rfl|assumption):PG X (.Name x pos) (a7r i):=by
 intro pins s σ H v u Q I r h;exact U7 (b3p I hN hi hx r (λs' I'=>⟨_,H,I',h⟩) hf)
def gNil:TGs:=λvs σ H Q=>vs=[]/\Q σ H
def gCons(t:TG)(u:TGs):TGs:=λvs σ H Q=>∃v r,vs=v::r/\t v σ H λσ' H'=>u r σ' H' Q
theorem a9n:PGs X [] gNil:=by
 intro pins s σ H vs us Q I r h;obtain⟨e,h⟩:=h;subst e;cases r;exact assignInOrder_nil ⟨σ,H,I,h⟩
theorem a3a{e:Expr}{es:List Expr}{t:TG}{u:TGs}(h1:PG X e t)(h2:PGs X es u)
  (hs:(assignEach (e::es) X.env).map (·.2)=assign e X.env::(assignEach es X.env).map (·.2):=by rfl):PGs X (e::es) (gCons t u):=by
 intro pins s σ H vs us Q I r h;obtain⟨v,vr,e1,h⟩:=h;subst e1;cases r with
 |cons r rr=>
  rw[hs];refine assignInOrder_cons (thn (h1 pins s σ H _ _ _ I r h) λ_ s1 z9=>?_);obtain⟨σ1,H1,I1,q1⟩:=z9;exact h2 pins s1 σ1 H1 _ _ Q I1 rr q1
def gTup(K:W.Frag)(n:Nat)(t:TGs):TG:=λv σ H Q=>∃a xs,v=.ref a/\SqT K H a xs/\xs.length=n/\t xs σ H Q
theorem c4z{es:List Expr}{k:Nat}{t:TGs}{n:Nat}(hc:X.calm=true)(h:PGs X es t)
  (hn:(assignEach es X.env).length=n:=by rfl)(hst:(assignEach es X.env).findIdx? (·.1)=none:=by rfl):PG X (.Tuple es k pos) (gTup X.K n t):=by
 intro pins s σ H v u Q I r hw;obtain⟨a,xs,e1,hq,hl,hw⟩:=hw;subst e1;cases r;obtain⟨its,rv,ht,hz⟩:=I.tuple hq;refine assign_Tuple_tuple (I.ok.hd hc) ht (by simp[hn,<-hl,rv.length]) hst λh' hx=>?_
 have I1:Inv X pins σ H { s with heap:=h'}:=I.kept (t':=s.toks) λb o e=>hx b o (Zv (Zh e)) e
 exact h pins _ σ H xs _ Q I1 (by simpa using rv) hw
def gSub(to ti:TE)(t:TSet):TG:=λv σ H Q=>to σ H λo H1=>ti σ H1 λi H2=>t o i v H2 λH3=>Q σ H3
theorem pg_sub{o i:Expr}{to ti:TE}{t:TSet}(ho:PE X o to)(hi:PE X i ti)(hs:PSet X t)
  (ha:∀v,assign (.Subscript o i pos) X.env v=(do
   let ov <-holding [v] (eval o X.env)
   let iv <-holding [v,ov] (eval i X.env)
   standAt pos
   holding [v,ov,iv] (setItem ov iv v)
   release [v,ov,iv] []):=by intro _;rfl):PG X (.Subscript o i pos) (gSub to ti t):=by
 intro pins s σ H v u Q I r h;rw[ha];refine Za (Xh (thn (ho pins s σ H _ I h) λov s1 z9=>?_));obtain⟨x,H1,I1,r1,q1⟩:=z9;refine Za (Xh (thn (hi pins s1 σ H1 _ I1 q1) λiv s2 z9=>?_));obtain⟨y,H2,I2,r2,q2⟩:=z9;refine Za (V1 (Za (Xh (thn (hs pins s2 σ H2 x y v ov iv u _ I2 r1 r2 r q2) λ_ s3 z9=>?_))));obtain⟨H3,I3,q3⟩:=z9;exact wpAny_release ⟨σ,H3,I3,q3⟩
def tAsg(te:TE)(g:TG):TS:=λD σ H=>te σ H λx H1=>g x σ H1 D.nx
theorem b8n{tg e:Expr}{te:TE}{g:TG}(he:PE X e te)(hg:PG X tg g)(hs:swapsWithSole [tg] e pos.line X.env=pure false:=by rfl)(hw:swappedStores [tg] e X.env=pure none:=by rfl)
  (h1:(assignEach [tg] X.env).map (·.2)=[assign tg X.env]:=by rfl):PS X (.Assign [tg] e pos) (tAsg te g):=by
 intro pins s σ H D I h;refine wpAny_Assign_stores (thn (he pins s σ H _ I h) λv s1 ⟨x,H1,I1,r1,q1⟩=>?_) hs hw;rw[h1];exact thn (hg pins s1 σ H1 x v _ I1 r1 q1) λ_ s2 q=>q
theorem a0s{i:Nat}{x:Str}{e:Expr}{te:TE}{pos':Pos}(hN:X.N.Nodup)(hi:X.N[i]? =some x)(hx:Loc X.env.scope x)(he:PE X e te)(hs:swapsWith e (some (.Name x pos')) pos.line X.env=pure false:=by rfl)(hf:X.fn x=true\/X.env.scope.names.lookup x=some .local:=by first|exact .inl rfl|exact .inr rfl|assumption):
  PS X (.Assign [.Name x pos'] e pos) (tAsg te (a7r i)):=by
 intro pins s σ H D I h;refine wpAny_Assign_Name (thn (he pins s σ H _ I h) λv s1 ⟨y,H1,I1,r1,q1⟩=>?_) hs;exact b3p I1 hN hi hx r1 (λs2 I2=>⟨_,H1,I2,q1⟩) hf
end
section
variable{X:Cx}{pos:Pos}
def b8o(c:TT)(tb:TS):TS:=λD σ H=>∃W:Nat->St->Hp->Prop,(∃m,W m σ H)/\∀m σ H,W m σ H->
 c σ H λb H1=>if b=true then ∃N:St->Hp->Prop,(∀σ' H',N σ' H'->∃m',m'<m/\W m' σ' H')/\tb { D with nx:=N,ct:=N,bk:=D.nx} σ H1 else D.nx σ H1
theorem b0c{c:Expr}{body:List Stmt}{tc:TT}{tb:TS}(hp:PassesOwn (model X.prog X.w) X.A X.env X.xe)(hc:PT X c tc)(hb:PSs X body tb):PS X (.While c body [] pos) (b8o tc tb):=by
 intro pins s σ H D I h;obtain⟨W,⟨m0,w0⟩,turn⟩:=h;refine wpAny_While (codeAny_whileLoop (λn s'=>∃σ' H',Inv X pins σ' H' s'/\W n σ' H') ?_ m0 ⟨σ,H,I,w0⟩)
 rintro n s1 ⟨σ1,H1,I1,w1⟩
 refine Wm hp (thn (hc pins s1 σ1 H1 _ I1 (turn n σ1 H1 w1)) λb s2 z9=>?_);obtain⟨H2,I2,q2⟩:=z9;cases b with
 |true=>
  obtain⟨N,hN,q2⟩:=q2;rw[if_pos rfl];refine Wm hp (thn (hb pins s2 σ1 H2 _ I2 q2) λf s3 q3=>?_);cases f with
  |next=>
   obtain⟨σ3,H3,I3,n3⟩:=q3;obtain⟨m',hm,w3⟩:=hN σ3 H3 n3;exact⟨m',hm,σ3,H3,I3,w3⟩
  |cont=>
   obtain⟨σ3,H3,I3,n3⟩:=q3;obtain⟨m',hm,w3⟩:=hN σ3 H3 n3;exact⟨m',hm,σ3,H3,I3,w3⟩
  |brk=>exact q3
  |ret v=>exact q3
 |false=>
  rw[if_neg Zp];exact W2 ⟨σ1,H2,I2,q2⟩
end
structure It where
 go:Nat->Hp->Prop
 yld:Nat->Hp->V->Hp->Prop
 stop:Nat->Hp->Prop
def FpOk(X:Cx)(pins:List (Addr×Obj))(H:Hp)(b:Addr):Prop:=
 H b=none/\b≠X.env.locals/\b∉X.fs/\(b∈X.ex\/X.s₀.heap.objs.size<=b)/\(∀x c,X.env.cells.lookup x=some c->c≠b)/\∀p∈X.pn++pins,p.1≠b
theorem Inv.fpOk{X:Cx}{pins:List (Addr×Obj)}{σ:St}{H H':Hp}{s:Shared}{b:Addr}(I:Inv X pins σ H s)(hb:s.heap.objs.size<=b)(hn:H' b=none):FpOk X pins H' b:=by
 refine⟨hn,Y6 (Z1 I.lt hb),I.nofs hb,.inr (Yd I.sz hb),λx c e z=>?_,λp hp z=>?_⟩
 ·obtain⟨v,q⟩:=I.cell x c e;exact absurd (Z1 q.lt (by rw[z];exact hb)) (Y4 _)
 ·exact absurd (Z1 (Zh (I.pin p hp).1) (by rw[z];exact hb)) (Y4 _)
structure Turn(P:Program)(w:World)(K:W.Frag)(tg:Expr)(J:It)(fp:List Addr)(it:Addr)(tn:Nat->Heap->Prop):Prop where
 mem:it∈fp
 obj:∀i h,tn i h->∀b∈fp,∃o,h.get? b=some o/\∀v,o.data≠.cell v
 keep:∀i h h',tn i h->(∀b∈fp,∀o,h.get? b=some o->h'.get? b=some o)->tn i h'
 item:∀(X:Cx),X.prog=P->X.w=w->X.K=K->X.calm=true->∀(i:Nat)(pins:List (Addr×Obj))(s:Shared)(σ:St)(H:Hp)(E:Value->Shared->Prop),Inv X pins σ H s->(∀b∈fp,FpOk X pins H b)->tn i s.heap->J.go i H->
  wpAny (model P w) X.A (pyNext (.ref it)) (λr s1=>∃u,r=some u/\
   wpAny (model P w) X.A (letOwnedTupleGo tg (.ref it) u) (λ_ s2=>∃x H',Inv X pins σ H' s2/\RelV x u/\J.yld i H x H'/\tn (i+1) s2.heap/\∀b∈fp,H' b=none) E s1) E s
 done:∀(X:Cx),X.prog=P->X.w=w->X.K=K->X.calm=true->∀(i:Nat)(pins:List (Addr×Obj))(s:Shared)(σ:St)(H:Hp)(E:Value->Shared->Prop),Inv X pins σ H s->(∀b∈fp,FpOk X pins H b)->tn i s.heap->J.stop i H->
  wpAny (model P w) X.A (pyNext (.ref it)) (λr s1=>r=none/\Inv X pins σ H s1) E s
 self:∀(A:Around)(i:Nat)(s:Shared)(Q:Value->Shared->Prop)(E:Value->Shared->Prop),tn i s.heap->Q (.ref it) s->wpAny (model P w) A (pyIter (.ref it)) Q E s
abbrev TI:=St->Hp->(It->Hp->Prop)->Prop
def PIE(X:Cx)(pins:List (Addr×Obj))(σ:St)(tg:Expr)(R:It->Hp->Prop)(itv:Value)(s2:Shared):Prop:=
 ∃(it:Addr)(fp:List Addr)(tn:Nat->Heap->Prop)(J:It)(H':Hp),itv=.ref it/\Inv X pins σ H' s2/\Turn X.prog X.w X.K tg J fp it tn/\tn 0 s2.heap/\(∀b∈fp,FpOk X pins H' b)/\R J H'
def PI(X:Cx)(tg iter:Expr)(wi:TI):Prop:=
 ∀(pins:List (Addr×Obj))(s:Shared)(σ:St)(H:Hp)(R:It->Hp->Prop),Inv X pins σ H s->wi σ H R->
  wpAny (model X.prog X.w) X.A (eval iter X.env) (λv s1=>wpAny (model X.prog X.w) X.A (pyIter v) (PIE X pins σ tg R) X.xe s1) X.xe s
theorem b7v{M:Model}{A:Around}{E:Value->Shared->Prop}{s:Shared}{tg:Expr}{it:Addr}{u:Value}{o:Obj}{n:String}{vs:Array Value}{Q:Unit->Shared->Prop}(ho:s.heap.get? it=some o)(hc:o.cls=.type n)(hd:o.data=.fields vs)
  (hn:["enumerate","zip","dict_itemiterator","dict_reverseitemiterator","odict_iterator","itertools.zip_longest","itertools.pairwise"].contains n=false)(hQ:Q () s):wpAny M A (letOwnedTupleGo tg (.ref it) u) Q E s:=by
 unfold letOwnedTupleGo;cases tg<;>first
  |exact Ze hQ
  | (cases u<;>first
    |exact Ze hQ
    | (refine Za (wpAny_load ho ?_)
       rw[hc,hd]
       show wpAny M A (if(["enumerate","zip","dict_itemiterator","dict_reverseitemiterator","odict_iterator","itertools.zip_longest","itertools.pairwise"].contains n&&vs[0]? ==some (rawInt _))=true then _ else _) Q E s
       rw[if_neg (by intro h;rw[hn,Yw]at h;cases h)]
       exact Ze hQ))
def Itl(K:W.Frag)(a:Addr):It:=
 ⟨λi H=>∃xs x,SqL K H a xs/\xs[i]? =some x,λi H x H'=>H'=H/\∀xs,SqL K H a xs->xs[i]? =some x,λi H=>∃xs,SqL K H a xs/\xs.length<=i⟩
def Itt(K:W.Frag)(a:Addr):It:=
 ⟨λi H=>∃xs x,SqT K H a xs/\xs[i]? =some x,λi H x H'=>H'=H/\∀xs,SqT K H a xs->xs[i]? =some x,λi H=>∃xs,SqT K H a xs/\xs.length<=i⟩
def Itr(lo:Int)(n:Nat):It:=⟨λi _=>i<n,λi H x H'=>H'=H/\x=.int (lo+i),λi _=>n<=i⟩
theorem c5a{P:Program}{w:World}{K:W.Frag}{tg:Expr}(a it:Addr):Turn P w K tg (Itl K a) [it] it (λi h=>h.IsListIter it a i) where
 mem:=by simp
 obj:=λi h st b hb=>by
  have e:b=it:=by simpa using hb
  subst e;obtain⟨o,e,c,d⟩:=st;exact⟨o,e,λv z=>by rw[d]at z;cases z⟩
 keep:=λi h h' st k=>st.at λo e=>k it qz o e
 item:=by
  intro X hP hw hK hc i pins s σ H E I hf st hg;subst hP hw hK;obtain⟨xs,x,hq,hx⟩:=hg;obtain⟨its,rv,p,hz⟩:=I.list hq;obtain⟨u,hu,ru⟩:=rv.get hx;obtain⟨f0,f1,f2,f3,f4,f5⟩:=hf it qz;refine wpAny_pyNext_list_item st p.isList (x:=u) (by simpa using hu) λh' st' sb=>?_
  have I1:Inv X pins σ H { s with heap:=h'}:=I.turned (t':=s.toks) (λb o hb e=>(sb.2 b hb).trans e) f0 f1 f3 f4 f5;obtain⟨o,e,c,d⟩:=id st';exact⟨u,rfl,b7v (s:={ s with heap:=h'}) e c d qd ⟨x,H,I1,ru,⟨rfl,λys hy=>by rw[I.list_inj hy hq];exact hx⟩,st',λb hb=>(hf b hb).1⟩⟩
 done:=by
  intro X hP hw hK hc i pins s σ H E I hf st hg;subst hP hw hK;obtain⟨xs,hq,hx⟩:=hg;obtain⟨its,rv,p,hz⟩:=I.list hq;obtain⟨f0,f1,f2,f3,f4,f5⟩:=hf it qz;have hl:=rv.length;exact wpAny_pyNext_list_end (I.ok.hd hc) st p.isList (by simp;omega) λh' eb=>⟨rfl,I.turned (t':=s.toks) (λb o hb e=>eb b o hb e) f0 f1 f3 f4 f5⟩
 self:=λ_ _ _ _ _ st h=>wpAny_pyIter_listiter st h
theorem c2y{P:Program}{w:World}{K:W.Frag}{tg:Expr}(a it:Addr):Turn P w K tg (Itt K a) [it] it (λi h=>h.IsTupleIter it a i) where
 mem:=by simp
 obj:=λi h st b hb=>by
  have e:b=it:=by simpa using hb
  subst e;obtain⟨o,e,c,d⟩:=st;exact⟨o,e,λv z=>by rw[d]at z;cases z⟩
 keep:=λi h h' st k=>st.at λo e=>k it qz o e
 item:=by
  intro X hP hw hK hc i pins s σ H E I hf st hg;subst hP hw hK;obtain⟨xs,x,hq,hx⟩:=hg;obtain⟨its,rv,p,hz⟩:=I.tuple hq;obtain⟨u,hu,ru⟩:=rv.get hx;obtain⟨f0,f1,f2,f3,f4,f5⟩:=hf it qz;refine wpAny_pyNext_tuple_item st (show s.heap.IsTuple a its.toArray from p) (x:=u) (by simpa using hu) λh' st' sb=>?_
  have I1:Inv X pins σ H { s with heap:=h'}:=I.turned (t':=s.toks) (λb o hb e=>(sb.2 b hb).trans e) f0 f1 f3 f4 f5;obtain⟨o,e,c,d⟩:=id st';exact⟨u,rfl,b7v (s:={ s with heap:=h'}) e c d qd ⟨x,H,I1,ru,⟨rfl,λys hy=>by rw[I.tuple_inj hy hq];exact hx⟩,st',λb hb=>(hf b hb).1⟩⟩
 done:=by
  intro X hP hw hK hc i pins s σ H E I hf st hg;subst hP hw hK;obtain⟨xs,hq,hx⟩:=hg;obtain⟨its,rv,p,hz⟩:=I.tuple hq;obtain⟨f0,f1,f2,f3,f4,f5⟩:=hf it qz;have hl:=rv.length;exact wpAny_pyNext_tuple_end (I.ok.hd hc) st (show s.heap.IsTuple a its.toArray from p) (by simp;omega) λh' eb=>⟨rfl,I.turned (t':=s.toks) (λb o hb e=>eb b o hb e) f0 f1 f3 f4 f5⟩
 self:=λ_ _ _ _ _ st h=>wpAny_pyIter_tupleiter st h
theorem c2z{P:Program}{w:World}{K:W.Frag}{tg:Expr}(it:Addr)(lo:Int)(n:Nat):Turn P w K tg (Itr lo n) [it] it (λi h=>IsRangeIter h it (lo+(i:Nat)*1) ((n:Int)-(i:Nat)) 1) where
 mem:=by simp
 obj:=λi h st b hb=>by
  have e:b=it:=by simpa using hb
  subst e
  exact⟨_,st,λv z=>by
   have z':Data.fields _=Data.cell v:=z
   cases z'⟩
 keep:=λi h h' st k=>k it qz _ st
 item:=by
  intro X hP hw hK hc i pins s σ H E I hf st hg;subst hP hw hK;obtain⟨f0,f1,f2,f3,f4,f5⟩:=hf it qz;have W:=Walks.range (prog:=X.prog) (w:=X.w) (I.ok.hd hc) it lo 1 n;refine W.item i s _ _ hg st λv h' tk hv st' kk=>?_
  obtain⟨t,rfl⟩:=hv;have I1:Inv X pins σ H { s with heap:=h',toks:=tk}:=I.turned (λb o hb e=>kk b o (by simpa using hb) e) f0 f1 f3 f4 f5;refine⟨_,rfl,b7v (s:={ s with heap:=h',toks:=tk}) (n:="range_iterator") st' rfl rfl qd ⟨.int (lo+i),H,I1,⟨t,?_⟩,⟨rfl,rfl⟩,st',λb hb=>(hf b hb).1⟩⟩;rw[Int.mul_one]
 done:=by
  intro X hP hw hK hc i pins s σ H E I hf st hg;subst hP hw hK;obtain⟨f0,f1,f2,f3,f4,f5⟩:=hf it qz;exact wpAny_pyNext_range_end (I.ok.hd hc) st (by have:n<=i:=hg;omega) λh' eb=>⟨rfl,I.turned (t':=s.toks) (λb o hb e=>eb b o hb e) f0 f1 f3 f4 f5⟩
 self:=λ_ _ _ _ _ st h=>wpAny_pyIter_rangeiter st h
section
variable{X:Cx}{tg:Expr}
def iList(K:W.Frag)(tl:TE):TI:=λσ H R=>tl σ H λx H1=>∃a,x=.ref a/\(∃xs,SqL K H1 a xs)/\R (Itl K a) H1
def iTup(K:W.Frag)(tl:TE):TI:=λσ H R=>tl σ H λx H1=>∃a,x=.ref a/\(∃xs,SqT K H1 a xs)/\R (Itt K a) H1
theorem pi_list{l:Expr}{tl:TE}(hl:PE X l tl):PI X tg l (iList X.K tl):=by
 intro pins s σ H R I h;refine thn (hl pins s σ H _ I h) λv s1 z9=>?_
 obtain⟨x,H1,I1,r1,q1⟩:=z9;obtain⟨a,e,⟨xs,hq⟩,q⟩:=q1;subst e;cases r1;obtain⟨its,rv,p,hz⟩:=I1.list hq;refine U6 p.isList ?_;refine⟨s1.heap.objs.size,[s1.heap.objs.size],_,_,H1,rfl,I1.kept (t':=s1.toks) λb o e=>Zc _ e,c5a a _,⟨_,Zk _ rfl,rfl,rfl⟩,λb hb=>?_,q⟩;have e:b=s1.heap.objs.size:=by simpa using hb
 subst e;exact I1.fpOk (Zg _) (I1.hok.fresh (Zg _))
theorem pi_tup{l:Expr}{tl:TE}(hl:PE X l tl):PI X tg l (iTup X.K tl):=by
 intro pins s σ H R I h;refine thn (hl pins s σ H _ I h) λv s1 z9=>?_
 obtain⟨x,H1,I1,r1,q1⟩:=z9;obtain⟨a,e,⟨xs,hq⟩,q⟩:=q1;subst e;cases r1;obtain⟨its,rv,p,hz⟩:=I1.tuple hq;refine Vo (show s1.heap.IsTuple a its.toArray from p) ?_;refine⟨s1.heap.objs.size,[s1.heap.objs.size],_,_,H1,rfl,I1.kept (t':=s1.toks) λb o e=>Zc _ e,c2y a _,⟨_,Zk _ rfl,rfl,rfl⟩,λb hb=>?_,q⟩;have e:b=s1.heap.objs.size:=by simpa using hb
 subst e;exact I1.fpOk (Zg _) (I1.hok.fresh (Zg _))
theorem c8k{pins:List (Addr×Obj)}{σ:St}{H:Hp}{s:Shared}{R:It->Hp->Prop}{E:Value->Shared->Prop}{lo hi:Int}{t u v:Tok}{tk:Nat}(I:Inv X pins σ H s)(h1:-(2^62)<=lo)(h2:lo<2^62)(h3:-(2^62)<=hi)(h4:hi<2^62)
  (q:R (Itr lo (hi-lo).toNat) H):wpAny (model X.prog X.w) X.A (pyIter (.ref s.heap.objs.size)) (PIE X pins σ tg R) E { s with heap:=s.heap.push { cls:=.type "range",data:=.fields #[.int lo t,.int hi u,.int 1 v]},toks:=tk}:=by
 refine wpAny_pyIter_range (IsRange.new ..) (small_one h1 h2 h3 h4) ?_;have I1:Inv X pins σ H { s with heap:=s.heap.push { cls:=.type "range",data:=.fields #[.int lo t,.int hi u,.int 1 v]},toks:=tk}:=I.kept λb o e=>Zc _ e
 refine⟨(s.heap.push { cls:=.type "range",data:=.fields #[.int lo t,.int hi u,.int 1 v]}).objs.size,[(s.heap.push { cls:=.type "range",data:=.fields #[.int lo t,.int hi u,.int 1 v]}).objs.size],_,_,H,rfl,
  I1.kept (t':=tk) λb o e=>Zc _ e,c2z _ lo (hi-lo).toNat,?_,λb hb=>?_,q⟩
 ·have e1:lo+((0:Nat):Int)*1=lo:=by simp
  have e2:(((hi-lo).toNat:Nat):Int)-((0:Nat):Int)=Builtin.Range.rangeSize lo hi 1:=by rw[rangeSize_one];split<;>omega
  show IsRangeIter _ _ (lo+((0:Nat):Int)*1) ((((hi-lo).toNat:Nat):Int)-((0:Nat):Int)) 1
  rw[e1,e2];exact Zk _ rfl
 ·have e:b=(s.heap.push { cls:=.type "range",data:=.fields #[.int lo t,.int hi u,.int 1 v]}).objs.size:=by simpa using hb
  subst e;exact I1.fpOk (Zg _) (I1.hok.fresh (Zg _))
def iRng1(ta:TA):TI:=λσ H R=>ta σ H λvs H1=>∃j:Int,vs=[.int j]/\-(2^62)<=j/\j<2^62/\R (Itr 0 j.toNat) H1
theorem a3o{a:Expr}{ta:TA}{p pos:Pos}(hg:Gl X "range")(hm:X.mg "range"=none)(ha:PA X [a] ta)(hs:starEach [a] X.env=[(false,eval a X.env)]:=by rfl):PI X tg (.Call (.Name "range" p) [a] [] pos) (iRng1 ta):=by
 intro pins s σ H R I h;refine Call_ (a4w I hg hm boot_range (Yh (thn (ha pos pins s σ H _ I h) λus s1 ⟨vs,H1,I1,r1,q1⟩=>?_) hs rfl));obtain⟨j,e,q1,q2,q⟩:=q1;subst e;cases r1 with
 |cons r rr=>
  cases rr;obtain⟨t,rfl⟩:=r;exact call_range_1 (c8k I1 qo qo q1 q2 (by simpa using q))
def tFor(wi:TI)(g:TG)(tb:TS):TS:=λD σ H=>wi σ H λJ H1=>∃W:Nat->Nat->St->Hp->Prop,(∃m,W 0 m σ H1)/\∀i m σ H,W i m σ H->
 (J.stop i H/\D.nx σ H)\/(J.go i H/\∃N:St->Hp->Prop,(∀σ' H',N σ' H'->∃m',m'<m/\W (i+1) m' σ' H')/\∀x H',J.yld i H x H'->g x σ H' λσ2 H2=>tb { D with nx:=N,ct:=N,bk:=D.nx} σ2 H2)
def a9o(fp:List Addr)(h:Heap):List (Addr×Obj):=fp.filterMap λb=>(h.get? b).map λo=>(b,o)
theorem a5j{fp:List Addr}{h:Heap}{b:Addr}{o:Obj}(hb:b∈fp)(e:h.get? b=some o):(b,o)∈a9o fp h:=Ru.mpr ⟨b,hb,by rw[e];rfl⟩
theorem c5b{fp:List Addr}{h:Heap}{p:Addr×Obj}(hp:p∈a9o fp h):p.1∈fp/\h.get? p.1=some p.2:=by
 obtain⟨b,hb,e⟩:=Ru.mp hp;cases q:h.get? b with
 |none=>rw[q]at e;cases e
 |some o=>
  rw[q]at e;have e':(b,o)=p:=Zl e;subst e';exact⟨hb,q⟩
theorem Inv.pinned{pins:List (Addr×Obj)}{σ:St}{H:Hp}{s:Shared}{fp:List Addr}(I:Inv X pins σ H s)(hf:∀b∈fp,FpOk X pins H b)(ho:∀b∈fp,∃o,s.heap.get? b=some o/\∀v,o.data≠.cell v):Inv X (pins++a9o fp s.heap) σ H s:=
 I.pins_of λp hp=>(Yt.mp hp).elim (λz=>I.pin p (Z9 _ z)) λz=>by
  obtain⟨hb,e⟩:=c5b z;obtain⟨f0,f1,f2,_⟩:=hf p.1 hb;obtain⟨o,e',d⟩:=ho p.1 hb;rw[e]at e';cases e';exact⟨e,f0,f1,f2,d⟩
theorem Inv.unpinned{pins pl:List (Addr×Obj)}{σ:St}{H:Hp}{s:Shared}(I:Inv X (pins++pl) σ H s):Inv X pins σ H s:=I.pins_of λp hp=>I.pin p (Z9 _ (S6 _ hp))
theorem a7d{iter:Expr}{body:List Stmt}{wi:TI}{g:TG}{tb:TS}{pos:Pos}(hp:PassesOwn (model X.prog X.w) X.A X.env X.xe)(hc:X.calm=true)(hi:PI X tg iter wi)(hg:PG X tg g)(hb:PSs X body tb)
  (hs:∀x,foldedSetIterable iter X.env x=pure x:=by intro _;rfl):PS X (.For tg iter body [] pos) (tFor wi g tb):=by
 intro pins s σ H D I h;refine wpAny_For (thn (hi pins s σ H _ I h) λv s1 h1=>thn h1 λitv s2 h2=>?_) hs;obtain⟨it,fp,tn,J,H2,e,I2,T,st2,f2,W,⟨m0,w0⟩,turn⟩:=h2;subst e;have stat:∀{H':Hp},(∀b∈fp,H' b=none)->∀b∈fp,FpOk X pins H' b:=λhn b hb=>⟨hn b hb,(f2 b hb).2⟩
 refine codeAny_forLoop_any (λn s'=>∃i σ' H',Inv X pins σ' H' s'/\tn i s'.heap/\(∀b∈fp,H' b=none)/\W i n σ' H') ?_ m0 ⟨0,σ,H2,I2,st2,λb hb=>(f2 b hb).1,w0⟩
 rintro n s3 ⟨i,σ3,H3,I3,st3,fr3,w3⟩
 rcases turn i n σ3 H3 w3 with⟨stop,qn⟩|⟨go,N,hN,step⟩
 ·refine Wm hp (thn (T.done X rfl rfl rfl hc i pins s3 σ3 H3 X.xe I3 (stat fr3) st3 stop) λr s4 ⟨hr,I4⟩=>?_);subst hr;exact W2 ⟨σ3,H3,I4,qn⟩
 ·refine Wm hp (thn (T.item X rfl rfl rfl hc i pins s3 σ3 H3 X.xe I3 (stat fr3) st3 go) λr s4 ⟨u,hr,h4⟩=>?_);subst hr;refine Wm hp (thn h4 λ_ s5 z9=>?_);obtain⟨x,H5,I5,r5,y5,st5,fr5⟩:=z9;have I5':=I5.pinned (stat fr5) (T.obj _ _ st5);refine Wm hp (thn (hg _ s5 σ3 H5 x u _ I5' r5 (step x H5 y5)) λ_ s6 z9=>?_);obtain⟨σ6,H6,I6,q6⟩:=z9;refine Wm hp (thn (hb _ s6 σ6 H6 _ I6 q6) λf s7 q7=>?_);have again:∀{σ7:St}{H7:Hp},Inv X (pins++a9o fp s5.heap) σ7 H7 s7->N σ7 H7->∃m,m<n/\∃i σ' H',Inv X pins σ' H' s7/\tn i s7.heap/\(∀b∈fp,H' b=none)/\W i m σ' H':=λ{σ7 H7} I7 n7=>by
   obtain⟨m',hm,w7⟩:=hN σ7 H7 n7;refine⟨m',hm,i+1,σ7,H7,I7.unpinned,T.keep _ _ _ st5 λb hb o e=>(I7.pin (b,o) (Z9 _ (Z9 _ (a5j hb e)))).1,λb hb=>?_,w7⟩;obtain⟨o,e,d⟩:=T.obj _ _ st5 b hb;exact(I7.pin (b,o) (Z9 _ (Z9 _ (a5j hb e)))).2.1
  cases f with
  |next=>obtain⟨σ7,H7,I7,n7⟩:=q7;exact again I7 n7
  |cont=>obtain⟨σ7,H7,I7,n7⟩:=q7;exact again I7 n7
  |brk=>obtain⟨σ7,H7,I7,q7⟩:=q7;exact⟨σ7,H7,I7.unpinned,q7⟩
  |ret v=>obtain⟨x7,σ7,H7,I7,r7,q7⟩:=q7;exact⟨x7,σ7,H7,I7.unpinned,r7,q7⟩
end
abbrev R2:=V->V->Hp->VK->Prop
def OpR(X:Cx)(f:Value->Value->Sem Value)(r:R2):Prop:=
 ∀(pins:List (Addr×Obj))(s:Shared)(σ:St)(H:Hp)(x y:V)(v u:Value)(Q:VK),Inv X pins σ H s->RelV x v->RelV y u->r x y H Q->
  wpAny (model X.prog X.w) X.A (f v u) (EP X pins σ Q) X.xe s
def UnR(X:Cx)(f:Value->Sem Value)(r:V->Hp->VK->Prop):Prop:=
 ∀(pins:List (Addr×Obj))(s:Shared)(σ:St)(H:Hp)(x:V)(v:Value)(Q:VK),Inv X pins σ H s->RelV x v->r x H Q->
  wpAny (model X.prog X.w) X.A (f v) (EP X pins σ Q) X.xe s
def a2b(X:Cx)(f:Value)(r:List V->Hp->VK->Prop):Prop:=
 ∀(pins:List (Addr×Obj))(s:Shared)(σ:St)(H:Hp)(xs:List V)(us:List Value)(Q:VK),Inv X pins σ H s->Vals xs us->r xs H Q->
  wpAny (model X.prog X.w) X.A (call f us) (EP X pins σ Q) X.xe s
def TruR(X:Cx)(r:V->Hp->(Bool->Hp->Prop)->Prop):Prop:=
 ∀(pins:List (Addr×Obj))(s:Shared)(σ:St)(H:Hp)(x:V)(v:Value)(Q:Bool->Hp->Prop),Inv X pins σ H s->RelV x v->r x H Q->
  wpAny (model X.prog X.w) X.A (truthy v) (TP X pins σ Q) X.xe s
def tOp(r:R2)(ta tb:TE):TE:=λσ H Q=>ta σ H λx H1=>tb σ H1 λy H2=>r x y H2 Q
def tUn(r:V->Hp->VK->Prop)(ta:TE):TE:=λσ H Q=>ta σ H λx H1=>r x H1 Q
def rI(C:Int->Int->Prop)(g:Int->Int->V):R2:=λx y H Q=>∃i j,x=.int i/\y=.int j/\C i j/\Q (g i j) H
def rI0(g:Int->Int->V):R2:=λx y H Q=>∃i j,x=.int i/\y=.int j/\Q (g i j) H
def rU(g:Int->V):V->Hp->VK->Prop:=λx H Q=>∃i,x=.int i/\Q (g i) H
section
variable{X:Cx}{a b c:Expr}{ta tb tc:TE}{pos:Pos}
theorem binT(ha:PE X a ta)(hb:PE X b tb){pins:List (Addr×Obj)}{s:Shared}{σ:St}{H:Hp}{R:V->V->Hp->Prop}(I:Inv X pins σ H s)
  (h:ta σ H λx H1=>tb σ H1 λy H2=>R x y H2){Q:Value->Shared->Prop}{f:Value->Value->Sem Value}
  (hf:∀v u s2 x y H2,Inv X pins σ H2 s2->RelV x v->RelV y u->R x y H2->wpAny (model X.prog X.w) X.A (f v u) Q X.xe s2):
  wpAny (model X.prog X.w) X.A (eval a X.env) (λv s₁=>wpAny (model X.prog X.w) X.A (eval b X.env) (λu s₂=>wpAny (model X.prog X.w) X.A (f v u) Q X.xe s₂) X.xe s₁) X.xe s:=by
 refine thn (ha pins s σ H _ I h) λv s1 z9=>?_
 obtain⟨x,H1,I1,r1,q1⟩:=z9;refine thn (hb pins s1 σ H1 _ I1 q1) λu s2 z9=>?_
 obtain⟨y,H2,I2,r2,q2⟩:=z9;exact hf v u s2 x y H2 I2 r1 r2 q2
theorem a0l{op:Operator}{r:R2}(ho:OpR X (binaryOp op) r)(ha:PE X a ta)(hb:PE X b tb):PE X (.BinOp a op b pos) (tOp r ta tb):=by
 intro pins s σ H Q I h;exact wpAny_BinOp (binT ha hb I h λv u s2 x y H2 I2 rx ry q=>ho pins s2 σ H2 x y v u Q I2 rx ry q)
theorem a7s{op:UnaryOp}{r:V->Hp->VK->Prop}(ho:UnR X (unaryOp op) r)(ha:PE X a ta):PE X (.UnaryOp op a pos) (tUn r ta):=by
 intro pins s σ H Q I h;exact UnaryOp_ (thn (ha pins s σ H _ I h) λv s1 ⟨x,H1,I1,r1,q1⟩=>ho pins s1 σ H1 x v Q I1 r1 q1)
theorem opI{f:Value->Value->Sem Value}{C:Int->Int->Prop}{g:Int->Int->Int}
  (rule:∀(i j:Int)(t u:Tok)(s:Shared)(Q:Value->Shared->Prop)(E:Value->Shared->Prop),C i j->Q (.int (g i j) s.toks) { s with toks:=s.toks+1}->wpAny (model X.prog X.w) X.A (f (.int i t) (.int j u)) Q E s):
  OpR X f (rI C λi j=>.int (g i j)):=by
 intro pins s σ H x y v u Q I rx ry h;obtain⟨i,j,rfl,rfl,hc,q⟩:=h;obtain⟨t,rfl⟩:=rx;obtain⟨t',rfl⟩:=ry;exact rule i j t t' s _ _ hc ⟨.int (g i j),H,I.tok _,⟨_,rfl⟩,q⟩
theorem opI0{f:Value->Value->Sem Value}{g:Int->Int->Int}
  (rule:∀(i j:Int)(t u:Tok)(s:Shared)(Q:Value->Shared->Prop)(E:Value->Shared->Prop),Q (.int (g i j) s.toks) { s with toks:=s.toks+1}->wpAny (model X.prog X.w) X.A (f (.int i t) (.int j u)) Q E s):
  OpR X f (rI0 λi j=>.int (g i j)):=by
 intro pins s σ H x y v u Q I rx ry h;obtain⟨i,j,rfl,rfl,q⟩:=h;obtain⟨t,rfl⟩:=rx;obtain⟨t',rfl⟩:=ry;exact rule i j t t' s _ _ ⟨.int (g i j),H,I.tok _,⟨_,rfl⟩,q⟩
theorem opB0{f:Value->Value->Sem Value}{g:Int->Int->Bool}
  (rule:∀(i j:Int)(t u:Tok)(s:Shared)(Q:Value->Shared->Prop)(E:Value->Shared->Prop),Q (.bool (g i j)) s->wpAny (model X.prog X.w) X.A (f (.int i t) (.int j u)) Q E s):
  OpR X f (rI0 λi j=>.bl (g i j)):=by
 intro pins s σ H x y v u Q I rx ry h;obtain⟨i,j,rfl,rfl,q⟩:=h;obtain⟨t,rfl⟩:=rx;obtain⟨t',rfl⟩:=ry;exact rule i j t t' s _ _ ⟨.bl (g i j),H,I,rfl,q⟩
def CDiv(i j:Int):Prop:=0<j/\j<1073741824
def CPow(i j:Int):Prop:=0<=j/\j<=1000000/\i.natAbs<2^64
def CMul(i j:Int):Prop:=(-(2^64)<i/\i<2^64)\/(-(2^64)<j/\j<2^64)
theorem CMul.ok{i j:Int}(h:CMul i j):IntMulOk i j:=by
 rcases h with⟨h1,h2⟩|⟨h1,h2⟩
 ·exact .of_left (intBits_le_64 h1 h2)
 ·exact .of_right (intBits_le_64 h1 h2)
theorem op_add:OpR X (binaryOp .Add) (rI0 λi j=>.int (i+j)):=opI0 λ_ _ _ _ _ _ _ q=>add_int q
theorem op_sub:OpR X (binaryOp .Sub) (rI0 λi j=>.int (i-j)):=opI0 λ_ _ _ _ _ _ _ q=>sub_int q
theorem op_fdiv:OpR X (binaryOp .FloorDiv) (rI CDiv λi j=>.int (i/j)):=opI λi j _ _ _ _ _ hc q=>by
 have h1:(0:Int)<j:=hc.1;have h2:j<1073741824:=hc.2;exact floordiv_int qo (by rw[Int.fdiv_eq_ediv_of_nonneg i qo];exact q) (.inl (PyProof.noPylong_small qo))
theorem op_mod:OpR X (binaryOp .Mod) (rI (λ_ j=>0<j) λi j=>.int (i%j)):=opI λi j _ _ _ _ _ hc q=>by
 have h1:(0:Int)<j:=hc;exact mod_int' qo (by rw[Int.fmod_eq_emod_of_nonneg i qo];exact q)
theorem op_modN:OpR X (binaryOp .Mod) (rI (λ_ j=>j≠0) λi j=>.int (i.fmod j)):=opI λ_ _ _ _ _ _ _ hc q=>mod_int' hc q
theorem op_pow:OpR X (binaryOp .Pow) (rI CPow λi j=>.int (i^j.toNat)):=opI λ_ _ _ _ _ _ _ hc q=>pow_int_small hc.1 hc.2.1 hc.2.2 q
theorem unI{f:Value->Sem Value}{g:Int->Int}
  (rule:∀(i:Int)(t:Tok)(s:Shared)(Q:Value->Shared->Prop)(E:Value->Shared->Prop),Q (.int (g i) s.toks) { s with toks:=s.toks+1}->wpAny (model X.prog X.w) X.A (f (.int i t)) Q E s):
  UnR X f (rU λi=>.int (g i)):=by
 intro pins s σ H x v Q I rx h;obtain⟨i,rfl,q⟩:=h;obtain⟨t,rfl⟩:=rx;exact rule i t s _ _ ⟨.int (g i),H,I.tok _,⟨_,rfl⟩,q⟩
theorem un_neg:UnR X (unaryOp .USub) (rU λi=>.int (-i)):=unI λ_ _ _ _ _ q=>neg_int q
end
def scal:V->V->Bool
 | .non,.non=>true| .non,.int _=>true| .int _,.non=>true| .non,.bl _=>true| .bl _,.non=>true| .non,.str _=>true| .str _,.non=>true
 | .int _,.int _=>true| .bl _,.bl _=>true| .str _,.str _=>true| .byt _,.byt _=>true
 | .int _,.str _=>true| .str _,.int _=>true| .bl _,.str _=>true| .str _,.bl _=>true
 |_,_=>false
def rEq:R2:=λx y H Q=>scal x y=true/\Q (.bl (decide (x=y))) H
def rNe:R2:=λx y H Q=>scal x y=true/\Q (.bl (!decide (x=y))) H
theorem c1r{i j:Int}:decide (V.int i=V.int j)=(i==j):=by
 rw[X8]
 simp
theorem c5c{i j:Bool}:decide (V.bl i=V.bl j)=(i==j):=by
 rw[X8]
 simp
theorem c1s{i j:Str}:decide (V.str i=V.str j)=(i==j):=by
 rw[X8]
 simp
theorem c1t{i j:Array UInt8}:decide (V.byt i=V.byt j)=(i.toList==j.toList):=by
 rw[X8];cases i;cases j
 simp
section
variable{X:Cx}{a b c:Expr}{ta tb tc:TE}{pos:Pos}
theorem a1l{pins:List (Addr×Obj)}{σ:St}{H:Hp}{s:Shared}{Q:VK}{k k':Bool}(I:Inv X pins σ H s)(q:Q (.bl k) H)(e:k=k'):EP X pins σ Q (.bool k') s:=by
 subst e;exact⟨.bl k,H,I,rfl,q⟩
theorem op_eq:OpR X (compareOp .Eq) rEq:=by
 intro pins s σ H x y v u Q I rx ry h;obtain⟨hs,q⟩:=h;cases x with
 |non=>
  cases rx;cases y with
  |non=>cases ry;exact PySem.EqNone.eq_none_none (a1l I q qz)
  |bl j=>cases ry;exact PySem.EqNone.eq_none_bool (a1l I q qz)
  |int j=>obtain⟨t',rfl⟩:=ry;exact PySem.EqNone.eq_none_int (a1l I q qz)
  |str j=>obtain⟨t',rfl⟩:=ry;exact PySem.EqNone.eq_none_str (a1l I q qz)
  |_=>exact absurd (show false=true from hs) Zp
 |bl i=>
  cases rx;cases y with
  |non=>cases ry;exact PySem.EqNone.eq_bool_none (a1l I q qz)
  |bl j=>cases ry;exact eq_bool (a1l I q c5c)
  |str j=>obtain⟨t',rfl⟩:=ry;exact PySem.EqMixed.eq_bool_str (a1l I q qz)
  |_=>exact absurd (show false=true from hs) Zp
 |int i=>
  obtain⟨t,rfl⟩:=rx;cases y with
  |non=>cases ry;exact PySem.EqNone.eq_int_none (a1l I q qz)
  |int j=>obtain⟨t',rfl⟩:=ry;exact eq_int (a1l I q c1r)
  |str j=>obtain⟨t',rfl⟩:=ry;exact PySem.EqMixed.eq_int_str (a1l I q qz)
  |_=>exact absurd (show false=true from hs) Zp
 |str i=>
  obtain⟨t,rfl⟩:=rx;cases y with
  |non=>cases ry;exact PySem.EqNone.eq_str_none (a1l I q qz)
  |bl j=>cases ry;exact PySem.EqMixed.eq_str_bool (a1l I q qz)
  |int j=>obtain⟨t',rfl⟩:=ry;exact PySem.EqMixed.eq_str_int (a1l I q qz)
  |str j=>obtain⟨t',rfl⟩:=ry;exact eq_str (a1l I q c1s)
  |_=>exact absurd (show false=true from hs) Zp
 |byt i=>
  obtain⟨t,rfl⟩:=rx;cases y with
  |byt j=>obtain⟨t',rfl⟩:=ry;exact W.eq_bytes (a1l I q c1t)
  |_=>exact absurd (show false=true from hs) Zp
 |_=>cases y<;>exact absurd (show false=true from hs) Zp
theorem op_ne:OpR X (compareOp .NotEq) rNe:=by
 intro pins s σ H x y v u Q I rx ry h;obtain⟨hs,q⟩:=h;cases x with
 |non=>
  cases rx;cases y with
  |non=>cases ry;exact PySem.EqNone.ne_none_none (a1l I q qz)
  |bl j=>cases ry;exact PySem.EqNone.ne_none_bool (a1l I q qz)
  |int j=>obtain⟨t',rfl⟩:=ry;exact PySem.EqNone.ne_none_int (a1l I q qz)
  |str j=>obtain⟨t',rfl⟩:=ry;exact PySem.EqNone.ne_none_str (a1l I q qz)
  |_=>exact absurd (show false=true from hs) Zp
 |bl i=>
  cases rx;cases y with
  |non=>cases ry;exact PySem.EqNone.ne_bool_none (a1l I q qz)
  |bl j=>cases ry;exact ne_bool (a1l I q (Y0 not c5c))
  |str j=>obtain⟨t',rfl⟩:=ry;exact PySem.EqMixed.ne_bool_str (a1l I q qz)
  |_=>exact absurd (show false=true from hs) Zp
 |int i=>
  obtain⟨t,rfl⟩:=rx;cases y with
  |non=>cases ry;exact PySem.EqNone.ne_int_none (a1l I q qz)
  |int j=>obtain⟨t',rfl⟩:=ry;exact ne_int (a1l I q (Y0 not c1r))
  |str j=>obtain⟨t',rfl⟩:=ry;exact PySem.EqMixed.ne_int_str (a1l I q qz)
  |_=>exact absurd (show false=true from hs) Zp
 |str i=>
  obtain⟨t,rfl⟩:=rx;cases y with
  |non=>cases ry;exact PySem.EqNone.ne_str_none (a1l I q qz)
  |bl j=>cases ry;exact PySem.EqMixed.ne_str_bool (a1l I q qz)
  |int j=>obtain⟨t',rfl⟩:=ry;exact PySem.EqMixed.ne_str_int (a1l I q qz)
  |str j=>obtain⟨t',rfl⟩:=ry;exact ne_str (a1l I q (Y0 not c1s))
  |_=>exact absurd (show false=true from hs) Zp
 |byt i=>
  obtain⟨t,rfl⟩:=rx;cases y with
  |byt j=>obtain⟨t',rfl⟩:=ry;exact W.ne_bytes (a1l I q (Y0 not c1t))
  |_=>exact absurd (show false=true from hs) Zp
 |_=>cases y<;>exact absurd (show false=true from hs) Zp
theorem op_lt:OpR X (compareOp .Lt) (rI0 λi j=>.bl (decide (i<j))):=opB0 λ_ _ _ _ _ _ _ q=>lt_int q
theorem op_le:OpR X (compareOp .LtE) (rI0 λi j=>.bl (decide (i<=j))):=opB0 λ_ _ _ _ _ _ _ q=>le_int q
theorem op_gt:OpR X (compareOp .Gt) (rI0 λi j=>.bl (decide (j<i))):=opB0 λ_ _ _ _ _ _ _ q=>gt_int q
theorem op_ge:OpR X (compareOp .GtE) (rI0 λi j=>.bl (decide (j<=i))):=opB0 λ_ _ _ _ _ _ _ q=>ge_int q
theorem c5d:OpR X (compareOp .In) (λx y H Q=>∃i j,x=.str i/\y=.str j/\Q (.bl (!(Builtin.Str.occurrences j i 0 j.length 1).isEmpty)) H):=by
 intro pins s σ H x y v u Q I rx ry h;obtain⟨i,j,rfl,rfl,q⟩:=h;obtain⟨t,rfl⟩:=rx;obtain⟨t',rfl⟩:=ry;exact in_str (a1l I q rfl)
theorem op_isN:OpR X (compareOp .Is) (λx y H Q=>y=.non/\Q (.bl (decide (x=.non))) H):=by
 intro pins s σ H x y v u Q I rx ry h;obtain⟨rfl,q⟩:=h;cases ry;refine is_none_gen (a1l I q ?_);cases x<;>first
  | (cases rx;rfl)
  | (obtain⟨t,rfl⟩:=rx;rfl)
theorem op_notN:OpR X (compareOp .IsNot) (λx y H Q=>y=.non/\Q (.bl (!decide (x=.non))) H):=by
 intro pins s σ H x y v u Q I rx ry h;obtain⟨rfl,q⟩:=h;cases ry;refine isnot_none_gen (a1l I q ?_);cases x<;>first
  | (cases rx;rfl)
  | (obtain⟨t,rfl⟩:=rx;rfl)
theorem OpR.or{f:Value->Value->Sem Value}{r r':R2}(h:OpR X f r)(h':OpR X f r'):OpR X f (λx y H Q=>r x y H Q\/r' x y H Q):=by
 intro pins s σ H x y v u Q I rx ry q;rcases q with q|q
 ·exact h pins s σ H x y v u Q I rx ry q
 ·exact h' pins s σ H x y v u Q I rx ry q
theorem a0m(b:Expr){op:CmpOp}(h:op≠.In:=by decide)(h2:op≠.NotIn:=by decide):behindInMarks op b=false:=by
 have e1:(op==CmpOp.In)=false:=by cases op<;>first|rfl|exact absurd rfl h
 have e2:(op==CmpOp.NotIn)=false:=by cases op<;>first|rfl|exact absurd rfl h2
 cases b<;>simp[behindInMarks,e1,e2]
theorem a1c{op:CmpOp}{r:R2}(ho:OpR X (compareOp op) r)(ha:PE X a ta)(hb:PE X b tb)(hm:behindInMarks op b=false):PE X (.Compare a [op] [b] pos) (tOp r ta tb):=by
 intro pins s σ H Q I h;exact wpAny_Compare1 (binT ha hb I h λv u s2 x y H2 I2 rx ry q=>ho pins s2 σ H2 x y v u Q I2 rx ry q) hm
def tTest(t:TE):TT:=λσ H Q=>t σ H λx H'=>∃k,x=.bl k/\Q k H'
theorem pt_cmpR{op:CmpOp}{r:R2}(ho:OpR X (compareOp op) r)(ha:PE X a ta)(hb:PE X b tb)(hm:behindInMarks op b=false):PT X (.Compare a [op] [b] pos) (tTest (tOp r ta tb)):=by
 intro pins s σ H Q I h
 refine wpAny_isTrue_Compare1 (thn (ha pins s σ H _ I h) λv s1 ⟨x,H1,I1,r1,q1⟩=>thn (hb pins s1 σ H1 _ I1 q1) λu s2 ⟨y,H2,I2,r2,q2⟩=>
  thn (ho pins s2 σ H2 x y v u _ I2 r1 r2 q2) λc s3 ⟨z,H3,I3,r3,k,e,q3⟩=>?_) hm
 subst e;cases r3;exact Xu ⟨H3,I3,q3⟩
def b4r(r r':R2)(ta tb tc:TE):TE:=λσ H Q=>ta σ H λx H1=>tb σ H1 λy H2=>r x y H2 λz H3=>∃k,z=.bl k/\
 (if k=true then tc σ H3 λw' H4=>r' y w' H4 Q else Q (.bl false) H3)
theorem c8l{op op':CmpOp}{r r':R2}(ho:OpR X (compareOp op) r)(ho':OpR X (compareOp op') r')(ha:PE X a ta)(hb:PE X b tb)(hc:PE X c tc)
  (hm:lastMarks [op,op'] [b,c]=false:=by with_unfolding_all rfl):PE X (.Compare a [op,op'] [b,c] pos) (b4r r r' ta tb tc):=by
 intro pins s σ H Q I h
 refine Compare_chain (thn (ha pins s σ H _ I h) λv s1 ⟨x,H1,I1,r1,q1⟩=>chain_link (thn (hb pins s1 σ H1 _ I1 q1) λu s2 ⟨y,H2,I2,r2,q2⟩=>
  thn (ho pins s2 σ H2 x y v u _ I2 r1 r2 q2) λd s3 ⟨z,H3,I3,r3,k,e,q3⟩=>?_)) hm
 subst e;cases r3;refine Xu ?_;cases k with
 |false=>exact ite_ff ⟨.bl false,H3,I3,rfl,q3⟩
 |true=>exact ite_tt (chain_last (thn (hc pins s3 σ H3 _ I3 q3) λw' s4 ⟨z',H4,I4,r4,q4⟩=>ho' pins s4 σ H4 y z' u w' Q I4 r2 r4 q4))
theorem c8m{op op':CmpOp}{r r':R2}(ho:OpR X (compareOp op) r)(ho':OpR X (compareOp op') r')(ha:PE X a ta)(hb:PE X b tb)(hc:PE X c tc)
  (hm:lastMarks [op,op'] [b,c]=false:=by with_unfolding_all rfl):PT X (.Compare a [op,op'] [b,c] pos) (tTest (b4r r r' ta tb tc)):=by
 intro pins s σ H Q I h
 refine isTrue_chain (thn (ha pins s σ H _ I h) λv s1 ⟨x,H1,I1,r1,q1⟩=>test_link (thn (hb pins s1 σ H1 _ I1 q1) λu s2 ⟨y,H2,I2,r2,q2⟩=>
  thn (ho pins s2 σ H2 x y v u _ I2 r1 r2 q2) λd s3 ⟨z,H3,I3,r3,k,e,q3⟩=>?_)) hm
 subst e;cases r3;refine Xu ?_;cases k with
 |false=>
  obtain⟨k',e',q'⟩:=q3;cases e';exact ite_ff ⟨H3,I3,q'⟩
 |true=>
  refine ite_tt (test_last (thn (hc pins s3 σ H3 _ I3 q3) λw' s4 ⟨z',H4,I4,r4,q4⟩=>thn (ho' pins s4 σ H4 y z' u w' _ I4 r2 r4 q4) λd' s5 z9=>?_));obtain⟨z2,H5,I5,r5,k2,e2,q5⟩:=z9;subst e2;cases r5;exact Xu ⟨H5,I5,q5⟩
def TruV(K:W.Frag)(x:V)(H:Hp)(k:Bool):Prop:=
 match x with
 | .non=>k=false
 | .bl b=>k=b
 | .int i=>k=(i !=0)
 | .str y=>y.length<=sizeLine/\k=((y.length:Int) !=0)
 | .byt y=>y.size<=sizeLine/\k=((y.size:Int) !=0)
 | .ref p=>(∃xs,SqL K H p xs/\k= !xs.isEmpty)\/(∃xs,SqT K H p xs/\k= !xs.isEmpty)\/∃kvs,H p=some (.dK kvs)/\k= !kvs.isEmpty
 |_=>False
theorem c3a{κ:Type}{kvs:List (κ×V)}{vs:List (κ×Value)}(r:KV kvs vs):(!vs.isEmpty)= !kvs.isEmpty:=by
 cases r<;>rfl
theorem b4s{xs:List V}{its:List Value}(r:Vals xs its):(!its.toArray.isEmpty)= !xs.isEmpty:=by
 cases r<;>simp
theorem a9p:(sizeLine:Nat)<2^63:=by rw[Yg];decide
theorem c5e:TruR X (λx H Q=>∃k,TruV X.K x H k/\Q k H):=by
 intro pins s σ H x v Q I rx h;obtain⟨k,e,q⟩:=h;have hl:=a9p;have hs:sizeLine=16777216:=Yg;cases x with
 |non=>
  cases rx;have e':k=false:=e;subst e';exact truthy_none ⟨H,I,q⟩
 |bl b=>
  cases rx;have e':k=b:=e;subst e';exact Xu ⟨H,I,q⟩
 |int i=>
  obtain⟨t,rfl⟩:=rx;have e':k=(i !=0):=e;subst e';exact PySem.P.truthy_int ⟨H,I,q⟩
 |str y=>
  obtain⟨t,rfl⟩:=rx;obtain⟨hy,e'⟩:y.length<=sizeLine/\k=((y.length:Int) !=0):=e;subst e';exact PySem.P.truthy_str qo ⟨H,I.tok _,q⟩
 |byt y=>
  obtain⟨t,rfl⟩:=rx;obtain⟨hy,e'⟩:y.size<=sizeLine/\k=((y.size:Int) !=0):=e;subst e';exact W.truthy_bytes qo ⟨H,I.tok _,q⟩
 |ref p=>
  cases rx;have e':(∃xs,SqL X.K H p xs/\k= !xs.isEmpty)\/(∃xs,SqT X.K H p xs/\k= !xs.isEmpty)\/∃kvs,H p=some (.dK kvs)/\k= !kvs.isEmpty:=e;rcases e' with⟨xs,hx,e'⟩|⟨xs,hx,e'⟩|⟨kvs,hx,e'⟩
  ·subst e';obtain⟨its,r,pl,hz⟩:=I.list hx;have hlen:=r.length;exact wpAny_truthy_list pl.isList (by simp only[Zd];omega) ⟨H,I.tok _,by rw[b4s r];exact q⟩
  ·subst e';obtain⟨its,r,pl,hz⟩:=I.tuple hx;have hlen:=r.length;exact truthy_tuple pl (by simp only[Zd];omega) ⟨H,I.tok _,by rw[b4s r];exact q⟩
  ·subst e';obtain⟨hz,hS,vs,r,m⟩:kvs.length<=sizeLine/\(p==sysModules)=false/\∃vs,KV kvs vs/\s.heap.DictOf (a1q X.prog X.w) p vs:=I.hok p _ hx;have hlen:kvs.length=vs.length:=V5 r;exact wpAny_truthy_dict hS m qo ⟨H,I.tok _,by rw[c3a r];exact q⟩
 |_=>exact(show False from e).elim
theorem c3b:OpR X (binaryOp .Add) (λx y H Q=>∃i j,x=.str i/\y=.str j/\i.length+j.length<=sizeLine/\Q (.str (i++j)) H):=by
 intro pins s σ H x y v u Q I rx ry h;obtain⟨i,j,rfl,rfl,hz,q⟩:=h;obtain⟨t,rfl⟩:=rx;obtain⟨t',rfl⟩:=ry;exact add_str (λt' tk=>⟨.str (i++j),H,I.tok _,⟨_,rfl⟩,q⟩) hz
theorem vals1{x:V}{us:List Value}(r:Vals [x] us):∃u,us=[u]/\RelV x u:=by
 cases r with
 |cons r1 r2=>cases r2;exact⟨_,rfl,r1⟩
theorem a6w{x y:V}{us:List Value}(r:Vals [x,y] us):∃u w',us=[u,w']/\RelV x u/\RelV y w':=by
 cases r with
 |cons r1 r2=>
  cases r2 with
  |cons r3 r4=>cases r4;exact⟨_,_,rfl,r1,r3⟩
theorem c8n:a2b X (.builtin "abs") (λxs H Q=>∃i,xs=[.int i]/\Q (.int (if i<0 then -i else i)) H):=by
 intro pins s σ H xs us Q I r h;obtain⟨i,rfl,q⟩:=h;obtain⟨u,rfl,t,rfl⟩:=vals1 r;exact call_abs_int λu tk=>⟨.int (if i<0 then -i else i),H,I.tok _,⟨_,rfl⟩,q⟩
theorem c5f(hc:X.calm=true):a2b X (.builtin "max") (λxs H Q=>∃i j,xs=[.int i,.int j]/\Q (.int (if j>i then j else i)) H):=by
 intro pins s σ H xs us Q I r h;obtain⟨i,j,rfl,q⟩:=h;obtain⟨u,w',rfl,⟨t,rfl⟩,⟨t',rfl⟩⟩:=a6w r;refine max_two_ints (I.ok.hd hc) λh' tk k=>⟨_,H,I.kept k,?_,q⟩
 by_cases hj:j>i
 ·rw[if_pos hj,if_pos hj];exact⟨_,rfl⟩
 ·rw[if_neg hj,if_neg hj];exact⟨_,rfl⟩
theorem c5g(hc:X.calm=true):a2b X (.builtin "min") (λxs H Q=>∃i j,xs=[.int i,.int j]/\Q (.int (if j<i then j else i)) H):=by
 intro pins s σ H xs us Q I r h;obtain⟨i,j,rfl,q⟩:=h;obtain⟨u,w',rfl,⟨t,rfl⟩,⟨t',rfl⟩⟩:=a6w r;refine min_two_ints (I.ok.hd hc) λh' tk k=>⟨_,H,I.kept k,?_,q⟩
 by_cases hj:j<i
 ·rw[if_pos hj,if_pos hj];exact⟨_,rfl⟩
 ·rw[if_neg hj,if_neg hj];exact⟨_,rfl⟩
theorem c5h:a2b X (.type "int") (λxs H Q=>(∃i,xs=[.int i]/\Q (.int i) H)\/∃k,xs=[.bl k]/\Q (.int (if k then 1 else 0)) H):=by
 intro pins s σ H xs us Q I r h;rcases h with⟨i,rfl,q⟩|⟨k,rfl,q⟩
 ·obtain⟨u,rfl,t,rfl⟩:=vals1 r;exact call_int_int ⟨.int i,H,I,⟨_,rfl⟩,q⟩
 ·obtain⟨u,rfl,r1⟩:=vals1 r;cases r1;exact call_int_bool ⟨.int (if k then 1 else 0),H,I.tok _,⟨_,rfl⟩,q⟩
theorem b8p:a2b X (.type "str") (λxs H Q=>∃i,xs=[.int i]/\i.natAbs.log2<1920/\Q (.str (toString i)) H):=by
 intro pins s σ H xs us Q I r h;obtain⟨i,rfl,hz,q⟩:=h;obtain⟨u,rfl,t,rfl⟩:=vals1 r;exact PySem.P.str_of_int hz ⟨.str _,H,I.tok _,⟨_,rfl⟩,q⟩
def LenV(K:W.Frag)(x:V)(H:Hp)(n:Nat):Prop:=
 match x with
 | .str y=>y.length<=sizeLine/\n=y.length
 | .byt y=>y.size<=sizeLine/\n=y.size
 | .ref p=>(∃xs,SqL K H p xs/\n=xs.length)\/∃xs,SqT K H p xs/\n=xs.length
 |_=>False
theorem c8o:a2b X (.builtin "len") (λxs H Q=>∃x n,xs=[x]/\LenV X.K x H n/\Q (.int n) H):=by
 intro pins s σ H xs us Q I r h;obtain⟨x,n,rfl,e,q⟩:=h;obtain⟨u,rfl,rx⟩:=vals1 r;have hl:=a9p;have hs:sizeLine=16777216:=Yg;cases x with
 |str y=>
  obtain⟨t,rfl⟩:=rx;obtain⟨hy,e'⟩:y.length<=sizeLine/\n=y.length:=e;subst e';exact len_str qo ⟨.int _,H,I.tok _,⟨_,rfl⟩,q⟩
 |byt y=>
  obtain⟨t,rfl⟩:=rx;obtain⟨hy,e'⟩:y.size<=sizeLine/\n=y.size:=e;subst e';exact W.len_bytes qo ⟨.int _,H,I.tok _,⟨_,rfl⟩,q⟩
 |ref p=>
  cases rx;have e':(∃xs,SqL X.K H p xs/\n=xs.length)\/∃xs,SqT X.K H p xs/\n=xs.length:=e;rcases e' with⟨xs,hx,e'⟩|⟨xs,hx,e'⟩
  ·subst e';obtain⟨its,r',pl,hz⟩:=I.list hx;have hlen:=r'.length;exact Calls.call_len_list pl.isList (by simp only[Zd];omega) ⟨.int xs.length,H,I.tok _,⟨_,by simp only[Zd];rw[hlen]⟩,q⟩
  ·subst e';obtain⟨its,r',pl,hz⟩:=I.tuple hx;have hlen:=r'.length;exact len_tuple pl (by simp only[Zd];omega) ⟨.int xs.length,H,I.tok _,⟨_,by simp only[Zd];rw[hlen]⟩,q⟩
 |_=>exact(show False from e).elim
end
structure ObjM(h:Heap)(x dx C:Addr)(mA:Str->Option Value):Prop where
 obj:h.get? x=some (W.instObj C dx)
 ns:h.Ns1 dx mA
 ne:dx≠x
theorem c5i{h:Heap}{dx:Addr}{mA:Str->Option Value}(n:h.Ns1 dx mA):∃od,h.get? dx=some od/\∀name,W.lookIn name od=some (mA name):=by
 obtain⟨o,es,ep,ho,hd,hk,_,hm⟩:=n;refine⟨o,ho,λname=>?_⟩;have e:=hm name;unfold nsFind findBy at e;rw[<-Array.find?_toList]at e;unfold W.lookIn;rw[hd]
 dsimp only
 split
 ·rename_i y q;rw[q]at e;exact Y0 some e
 ·rename_i q;rw[q]at e;have a:es.toList.any (·.refKey)=false:=by
   rw[List.any_eq_false];intro y hy;obtain⟨z,t,hkey⟩:=hk y (Array.mem_toList_iff.mp hy)
   simp[DictEntry.refKey,hkey]
  have a':¬es.toList.any (·.refKey)=true:=by rw[a];exact Zp
  rw[if_neg a'];exact Y0 some e
theorem ObjM.look{h:Heap}{x dx C:Addr}{mA:Str->Option Value}(I:ObjM h x dx C mA):∃od,W.InstAt h x (W.instObj C dx) C (some od)/\∀name,W.lookIn name od=some (mA name):=
 let⟨od,ho,hl⟩:=c5i I.ns
 ⟨od,⟨I.obj,rfl,rfl,ho⟩,hl⟩
section
variable{prog:Program}{w:World}{A:Around}{E:Value->Shared->Prop}{s:Shared}{K:W.Frag}{x dx C f:Addr}{mA:Str->Option Value}{name:Str}{v:Value}
theorem get_map{expr:Bool}{Q:Value->Shared->Prop}(X:K.In s.heap)(I:ObjM s.heap x dx C mA)(hg:W.plainGet K C name=true)(hh:W.hasDictIn K C=true)
  (ha:W.findIn K (.ref C) name=some none)(hv:mA name=some v)(hv':W.handedIn v=true)(h:Q v { s with toks:=s.toks+1}):
  wpAny (model prog w) A (getAttr (.ref x) name expr) Q E s:=by
 obtain⟨od,J,hl⟩:=I.look;exact W.get_value X J (T4 hg).1 (W.findObj_own hh ha rfl (by rw[hl,hv])) hv' h
theorem c8p{pl:Sem Bool}{Q:Value×List Value->Shared->Prop}(X:K.In s.heap)(I:ObjM s.heap x dx C mA)(hg:W.plainGet K C name=true)
  (hf:W.findIn K (.ref C) name=some (some (.ref f)))(ht:W.isFn K (.ref f)=true)(hv:mA name=none)(h:Q (.ref f,[.ref x]) s):
  wpAny (model prog w) A (getMethod (.ref x) name pl) Q E s:=by
 obtain⟨od,J,hl⟩:=I.look;exact W.method_fn X J (T4 hg).1 (T4 hg).2 hf (Uc.mp ht) (by show(W.lookIn name od).map (·.isSome)=some false;rw[hl,hv];rfl) h
theorem set_map{ns:List Str}{Q:Unit->Shared->Prop}(X:K.In s.heap)(I:ObjM s.heap x dx C mA)
  (hs:W.findIn K (.ref C) "__setattr__"=some (some (.builtin "object.__setattr__")))(hp:W.plainOver K C=true)(ht:W.takerIn K C name=some none)(hh:W.hasDictIn K C=true)
  (hw:PySem.Within mA ns)(hsz:ns.length<=sizeLine)
  (h:∀h',ObjM h' x dx C (λy=>if y=name then some v else mA y)->Heap.SameBut dx s.heap h'->Q () { s with heap:=h',toks:=s.toks+2}):
  wpAny (model prog w) A (setAttr (.ref x) name v) Q E s:=by
 obtain⟨od,J,hl⟩:=I.look;refine W.set_plain X J hs (W.osa_open (s:={ s with toks:=s.toks+1}) (r:=none) X J hp ht λb=>?_);obtain⟨cd,hc,hd'⟩:=W.any_some hh;have hx:s.heap.get? x=some ⟨.ref C,some dx,.plain,#[]⟩:=I.obj;refine Za (Ze (Za (Za (wpAny_loadPart hx (Za (W.Looks.here (s:={ s with toks:=s.toks+1}) (W.looks_clsIn X hc) ?_))))));rw[hd'];refine Ze (a:=some dx) (Za (Ze (Za ?_)));refine Sb (s:={ s with toks:=s.toks+1}) I.ns λh' hn2 hs2=>?_
 obtain⟨oD,esD,epD,hoD,hdD,hcD⟩:=hn2.count (Tb name v hw);refine Za (Ti hoD (by rw[hdD];exact Tj (Yd hcD (by rw[length_cons];omega))) ?_);exact Ze (h _ ⟨(hs2.2 _ (Ne.symm I.ne)).trans I.obj,hn2,I.ne⟩ hs2)
theorem c8q{R:Result->Shared->Prop}{vs:List Value}{kw:List (Str×Value)}(X:K.In s.heap)(hm:W.makesIn K C=true)
  (hi:W.findIn K (.ref C) "__init__"=some (some (.ref f)))(hf:W.typeIn K (.ref f)=some (.type "function"))
  (h:codeAny (model prog w) (A.under (.builtin "type.__call__" ⟨.ref C::vs,kw⟩)) (.call (.ref f) ⟨.ref (s.heap.objs.size+1)::vs,kw⟩) (W.InitBack (s.heap.objs.size+1) R)
   { s with heap:=(s.heap.push W.emptyDict).push (W.instObj C s.heap.objs.size)}):
  codeAny (model prog w) A (.call (.ref C) ⟨vs,kw⟩) R s:=by
 obtain⟨hh,g,d,t,os⟩:=s;exact W.make_core (W.makes_of X hm) (W.looks_findIn X hi) (λself=>W.bind_fn X self hf) (.inl rfl) h
end
def putF(f:Str)(v:V):List (Str×V)->List (Str×V)
 | []=>[(f,v)]
 | (g,x)::r=>if g=f then(g,v)::r else(g,x)::putF f v r
theorem a9f(f g:Str)(v:V):∀fs:List (Str×V),(putF f v fs).lookup g=if g=f then some v else fs.lookup g
 | []=>by
  show List.lookup g [(f,v)]=_
  by_cases h:g=f
  ·have hb:(g==f)=true:=Uc.mpr h;simp only[List.lookup,hb,if_pos h]
  ·have hb:(g==f)=false:=Yr.mpr h;simp only[List.lookup,hb,if_neg h]
 | (k,x)::r=>by
  have ih:=a9f f g v r;rw[show putF f v ((k,x)::r)=(if k=f then(k,v)::r else(k,x)::putF f v r)from rfl]
  by_cases hk:k=f
  ·rw[if_pos hk]
   by_cases h:g=k
   ·have hb:(g==k)=true:=Uc.mpr h;simp only[List.lookup,hb,if_pos (h.trans hk)]
   ·have hb:(g==k)=false:=Yr.mpr h;simp only[List.lookup,hb,if_neg (λe:g=f=>h (e.trans hk.symm))]
  ·rw[if_neg hk]
   by_cases h:g=k
   ·have hb:(g==k)=true:=Uc.mpr h;simp only[List.lookup,hb,if_neg (λe:g=f=>hk (h.symm.trans e))]
   ·have hb:(g==k)=false:=Yr.mpr h;simp only[List.lookup,hb];exact ih
theorem b1f(f:Str)(v:V):∀fs:List (Str×V),f∈(putF f v fs).map (·.1)/\∀g,g∈fs.map (·.1)->g∈(putF f v fs).map (·.1)
 | []=>⟨by simp[putF],λg h=>by simp at h⟩
 | (k,x)::r=>by
  obtain⟨i1,i2⟩:=b1f f v r;rw[show putF f v ((k,x)::r)=(if k=f then(k,v)::r else(k,x)::putF f v r)from rfl]
  by_cases hk:k=f
  ·rw[if_pos hk];subst hk;exact⟨qz,λg h=>by simpa using h⟩
  ·rw[if_neg hk];refine⟨?_,λg h=>?_⟩
   ·rw[Z4];exact Z8 _ i1
   ·rw[Z4]at h ⊢;rcases Zi.mp h with e|e
    ·exact Zi.mpr (.inl e)
    ·exact Z8 _ (i2 g e)
theorem b3k(f:Str)(v:V):∀fs:List (Str×V),(putF f v fs).length<=fs.length+1
 | []=>by simp[putF]
 | (k,x)::r=>by
  have ih:=b3k f v r;rw[show putF f v ((k,x)::r)=(if k=f then(k,v)::r else(k,x)::putF f v r)from rfl]
  by_cases hk:k=f
  ·rw[if_pos hk,length_cons,length_cons];omega
  ·rw[if_neg hk,length_cons,length_cons];omega
theorem RelO.some_of{v:V}{o:Option Value}(r:RelO (some v) o):∃u,o=some u/\RelV v u:=by
 cases o with
 |none=>exact(show False from r).elim
 |some u=>exact⟨u,rfl,r⟩
theorem RelO.none_of{o:Option Value}(r:RelO none o):o=none:=by
 cases o with
 |none=>rfl
 |some u=>exact(show False from r).elim
theorem c5j{v:V}{u:Value}(r:RelV v u):W.handedIn u=true:=by
 cases v with
 |non=>cases(show u=Value.none from r);rfl
 |bl b=>cases(show u=Value.bool b from r);rfl
 |int i=>obtain⟨t,e⟩:=(show ∃t,u=Value.int i t from r);cases e;rfl
 |str x=>obtain⟨t,e⟩:=(show ∃t,u=Value.str x t from r);cases e;rfl
 |byt b=>obtain⟨t,e⟩:=(show ∃t,u=Value.bytes b t from r);cases e;rfl
 |flt b=>obtain⟨t,e⟩:=(show ∃t,u=Value.float b t from r);cases e;rfl
 |ref a=>cases(show u=Value.ref a from r);rfl
 |ty n=>cases(show u=Value.type n from r);rfl
section
variable{P:Program}{w:World}{H H':Hp}{h h':Heap}{a C dx:Addr}{fs fs':List (Str×V)}
theorem b2q(hok:HOk P w H h)(e:H a=some (.ins C dx fs)):∃mA,ObjM h a dx C mA/\(∀f,RelO (fs.lookup f) (mA f))/\PySem.Within mA (fs.map (·.1))/\fs.length<=1000/\H dx=some (.own a):=by
 obtain⟨d,z,ne,ob,mA,n,r,q⟩:=(show a1s P w H h a (.ins C dx fs)from hok a _ e);exact⟨mA,⟨ob,n,ne⟩,r,q,z,d⟩
end
structure Cls(K:W.Frag)(C:Addr):Prop where
 pg:W.plainGet K C Str.empty=true
 hd:W.hasDictIn K C=true
 po:W.plainOver K C=true
 sa:W.findIn K (.ref C) "__setattr__"=some (some (.builtin "object.__setattr__"))
theorem Cls.get{K:W.Frag}{C:Addr}(c:Cls K C)(f:Str):W.plainGet K C f=true:=c.pg
def a2g(K:W.Frag)(C:Addr)(f:Str):Prop:=W.findIn K (.ref C) f=some none
theorem a2g.taker{K:W.Frag}{C:Addr}{f:Str}(n:a2g K C f):W.takerIn K C f=some none:=by
 unfold W.takerIn;rw[show W.findIn K (.ref C) f=some none from n];rfl
structure Meth(K:W.Frag)(C:Addr)(m:Str)(f:Addr):Prop where
 at_:W.findIn K (.ref C) m=some (some (.ref f))
 fn:W.isFn K (.ref f)=true
 kp:W.keepIn K (.ref f)=true
section
variable{X:Cx}{pins:List (Addr×Obj)}{σ:St}{H:Hp}{s:Shared}{a C dx:Addr}{fs:List (Str×V)}{f:Str}{v:V}{A:Around}{E:Value->Shared->Prop}
theorem c3c{b:Bool}{Q:Value->Shared->Prop}(I:Inv X pins σ H s)(e:H a=some (.ins C dx fs))(c:Cls X.K C)(n:a2g X.K C f)(l:fs.lookup f=some v)
  (h:∀u s',Inv X pins σ H s'->RelV v u->Q u s'):wpAny (model X.prog X.w) A (getAttr (.ref a) f b) Q E s:=by
 obtain⟨mA,O,r,_,_,_⟩:=b2q I.hok e;obtain⟨u,hu,ru⟩:=RelO.some_of (v:=v) (o:=mA f) (by rw[<-l];exact r f);exact get_map I.kIn O (c.get f) c.hd n hu (c5j ru) (h u _ (I.tok _) ru)
theorem b4t{m:Str}{g:Addr}{pl:Sem Bool}{Q:Value×List Value->Shared->Prop}(I:Inv X pins σ H s)(e:H a=some (.ins C dx fs))(c:Cls X.K C)(k:Meth X.K C m g)(l:fs.lookup m=none)
  (h:Q (.ref g,[.ref a]) s):wpAny (model X.prog X.w) A (getMethod (.ref a) m pl) Q E s:=by
 obtain⟨mA,O,r,_,_,_⟩:=b2q I.hok e;have hn:mA m=none:=RelO.none_of (by rw[<-l];exact r m);exact c8p I.kIn O (c.get m) k.at_ k.fn hn h
theorem c3d{y:V}{u:Value}{Q:Unit->Shared->Prop}(I:Inv X pins σ H s)(e:H a=some (.ins C dx fs))(c:Cls X.K C)(n:a2g X.K C f)(hl:fs.length<1000)(ry:RelV y u)
  (h:∀s',Inv X pins σ (upd H a (.ins C dx (putF f y fs))) s'->Q () s'):wpAny (model X.prog X.w) A (setAttr (.ref a) f u) Q E s:=by
 obtain⟨mA,O,r,wi,_,ho⟩:=b2q I.hok e;have hz:(fs.map (·.1)).length<=sizeLine:=by rw[length_map,Yg];omega
 refine set_map I.kIn O c.sa c.po n.taker c.hd wi hz λh' O' sb=>h _ ?_
 have hd:∃o,h'.get? dx=some o:=let⟨o,_,_,e',_⟩:=O'.ns;⟨o,e'⟩
 refine I.write (x:=a) (e:=dx) (by rw[e];exact True.intro) (.inr ho) (λb q hb z=>(sb.2 b hb).trans z) hd ?_;refine⟨by rw[a0p O.ne];exact ho,?_,O.ne,O'.obj,_,O'.ns,λg=>?_,λg hg=>?_⟩
 ·have:=b3k f y fs;omega
 ·show RelO ((putF f y fs).lookup g) (if g=f then some u else mA g)
  rw[a9f]
  by_cases q:g=f
  ·rw[if_pos q,if_pos q];exact ry
  ·rw[if_neg q,if_neg q];exact r g
 ·by_cases q:g=f
  ·rw[q];exact(b1f f y fs).1
  ·refine(b1f f y fs).2 g (wi g λz=>hg ?_)
   show(if g=f then some u else mA g)=none
   rw[if_neg q];exact z
theorem Inv.made(I:Inv X pins σ H s):Inv X pins σ (upd (upd H s.heap.objs.size (.own (s.heap.objs.size+1))) (s.heap.objs.size+1) (.ins C s.heap.objs.size []))
  { s with heap:=(s.heap.push W.emptyDict).push (W.instObj C s.heap.objs.size)}:=by
 have e1:(s.heap.push W.emptyDict).get? s.heap.objs.size=some W.emptyDict:=Zk s.heap rfl;have e2:((s.heap.push W.emptyDict).push (W.instObj C s.heap.objs.size)).get? (s.heap.objs.size+1)=some (W.instObj C s.heap.objs.size):=by
  have:=Zk (s.heap.push W.emptyDict) (o:=W.instObj C s.heap.objs.size) rfl;rwa[Yc]at this
 have e3:(s.heap.push W.emptyDict).Ns s.heap.objs.size (λ_=>none):=⟨W.emptyDict,#[],_,e1,rfl,(λe he=>absurd he qz),λ_=>rfl⟩;have I1:=I.laid (a:=s.heap.objs.size) (o:=.own (s.heap.objs.size+1)) (h':=s.heap.push W.emptyDict) (t':=s.toks) (λb u q=>Zc _ q) (Zg _) ⟨_,e1⟩;refine I1.laid (a:=s.heap.objs.size+1) (o:=.ins C s.heap.objs.size []) (t':=s.toks) (λb u q=>Zc _ q) (Nat.le_of_eq (Yc _ _)) ?_;have ne:s.heap.objs.size≠s.heap.objs.size+1:=Zv (V8 _);refine⟨by rw[a0p ne,a0c],Yx _,ne,e2,λ_=>none,(Heap.Ns1.of_empty e3).at λo q=>Zc _ q,λ_=>True.intro,λy hy=>absurd rfl hy⟩
theorem attr_of{prog:Program}{w:World}{env:Env}{e:Expr}{f:Str}{pos:Pos}{s:Shared}{Q:Value->Shared->Prop}(hb:attributeBase e f env (eval e env)=eval e env)
  (h:wpAny (model prog w) A (eval e env) (λo s₁=>wpAny (model prog w) A (getAttr o f true) Q E s₁) E s):wpAny (model prog w) A (eval (.Attribute e f pos) env) Q E s:=
 Attribute_any_ h (by rw[arm_eval_Attribute,hb])
end
def tFld(K:W.Frag)(ta:TE)(f:Str):TE:=λσ H Q=>ta σ H λx H1=>∃a C dx fs v,x=.ref a/\H1 a=some (.ins C dx fs)/\Cls K C/\a2g K C f/\fs.lookup f=some v/\Q v H1
def sFld(K:W.Frag)(ta tv:TE)(f:Str):TS:=λD σ H=>tv σ H λy H1=>ta σ H1 λx H2=>∃a C dx fs,x=.ref a/\H2 a=some (.ins C dx fs)/\Cls K C/\a2g K C f/\fs.length<1000/\
 D.nx σ (upd H2 a (.ins C dx (putF f y fs)))
section
variable{X:Cx}{o e value:Expr}{f:Str}{pos pos' tpos:Pos}{ta tv:TE}
theorem a7e(he:PE X e ta)(hb:attributeBase e f X.env (eval e X.env)=eval e X.env):PE X (.Attribute e f pos) (tFld X.K ta f):=by
 intro pins s σ H Q I h;refine attr_of hb (thn (he pins s σ H _ I h) λu s1 z9=>?_);obtain⟨x,H1,I1,rx,a,C,dx,fs,v,ex,ea,c,n,l,q⟩:=z9;subst ex;obtain rfl:u=Value.ref a:=rx;exact c3c I1 ea c n l λu' s2 I2 ru=>⟨v,H1,I2,ru,q⟩
theorem b8q(ha:PE X o ta)(hv:PE X value tv)(hs:swapsWith value (some (.Attribute o f pos')) pos.line X.env=pure false):PS X (.Assign [.Attribute o f pos'] value pos) (sFld X.K ta tv f):=by
 intro pins s σ H D I h;refine Th (thn (hv pins s σ H _ I h) λu s1 ⟨y,H1,I1,ry,q⟩=>thn (ha pins s1 σ H1 _ I1 q) λov s2 ⟨x,H2,I2,rx,a,C,dx,fs,ex,ea,c,n,l,q2⟩=>?_) hs;subst ex;obtain rfl:ov=Value.ref a:=rx;exact c3d I2 ea c n l ry λs3 I3=>⟨σ,_,I3,q2⟩
end
section
variable{X:Cx}{pins:List (Addr×Obj)}{σ:St}{H:Hp}{s:Shared}{A:Around}{E:Value->Shared->Prop}{Q:Value->Shared->Prop}{c:Value}{b:Bool}
inductive TyOf(K:W.Frag)(H:Hp):V->Value->Prop where
 |non:TyOf K H .non (.type "NoneType")
 |bl (x:Bool):TyOf K H (.bl x) (.type "bool")
 |int (i:Int):TyOf K H (.int i) (.type "int")
 |str (x:Str):TyOf K H (.str x) (.type "str")
 |flt (x:UInt64):TyOf K H (.flt x) (.type "float")
 |lst {a:Addr} {xs:List V} (e:H a=some (.lst xs)):TyOf K H (.ref a) (.type "list")
 |frz {a:Addr} {o:Obj} {xs:List V} (e:H a=some (.frz o (.lst xs))):TyOf K H (.ref a) (.type "list")
 |tup {a:Addr} {xs:List V} (e:H a=some (.tup xs)):TyOf K H (.ref a) (.type "tuple")
 |dK {a:Addr} {kvs:List (Key×V)} (e:H a=some (.dK kvs)):TyOf K H (.ref a) (.type "dict")
 |dT {a:Addr} {kvs:List (List Key×V)} (e:H a=some (.dT kvs)):TyOf K H (.ref a) (.type "dict")
 |ins {a C dx:Addr} {fs:List (Str×V)} (e:H a=some (.ins C dx fs)) (cl:Cls K C) (ha:W.findIn K (.ref C) "__class__"=some (some (.builtin "object.__class__")))
   (hn:W.specialIn K (.builtin "object.__class__") "__get__"=some (some (.builtin "getset_descriptor.__get__"))) (htk:W.takesIn K (.builtin "object.__class__")=some true)
   (hm:W.mroIn K C (.type "object")=some true):TyOf K H (.ref a) (.ref C)
theorem a4x{x:V}{u t:Value}(I:Inv X pins σ H s)(rx:RelV x u)(ty:TyOf X.K H x t)(e:W.kitOne X.K t c=some b)(h:∀tk,Q (.bool b) { s with toks:=tk}):
  wpAny (model X.prog X.w) A (call (.builtin "isinstance") [u,c]) Q E s:=by
 cases ty with
 |non=>cases(show u=Value.none from rx);exact Wi W.kitx_none I.kIn True.intro e (λz=>nomatch z) h
 |bl y=>cases(show u=Value.bool y from rx);exact Wi W.kitx_bool I.kIn True.intro e (λz=>nomatch z) h
 |int i=>obtain⟨t,q⟩:=(show ∃t,u=Value.int i t from rx);cases q;exact Wi W.kitx_int I.kIn True.intro e (λz=>nomatch z) h
 |str y=>obtain⟨t,q⟩:=(show ∃t,u=Value.str y t from rx);cases q;exact Wi W.kitx_str I.kIn True.intro e (λz=>nomatch z) h
 |flt y=>obtain⟨t,q⟩:=(show ∃t,u=Value.float y t from rx);cases q;exact Wi W.kitx_float I.kIn True.intro e (λz=>nomatch z) h
 | @lst a xs ea=>
  cases(show u=Value.ref a from rx)
  obtain⟨_,_,n,_,h1⟩:=(show a1s X.prog X.w H s.heap a (.lst xs)from I.hok a _ ea);exact Wi S1 I.kIn ⟨_,h1,rfl⟩ e (λz=>nomatch z) h
 | @frz a ob xs ea=>
  cases(show u=Value.ref a from rx)
  obtain⟨_,_,_,n,_,h1⟩:=(show a1s X.prog X.w H s.heap a (.frz ob (.lst xs))from I.hok a _ ea);exact Wi S1 I.kIn ⟨_,h1,rfl⟩ e (λz=>nomatch z) h
 | @tup a xs ea=>
  cases(show u=Value.ref a from rx)
  obtain⟨_,_,_,p⟩:=(show a1s X.prog X.w H s.heap a (.tup xs)from I.hok a _ ea);obtain⟨o,h1,h2,_⟩:=p;exact Wi W.kitx_tuple I.kIn ⟨o,h1,h2⟩ e (λz=>nomatch z) h
 | @dK a kvs ea=>
  cases(show u=Value.ref a from rx)
  obtain⟨_,_,vs,_,p⟩:=(show a1s X.prog X.w H s.heap a (.dK kvs)from I.hok a _ ea);obtain⟨o,es,ep,h1,h2,_⟩:=p;exact Wi W.kitx_dict I.kIn ⟨o,h1,h2.1⟩ e (λz=>nomatch z) h
 | @dT a kvs ea=>
  cases(show u=Value.ref a from rx)
  obtain⟨_,_,xs,_,o,es,ep,h1,h2,_⟩:=(show a1s X.prog X.w H s.heap a (.dT kvs)from I.hok a _ ea);exact Wi W.kitx_dict I.kIn ⟨o,h1,h2.1⟩ e (λz=>nomatch z) h
 | @ins a C dx fs ea cl ha hn htk hm=>
  cases(show u=Value.ref a from rx)
  obtain⟨mA,O,_⟩:=b2q I.hok ea;obtain⟨od,J,_⟩:=O.look;exact Wi (W.kitx_own (cl.get _) cl.hd ha hn htk hm) I.kIn J e (λz=>nomatch z) h
end
structure Room(k:Nat)(A:Around):Prop where
 hd:A.handled=none
 dp:A.depth+3*k+5<recursionLimit
 un:A.units+16*k+200<cLine
 gd:A.guards=some []
theorem Room.mono{j k:Nat}{A:Around}(r:Room k A)(h:j<=k):Room j A:=⟨r.hd,by have:=r.dp;omega,by have:=r.un;omega,r.gd⟩
theorem Room.o{j k:Nat}{A:Around}(r:Room k A)(h:j<=k:=by first|decide|exact Nat.le_refl _|exact Nat.le_add_left_of_le qd|omega):Room j A:=r.mono h
theorem Room.deeper{k:Nat}{A:Around}(r:Room (k+1) A)(env:Env):Room k (A.deeper env):=
 ⟨r.hd,by have:=r.dp;show A.depth+1+3*k+5<_;omega,by have:=r.un;show A.units+3+16*k+200<_;omega,r.gd⟩
theorem c3e{A:Around}{C:Addr}{us:List Value}{kw:List (Str×Value)}:(A.under (.builtin "type.__call__" ⟨.ref C::us,kw⟩)).depth=A.depth+1:=by
 first|rfl|simp[Around.under,Code.weight,Code.isCreation,Code.isGuard,Code.isCaller,Code.frames,Code.isFrame,guardIds]
theorem c3f{A:Around}{C:Addr}{us:List Value}{kw:List (Str×Value)}:(A.under (.builtin "type.__call__" ⟨.ref C::us,kw⟩)).units=A.units+1:=by
 first|rfl|simp[Around.under,Code.cUnits,Code.frames,Code.isFrame]
theorem c0y{A:Around}{C:Addr}{us:List Value}{kw:List (Str×Value)}:(A.under (.builtin "type.__call__" ⟨.ref C::us,kw⟩)).guards=A.guards:=by
 first|rfl|simp[Around.under,Code.guards,Code.isGuard,guardIds,pushGuards]
theorem Room.make{k:Nat}{A:Around}(r:Room (k+1) A)(C:Addr)(us:List Value)(kw:List (Str×Value)):Room k (A.under (.builtin "type.__call__" ⟨.ref C::us,kw⟩)):=
 ⟨r.hd,by have:=r.dp;rw[c3e];omega,by have:=r.un;rw[c3f];omega,c0y.trans r.gd⟩
theorem Room.depth{k:Nat}{A:Around}(r:Room k A):A.depth<recursionLimit:=by have:=r.dp;omega
theorem Room.units{k:Nat}{A:Around}(r:Room k A):A.units+64<cLine:=by have:=r.un;omega
def tNil:TA:=λ_ H Q=>Q [] H
def b7w(ta:TE)(tr:TA):TA:=λσ H Q=>ta σ H λx H1=>tr σ H1 λxs H2=>Q (x::xs) H2
section
variable{X:Cx}{e:Expr}{es:List Expr}{te:TE}{t:TA}{pos:Pos}
theorem a0e:PA X [] tNil:=λ_ _ _ _ H Q I h=>Ve ⟨[],H,I,.nil,h⟩
theorem c1u(ha:PE X e te)(hr:PA X es t)(hs:starEach (e::es) X.env=(false,eval e X.env)::starEach es X.env:=by rfl):PA X (e::es) (b7w te t):=by
 intro pos pins s σ H Q I h;rw[hs]
 show wpAny _ _ (spliced ((false,eval e X.env)::backTo pos (starEach es X.env))) _ _ s
 refine W8 (thn (ha pins s σ H _ I h) λu s1 z9=>?_);obtain⟨x,H1,I1,r1,q1⟩:=z9;exact thn (hr pos pins s1 σ H1 _ I1 q1) λus s2 ⟨xs,H2,I2,r2,q2⟩=>⟨x::xs,H2,I2,.cons r1 r2,q2⟩
def tTup(t:TA):TE:=λσ H Q=>t σ H λxs H1=>xs.length<=sizeLine/\∀p,H1 p=none->Q (.ref p) (upd H1 p (.tup xs))
def tLst(t:TA):TE:=λσ H Q=>t σ H λxs H1=>xs.length<=sizeLine/\∀p,H1 p=none->Q (.ref p) (upd H1 p (.lst xs))
theorem a1j{x1}(h:PA X es t):PE X (.Tuple es x1 pos) (tTup t):=by
 intro pins s σ H Q I hq;refine wpAny_Tuple_spliced (thn (h pos pins s σ H _ I hq) λus s1 ⟨xs,H1,I1,r,z,q⟩=>⟨by rw[<-r.length];exact z,?_⟩);have hf:H1 s1.heap.objs.size=none:=I1.hok.fresh (Zg _);refine⟨.ref s1.heap.objs.size,upd H1 s1.heap.objs.size (.tup xs),I1.laid (t':=s1.toks) (λb u e=>Zc _ e) (Zg _) ?_,rfl,q _ hf⟩;exact⟨z,us,r,⟨_,Zk _ rfl,rfl,_,rfl⟩⟩
theorem a1u(h:PA X es t):PE X (.List es pos) (tLst t):=by
 intro pins s σ H Q I hq;refine wpAny_List_spliced (thn (h pos pins s σ H _ I hq) λus s1 ⟨xs,H1,I1,r,z,q⟩=>⟨by rw[<-r.length];exact z,?_⟩);have hf:H1 s1.heap.objs.size=none:=I1.hok.fresh (Zg _);refine⟨.ref s1.heap.objs.size,upd H1 s1.heap.objs.size (.lst xs),I1.laid (t':=s1.toks) (λb u e=>Zc _ e) (Zg _) ?_,rfl,q _ hf⟩;exact⟨z,us,0,r,Zk _ rfl⟩
end
abbrev Sp:=List V->Hp->VK->XK->Prop
abbrev CXT:=List Env->Hp->Shared->XK->Value->Shared->Prop
structure Env0(P:Program)(w:World)(K:W.Frag)(mg:Str->Option Value)(base:Heap)(A:Around)(outer:List Env)(s:Shared)(H:Hp):Prop where
 frames:A.frames=some outer
 mod:Mod K mg base
 bs:∀b o,base.get? b=some o->s.heap.get? b=some o/\H b=none
 bsz:base.objs.size<=s.heap.objs.size
 funs:s.heap.FunFrames base outer
 frf:∀b∈frs outer,H b=none
 hok:HOk P w H s.heap
 bare:AllBare s.gens
def CE(outer:List Env)(P:Program)(w:World)(H:Hp)(s:Shared)(Q:VK)(u:Value)(s':Shared):Prop:=
 ∃v H',s'.os=s.os/\AllBare s'.gens/\Un (frs outer) [] H H' s.heap s'.heap/\HOk P w H' s'.heap/\RelV v u/\Q v H'
def CR(CX:CXT)(outer:List Env)(P:Program)(w:World)(H:Hp)(s:Shared)(Q:VK)(E:XK)(r:Result)(s':Shared):Prop:=
 match r with
 | .ok (.ret u)=>CE outer P w H s Q u s'
 | .ok _=>False
 | .error e=>CX outer H s E e s'
structure FnOk(P:Program)(w:World)(K:W.Frag)(mg:Str->Option Value)(base:Heap)(CX:CXT)(k:Nat)(f:Addr)(fd:FuncData)(ps:List Str)(sp:Sp):Prop where
 len:∀vs H Q E,sp vs H Q E->vs.length=ps.length
 run:∀(A:Around)(outer:List Env)(s:Shared)(H:Hp)(args:Args)(us:List Value)(vs:List V)(Q:VK)(E:XK),Room k A->Env0 P w K mg base A outer s H->BindsTo s fd args (ps.zip us)->Vals vs us->sp vs H Q E->
  codeAny (model P w) A (.call (.ref f) args) (CR CX outer P w H s Q E) s
theorem Env0.make{P:Program}{w:World}{K:W.Frag}{mg:Str->Option Value}{base:Heap}{A:Around}{outer:List Env}{s:Shared}{H:Hp}(e:Env0 P w K mg base A outer s H)(C:Addr)(us:List Value)(kw:List (Str×Value)):
  Env0 P w K mg base (A.under (.builtin "type.__call__" ⟨.ref C::us,kw⟩)) outer s H:=⟨by first|exact e.frames| (simpa[Around.under,Code.envs,Code.isFrame,pushEnvs]using e.frames),e.mod,e.bs,e.bsz,e.funs,e.frf,e.hok,e.bare⟩
section
variable{X:Cx}{pins:List (Addr×Obj)}{σ:St}{H:Hp}{s s':Shared}
theorem Inv.env0(I:Inv X pins σ H s):Env0 X.prog X.w X.K X.mg X.base X.A X.stack s H:=
 ⟨I.ok.frames,I.ok.mod,I.bs,Yd I.ok.bsz I.sz,I.stack,I.stkFree,I.hok,I.bare⟩
theorem Inv.after{Q:VK}{u:Value}(I:Inv X pins σ H s)(h:CE X.stack X.prog X.w H s Q u s'):EP X pins σ Q u s':=by
 obtain⟨v,H',os,bare,un,hok,r,q⟩:=h;obtain⟨hh,g,d,t,os'⟩:=s';obtain rfl:os'=s.os:=os;exact⟨v,H',I.call (h':=hh) (g':=g) (d':=d) (t':=t) (ch:=[]) un hok bare (λb z=>absurd z qz),r,q⟩
end
def b7x(sp:Sp)(dvs:List V)(E:XK)(t:TA):TE:=λσ H Q=>t σ H λvs H1=>sp (vs++dvs) H1 Q E
def tMeth(C:Addr)(m:Str)(sp:Sp)(dvs:List V)(E:XK)(ta:TE)(t:TA):TE:=λσ H Q=>ta σ H λx H1=>∃a dx fs,x=.ref a/\H1 a=some (.ins C dx fs)/\fs.lookup m=none/\
 t σ H1 λvs H2=>sp (x::(vs++dvs)) H2 Q E
def tMake(C:Addr)(sp:Sp)(dvs:List V)(E:XK)(t:TA):TE:=λσ H Q=>t σ H λvs H1=>∀x dx,H1 x=none->H1 dx=none->dx≠x->
 sp (.ref x::(vs++dvs)) (upd (upd H1 dx (.own x)) x (.ins C dx [])) (λv H2=>v=.non/\Q (.ref x) H2) E
def Binds(K:W.Frag)(fd:FuncData)(ps:List Str)(ds:List Value):Prop:=
 ∀(s:Shared)(us:List Value),K.In s.heap->(us++ds).length=ps.length->BindsTo s fd ⟨us,[]⟩ (ps.zip (us++ds))
theorem Binds.all{K:W.Frag}{fd:FuncData}{ps:List Str}(h:∀us:List Value,us.length=ps.length->bindArgs fd ⟨us,[]⟩=pure (ps.zip us)):Binds K fd ps []:=λs us _ hl=>by
 rw[X7]at hl ⊢;exact .of_eq (h us hl)
def a5q(CX:CXT)(X:Cx)(E:XK):Prop:=∀(pins:List (Addr×Obj))(σ:St)(H:Hp)(s:Shared)(e:Value)(s':Shared),Inv X pins σ H s->CX X.stack H s E e s'->X.xe e s'
section
variable{X:Cx}{CX:CXT}{k:Nat}{f C:Addr}{fd:FuncData}{ps:List Str}{sp:Sp}{dvs:List V}{ds:List Value}{E:XK}{x m:Str}{p pos apos:Pos}{e o:Expr}{es:List Expr}{ta:TE}{t:TA}
theorem b8r{pins:List (Addr×Obj)}{σ:St}{H:Hp}{s:Shared}{Q:VK}{us:List Value}{vs:List V}(F:FnOk X.prog X.w X.K X.mg X.base CX k f fd ps sp)(hr:Room k X.A)(hb:Binds X.K fd ps ds)(hd:Vals dvs ds)(hx:a5q CX X E)
  (I:Inv X pins σ H s)(r:Vals vs us)(h:sp (vs++dvs) H Q E):wpAny (model X.prog X.w) X.A (call (.ref f) us) (EP X pins σ Q) X.xe s:=by
 have r2:Vals (vs++dvs) (us++ds):=r.append hd;have hl:(us++ds).length=ps.length:=by rw[<-r2.length];exact F.len _ _ _ _ h
 refine Ub (Vm (F.run X.A X.stack s H ⟨us,[]⟩ (us++ds) (vs++dvs) Q E hr I.env0 (hb s us I.kIn hl) r2 h) λr s' hq=>?_);cases r with
 |error e=>exact hx pins σ H s e s' I hq
 |ok fl=>
  cases fl with
  |ret u=>exact I.after hq
  |next=>exact False.elim hq
  |brk=>exact False.elim hq
  |cont=>exact False.elim hq
theorem a0r(F:FnOk X.prog X.w X.K X.mg X.base CX k f fd ps sp)(hr:Room k X.A)(hg:Gl X x)(hm:X.mg x=some (.ref f))(hk:W.keepIn X.K (.ref f)=true)(hb:Binds X.K fd ps ds)(hd:Vals dvs ds)(hx:a5q CX X E)
  (ha:PA X (e::es) t)(hdb:(x==("__debug__":Str))=false:=by decide)(he:starEach (e::es) X.env=(false,eval e X.env)::starEach es X.env:=by rfl)(hpl:(backTo pos (starEach es X.env)).any (·.1)=false:=by rfl):
  PE X (.Call (.Name x p) (e::es) [] pos) (b7x sp dvs E t):=by
 intro pins s σ H Q I h;refine W4 (a9k I hg hm ?_ hdb);refine Vn (h₀:=X.base) I.ok.mod.kin hk (thn (ha pos pins s σ H _ I h) λus s1 ⟨vs,H1,I1,r,q⟩=>⟨I1.kIn,?_⟩) he hpl;exact b8r F hr hb hd hx I1 r q
theorem a8d{pl:Sem Bool}(he:PE X o ta)(c:Cls X.K C)(hm:Meth X.K C m f)(F:FnOk X.prog X.w X.K X.mg X.base CX k f fd ps sp)(hr:Room k X.A)(hb:Binds X.K fd ps ds)(hd:Vals dvs ds)(hx:a5q CX X E)(ha:PA X (e::es) t)
  (hst:starEach (e::es) X.env=(false,eval e X.env)::starEach es X.env:=by rfl)(hpl:(backTo pos (starEach es X.env)).any (·.1)=false:=by rfl)
  (ht:eval (.Call (.Attribute o m apos) (e::es) [] pos) X.env=(do
   let ov <-eval o X.env
   standAt apos.atName
   let(f,first) <-holding [ov] (getMethod ov m pl)
   callWith pos f first (backTo pos (starEach (e::es) X.env)) (backToKw pos (keywordEach [] X.env))):=by rfl):
  PE X (.Call (.Attribute o m apos) (e::es) [] pos) (tMeth C m sp dvs E ta t):=by
 intro pins s σ H Q I h;refine Ui (pl:=pl) (thn (he pins s σ H _ I h) λu s1 ⟨x,H1,I1,rx,a,dx,fs,ex,ea,l,q⟩=>?_) ht;subst ex;obtain rfl:u=Value.ref a:=rx;refine b4t I1 ea c hm l ?_;refine Vn (first:=[.ref a]) (h₀:=X.base) I.ok.mod.kin hm.kp (thn (ha pos pins s1 σ H1 _ I1 q) λus s2 ⟨vs,H2,I2,r,q2⟩=>⟨I2.kIn,?_⟩) hst hpl;exact b8r (us:=.ref a::us) (vs:=.ref a::vs) F hr hb hd hx I2 (.cons rfl r) q2
structure Mk(K:W.Frag)(C f:Addr):Prop where
 makes:W.makesIn K C=true
 init:W.findIn K (.ref C) "__init__"=some (some (.ref f))
 fn:W.isFn K (.ref f)=true
 kp:W.keepIn K (.ref C)=true
theorem c8r{pins:List (Addr×Obj)}{σ:St}{H:Hp}{s:Shared}{Q:VK}{us:List Value}{vs:List V}(M:Mk X.K C f)(F:FnOk X.prog X.w X.K X.mg X.base CX k f fd ps sp)(hr:Room (k+1) X.A)(hb:Binds X.K fd ps ds)(hd:Vals dvs ds)
  (hx:a5q CX X E)(I:Inv X pins σ H s)(r:Vals vs us)
  (h:∀x dx,H x=none->H dx=none->dx≠x->sp (.ref x::(vs++dvs)) (upd (upd H dx (.own x)) x (.ins C dx [])) (λv H2=>v=.non/\Q (.ref x) H2) E):
  wpAny (model X.prog X.w) X.A (call (.ref C) us) (EP X pins σ Q) X.xe s:=by
 have hq:=h (s.heap.objs.size+1) s.heap.objs.size (I.hok.fresh (Vy _)) (I.hok.fresh (Zg _)) (Zv (V8 _));have I2:=Inv.made (C:=C) I;have r2:Vals (V.ref (s.heap.objs.size+1)::(vs++dvs)) (Value.ref (s.heap.objs.size+1)::(us++ds)):=.cons rfl (r.append hd);have hl:(Value.ref (s.heap.objs.size+1)::us++ds).length=ps.length:=by
  have e:=r2.length;rw[F.len _ _ _ _ hq]at e;exact e.symm
 refine Ub (c8q (f:=f) I.kIn M.makes M.init (Uc.mp M.fn) (Vm (F.run _ X.stack _ _ ⟨Value.ref (s.heap.objs.size+1)::us,[]⟩ (Value.ref (s.heap.objs.size+1)::(us++ds)) _ _ E (hr.make C us [])
  (I2.env0.make C us []) (hb _ (Value.ref (s.heap.objs.size+1)::us) I2.kIn hl) r2 hq) λr s' hq'=>?_))
 cases r with
 |error e=>exact hx pins σ _ _ e s' I2 hq'
 |ok fl=>
  cases fl with
  |ret u=>
   obtain⟨v,H',I3,rv,ev,q3⟩:=I2.after hq';subst ev;exact⟨rv,⟨V.ref (s.heap.objs.size+1),H',I3,rfl,q3⟩⟩
  |next=>exact False.elim hq'
  |brk=>exact False.elim hq'
  |cont=>exact False.elim hq'
theorem pe_make(M:Mk X.K C f)(F:FnOk X.prog X.w X.K X.mg X.base CX k f fd ps sp)(hr:Room (k+1) X.A)(hg:Gl X x)(hm:X.mg x=some (.ref C))(hb:Binds X.K fd ps ds)(hd:Vals dvs ds)(hx:a5q CX X E)
  (ha:PA X (e::es) t)(hdb:(x==("__debug__":Str))=false:=by decide)(he:starEach (e::es) X.env=(false,eval e X.env)::starEach es X.env:=by rfl)(hpl:(backTo pos (starEach es X.env)).any (·.1)=false:=by rfl):
  PE X (.Call (.Name x p) (e::es) [] pos) (tMake C sp dvs E t):=by
 intro pins s σ H Q I h;refine W4 (a9k I hg hm ?_ hdb);refine Vn (h₀:=X.base) I.ok.mod.kin M.kp (thn (ha pos pins s σ H _ I h) λus s1 ⟨vs,H1,I1,r,q⟩=>⟨I1.kIn,?_⟩) he hpl;exact c8r M F hr hb hd hx I1 r q
end
structure a0z(N P:List Str)(sc:Scope):Prop where
 kind:sc.kind=.function
 co:sc.isCoroutine=false
 gen:sc.isGenerator=false
 nd:N.Nodup
 pre:N.take P.length=P
 par:∀x∈P,sc.names.lookup x=some .local\/sc.names.lookup x=some .cell
 nofree:∀y∈sc.names,y.2≠.free
theorem b6w{kindOf:Str->Option NameKind}{x:Str}:∀{binds:List (Str×Value)}{m:Str->Option Value},(∀v,(x,v)∉binds)->bindL kindOf binds m x=m x
 | [],_,_=>rfl
 | (n,v)::r,m,h=>by
  unfold bindL;rw[b6w λw hw=>h w (Z8 _ hw)]
  split
  ·have:x≠n:=by rintro rfl;exact h v Yp
   simp[this]
  ·rfl
theorem b6x{kindOf:Str->Option NameKind}{x:Str}:∀{binds:List (Str×Value)}{m:Str->Option Value},(∀v,(x,v)∉binds)->bindC kindOf binds m x=m x
 | [],_,_=>rfl
 | (n,v)::r,m,h=>by
  unfold bindC;rw[b6x λw hw=>h w (Z8 _ hw)]
  split
  ·rfl
  ·have:x≠n:=by rintro rfl;exact h v Yp
   simp[this]
theorem b6y{kindOf:Str->Option NameKind}{x:Str}{v:Value}:∀{P:List Str}{vs:List Value}{i:Nat}{m:Str->Option Value},P.Nodup->P[i]? =some x->vs[i]? =some v->kindOf x=some .local->
  bindL kindOf (P.zip vs) m x=some v
 | [],_,_,_,_,h,_,_=>by simp at h
 |_::_,[],_,_,_,_,h,_=>by simp at h
 |p::P,w::vs,0,m,nd,h1,h2,hk=>by
  simp at h1 h2;subst h1;subst h2
  show bindL kindOf ((p,w)::P.zip vs) m p=_
  unfold bindL;rw[b6w λv hv=>(X5.mp nd).1 (Uk hv).1,if_pos hk]
  simp
 |p::P,w::vs,i+1,m,nd,h1,h2,hk=>by
  show bindL kindOf ((p,w)::P.zip vs) m x=_
  unfold bindL;exact b6y (i:=i) (X5.mp nd).2 (by simpa using h1) (by simpa using h2) hk
theorem b6z{kindOf:Str->Option NameKind}{x:Str}{v:Value}:∀{P:List Str}{vs:List Value}{i:Nat}{m:Str->Option Value},P.Nodup->P[i]? =some x->vs[i]? =some v->kindOf x≠some .local->
  bindC kindOf (P.zip vs) m x=some v
 | [],_,_,_,_,h,_,_=>by simp at h
 |_::_,[],_,_,_,_,h,_=>by simp at h
 |p::P,w::vs,0,m,nd,h1,h2,hk=>by
  simp at h1 h2;subst h1;subst h2
  show bindC kindOf ((p,w)::P.zip vs) m p=_
  unfold bindC;rw[b6x λv hv=>(X5.mp nd).1 (Uk hv).1,if_neg hk]
  simp
 |p::P,w::vs,i+1,m,nd,h1,h2,hk=>by
  show bindC kindOf ((p,w)::P.zip vs) m x=_
  unfold bindC;exact b6z (i:=i) (X5.mp nd).2 (by simpa using h1) (by simpa using h2) hk
def start(N:List Str)(vs:List V):St:=vs.map some++List.replicate (N.length-vs.length) none
def cxOf(CX:CXT)(P:Program)(w:World)(K:W.Frag)(mg:Str->Option Value)(base:Heap)(N:List Str)(qual:Str)(scope:Scope)(f:Addr)(cd:Value)(A:Around)(outer:List Env)(s:Shared)(H:Hp)(E:XK):Cx where
 prog:=P
 w:=w
 K:=K
 mg:=mg
 base:=base
 A:=A.deeper (envOfC qual scope s.heap.objs.size f cd)
 N:=N
 s₀:=s
 H₀:=H
 env:=envOfC qual scope s.heap.objs.size f cd
 outer:=outer
 stack:=envOfC qual scope s.heap.objs.size f cd::outer
 ex:=[]
 calm:=true
 fn:=λ_=>true
 pn:=[]
 xe:=λe s'=>wpAny (model P w) (A.deeper (envOfC qual scope s.heap.objs.size f cd)) (leaving (envOfC qual scope s.heap.objs.size f cd) e) (λ_ s''=>CX outer H s E e s'') (λe' s''=>CX outer H s E e' s'') s'
theorem b8s{sc:Scope}{n:Nat}{x:Str}(h:sc.names.lookup x=some .cell):∃c,(cellsFrom n sc.names []).lookup x=some c:=by
 have q:=W.cellsFrom_some sc.names n [] (.inl h);exact Option.isSome_iff_exists.mp q
theorem c5k{CX:CXT}{P:Program}{w:World}{K:W.Frag}{mg:Str->Option Value}{base:Heap}{N ps:List Str}{qual:Str}{scope:Scope}{f:Addr}{cd:Value}{A:Around}{outer:List Env}{s s1:Shared}{H:Hp}{E:XK}{us:List Value}{vs:List V}
  (S:a0z N ps scope)(hd:A.handled=none)(e0:Env0 P w K mg base A outer s H)(hl:vs.length=ps.length)(r:Vals vs us)
  (x:InCallC s s.heap.objs.size (bindL (envOfC qual scope s.heap.objs.size f cd).kindOf (ps.zip us) λ_=>none) (cellsFrom (s.heap.objs.size+1) scope.names []) (bindC (envOfC qual scope s.heap.objs.size f cd).kindOf (ps.zip us) λ_=>none) s1):
  Inv (cxOf CX P w K mg base N qual scope f cd A outer s H E) [] (start N vs) H s1:=by
 have hpl:ps.length<=N.length:=by have:=Y0 List.length S.pre;rw[Yi]at this;omega
 obtain⟨h1,tk,rfl,hk⟩:=x.done;have noA:∀b:Addr,b∉(cxOf CX P w K mg base N qual scope f cd A outer s H E).ex:=λb z=>absurd (show b∈([]:List Addr)from z) qz
 refine⟨⟨e0.mod,S.kind,rfl,rfl,Zg _,λy z c h1 h2=>?_,λy hy=>?_,λy c _ h=>?_,λ_=>hd,Around.frames_deeper e0.frames,.inr ⟨rfl,rfl⟩,λb z=>absurd z (noA b),e0.bs,e0.bsz,λb _ _=>noA b,λb z=>absurd z (noA b),e0.funs,e0.frf⟩,
  rfl,e0.bare,Un.kept hk,⟨_,x.toInCall.ns,λi y v h1 h2 h3=>?_⟩,λy c h=>⟨_,x.cell y c h⟩,e0.hok.fresh (Zg _),λy c h=>?_,λp hp=>absurd (show p∈([]:List (Addr×Obj))from hp) qz,e0.hok.kept hk,?_⟩
 ·exact name_of_addr x.apart (Z6 h1) (Z6 h2)
 ·have hy:scope.names.lookup y=some .cell\/scope.names.lookup y=some .free:=hy;rcases hy with hy|hy
  ·exact b8s hy
  ·exact absurd rfl (S.nofree _ (Z6 hy))
 ·exact Si (x.above y c (Z6 h))
 ·have hi:i<vs.length:=by
   unfold start at h2
   by_cases hi:i<vs.length
   ·exact hi
   ·rw[Ty (by simpa using hi)]at h2;rw[List.getElem?_replicate]at h2;split at h2<;>cases h2
  have ha:vs[i]? =some v:=by
   unfold start at h2;rw[Vu (by simpa using hi),Z5]at h2;cases e:vs[i]? with
   |none=>rw[e]at h2;cases h2
   |some a=>rw[e]at h2;cases h2;rfl
  obtain⟨u,hu,rv⟩:=r.get ha;have hp:ps[i]? =some y:=by
   rw[<-S.pre,T5 qo];exact h1
  have ndP:ps.Nodup:=by rw[<-S.pre];exact S.nd.sublist (List.take_sublist _ _)
  refine⟨u,rv,?_⟩;rcases S.par y (Yy hp)with k|k
  ·exact .inl ⟨k,b6y ndP hp hu k⟩
  ·obtain⟨c,e⟩:=b8s (n:=s.heap.objs.size+1) k;refine .inr ⟨.inl k,c,e,?_⟩;have q:=x.cell y c e;rw[b6z ndP hp hu (by show scope.names.lookup y≠_;rw[k];decide)]at q;exact q
 ·exact e0.hok.fresh (Si (x.above y c (Z6 h)))
 ·unfold start
  show _=N.length
  rw[Zj,length_map,Vf];omega
theorem fn_of{CX:CXT}{P:Program}{w:World}{K:W.Frag}{mg:Str->Option Value}{base:Heap}{k:Nat}{f:Addr}{name qual:Str}{params:Arguments}{body:List Stmt}{scope:Scope}{dV kV doc pm cdv ct oc:Value}{an od:Option Addr}
  {osl:Array (Option Value)}{N ps:List Str}{sp:Sp}(lk:K.lookup f=some ⟨oc,od,.func (W.fnOf name qual params body scope dV kV doc pm an cdv ct),osl⟩)(hcd:W.codeIn K cdv qual=true)(S:a0z N ps scope)
  (len:∀vs H Q E,sp vs H Q E->vs.length=ps.length)
  (hbody:∀(A:Around)(outer:List Env)(s:Shared)(H:Hp)(vs:List V)(Q:VK)(E:XK),Room k (A.deeper (envOfC qual scope s.heap.objs.size f cdv))->sp vs H Q E->
   ∃t,PSs (cxOf CX P w K mg base N qual scope f cdv A outer s H E) body t/\t { nx:=λ_ H'=>Q .non H',rt:=Q} (start N vs) H):
  FnOk P w K mg base CX (k+1) f (W.fnOf name qual params body scope dV kV doc pm an cdv ct) ps sp:=by
 refine⟨len,λA outer s H args us vs Q E hr e0 hb r hsp=>?_⟩;have hl:=len _ _ _ _ hsp;have KX:K.In s.heap:=e0.mod.kin.keeps λb o e=>(e0.bs b o e).1
 have lim:s.heap.NoLimit:=e0.mod.nolimit.keeps λb o e=>(e0.bs b o e).1
 have hkind:∀y∈ps.zip us,scope.names.lookup y.1=some .local\/(scope.names.lookup y.1=some .cell/\((cellsFrom (s.heap.objs.size+1) scope.names []).lookup y.1).isSome=true):=λ⟨n,v⟩ hy=>by
  rcases S.par n (Uk hy).1 with q|q
  ·exact .inl q
  ·exact .inr ⟨q,W.cellsFrom_some _ _ _ (.inl q)⟩
 refine codeAny_call_function hr.depth (KX _ _ lk) rfl S.co S.gen rfl (W.codeRec_of KX hcd) (hb _ _ _ _ ?_);refine wpAny_newFunctionEnv_cells S.kind hkind λenv he s1 x=>?_
 subst he;refine⟨lim.keeps x.toInCall.keep,codeAny_func ?_⟩;obtain⟨t,ht,hq⟩:=hbody A outer s H vs Q E (hr.deeper _) hsp;have I:Inv (cxOf CX P w K mg base N qual scope f cdv A outer s H E) [] (start N vs) H s1:=c5k S hr.hd e0 hl r x;refine Xw (ht [] s1 (start N vs) H _ I hq) (λfl s' hs=>?_) λe s' hs=>hs
 have fin:∀{σ':St}{H':Hp}{v:V}{u:Value},Inv (cxOf CX P w K mg base N qual scope f cdv A outer s H E) [] σ' H' s'->RelV v u->Q v H'->CE outer P w H s Q u s':=
  λ{σ' H' v u} J rv q=>⟨v,H',J.os,J.bare,J.base,J.hok,rv,q⟩
 cases fl with
 |ret u=>
  obtain⟨v,σ',H',J,rv,q⟩:=hs;exact fin J rv q
 |next=>
  obtain⟨σ',H',J,q⟩:=hs;exact fin (v:=V.non) (u:=Value.none) J rfl q
 |brk=>
  obtain⟨_,_,_,q⟩:=hs;exact False.elim q
 |cont=>
  obtain⟨_,_,_,q⟩:=hs;exact False.elim q
section
variable{X:Cx}{x:Str}{p pos:Pos}{e:Expr}{es:List Expr}{t:TA}{id T:String}{r:List V->Hp->VK->Prop}
def tCB(r:List V->Hp->VK->Prop)(t:TA):TE:=λσ H Q=>t σ H λvs H1=>r vs H1 Q
theorem a0w(hc:a2b X (.builtin id) r)(hg:Gl X x)(hm:X.mg x=none)(hv:bootBuiltins x=some (.builtin id))(ha:PA X (e::es) t)(hn:x≠"__name__":=by decide)(hdb:(x==("__debug__":Str))=false:=by decide)
  (he:starEach (e::es) X.env=(false,eval e X.env)::starEach es X.env:=by rfl)(hpl:(backTo pos (starEach es X.env)).any (·.1)=false:=by rfl):PE X (.Call (.Name x p) (e::es) [] pos) (tCB r t):=by
 intro pins s σ H Q I h;refine W4 (a4w I hg hm hv ?_ hn hdb);exact PyProof.Rows.callWith_builtin1 (thn (ha pos pins s σ H _ I h) λus s1 ⟨vs,H1,I1,r1,q1⟩=>hc pins s1 σ H1 vs us Q I1 r1 q1) he hpl
theorem a2n(hc:a2b X (.type T) r)(hg:Gl X x)(hm:X.mg x=none)(hv:bootBuiltins x=some (.type T))(ha:PA X (e::es) t)(hn:x≠"__name__":=by decide)(hdb:(x==("__debug__":Str))=false:=by decide)
  (he:starEach (e::es) X.env=(false,eval e X.env)::starEach es X.env:=by rfl)(hpl:(backTo pos (starEach es X.env)).any (·.1)=false:=by rfl):PE X (.Call (.Name x p) (e::es) [] pos) (tCB r t):=by
 intro pins s σ H Q I h;refine W4 (a4w I hg hm hv ?_ hn hdb);exact Yh (thn (ha pos pins s σ H _ I h) λus s1 ⟨vs,H1,I1,r1,q1⟩=>hc pins s1 σ H1 vs us Q I1 r1 q1) he hpl
end
end L2
namespace HT
open PySem PyProof.Rows
section
open PySem.SeqAt
open PySem.AutoSeq1 (wpAny_loadPart')
open PySem.MeetsSeq PySem.MeetsSeq2 PySem.MeetsSeq3
end
section
variable{prog:Program}{w:World}{A:Around}{E:Value->Shared->Prop}{s:Shared}
theorem cat_tup{t b:Addr}{vs ws:List Value}{Q:Value->Shared->Prop}(ht:IsTup s.heap t vs.toArray)(hb:IsTup s.heap b ws.toArray)(hv:vs≠[])
  (h1:ws=[]->Q (.ref t) s)(h2:ws≠[]->Q (.ref s.heap.objs.size) { s with heap:=s.heap.push { cls:=.type "tuple",data:=.seq (vs++ws).toArray}})
  (hsz:vs.length+ws.length<=sizeLine):wpAny (model prog w) A (binaryOp .Add (.ref t) (.ref b)) Q E s:=by
 obtain⟨⟨cls,dd,data,sl⟩,ho,hc,n,hd⟩:=id ht;obtain⟨⟨cls2,dd2,data2,sl2⟩,ho2,hc2,n2,hd2⟩:=id hb;simp only at hc hd hc2 hd2;subst hc hd hc2 hd2;have e:vs.toArray++ws.toArray=(vs++ws).toArray:=by simp
 by_cases hw:ws=[]
 ·exact Se ⟨_,ho,rfl⟩ ⟨_,ho2,rfl⟩ Tk T3 To Tg (U4 _ _)
   (tuple_addW1 t b vs.toArray ws.toArray n n2 dd dd2 sl sl2 (by simpa using hv) (by simp[hw])) ⟨ho,ho2,h1 hw⟩
 ·refine Se ⟨_,ho,rfl⟩ ⟨_,ho2,rfl⟩ Tk T3 To Tg (U4 _ _)
   (tuple_addW2 t b vs.toArray ws.toArray n n2 dd dd2 sl sl2 (by simpa using hv) (by simpa using hw) (by rw[Zd,Zd];exact hsz)) ⟨ho,ho2,?_⟩
  rw[e];exact h2 hw
def sIx(n d:Nat):Option Int->Nat
 |none=>d
 |some v=>if v<0 then(v+(n:Int)).toNat else min v.toNat n
theorem sIx_le(n d:Nat)(hd:d<=n)(o:Option Int):sIx n d o<=n:=by
 cases o with
 |none=>exact hd
 |some v=>
  show(if v<0 then(v+(n:Int)).toNat else min v.toNat n)<=n
  by_cases hv:v<0
  ·rw[if_pos hv];omega
  ·rw[if_neg hv];exact Nat.min_le_right _ _
theorem c1v(v:Int)(n d:Nat):(if v<0 then max (v+(n:Int)) 0 else min v (n:Int))=((sIx n d (some v):Nat):Int):=by
 show(if v<0 then max (v+(n:Int)) 0 else min v (n:Int))=(((if v<0 then(v+(n:Int)).toNat else min v.toNat n):Nat):Int)
 by_cases hv:v<0
 ·simp only[if_pos hv];omega
 ·simp only[if_neg hv];omega
theorem c3g(lo hi:Option Int)(n:Nat):Builtin.Slice.sliceAdjust lo hi 1 (n:Int)=(((sIx n 0 lo:Nat):Int),((sIx n n hi:Nat):Int)):=by
 have h1:¬((1:Int)<0):=by omega
 unfold Builtin.Slice.sliceAdjust;simp only[h1,W1];refine Prod.ext ?_ ?_
 ·cases lo with
  |none=>rfl
  |some v=>exact c1v v n 0
 ·cases hi with
  |none=>rfl
  |some v=>exact c1v v n n
theorem c3h(i j:Nat):Builtin.Slice.slicePlaces (i:Int) (j:Int) 1=j-i:=by
 unfold Builtin.Slice.slicePlaces;have h1:(1:Int)>0:=by omega
 simp only[h1,if_true,Int.ediv_one]
 split<;>omega
theorem b4u{v:Value}{o:Option Int}{Q:Option Int->Shared->Prop}(p:IsPart v o)(h:Q o s):wpAny (model prog w) A (Builtin.Slice.slicePartIndex v) Q E s:=by
 cases p with
 |none=>exact slicePart_none h
 |int i t=>exact slicePart_int h
theorem sliceApplied_gen{sl:Addr}{vl vu:Value}{lo hi:Option Int}{n:Nat}{Q:Int×Int×Nat->Shared->Prop}(hs:s.heap.IsSliceOf sl vl vu .none)(pl:IsPart vl lo)(pu:IsPart vu hi)
  (h:Q (((sIx n 0 lo:Nat):Int),1,sIx n n hi-sIx n 0 lo) s):wpAny (model prog w) A (Builtin.Slice.sliceApplied (.ref sl) (pure (n:Int))) Q E s:=by
 obtain⟨os,hos,hcs,hds⟩:=id hs;unfold Builtin.Slice.sliceApplied Builtin.Slice.sliceFields;refine Za (Za (Z0 hos hds (x:=vl) rfl (Za (Z0 hos hds (x:=vu) rfl (Za (Z0 hos hds (x:=.none) rfl (Ze ?_)))))));refine Za (slicePart_none ?_)
 show wpAny _ _ (if((1:Int)==0)=true then _ else _) _ _ s
 rw[if_neg qd];refine Za (b4u pl (Za (b4u pu (Za (Ze ?_)))))
 show wpAny _ _ (match Builtin.Slice.sliceAdjust lo hi 1 (n:Int)with| (lo,hi)=>pure (lo,(1:Int),Builtin.Slice.slicePlaces lo hi 1)) _ _ s
 rw[c3g lo hi n]
 show wpAny _ _ (pure (((sIx n 0 lo:Nat):Int),(1:Int),Builtin.Slice.slicePlaces ((sIx n 0 lo:Nat):Int) ((sIx n n hi:Nat):Int) 1)) _ _ s
 rw[c3h];exact Ze h
theorem c8s(xs:Array Value)(i k:Nat):((List.range k).filterMap λ(m:Nat)=>xs[((i:Int)+(m:Int)*1).toNat]?).toArray=((xs.toList.drop i).take k).toArray:=by
 have e:(λ(m:Nat)=>xs[((i:Int)+(m:Int)*1).toNat]?)=λm=>xs[i+m]?:=by
  funext m
  have:((i:Int)+(m:Int)*1).toNat=i+m:=by omega
  rw[this]
 rw[e];have:=pick_run xs i k;rw[List.filterMap_map]at this;have e2:((λx=>xs[x]?)∘λx=>i+x)=λm=>xs[i+m]?:=rfl
 rw[e2]at this;rw[this]
theorem getItem_tuple_cut{t sl:Addr}{items:Array Value}{vl vu:Value}{lo hi:Option Int}{Q:Value->Shared->Prop}(ht:IsTup s.heap t items)(hs:s.heap.IsSliceOf sl vl vu .none)(pl:IsPart vl lo)(pu:IsPart vu hi)
  (hw:¬(sIx items.size 0 lo=0/\sIx items.size items.size hi=items.size))
  (h:Q (.ref s.heap.objs.size) { s with heap:=s.heap.push { cls:=.type "tuple",data:=.seq ((items.toList.drop (sIx items.size 0 lo)).take (sIx items.size items.size hi-sIx items.size 0 lo)).toArray}})
  (hsz:items.size<=sizeLine):wpAny (model prog w) A (getItem (.ref t) (.ref sl)) Q E s:=by
 have htake:sizeOk (.seq ((items.toList.drop (sIx items.size 0 lo)).take (sIx items.size items.size hi-sIx items.size 0 lo)).toArray):=by
  show((items.toList.drop (sIx items.size 0 lo)).take (sIx items.size items.size hi-sIx items.size 0 lo)).toArray.size<=sizeLine
  rw[Zd,Yi,Ww,Xl];omega
 have hj:sIx items.size items.size hi<=items.size:=sIx_le _ _ (Zg _) hi;obtain⟨os,hos,hcs,hds⟩:=id hs;have hTs:s.TypeIs (.ref sl) "slice":=⟨os,hos,hcs⟩;unfold getItem
 try with_reducible refine Xh ?_
 first|refine Za (Ze ?_)|skip
 refine Za (wpAny_sequenceKey ht.typeIs qd ?_)
 refine Za (wpAny_callSpecial?_slot (name:=ofString "__getitem__") ht.typeIs Y1
  (Ym Y1 ht.typeIs Rc ?_ (Rq _ _)))
 show wpAny _ _ (Builtin.Tuple.tupleItemsOf (.ref t)>>=_) _ _ s
 refine Za (tupleItemsOf_ ht ?_);refine Za (Ua hTs ?_);rw[if_pos qd];refine Za (sliceApplied_gen hs pl pu ?_);have hno:¬((((sIx items.size 0 lo:Nat):Int)==0&&(1:Int)==1&&(sIx items.size items.size hi-sIx items.size 0 lo)==items.size)=true):=by
  intro q;rw[Xg,Xg]at q;have q1:((sIx items.size 0 lo:Nat):Int)=0:=eq_of_beq q.1.1;have q2:sIx items.size items.size hi-sIx items.size 0 lo=items.size:=eq_of_beq q.2;exact hw ⟨qo,qo⟩
 show wpAny _ _ (if(((sIx items.size 0 lo:Nat):Int)==0&&(1:Int)==1&&(sIx items.size items.size hi-sIx items.size 0 lo)==items.size)=true then _ else _) _ _ s
 rw[if_neg hno,c8s]
 first
  |exact Za (m:=Builtin.Tuple.tupleExact _) (Yo (Ze ⟨_,rfl,Ze h⟩) htake)
  |exact Za (m:=Builtin.Tuple.tupleExact _) (Yo (Za (Ze (Ze ⟨_,rfl,Ze h⟩))) htake)
  |exact Za (Za (m:=Builtin.Tuple.tupleExact _) (Yo (Ze (Ze ⟨_,rfl,Ze h⟩)) htake))
  |exact Za (Za (m:=Builtin.Tuple.tupleExact _) (Yo (Ze ⟨_,rfl,Ze h⟩) htake))
end
end HT
namespace L2
open PySem PySem.Spec PyProof.Rows
abbrev TO:=St->Hp->(Option Int->Hp->Prop)->Prop
def PO(X:Cx)(e:Option Expr)(t:TO):Prop:=
 ∀(pins:List (Addr×Obj))(s:Shared)(σ:St)(H:Hp)(Q:Option Int->Hp->Prop),Inv X pins σ H s->t σ H Q->
  wpAny (model X.prog X.w) X.A (evalPart e X.env) (λu s'=>∃o H',Inv X pins σ H' s'/\IsPart u o/\Q o H') X.xe s
def c1w:TO:=λ_ H Q=>Q none H
def tPart(t:TE):TO:=λσ H Q=>t σ H λx H1=>∃i,x=.int i/\Q (some i) H1
section
variable{X:Cx}{e:Expr}{te:TE}{lo hi:Option Expr}{tl th:TO}{pos p2:Pos}
theorem a5k:PO X none c1w:=by
 intro pins s σ H Q I h;rw[evalPart_none];exact Ze ⟨none,H,I,.none,h⟩
theorem po_some(h:PE X e te):PO X (some e) (tPart te):=by
 intro pins s σ H Q I hw;rw[evalPart_some];refine thn (h pins s σ H _ I hw) λu s1 z9=>?_
 obtain⟨x,H1,I1,r1,q1⟩:=z9;obtain⟨i,rfl,q⟩:=q1;obtain⟨t,rfl⟩:=r1;exact⟨some i,H1,I1,.int i t,q⟩
def SlR(X:Cx)(r:V->Option Int->Option Int->Hp->VK->Prop):Prop:=
 ∀(pins:List (Addr×Obj))(s:Shared)(σ:St)(H:Hp)(x:V)(v vl vu:Value)(lo hi:Option Int)(sl:Addr)(Q:VK),Inv X pins σ H s->RelV x v->s.heap.IsSliceOf sl vl vu .none->IsPart vl lo->IsPart vu hi->r x lo hi H Q->
  ∃T id,typeLookup (.type T) "__getitem__"=pure (some (.builtin id))/\s.TypeIs v T/\wpAny (model X.prog X.w) X.A (getItem v (.ref sl)) (EP X pins σ Q) X.xe s
def tSl(r:V->Option Int->Option Int->Hp->VK->Prop)(te:TE)(tl th:TO):TE:=λσ H Q=>te σ H λx H1=>tl σ H1 λl H2=>th σ H2 λu H3=>r x l u H3 Q
theorem a4d{r:V->Option Int->Option Int->Hp->VK->Prop}(hr:SlR X r)(he:PE X e te)(hl:PO X lo tl)(hu:PO X hi th):PE X (.Subscript e (.Slice lo hi none p2) pos) (tSl r te tl th):=by
 intro pins s σ H Q I h;refine Rr (thn (he pins s σ H _ I h) λv s1 z9=>?_);obtain⟨x,H1,I1,r1,q1⟩:=z9;refine wpAny_Slice (thn (hl pins s1 σ H1 _ I1 q1) λvl s2 ⟨l,H2,I2,pl,q2⟩=>thn (hu pins s2 σ H2 _ I2 q2) λvu s3 z9=>?_);obtain⟨u,H3,I3,pu,q3⟩:=z9;rw[evalPart_none];refine Ze ?_;have I4:Inv X pins σ H3 { s3 with heap:=s3.heap.push { cls:=.type "slice",data:=.fields #[vl,vu,.none]}}:=I3.kept (t':=s3.toks) λb ob q=>Zc _ q
 obtain⟨T,id,hT,ht,hg⟩:=hr pins { s3 with heap:=s3.heap.push { cls:=.type "slice",data:=.fields #[vl,vu,.none]}} σ H3 x v vl vu l u s3.heap.objs.size Q I4 r1 (Heap.IsSliceOf.new ..) pl pu q3
 show wpAny (model X.prog X.w) X.A (subscriptTail e (.Slice lo hi none p2) v (.ref s3.heap.objs.size)) (EP X pins σ Q) X.xe { s3 with heap:=s3.heap.push { cls:=.type "slice",data:=.fields #[vl,vu,.none]}}
 exact tail_any (ops:=[.ref s3.heap.objs.size,v]) ht hT hg (by with_unfolding_all rfl)
def cutV(xs:List V)(lo hi:Option Int):List V:=(xs.drop (HT.sIx xs.length 0 lo)).take (HT.sIx xs.length xs.length hi-HT.sIx xs.length 0 lo)
theorem b3l(xs:List V)(lo hi:Option Int):(cutV xs lo hi).length<=xs.length:=by
 unfold cutV;rw[Yi,Ww];omega
def rSlT(K:W.Frag):V->Option Int->Option Int->Hp->VK->Prop:=λx lo hi H Q=>∃a xs,x=.ref a/\SqT K H a xs/\
 ¬(HT.sIx xs.length 0 lo=0/\HT.sIx xs.length xs.length hi=xs.length)/\∀p,H p=none->Q (.ref p) (upd H p (.tup (cutV xs lo hi)))
theorem sl_tup:SlR X (rSlT X.K):=by
 intro pins s σ H x v vl vu lo hi sl Q I rx hs pl pu h;obtain⟨a,xs,rfl,hx,hw,q⟩:=h;cases rx;obtain⟨its,r,ht,hz⟩:=I.tuple hx;have hlen:its.toArray.size=xs.length:=by rw[Zd];exact r.length.symm
 refine⟨"tuple",_,Y1.lookup,ht.typeIs,?_⟩;refine HT.getItem_tuple_cut ht hs pl pu (by rw[hlen];exact hw) ?_ (by rw[hlen];exact hz);rw[hlen];refine⟨.ref s.heap.objs.size,_,I.laid (t':=s.toks) (o:=.tup (cutV xs lo hi)) (λb ob q=>Zc _ q) (Zg _) ?_,rfl,q _ (I.hok.fresh (Zg _))⟩;exact⟨Yd (b3l xs lo hi) hz,_,(r.drop (HT.sIx xs.length 0 lo)).take (HT.sIx xs.length xs.length hi-HT.sIx xs.length 0 lo),IsTup.new _ _⟩
def rCatT(K:W.Frag):R2:=λx y H Q=>∃a b xs ys,x=.ref a/\y=.ref b/\SqT K H a xs/\SqT K H b ys/\xs≠[]/\xs.length+ys.length<=sizeLine/\
 (ys=[]->Q (.ref a) H)/\(ys≠[]->∀p,H p=none->Q (.ref p) (upd H p (.tup (xs++ys))))
theorem Vals.nil_iff{xs:List V}{us:List Value}(r:Vals xs us):us=[]↔xs=[]:=by
 cases r with
 |nil=>simp
 |cons _ _=>simp
theorem c1x:OpR X (binaryOp .Add) (rCatT X.K):=by
 intro pins s σ H x y v u Q I rx ry h;obtain⟨a,b,xs,ys,rfl,rfl,ha,hb,hx,hz,q1,q2⟩:=h;cases rx;cases ry;obtain⟨its,r1,p1,_⟩:=I.tuple ha;obtain⟨its2,r2,p2,_⟩:=I.tuple hb;refine HT.cat_tup p1 p2 (λz=>hx (r1.nil_iff.mp z)) (λz=>⟨.ref a,H,I,rfl,q1 (r2.nil_iff.mp z)⟩) (λz=>?_) (by rw[<-r1.length,<-r2.length];exact hz);refine⟨.ref s.heap.objs.size,_,I.laid (t':=s.toks) (o:=.tup (xs++ys)) (λb ob q=>Zc _ q) (Zg _) ?_,rfl,q2 (λw=>z (r2.nil_iff.mpr w)) _ (I.hok.fresh (Zg _))⟩;exact⟨by rw[Zj];exact hz,_,r1.append r2,IsTup.new _ _⟩
end
def ixN(n:Nat)(i:Int):Option Nat:=if 0<=i then(if i<n then some i.toNat else none)else if -(n:Int)<=i then some (i+n).toNat else none
def atI{α:Type}(xs:List α)(i:Int):Option α:=(ixN xs.length i).bind λj=>xs[j]?
theorem c1y{n:Nat}{i:Int}{j:Nat}(h:ixN n i=some j):seqIndex? i n=some j/\j<n/\-(n:Int)<=i/\i<n:=by
 unfold ixN at h
 by_cases h0:0<=i
 ·rw[if_pos h0]at h
  by_cases h1:i<n
  ·rw[if_pos h1]at h;have e:i.toNat=j:=Zl h;exact⟨by rw[Sx h0 h1,e],qo,qo,h1⟩
  ·rw[if_neg h1]at h;cases h
 ·rw[if_neg h0]at h
  by_cases h1:-(n:Int)<=i
  ·rw[if_pos h1]at h;have e:(i+n).toNat=j:=Zl h;exact⟨by rw[Sd qo h1,e],qo,h1,qo⟩
  ·rw[if_neg h1]at h;cases h
theorem b2r{α:Type}{xs:List α}{i:Int}{v:α}(h:atI xs i=some v):∃j,seqIndex? i xs.length=some j/\xs[j]? =some v/\j<xs.length/\-(xs.length:Int)<=i/\i<xs.length:=by
 unfold atI at h;cases e:ixN xs.length i with
 |none=>rw[e]at h;cases h
 |some j=>
  rw[e]at h;obtain⟨h1,h2,h3,h4⟩:=c1y e;exact⟨j,h1,h,h2,h3,h4⟩
theorem atI_nat{α:Type}{xs:List α}{j:Nat}{v:α}(h:xs[j]? =some v):atI xs (j:Int)=some v:=by
 have hj:j<xs.length:=(Z7.mp h).1;have e:ixN xs.length (j:Int)=some j:=by
  unfold ixN;rw[if_pos qo,if_pos qo];simp
 unfold atI;rw[e];exact h
def c1z(b:Expr):Prop:=∀o i,subscripted b false o i=operate [o,i] (getItem o i)
def IxR(X:Cx)(r:R2):Prop:=
 ∀(value slice:Expr)(pins:List (Addr×Obj))(s:Shared)(σ:St)(H:Hp)(x y:V)(v u:Value)(Q:VK),Inv X pins σ H s->RelV x v->RelV y u->r x y H Q->
  subscripted slice false v u=operate [v,u] (getItem v u)->wpAny (model X.prog X.w) X.A (subscriptTail value slice v u) (EP X pins σ Q) X.xe s
def MtR(X:Cx)(id:String)(r:V->List V->Hp->VK->Prop):Prop:=
 ∀(pins:List (Addr×Obj))(s:Shared)(σ:St)(H:Hp)(x:V)(xs:List V)(v:Value)(us:List Value)(Q:VK),Inv X pins σ H s->RelV x v->Vals xs us->r x xs H Q->
  wpAny (model X.prog X.w) X.A (call (.builtin id) (v::us)) (EP X pins σ Q) X.xe s
section
variable{X:Cx}{a b:Expr}{ta tb:TE}{pos:Pos}
theorem IxR.or{r r':R2}(h:IxR X r)(h':IxR X r'):IxR X (λx y H Q=>r x y H Q\/r' x y H Q):=by
 intro value slice pins s σ H x y v u Q I rx ry q hs;rcases q with q|q
 ·exact h value slice pins s σ H x y v u Q I rx ry q hs
 ·exact h' value slice pins s σ H x y v u Q I rx ry q hs
theorem a0i{r:R2}(hr:IxR X r)(ha:PE X a ta)(hb:PE X b tb)(hs:c1z b):PE X (.Subscript a b pos) (tOp r ta tb):=by
 intro pins s σ H Q I h;exact Rr (binT ha hb I h λv u s2 x y H2 I2 rx ry q=>hr a b pins s2 σ H2 x y v u Q I2 rx ry q (hs _ _))
def rIxL(K:W.Frag):R2:=λx y H Q=>∃p xs i v,x=.ref p/\y=.int i/\SqL K H p xs/\atI xs i=some v/\Q v H
def rIxT(K:W.Frag):R2:=λx y H Q=>∃p xs i v,x=.ref p/\y=.int i/\SqT K H p xs/\atI xs i=some v/\Q v H
def rIxS:R2:=λx y H Q=>∃z i c,x=.str z/\y=.int i/\z.length<=sizeLine/\atI z.cps.toList i=some c/\Q (.str ⟨#[c]⟩) H
theorem ix_list:IxR X (rIxL X.K):=by
 intro value slice pins s σ H x y v u Q I rx ry h hs;obtain⟨p,xs,i,z,rfl,rfl,hq,he,q⟩:=h;cases rx;obtain⟨t,rfl⟩:=ry;obtain⟨its,r,pl,hz⟩:=I.list hq;obtain⟨j,h1,h2,h3,h4,h5⟩:=b2r he;obtain⟨w,ew,rw'⟩:=r.get h2;have hl:=r.length;have hn:=a9p;have fin:EP X pins σ Q w s:=⟨z,H,I,rw',q⟩
 by_cases h0:0<=i
 ·have hj:i.toNat=j:=by
   rw[Sx h0 h5]at h1;exact Zl h1
  exact item_listR pl.isList h0 qo (by rw[hj];simpa using ew) fin hs
 ·have hj:(i+(its.toArray.size:Int)).toNat=j:=by
   rw[Sd qo h4]at h1;rw[Zd,<-hl];exact Zl h1
  exact Sc (x:=w) pl.isList.typeIs slot_list_getitem.lookup
   (wpAny_getItem_list_neg (Q:=λr s'=>r=w/\EP X pins σ Q r s') pl.isList qo (by rw[Zd]<;>omega) qo (by rw[hj];simpa using ew) ⟨rfl,fin⟩) hs
theorem ix_tup:IxR X (rIxT X.K):=by
 intro value slice pins s σ H x y v u Q I rx ry h hs;obtain⟨p,xs,i,z,rfl,rfl,hq,he,q⟩:=h;cases rx;obtain⟨t,rfl⟩:=ry;obtain⟨its,r,pl,hz⟩:=I.tuple hq;obtain⟨j,h1,h2,h3,h4,h5⟩:=b2r he;obtain⟨w,ew,rw'⟩:=r.get h2;have hl:=r.length;have hn:=a9p;have fin:EP X pins σ Q w s:=⟨z,H,I,rw',q⟩;exact Sc (x:=w) pl.typeIs Uz.lookup
  (getItem_tuple (j:=j) (Q:=λr s'=>r=w/\EP X pins σ Q r s') pl qo qo (by rw[Zd,<-hl];exact h1) (by simpa using ew) ⟨rfl,fin⟩) hs
theorem ix_str:IxR X rIxS:=by
 intro value slice pins s σ H x y v u Q I rx ry h hs;obtain⟨z,i,c,rfl,rfl,hz,he,q⟩:=h;obtain⟨t,rfl⟩:=rx;obtain⟨t',rfl⟩:=ry;obtain⟨j,h1,h2,h3,h4,h5⟩:=b2r he;have hl:z.cps.toList.length=z.length:=by simp[Str.length]
 rw[hl]at h1 h4 h5;have hn:=a9p
 exact tail_any (typeIs_str s z t) slot_str_getitem.lookup (getItem_str (c:=c) (by
  have e1:decide (i< -(2^63:Int))=false:=Zo qo;have e2:decide (i>=2^63)=false:=Zo qo
  rw[e1,e2,T8]) (by rw[h1];simpa using h2) ⟨.str ⟨#[c]⟩,H,I.tok _,⟨_,rfl⟩,q⟩) hs
def rIx(K:W.Frag):R2:=λx y H Q=>rIxL K x y H Q\/rIxT K x y H Q\/rIxS x y H Q
theorem ix_seq:IxR X (rIx X.K):=ix_list.or (ix_tup.or ix_str)
theorem c3i(its:List Value)(n j:Nat)(u:Value):Obj.mapSeq (·.setIfInBounds j u) { cls:=.type "list",data:=.seq its.toArray n}={ cls:=.type "list",data:=.seq (its.set j u).toArray n}:=by
 simp[Obj.mapSeq]
theorem Inv.lst{pins:List (Addr×Obj)}{σ:St}{H:Hp}{s:Shared}{p:Addr}{xs:List V}(I:Inv X pins σ H s)(h:H p=some (.lst xs)):
  ∃(its:List Value)(n:Nat),Vals xs its/\s.heap.get? p=some { cls:=.type "list",data:=.seq its.toArray n}/\xs.length<=sizeLine:=by
 obtain⟨z,its,n,r,e⟩:=I.hok p _ h;exact⟨its,n,r,e,z⟩
theorem Inv.lstUpd{pins:List (Addr×Obj)}{σ:St}{H:Hp}{s:Shared}{p:Addr}{xs ys:List V}{its its':List Value}{n n':Nat}{f:Obj->Obj}(I:Inv X pins σ H s)(h:H p=some (.lst xs))
  (ho:s.heap.get? p=some { cls:=.type "list",data:=.seq its.toArray n})(hf:f { cls:=.type "list",data:=.seq its.toArray n}={ cls:=.type "list",data:=.seq its'.toArray n'})(r:Vals ys its')(hz:ys.length<=sizeLine)(t:Nat):
  Inv X pins σ (upd H p (.lst ys)) { s with heap:=s.heap.update p f,toks:=t}:=by
 have e:(s.heap.update p f).get? p=some { cls:=.type "list",data:=.seq its'.toArray n'}:=by
  rw[Z3 f ho (by rw[hf]<;>rfl),hf]
 refine I.write (x:=p) (e:=p) (by rw[h];trivial) (.inl rfl) (λb u hb q=>(Zz _ _ (Ne.symm hb)).trans q) ⟨_,e⟩ ?_;exact⟨hz,its',n',r,e⟩
def rSetL:V->V->V->Hp->(Hp->Prop)->Prop:=λo i v H Q=>∃p xs k j,o=.ref p/\i=.int k/\H p=some (.lst xs)/\ixN xs.length k=some j/\Q (upd H p (.lst (xs.set j v)))
theorem c8t:PSet X rSetL:=by
 intro pins s σ H o i v ov iv u Q I ro ri rv h;obtain⟨p,xs,k,j,rfl,rfl,hp,hj,q⟩:=h;cases ro;obtain⟨t,rfl⟩:=ri;obtain⟨its,n,r,ho,hz⟩:=I.lst hp;obtain⟨h1,h2,h3,h4⟩:=c1y hj;have hl:=r.length;have hn:=a9p;have I':Inv X pins σ (upd H p (.lst (xs.set j v))) { s with heap:=s.heap.update p (Obj.mapSeq (·.setIfInBounds j u))}:=
  I.lstUpd hp ho (c3i its n j u) (r.set rv j) (by rw[List.length_set];exact hz) s.toks
 by_cases h0:0<=k
 ·have hk:k.toNat=j:=by
   rw[Sx h0 h4]at h1;exact Zl h1
  exact W.ki_setAt ho h0 qo (by rw[Zd,<-hl];exact h4) (by rw[hk];exact⟨_,I',q⟩)
 ·have hk:(k+(its.toArray.size:Int)).toNat=j:=by
   rw[Sd qo h3]at h1;rw[Zd,<-hl];exact Zl h1
  exact W.ki_setBack ho qo (by rw[Zd,<-hl];exact h3) qo (by rw[hk];exact⟨_,I',q⟩)
theorem b8t(lo hi:Option Int)(n:Nat):(sliceBounds lo hi none n).1=((HT.sIx n 0 lo:Nat):Int)/\(sliceBounds lo hi none n).2.1=((HT.sIx n n hi:Nat):Int)/\(sliceBounds lo hi none n).2.2=1:=by
 refine⟨?_,?_,rfl⟩
 ·cases lo with
  |none=>simp[sliceBounds,HT.sIx]
  |some i=>
   simp only[sliceBounds,HT.sIx,Option.getD_none,show(1:Int)>0 by decide,if_true]
   by_cases h:i<0
   ·simp only[h,if_true]<;>omega
   ·simp only[h,W1]<;>omega
 ·cases hi with
  |none=>simp[sliceBounds,HT.sIx]
  |some i=>
   simp only[sliceBounds,HT.sIx,Option.getD_none,show(1:Int)>0 by decide,if_true]
   by_cases h:i<0
   ·simp only[h,if_true]<;>omega
   ·simp only[h,W1]<;>omega
theorem b7p(its:List Value)(lo hi:Option Int):slicePick its.toArray lo hi none=((its.drop (HT.sIx its.length 0 lo)).take (HT.sIx its.length its.length hi-HT.sIx its.length 0 lo)).toArray:=by
 obtain⟨h1,h2,h3⟩:=b8t lo hi its.toArray.size;unfold slicePick;rw[h1,h2,h3];simp only[sliceRange_one,pick_run,Zd]<;>rfl
def rSlL(K:W.Frag):V->Option Int->Option Int->Hp->VK->Prop:=λx lo hi H Q=>∃a xs,x=.ref a/\SqL K H a xs/\∀p,H p=none->Q (.ref p) (upd H p (.lst (cutV xs lo hi)))
theorem sl_list:SlR X (rSlL X.K):=by
 intro pins s σ H x v vl vu lo hi sl Q I rx hs pl pu h;obtain⟨a,xs,rfl,hx,q⟩:=h;cases rx;obtain⟨its,r,ht,hz⟩:=I.list hx;have hlen:=r.length;refine⟨"list",_,slot_list_getitem.lookup,ht.isList.typeIs,?_⟩;refine wpAny_getItem_list_slice ht.isList hs pl pu .none qz ?_ (by rw[Zd]<;>omega);rw[b7p,<-hlen];refine⟨.ref s.heap.objs.size,_,I.laid (t':=s.toks) (o:=.lst (cutV xs lo hi)) (λb ob q=>Zc _ q) (Zg _) ?_,rfl,q _ (I.hok.fresh (Zg _))⟩;exact⟨Yd (b3l xs lo hi) hz,_,0,(r.drop (HT.sIx xs.length 0 lo)).take (HT.sIx xs.length xs.length hi-HT.sIx xs.length 0 lo),Zk _ rfl⟩
def a7t:V->Bool
 | .non=>true
 | .bl _=>true
 | .int _=>true
 | .str _=>true
 |_=>false
def eqV:V->V->Bool
 | .non,.non=>true
 | .bl a,.bl b=>a==b
 | .bl a,.int b=>(if a then 1 else 0)==b
 | .int a,.bl b=>a==(if b then 1 else 0)
 | .int a,.int b=>a==b
 | .str a,.str b=>a==b
 |_,_=>false
theorem eqAt_V{A:Around}{s:Shared}{y x:V}{u v:Value}(ry:RelV y u)(rx:RelV x v)(fy:a7t y=true)(fx:a7t x=true):SeqAt.EqAt A s u v (eqV y x):=by
 cases y with
 |non=>
  cases ry;cases x with
  |non=>cases rx;exact Xx _
  |bl b=>cases rx;exact SeqAt.EqAt.none_bool b
  |int b=>obtain⟨t,rfl⟩:=rx;exact SeqAt.EqAt.none_int b t
  |str b=>obtain⟨t,rfl⟩:=rx;exact SeqAt.EqAt.none_str b t
  |_=>exact absurd (show false=true from fx) Zp
 |bl a=>
  cases ry;cases x with
  |non=>cases rx;exact SeqAt.EqAt.bool_none a
  |bl b=>cases rx;exact SeqAt.EqAt.bool_bool a b
  |int b=>obtain⟨t,rfl⟩:=rx;exact SeqAt.EqAt.bool_int a b t
  |str b=>obtain⟨t,rfl⟩:=rx;exact SeqAt.EqAt.bool_str a b t
  |_=>exact absurd (show false=true from fx) Zp
 |int a=>
  obtain⟨t',rfl⟩:=ry;cases x with
  |non=>cases rx;exact SeqAt.EqAt.int_none a t'
  |bl b=>cases rx;exact SeqAt.EqAt.int_bool a t' b
  |int b=>obtain⟨t,rfl⟩:=rx;exact Vr a t' b t
  |str b=>obtain⟨t,rfl⟩:=rx;exact U2 a t' b t
  |_=>exact absurd (show false=true from fx) Zp
 |str a=>
  obtain⟨t',rfl⟩:=ry;cases x with
  |non=>cases rx;exact SeqAt.EqAt.str_none a t'
  |bl b=>cases rx;exact SeqAt.EqAt.str_bool a t' b
  |int b=>obtain⟨t,rfl⟩:=rx;exact U0 a t' b t
  |str b=>obtain⟨t,rfl⟩:=rx;exact Vq a t' b t
  |_=>exact absurd (show false=true from fx) Zp
 |_=>exact absurd (show false=true from fy) Zp
def eqU(x:V)(u:Value):Bool:=match u with
 | .none=>eqV .non x
 | .bool b=>eqV (.bl b) x
 | .int i _=>eqV (.int i) x
 | .str z _=>eqV (.str z) x
 |_=>false
theorem c5l{x y:V}{u:Value}(r:RelV y u)(f:a7t y=true):eqU x u=eqV y x:=by
 cases y with
 |non=>cases r;rfl
 |bl b=>cases r;rfl
 |int i=>obtain⟨t,rfl⟩:=r;rfl
 |str z=>obtain⟨t,rfl⟩:=r;rfl
 |_=>exact absurd (show false=true from f) Zp
theorem a9q{x:V}:∀{xs:List V}{us:List Value},Vals xs us->xs.all a7t=true->us.any (eqU x)=xs.any λy=>eqV y x
 |_,_,.nil,_=>rfl
 |y::xs,u::us,.cons r t,f=>by
  rw[Ux,Xg]at f;rw[Wa,Wa,c5l r f.1,a9q t f.2]
theorem a8j{A:Around}{s:Shared}{x:V}{v:Value}(rx:RelV x v)(fx:a7t x=true):∀{xs:List V}{us:List Value},Vals xs us->xs.all a7t=true->∀u∈us,SeqAt.EqAt A s u v (eqU x u)
 |_,_,.nil,_=>λu hu=>by cases hu
 |y::xs,u::us,.cons r t,f=>λu' hu=>by
  rw[Ux,Xg]at f;rcases Zi.mp hu with rfl|hu
  ·rw[c5l r f.1];exact eqAt_V r rx f.1 fx
  ·exact a8j rx fx t f.2 u' hu
def inV(x:V)(xs:List V):Bool:=xs.any λy=>eqV y x
def rIn(K:W.Frag)(neg:Bool):R2:=λx y H Q=>∃p xs,y=.ref p/\(SqL K H p xs\/SqT K H p xs)/\a7t x=true/\xs.all a7t=true/\Q (.bl (if neg then !inV x xs else inV x xs)) H
theorem c5m:OpR X (compareOp .In) (rIn X.K false):=by
 intro pins s σ H x y v u Q I rx ry h;obtain⟨p,xs,rfl,hq,fx,fs,q⟩:=h;cases ry;rcases hq with hq|hq
 ·obtain⟨its,r,pl,hz⟩:=I.list hq;refine SeqAt.in_listAt (eqU x) pl.isList (λw hw=>a8j rx fx r fs w (by simpa using hw)) ⟨.bl _,H,I,rfl,?_⟩;rw[show its.toArray.any (eqU x)=its.any (eqU x) by simp,a9q r fs];exact q
 ·obtain⟨its,r,pl,hz⟩:=I.tuple hq;refine SeqAt.in_tupleAt (eqU x) pl (λw hw=>a8j rx fx r fs w (by simpa using hw)) ⟨.bl _,H,I,rfl,?_⟩;rw[show its.toArray.any (eqU x)=its.any (eqU x) by simp,a9q r fs];exact q
theorem b8u:OpR X (compareOp .NotIn) (rIn X.K true):=by
 intro pins s σ H x y v u Q I rx ry h;obtain⟨p,xs,rfl,hq,fx,fs,q⟩:=h;cases ry;rcases hq with hq|hq
 ·obtain⟨its,r,pl,hz⟩:=I.list hq;refine SeqAt.notIn_listAt (eqU x) pl.isList (λw hw=>a8j rx fx r fs w (by simpa using hw)) ⟨.bl _,H,I,rfl,?_⟩;rw[show its.toArray.any (eqU x)=its.any (eqU x) by simp,a9q r fs];exact q
 ·obtain⟨its,r,pl,hz⟩:=I.tuple hq;refine SeqAt.notIn_tupleAt (eqU x) pl (λw hw=>a8j rx fx r fs w (by simpa using hw)) ⟨.bl _,H,I,rfl,?_⟩;rw[show its.toArray.any (eqU x)=its.any (eqU x) by simp,a9q r fs];exact q
theorem b8v:a2b X (.type "list") (λxs H Q=>∃p ys,xs=[.ref p]/\(SqL X.K H p ys\/SqT X.K H p ys)/\∀l,H l=none->Q (.ref l) (upd H l (.lst ys))):=by
 intro pins s σ H xs us Q I r h;obtain⟨p,ys,rfl,hq,q⟩:=h;obtain⟨u,rfl,rx⟩:=vals1 r;cases rx;have fin:∀(its:List Value),Vals ys its->ys.length<=sizeLine->∀(h':Heap)(c':Nat),(∀b o',s.heap.get? b=some o'->h'.get? b=some o')->
   h'.get? s.heap.objs.size=some { cls:=.type "list",dict:=none,data:=.seq its.toArray c',slots:=#[]}->EP X pins σ Q (.ref s.heap.objs.size) { s with heap:=h'}:=λits r' hz h' c' kp e=>
  ⟨.ref s.heap.objs.size,_,I.laid (t':=s.toks) kp (Zg _) (show a1s X.prog X.w _ h' _ (.lst ys)from⟨hz,its,c',r',e⟩),rfl,q _ (I.hok.fresh (Zg _))⟩
 rcases hq with hq|hq
 ·obtain⟨its,r',pl,hz⟩:=I.list hq;have hlen:=r'.length;obtain⟨o,ho,hc,n,hd⟩:=pl.isList;exact call_list_seq p (.inl rfl) ho hc hd (λh' c' kp e=>fin its r' hz h' c' kp e) (by simp only[Zd]<;>omega)
 ·obtain⟨its,r',pl,hz⟩:=I.tuple hq;have hlen:=r'.length;obtain⟨o,ho,hc,n,hd⟩:=pl;exact call_list_seq p (.inr rfl) ho hc hd (λh' c' kp e=>fin its r' hz h' c' kp e) (by simp only[Zd]<;>omega)
theorem b7q:a2b X (.type "tuple") (λxs H Q=>∃p ys,xs=[.ref p]/\((SqL X.K H p ys/\∀l,H l=none->Q (.ref l) (upd H l (.tup ys)))\/(SqT X.K H p ys/\Q (.ref p) H))):=by
 intro pins s σ H xs us Q I r h;obtain⟨p,ys,rfl,h⟩:=h;obtain⟨u,rfl,rx⟩:=vals1 r;cases rx;rcases h with⟨hq,q⟩|⟨hq,q⟩
 ·obtain⟨its,r',pl,hz⟩:=I.list hq;have hlen:=r'.length;refine call_tuple_list pl.isList (λh' kp=>?_) (by simp only[Zd]<;>omega);have I1:Inv X pins σ H { s with heap:=h'}:=I.kept (t':=s.toks) kp;have I2:Inv X pins σ (upd H h'.objs.size (.tup ys)) { s with heap:=h'.push { cls:=.type "tuple",data:=.seq its.toArray}}:=
   I1.laid (t':=s.toks) (λb o e=>Zc _ e) (Zg _) (show a1s X.prog X.w _ _ _ (.tup ys)from⟨hz,its,r',IsTup.new _ _⟩)
  exact⟨.ref h'.objs.size,_,I2,rfl,q _ (I1.hok.fresh (Zg _))⟩
 ·obtain⟨its,r',pl,hz⟩:=I.tuple hq;exact call_tuple_same pl ⟨.ref p,H,I,rfl,q⟩
def tyV(K:W.Frag)(T:String)(x:V)(H:Hp):Prop:=match x with
 | .str _=>T="str"
 | .int _=>T="int"
 | .ref p=>(T="list"/\∃xs,SqL K H p xs)\/(T="tuple"/\∃o,K.lookup p=some o/\o.cls=.type "tuple"/\o.dict=none)\/
   (T="dict"/\((∃kvs,H p=some (.dK kvs))\/∃kvs,H p=some (.dT kvs)))\/(T="set"/\∃S n,H p=some (.set S n))
 |_=>False
theorem c5n{pins:List (Addr×Obj)}{σ:St}{H:Hp}{s:Shared}{T:String}{x:V}{v:Value}(I:Inv X pins σ H s)(r:RelV x v)(ty:tyV X.K T x H):
  s.TypeIs v T/\∀a,v=.ref a->∃ob,s.heap.get? a=some ob/\ob.dict=none:=by
 cases x with
 |str z=>
  obtain⟨t,rfl⟩:=r
  cases(show T="str" from ty)
  exact⟨typeIs_str s z t,λ_ e=>nomatch e⟩
 |int i=>
  obtain⟨t,rfl⟩:=r
  cases(show T="int" from ty)
  exact⟨Uy s i t,λ_ e=>nomatch e⟩
 |ref p=>
  cases r;rcases ty with⟨rfl,xs,hq⟩|⟨rfl,o,hk,hc,hd⟩|⟨rfl,hk⟩|⟨rfl,S,n,hk⟩
  ·obtain⟨its,_,pl,_⟩:=I.list hq;refine⟨pl.isList.typeIs,λa e=>?_⟩;cases e;obtain⟨o,n,e,c,hd,_⟩:=pl;exact⟨o,e,hd⟩
  ·refine⟨⟨o,I.kIn p o hk,hc⟩,λa e=>?_⟩;cases e;exact⟨o,I.kIn _ o hk,hd⟩
  ·have z:∃o,s.heap.get? p=some o/\o.ExactDict:=by
    rcases hk with⟨kvs,hk⟩|⟨kvs,hk⟩
    ·obtain⟨_,_,_,_,o,_,_,e,ex,_⟩:=I.hok p _ hk;exact⟨o,e,ex⟩
    ·obtain⟨_,_,_,_,o,_,_,e,ex,_⟩:=I.hok p _ hk;exact⟨o,e,ex⟩
   obtain⟨o,e,ex⟩:=z;refine⟨⟨o,e,ex.1⟩,λa e2=>?_⟩;cases e2;exact⟨o,e,ex.2.1⟩
  ·obtain⟨o,_,_,_,e,ex,_⟩:=I.hok p _ hk;refine⟨⟨o,e,ex.1⟩,λa e2=>?_⟩;cases e2;exact⟨o,e,ex.2.1⟩
 |_=>exact False.elim ty
def tBM0(K:W.Frag)(T:String)(r:V->List V->Hp->VK->Prop)(to:TE):TE:=λσ H Q=>to σ H λx H1=>tyV K T x H1/\r x [] H1 Q
def tBM(K:W.Frag)(T:String)(r:V->List V->Hp->VK->Prop)(to:TE)(t:TA):TE:=λσ H Q=>to σ H λx H1=>tyV K T x H1/\t σ H1 λxs H2=>r x xs H2 Q
variable{o e:Expr}{es:List Expr}{to:TE}{t:TA}{name:Str}{apos cpos:Pos}{T id:String}{r:V->List V->Hp->VK->Prop}
theorem pe_bm0(pa:PlainAttrs T)(slot:Slot T name id)(hty:typeOf (.builtin id)=pure (.type "method_descriptor"))(hm:MtR X id r)(ho:PE X o to)
  (hbase:attributeBase o name X.env (eval o X.env)=eval o X.env:=by rfl)(hline:(apos.endLine==cpos.line)=true:=by rfl):PE X (.Call (.Attribute o name apos) [] [] cpos) (tBM0 X.K T r to):=by
 intro pins s σ H Q I h;refine wpAny_Call_method0_late hbase hline (thn (ho pins s σ H _ I h) λv s1 z9=>?_);obtain⟨x,H1,I1,r1,ty,q1⟩:=z9;obtain⟨h1,h2⟩:=c5n I1 r1 ty;exact⟨T,id,pa,slot,hty,h1,h2,Ug rfl (PySem.evalArgs_none (hm pins s1 σ H1 x [] v [] Q I1 r1 .nil q1))⟩
theorem pe_bm(pa:PlainAttrs T)(slot:Slot T name id)(hty:typeOf (.builtin id)=pure (.type "method_descriptor"))(hm:MtR X id r)(ho:PE X o to)(ha:PA X (e::es) t)
  (hbase:attributeBase o name X.env (eval o X.env)=eval o X.env:=by rfl)
  (hfew:((backTo cpos (starEach (e::es) X.env)).all (λx=>!x.1)&&(backToKw cpos (keywordEach [] X.env)).all (λx=>x.1.isSome)
   &&decide ((e::es).length+([]:List Keyword).length+(if([]:List Keyword).isEmpty then 0 else 1)<30))=true:=by rfl)
  (hline:(apos.endLine==cpos.line)=true:=by rfl)(hs:starEach (e::es) X.env=(false,eval e X.env)::starEach es X.env:=by rfl)(hplain:(backTo cpos (starEach es X.env)).any (·.1)=false:=by rfl):
  PE X (.Call (.Attribute o name apos) (e::es) [] cpos) (tBM X.K T r to t):=by
 intro pins s σ H Q I h;refine wpAny_Call_method_late hbase hfew hline rfl (thn (ho pins s σ H _ I h) λv s1 z9=>?_);obtain⟨x,H1,I1,r1,ty,q1⟩:=z9;obtain⟨h1,h2⟩:=c5n I1 r1 ty;refine⟨T,id,pa,slot,hty,h1,h2,?_⟩;have hA:=ha cpos pins s1 σ H1 _ I1 q1;rw[hs]at hA ⊢;refine Ug (by show(false|| (backTo cpos (starEach es X.env)).any (·.1))=false;rw[hplain]<;>rfl) (Ra ?_);exact thn hA λus s2 ⟨vs,H2,I2,r2,q2⟩=>hm pins s2 σ H2 x vs v us Q I2 r1 r2 q2
end
def MtM(X:Cx)(id:String)(r:V->List V->Hp->VK->Prop):Prop:=
 ∀(pins:List (Addr×Obj))(s:Shared)(σ:St)(H:Hp)(x:V)(xs:List V)(v:Value)(us:List Value)(Q:VK),Inv X pins σ H s->RelV x v->Vals xs us->r x xs H Q->
  wpAny (model X.prog X.w) X.A (call (.builtin id) (v::us)) (EP X pins σ Q) X.xe s
theorem Vals.one{x:V}{us:List Value}(r:Vals [x] us):∃u,us=[u]/\RelV x u:=vals1 r
theorem Vals.zero:∀{us:List Value},Vals [] us->us=[]
 |_,.nil=>rfl
theorem Vals.dropLast{xs:List V}{us:List Value}(h:Vals xs us):Vals xs.dropLast us.dropLast:=by
 induction h with
 |nil=>exact .nil
 |cons r t ih=>
  cases t with
  |nil=>exact .nil
  |cons q t'=>exact .cons r ih
theorem Vals.reverse{xs:List V}{us:List Value}(h:Vals xs us):Vals xs.reverse us.reverse:=by
 induction h with
 |nil=>exact .nil
 |cons r t ih=>rw[Xv,Xv];exact Vals.append ih (.cons r .nil)
theorem Vals.rep{xs:List V}{us:List Value}(h:Vals xs us):∀k:Nat,Vals (List.replicate k xs).flatten (List.replicate k us).flatten
 |0=>.nil
 |k+1=>by
  rw[Y8,Y8,Vz,Vz];exact Vals.append h (Vals.rep h k)
theorem c3j{α:Type}(l:List α):l.eraseIdx (l.length-1)=l.dropLast:=by
 induction l with
 |nil=>rfl
 |cons a r ih=>
  cases r with
  |nil=>rfl
  |cons b r=>
   have e:(a::b::r).length-1=((b::r).length-1)+1:=by
    have h1:(a::b::r).length=r.length+2:=rfl;have h2:(b::r).length=r.length+1:=rfl;omega
   rw[e,List.eraseIdx_cons_succ,ih]
   all_goals rfl
theorem foldl_rep(its:List Value):∀(k:Nat)(acc:List Value),
  List.foldl (λx1 x2=>x1++x2) acc.toArray (List.replicate k its.toArray)=(acc++(List.replicate k its).flatten).toArray
 |0,acc=>by simp
 |k+1,acc=>by
  have e:acc.toArray++its.toArray=(acc++its).toArray:=by simp
  have e2:(acc++its)++(List.replicate k its).flatten=acc++(List.replicate (k+1) its).flatten:=by
   rw[Y8,Vz,Te]
  rw[<-e2,<-foldl_rep its k (acc++its),<-e,Y8,Tr]
section
variable{X:Cx}{pins:List (Addr×Obj)}{σ:St}{H:Hp}{s:Shared}{l b:Addr}{xs ys zs:List V}
theorem Inv.lset{its its':List Value}{n:Nat}{f:Array Value->Array Value}{t':Nat}(I:Inv X pins σ H s)(hH:H l=some (.lst xs))
  (e:s.heap.get? l=some { cls:=.type "list",data:=.seq its.toArray n})(hf:f its.toArray=its'.toArray)(hv:Vals ys its')(hz:ys.length<=sizeLine):
  Inv X pins σ (upd H l (.lst ys)) { s with heap:=s.heap.update l (Obj.mapSeq f),toks:=t'}:=by
 have q:=PySem.IsL.update e f;rw[hf]at q;refine I.write (x:=l) (e:=l) (by rw[hH];exact trivial) (.inl rfl) (λb' u hb hu=>(Zz s.heap (Obj.mapSeq f) (Ne.symm hb)).trans hu) ⟨_,q⟩ ?_;exact⟨hz,its',_,hv,q⟩
theorem Inv.lnew{its:List Value}{t':Nat}(I:Inv X pins σ H s)(hv:Vals ys its)(hz:ys.length<=sizeLine):
  Inv X pins σ (upd H s.heap.objs.size (.lst ys)) { s with heap:=s.heap.push { cls:=.type "list",data:=.seq its.toArray},toks:=t'}:=
 I.laid (λ_ _ q=>Zc _ q) (Zg _) ⟨hz,its,0,hv,Zk _ rfl⟩
theorem Inv.fresh(I:Inv X pins σ H s):H s.heap.objs.size=none:=I.hok.fresh (Zg _)
theorem Inv.lstM(I:Inv X pins σ H s)(hH:H l=some (.lst xs)):xs.length<=sizeLine/\∃(its:List Value)(n:Nat),Vals xs its/\xs.length=its.length/\s.heap.get? l=some { cls:=.type "list",data:=.seq its.toArray n}:=by
 obtain⟨z,its,n,r,e⟩:=I.hok l _ hH;exact⟨z,its,n,r,r.length,e⟩
theorem b3q{n:Nat}(h:n<=sizeLine):Builtin.List.listTooLong n=false:=by
 unfold Builtin.List.listTooLong;exact Zo qo
end
section
variable{X:Cx}
def rAppend:V->List V->Hp->VK->Prop:=λx vs H Q=>∃l xs y,x=.ref l/\vs=[y]/\H l=some (.lst xs)/\xs.length<sizeLine/\Q .non (upd H l (.lst (xs++[y])))
theorem b1g:MtM X "list.append" rAppend:=by
 intro pins s σ H x vs v us Q I rx rv h;obtain⟨l,xs,y,rfl,rfl,hH,hz,q⟩:=h;cases rx;obtain⟨u,rfl,ru⟩:=rv.one;obtain⟨z,its,n,r,hl,e⟩:=I.lstM hH;refine W5 Wl ⟨_,e,rfl⟩ F.entry_list_append (F.args_list_append_2 _ _) (PySem.list_append l its.toArray n u (by rw[Zd];omega)) ⟨e,?_⟩;refine⟨.non,_,I.lset (its':=its++[u]) hH e qz (r.append (.cons ru .nil)) ?_,rfl,q⟩;rw[Zj,Zm];omega
def rExtend:V->List V->Hp->VK->Prop:=λx vs H Q=>∃l b xs zs,x=.ref l/\vs=[.ref b]/\H l=some (.lst xs)/\H b=some (.lst zs)/\xs.length+zs.length<=sizeLine/\Q .non (upd H l (.lst (xs++zs)))
theorem c5o:MtM X "list.extend" rExtend:=by
 intro pins s σ H x vs v us Q I rx rv h;obtain⟨l,b,xs,zs,rfl,rfl,hH,hB,hz,q⟩:=h;cases rx;obtain⟨u,rfl,ru⟩:=rv.one;cases ru;obtain⟨z,its,n,r,hl,e⟩:=I.lstM hH;obtain⟨z2,its2,n2,r2,hl2,e2⟩:=I.lstM hB;have hsz:its.toArray.size+its2.toArray.size<=sizeLine:=by rw[Zd,Zd];omega
 have hlong:¬(!its.toArray.isEmpty&&Builtin.List.listTooLong (its.toArray.size+its2.toArray.size))=true:=by
  rw[b3q hsz,Xj];exact Zp
 refine W5 Vt ⟨_,e,rfl⟩ Rj (S9 _ _)
  (AutoSeq1.list_extend_list_list_0 l its.toArray n b its2.toArray n2 hlong (by rw[Zd];omega) qo) ⟨e,e2,?_⟩
 refine⟨.non,_,I.lset (its':=its++its2) hH e qz (r.append r2) ?_,rfl,q⟩;rw[Zj];omega
def rPop:V->List V->Hp->VK->Prop:=λx vs H Q=>∃l xs y,x=.ref l/\vs=[]/\H l=some (.lst xs)/\xs[xs.length-1]? =some y/\Q y (upd H l (.lst xs.dropLast))
theorem mt_pop:MtM X "list.pop" rPop:=by
 intro pins s σ H x vs v us Q I rx rv h;obtain⟨l,xs,y,rfl,rfl,hH,hy,q⟩:=h;cases rx;have hus:=rv.zero;subst hus;obtain⟨z,its,n,r,hl,e⟩:=I.lstM hH;obtain⟨u,hu,ru⟩:=r.get hy;have hy':its.toArray[its.toArray.size-1]? =some u:=by
  show its.toArray[its.length-1]? =some u
  rw[<-Wp,<-hl];exact hu
 refine W5 Ts ⟨_,e,rfl⟩ F.entry_list_pop (F.args_list_pop_1 _) (MeetsSeq.list_pop_last l its.toArray n u hy' (by rw[Zd];omega)) ⟨e,?_⟩;refine⟨y,_,I.lset (its':=its.dropLast) hH e ?_ r.dropLast ?_,ru,q⟩
 ·show its.toArray.eraseIdxIfInBounds (its.toArray.size-1)=its.dropLast.toArray
  rw[Zd,List.eraseIdxIfInBounds_toArray,c3j]
 ·rw[List.length_dropLast];omega
def c8u:V->List V->Hp->VK->Prop:=λx vs H Q=>∃l xs,x=.ref l/\vs=[]/\H l=some (.lst xs)/\Q .non (upd H l (.lst xs.reverse))
theorem c3k:MtM X "list.reverse" c8u:=by
 intro pins s σ H x vs v us Q I rx rv h;obtain⟨l,xs,rfl,rfl,hH,q⟩:=h;cases rx;have hus:=rv.zero;subst hus;obtain⟨z,its,n,r,hl,e⟩:=I.lstM hH;refine W5 Ri ⟨_,e,rfl⟩ F.entry_list_reverse (F.args_list_reverse_1 _) (AutoSeq1.list_reverse_list_0 l its.toArray n (by rw[Zd];omega)) ⟨e,?_⟩;refine⟨.non,_,I.lset (its':=its.reverse) hH e qz r.reverse ?_,rfl,q⟩;rw[W0];omega
def rCat:R2:=λx y H Q=>∃l b xs zs,x=.ref l/\y=.ref b/\H l=some (.lst xs)/\H b=some (.lst zs)/\xs.length+zs.length<=sizeLine/\∀p,H p=none->Q (.ref p) (upd H p (.lst (xs++zs)))
theorem op_cat:OpR X (binaryOp .Add) rCat:=by
 intro pins s σ H x y v u Q I rx ry h;obtain⟨l,b,xs,zs,rfl,rfl,hH,hB,hz,q⟩:=h;cases rx;cases ry;obtain⟨z,its,n,r,hl,e⟩:=I.lstM hH;obtain⟨z2,its2,n2,r2,hl2,e2⟩:=I.lstM hB;refine PySem.P.add_list e e2 ?_ (by rw[Zd,Zd];omega);have ea:its.toArray++its2.toArray=(its++its2).toArray:=by simp
 rw[ea];exact⟨.ref _,_,I.lnew (t':=s.toks) (r.append r2) (by rw[Zj];omega),rfl,q _ I.fresh⟩
def rRep:R2:=λx y H Q=>∃l k xs,x=.ref l/\y=.int k/\H l=some (.lst xs)/\-(2^63)<=k/\k<2^63/\xs.length*k.toNat<=sizeLine/\
 ∀p,H p=none->Q (.ref p) (upd H p (.lst (List.replicate k.toNat xs).flatten))
theorem len_rep{α:Type}(xs:List α)(k:Nat):(List.replicate k xs).flatten.length=k*xs.length:=by
 induction k with
 |zero=>simp
 |succ k ih=>rw[Y8,Vz,Zj,ih,Nat.succ_mul,Nat.add_comm]
theorem op_rep:OpR X (binaryOp .Mult) rRep:=by
 intro pins s σ H x y v u Q I rx ry h;obtain⟨l,k,xs,rfl,rfl,hH,h1,h2,hz,q⟩:=h;cases rx;obtain⟨t,rfl⟩:=ry;obtain⟨z,its,n,r,hl,e⟩:=I.lstM hH;have hlen:its.toArray.size*k.toNat<=sizeLine:=by rw[Zd,<-hl];exact hz
 have hcap:¬its.toArray.size*k.toNat>(2^63-1)/8:=by
  have:(sizeLine:Nat)<=(2^63-1)/8:=by decide
  omega
 have hfit:¬(!Builtin.List.listFitsIndex k)=true:=by
  rw[fitsIndex_both h1 h2];exact Zp
 have hlong:¬Builtin.List.listTooLong (its.toArray.size*k.toNat)=true:=by
  rw[b3q hlen];exact Zp
 have hnew:List.foldl (λx1 x2=>x1++x2) #[] (List.replicate (if its.toArray.isEmpty=true then 0 else k.toNat) its.toArray)=(List.replicate k.toNat its).flatten.toArray:=by
  have f0:∀m:Nat,List.foldl (λx1 x2=>x1++x2) #[] (List.replicate m its.toArray)=(List.replicate m its).flatten.toArray:=λm=>by
   have:=foldl_rep its m [];rw[Wn]at this;exact this
  rw[f0];cases its with
  |nil=>simp
  |cons a r'=>rw[if_neg qz]
 refine T0 (T:="list") (U:="int") qd ⟨_,e,rfl⟩ (λs'=>Uy s' k t) noFill_list_mul F.fills_int_mul Um repeat_list F.slot_int_index.lookup
  (W5 Um (Uy s k t) F.entry_int_rmul (F.args_int_rmul_2 _ _) (Sr k t l its.toArray n)
   ⟨e,rfl,⟨_,e,rfl⟩,W5 F.slot_list_mul ⟨_,e,rfl⟩ F.entry_list_mul (F.args_list_mul_2 _ _) (U5 l its.toArray n k t hfit hcap hlong) ⟨e,?_⟩⟩)
 rw[hnew];exact⟨.ref _,_,I.lnew (t':=s.toks) (r.rep k.toNat) (by rw[len_rep,Nat.mul_comm];exact hz),rfl,q _ I.fresh⟩
end
section
variable{κ:Type}[DecidableEq κ]
def valV(kvs:List (κ×V))(k:κ):Option V:=(kvs.find? λkv=>decide (kv.1=k)).map (·.2)
def putK(kvs:List (κ×V))(k:κ)(v:V):List (κ×V):=
 if(kvs.any λkv=>decide (kv.1=k))=true then kvs.map (λkv=>if kv.1=k then(kv.1,v)else kv)else kvs++[(k,v)]
theorem b0d{p:κ×V}{r:List (κ×V)}{k:κ}(e:p.1=k):valV (p::r) k=some p.2:=by simp[valV,X6,e]
theorem b0e{p:κ×V}{r:List (κ×V)}{k:κ}(e:¬p.1=k):valV (p::r) k=valV r k:=by simp[valV,X6,e]
theorem b3r(k:κ):∀kvs:List (κ×V),(kvs.any λkv=>decide (kv.1=k))=(valV kvs k).isSome
 | []=>rfl
 |p::r=>by
  rw[Wa]
  by_cases e:p.1=k
  ·simp only[b0d e,Zx e,Sq,Rs]
  ·rw[b0e e,Zo e,V6];exact b3r k r
theorem a6x(kvs:List (κ×V))(k:κ)(v:V):(putK kvs k v).length<=kvs.length+1:=by
 unfold putK
 split
 ·rw[length_map];omega
 ·rw[Zj,length_cons,length_nil];omega
theorem c8v{kvs:List (κ×V)}{k:κ}(v:V)(h:valV kvs k=none):putK kvs k v=kvs++[(k,v)]:=by
 unfold putK;rw[b3r,h];exact if_neg qd
theorem RelO.isSome_eq{o:Option V}{u:Option Value}(r:RelO o u):o.isSome=u.isSome:=by
 cases o with
 |none=>cases u with
  |none=>rfl
  |some _=>exact(show False from r).elim
 |some _=>cases u with
  |none=>exact(show False from r).elim
  |some _=>rfl
theorem RelO.getD{o:Option V}{u:Option Value}{d:V}{d':Value}(r:RelO o u)(rd:RelV d d'):RelV (o.getD d) (u.getD d'):=by
 cases o with
 |none=>cases u with
  |none=>exact rd
  |some _=>exact(show False from r).elim
 |some _=>cases u with
  |none=>exact(show False from r).elim
  |some _=>exact r
theorem KV.val{kvs:List (κ×V)}{vs:List (κ×Value)}(r:KV kvs vs)(k:κ):RelO (valV kvs k) (valueAt vs k):=by
 unfold KV at r
 induction r with
 |nil=>exact True.intro
 | @cons p q ps qs h t ih=>
  obtain⟨h1,h2⟩:=h
  by_cases e:p.1=k
  ·have e':q.1=k:=h1.symm.trans e;have b:valueAt (q::qs) k=some q.2:=by simp[valueAt,X6,e']
   rw[b0d e,b];exact h2
  ·have e':¬q.1=k:=λz=>e (h1.trans z)
   have b:valueAt (q::qs) k=valueAt qs k:=by simp[valueAt,X6,e']
   rw[b0e e,b];exact ih
theorem KV.any{kvs:List (κ×V)}{vs:List (κ×Value)}(r:KV kvs vs)(k:κ):(kvs.any λkv=>decide (kv.1=k))=vs.any λkv=>decide (kv.1=k):=by
 unfold KV at r
 induction r with
 |nil=>rfl
 |cons h t ih=>rw[Wa,Wa,ih,h.1]
theorem KV.repl{kvs:List (κ×V)}{vs:List (κ×Value)}(r:KV kvs vs)(k:κ){y:V}{u:Value}(ry:RelV y u):
  KV (kvs.map λkv=>if kv.1=k then(kv.1,y)else kv) (vs.map λkv=>if kv.1=k then(kv.1,u)else kv):=by
 unfold KV at r ⊢
 induction r with
 |nil=>exact .nil
 | @cons p q ps qs h t ih=>
  rw[Z4,Z4];refine .cons ?_ ih;obtain⟨h1,h2⟩:=h
  by_cases e:p.1=k
  ·rw[if_pos e,if_pos (h1.symm.trans e)];exact⟨h1,ry⟩
  ·rw[if_neg e,if_neg (λz=>e (h1.trans z))];exact⟨h1,h2⟩
theorem KV.put{kvs:List (κ×V)}{vs:List (κ×Value)}(r:KV kvs vs)(k:κ){y:V}{u:Value}(ry:RelV y u):KV (putK kvs k y) (stored vs k u):=by
 unfold putK stored;rw[r.any k]
 by_cases e:(vs.any λkv=>decide (kv.1=k))=true
 ·rw[if_pos e,if_pos e];exact r.repl k ry
 ·rw[if_neg e,if_neg e];exact S2 r ⟨rfl,ry⟩
theorem KV.length{kvs:List (κ×V)}{vs:List (κ×Value)}(r:KV kvs vs):kvs.length=vs.length:=V5 r
end
theorem b4v{P:Program}{w:World}{k:Key}{u:Value}(r:RelV (kV k) u):(a1q P w).is k u=true:=by
 cases k with
 |inl i=>obtain⟨t,e⟩:=(show ∃t,u=Value.int i t from r);subst e;exact a9d P w i t
 |inr x=>obtain⟨t,e⟩:=(show ∃t,u=Value.str x t from r);subst e;exact a9e P w x t
theorem b7a{P:Program}{w:World}:∀{ks:List Key}{us:List Value},Vals (ks.map kV) us->ItemsAre (a1q P w) ks us
 | [],_,r=>by rw[Wv]at r;cases r;exact .nil
 |k::ks,_,r=>by
  rw[Z4]at r;cases r with
  |cons h t=>exact .cons (b4v h) (b7a t)
abbrev KT(H:Hp):List (List Key×V)->List (List Key×Addr×Value)->Prop:=Paired λp q=>p.1=q.1/\H q.2.1=some (.tup (p.1.map kV))/\RelV p.2 q.2.2
theorem KT.val{H:Hp}{kvs:List (List Key×V)}{xs:List (List Key×Addr×Value)}(r:KT H kvs xs)(k:List Key):RelO (valV kvs k) ((atKey xs k).map (·.2)):=by
 induction r with
 |nil=>exact True.intro
 | @cons p q ps qs h t ih=>
  obtain⟨h1,_,h2⟩:=h
  by_cases e:p.1=k
  ·have e':q.1=k:=h1.symm.trans e;have b:atKey (q::qs) k=some q.2:=by simp[atKey,X6,e']
   rw[b0d e,b];exact h2
  ·have e':¬q.1=k:=λz=>e (h1.trans z)
   have b:atKey (q::qs) k=atKey qs k:=by simp[atKey,X6,e']
   rw[b0e e,b];exact ih
theorem KT.repl{H:Hp}{kvs:List (List Key×V)}{xs:List (List Key×Addr×Value)}(r:KT H kvs xs)(k:List Key){y:V}{u:Value}(ry:RelV y u):
  KT H (kvs.map λkv=>if kv.1=k then(kv.1,y)else kv) (xs.map (putAt k u)):=by
 induction r with
 |nil=>exact .nil
 | @cons p q ps qs h t ih=>
  rw[Z4,Z4];refine .cons ?_ ih;obtain⟨h1,h2,h3⟩:=h;unfold putAt
  by_cases e:p.1=k
  ·rw[if_pos e,if_pos (h1.symm.trans e)];exact⟨h1,h2,ry⟩
  ·rw[if_neg e,if_neg (λz=>e (h1.trans z))];exact⟨h1,h2,h3⟩
theorem KT.put{H:Hp}{kvs:List (List Key×V)}{xs:List (List Key×Addr×Value)}(r:KT H kvs xs)(k:List Key){b:Addr}{y:V}{u:Value}(hb:H b=some (.tup (k.map kV)))(ry:RelV y u):
  KT H (putK kvs k y) (storedH xs k b u):=by
 have e:(kvs.any λkv=>decide (kv.1=k))=(atKey xs k).isSome:=by
  rw[b3r,(r.val k).isSome_eq,Option.isSome_map]
 unfold putK storedH;rw[e]
 by_cases q:(atKey xs k).isSome=true
 ·rw[if_pos q,if_pos q];exact r.repl k ry
 ·rw[if_neg q,if_neg q];exact S2 r ⟨rfl,hb,ry⟩
theorem KT.keeps{H H':Hp}{kvs:List (List Key×V)}{xs:List (List Key×Addr×Value)}(r:KT H kvs xs)(ht:∀b ys,H b=some (.tup ys)->H' b=some (.tup ys)):KT H' kvs xs:=
 Paired.mapP r λ_ _ z=>⟨z.1,ht _ _ z.2.1,z.2.2⟩
section
variable{P:Program}{w:World}{H:Hp}{h:Heap}{a:Addr}
theorem rd_of{u:HO}(ok:HOk P w H h)(e:Rd H a u):a1s P w H h a u:=e.ok ok
theorem a8s{kvs:List (Key×V)}(ok:HOk P w H h)(e:Rd H a (.dK kvs)):kvs.length<=sizeLine/\(a==sysModules)=false/\∃vs,KV kvs vs/\h.DictOf (a1q P w) a vs:=
 show a1s P w H h a (.dK kvs)from rd_of ok e
theorem dk_of{kvs:List (Key×V)}(ok:HOk P w H h)(e:H a=some (.dK kvs)):kvs.length<=sizeLine/\(a==sysModules)=false/\∃vs,KV kvs vs/\h.DictOf (a1q P w) a vs:=a8s ok (.inl e)
theorem b1h{ks:List Key}(ok:HOk P w H h)(e:H a=some (.tup (ks.map kV))):(tupleKind (a1q P w)).is h ks a:=by
 obtain⟨_,its,r,o,h1,h2,n,h3⟩:=(show a1s P w H h a (.tup (ks.map kV))from ok a _ e);exact⟨o,its.toArray,n,h1,h2,h3,by simpa using b7a r⟩
theorem b4w{kvs:List (List Key×V)}(ok:HOk P w H h)(e:Rd H a (.dT kvs)):kvs.length<=sizeLine/\(a==sysModules)=false/\
  ∃xs,KT H kvs xs/\h.DictOfH (tupleKind (a1q P w)) a xs:=by
 obtain⟨z,y,xs,r,o,es,ep,h1,h2,h3,h4,h5⟩:=(show a1s P w H h a (.dT kvs)from rd_of ok e);refine⟨z,y,xs,r,o,es,ep,h1,h2,h3,h4,λx hx=>?_,h5⟩;have all:∀{l:List (List Key×V)}{m:List (List Key×Addr×Value)},KT H l m->∀x∈m,(tupleKind (a1q P w)).is h x.1 x.2.1:=by
  intro l m q
  induction q with
  |nil=>intro x hx;exact nomatch hx
  | @cons p q ps qs hq t ih=>
   intro x hx;rcases Zi.mp hx with e|hx
   ·subst e;exact b1h ok (by rw[<-hq.1];exact hq.2.1)
   ·exact ih x hx
 exact all r x hx
theorem dt_of{kvs:List (List Key×V)}(ok:HOk P w H h)(e:H a=some (.dT kvs)):kvs.length<=sizeLine/\(a==sysModules)=false/\
  ∃xs,KT H kvs xs/\h.DictOfH (tupleKind (a1q P w)) a xs:=b4w ok (.inl e)
end
def DGet(H:Hp)(a:Addr)(y:V)(r:Option V):Prop:=
 (∃kvs k,Rd H a (.dK kvs)/\y=kV k/\r=valV kvs k)\/∃kvs k b,Rd H a (.dT kvs)/\y=.ref b/\H b=some (.tup (k.map kV))/\r=valV kvs k
def DPut(H:Hp)(a:Addr)(y v:V)(H':Hp):Prop:=
 (∃kvs k,H a=some (.dK kvs)/\y=kV k/\kvs.length<sizeLine/\H'=upd H a (.dK (putK kvs k v)))\/
 ∃kvs k b,H a=some (.dT kvs)/\y=.ref b/\H b=some (.tup (k.map kV))/\kvs.length<sizeLine/\H'=upd H a (.dT (putK kvs k v))
theorem DGet.k{H:Hp}{a:Addr}{kvs:List (Key×V)}{k:Key}(e:H a=some (.dK kvs)):DGet H a (kV k) (valV kvs k):=.inl ⟨kvs,k,.inl e,rfl,rfl⟩
theorem DGet.t{H:Hp}{a b:Addr}{kvs:List (List Key×V)}{k:List Key}(e:H a=some (.dT kvs))(eb:H b=some (.tup (k.map kV))):DGet H a (.ref b) (valV kvs k):=.inr ⟨kvs,k,b,.inl e,rfl,eb,rfl⟩
theorem DPut.k{H:Hp}{a:Addr}{kvs:List (Key×V)}{k:Key}{v:V}(e:H a=some (.dK kvs))(hl:kvs.length<sizeLine):DPut H a (kV k) v (upd H a (.dK (putK kvs k v))):=.inl ⟨kvs,k,e,rfl,hl,rfl⟩
section
variable{X:Cx}{pins:List (Addr×Obj)}{σ:St}{H:Hp}{s:Shared}{a:Addr}{y v:V}{u r:Value}{o:Option V}{A:Around}{E:Value->Shared->Prop}
theorem Inv.big(I:Inv X pins σ H s):sysModules<s.heap.objs.size:=by
 have h:mainGlobals<s.heap.objs.size:=(I.mod.glob.keeps I.bk).lt;exact Ue qd h
theorem c5p{Q:Value->Shared->Prop}(hu:A.units+1<cLine)(I:Inv X pins σ H s)(g:DGet H a y (some v))(ry:RelV y u)(h:∀w' s',Inv X pins σ H s'->RelV v w'->Q w' s'):
  wpAny (model X.prog X.w) A (getItem (.ref a) u) Q E s:=by
 rcases g with⟨kvs,k,e,ey,l⟩|⟨kvs,k,b,e,ey,eb,l⟩
 ·subst ey;obtain⟨z,hd,vs,rel,dd⟩:=a8s I.hok e;obtain⟨w',hw,rw'⟩:=RelO.some_of (v:=v) (o:=valueAt vs k) (by rw[l];exact rel.val k);exact wpAny_getItem_of (b4v ry) dd.mapOf hw (h w' _ (I.tok _) rw')
 ·subst ey
  cases(show u=Value.ref b from ry)
  obtain⟨z,hd,xs,rel,dd⟩:=b4w I.hok e;obtain⟨w',hw,rw'⟩:=RelO.some_of (v:=v) (o:=(atKey xs k).map (·.2)) (by rw[l];exact rel.val k);obtain⟨p,hp,hp2⟩:=W9.mp hw;refine wpAny_getItem_heap (Vp hu) (b1h I.hok eb) dd hp ?_;rw[hp2];exact h w' _ (I.tok _) rw'
theorem b2s{h':Heap}{t':Nat}{ob:HO}(I:Inv X pins σ H s)(mu:Mut (H a))(hs:Heap.SameBut a s.heap h')(he:∃q,h'.get? a=some q)(new:a1s X.prog X.w (upd H a ob) h' a ob):
  Inv X pins σ (upd H a ob) { s with heap:=h',toks:=t'}:=
 I.write (x:=a) (e:=a) mu (.inl rfl) (λb q hb z=>(hs.2 b hb).trans z) he new
theorem b8w{P:Program}{w:World}{H':Hp}{h':Heap}{kvs:List (Key×V)}{vs:List (Key×Value)}(z:kvs.length<=sizeLine)(hd:(a==sysModules)=false)(rel:KV kvs vs)(dd:h'.DictOf (a1q P w) a vs):
  a1s P w H' h' a (.dK kvs):=⟨z,hd,vs,rel,dd⟩
theorem c5q{H':Hp}{Q:Unit->Shared->Prop}(hu:A.units+1<cLine)(I:Inv X pins σ H s)(g:DPut H a y v H')(ry:RelV y u)(rv:RelV v r)(h:∀s',Inv X pins σ H' s'->Q () s'):
  wpAny (model X.prog X.w) A (setItem (.ref a) u r) Q E s:=by
 rcases g with⟨kvs,k,e,ey,l,eH⟩|⟨kvs,k,b,e,ey,eb,l,eH⟩
 ·subst ey eH;obtain⟨z,hd,vs,rel,dd⟩:=dk_of I.hok e;have hz:vs.length<=sizeLine:=by rw[<-rel.length];exact z
  have hl:(putK kvs k v).length<=sizeLine:=by have:=a6x kvs k v;omega
  refine wpAny_setItem_pairs (hsz:=hz) (b4v ry) dd λh' dd' hs=>h _ ?_
  have he:∃q,h'.get? a=some q:=let⟨q,_,_,hq,_⟩:=dd';⟨q,hq⟩
  exact b2s I (by rw[e];exact True.intro) hs he (b8w hl hd (rel.put k rv) dd')
 ·subst ey eH
  cases(show u=Value.ref b from ry)
  obtain⟨z,hd,xs,rel,dd⟩:=dt_of I.hok e;have hz:xs.length<=sizeLine:=by rw[<-V5 rel];exact z
  have hl:(putK kvs k v).length<=sizeLine:=by have:=a6x kvs k v;omega
  refine wpAny_setItem_heap (hsz:=hz) (Vp hu) (b1h I.hok eb) dd λh' dd' hs=>h _ ?_
  obtain⟨q,es,ep,hq,h2,h3,h4,_,h5⟩:=dd';refine b2s I (by rw[e];exact True.intro) hs ⟨q,hq⟩ ⟨hl,hd,_,(rel.put k eb rv).keeps λc ys ec=>?_,q,es,ep,hq,h2,h3,h4,h5⟩;rw[a0p (a6t ec e (λz=>nomatch z))];exact ec
end
section
variable{X:Cx}{pins:List (Addr×Obj)}{σ:St}{H:Hp}{s:Shared}{a:Addr}{kvs:List (Key×V)}{k:Key}{u:Value}{A:Around}{E:Value->Shared->Prop}
theorem d_len{Q:Value->Shared->Prop}(I:Inv X pins σ H s)(e:Rd H a (.dK kvs))(h:∀t s',Inv X pins σ H s'->Q (.int kvs.length t) s'):wpAny (model X.prog X.w) A (call (.builtin "len") [.ref a]) Q E s:=by
 obtain⟨z,hd,vs,rel,dd⟩:=a8s I.hok e;refine call_len_dict hd dd (by rw[<-rel.length];rw[Yg]at z;omega) ?_;rw[<-rel.length];exact h _ _ (I.tok _)
end
def NoSl(i:Expr):Prop:=∀ov iv,subscripted i false ov iv=operate [ov,iv] (getItem ov iv)
theorem subD_of{prog:Program}{w:World}{A:Around}{E:Value->Shared->Prop}{s:Shared}{env:Env}{value slice:Expr}{pos:Pos}{T id:String}{Q:Value->Shared->Prop}
  (hl:typeLookup (.type T) "__getitem__"=pure (some (.builtin id)))(hs:NoSl slice)
  (h:wpAny (model prog w) A (eval value env) (λo s₁=>wpAny (model prog w) A (eval slice env) (λi s₂=>s₂.TypeIs o T/\wpAny (model prog w) A (getItem o i) Q E s₂) E s₁) E s):
  wpAny (model prog w) A (eval (.Subscript value slice pos) env) Q E s:=by
 refine Rr (Xw h (λo s₁ h₁=>Xw h₁ (λi s₂ h₂=>?_) λ_ _ x=>x) λ_ _ x=>x);obtain⟨hT,h₂⟩:=h₂;unfold subscriptTail;refine Za ?_;rw[getitemInPython_of_ne hT.not_modules];refine Za (Xm hT hl ?_);have fin:wpAny (model prog w) A (subscripted slice false o i) (λr s₃=>wpAny (model prog w) A (letTemporaryGo value o r>>=λ_=>pure r) Q E s₃) E s₂:=by
  rw[hs o i];exact wpAny_operating (Xw h₂ (λr s₃ h₃=>Za (wpAny_letTemporaryGo (Ze h₃))) λ_ _ x=>x)
 first
  |exact Ze (Za fin)
  |exact Za (Ze (Za fin))
  |exact Za fin
theorem c0z{X:Cx}{pins:List (Addr×Obj)}{σ:St}{H:Hp}{s:Shared}{a:Addr}{y:V}{o:Option V}(I:Inv X pins σ H s)(g:DGet H a y o):s.TypeIs (.ref a) "dict":=by
 rcases g with⟨kvs,k,e,_,_⟩|⟨kvs,k,b,e,_,_,_⟩
 ·obtain⟨_,_,vs,_,dd⟩:=a8s I.hok e;exact dd.typeIs
 ·obtain⟨_,_,xs,_,dd⟩:=b4w I.hok e;exact dd.typeIs
def tDGet(td ty:TE):TE:=λσ H Q=>td σ H λx H1=>ty σ H1 λy H2=>∃a v,x=.ref a/\DGet H2 a y (some v)/\Q v H2
def sDPut(td ty tv:TE):TS:=λD σ H=>tv σ H λv H1=>td σ H1 λx H2=>ty σ H2 λy H3=>∃a H4,x=.ref a/\DPut H3 a y v H4/\D.nx σ H4
section
variable{X:Cx}{o i e value:Expr}{pos pos' tpos:Pos}{td ty tv:TE}
theorem pe_dget(hu:X.A.units+1<cLine)(ho:PE X o td)(hi:PE X i ty)(hs:NoSl i):PE X (.Subscript o i pos) (tDGet td ty):=by
 intro pins s σ H Q I h;refine subD_of F.slot_dict_getitem.lookup hs (thn (ho pins s σ H _ I h) λu s1 ⟨x,H1,I1,rx,q1⟩=>thn (hi pins s1 σ H1 _ I1 q1) λiv s2 z9=>?_);obtain⟨y,H2,I2,ry,a,v,ex,g,q2⟩:=z9;subst ex;obtain rfl:u=Value.ref a:=rx;exact⟨c0z I2 g,c5p hu I2 g ry λw' s3 I3 rw'=>⟨v,H2,I3,rw',q2⟩⟩
theorem c2a(hu:X.A.units+1<cLine)(ho:PE X o td)(hi:PE X i ty)(hv:PE X value tv)(hs:swapsWith value (some (.Subscript o i pos')) pos.line X.env=pure false):
  PS X (.Assign [.Subscript o i pos'] value pos) (sDPut td ty tv):=by
 intro pins s σ H D I h;refine wpAny_Assign_Subscript (thn (hv pins s σ H _ I h) λr s1 ⟨v,H1,I1,rv,q1⟩=>thn (ho pins s1 σ H1 _ I1 q1) λu s2 ⟨x,H2,I2,rx,q2⟩=>thn (hi pins s2 σ H2 _ I2 q2) λiv s3 ⟨y,H3,I3,ry,a,H4,ex,g,q3⟩=>?_) hs;subst ex;obtain rfl:u=Value.ref a:=rx;exact c5q hu I3 g ry rv λs4 I4=>⟨σ,H4,I4,q3⟩
end
theorem c8w{P:Program}{w:World}{H:Hp}(h:Heap)(hb:sysModules<h.objs.size):a1s P w H (h.push { cls:=.type "dict",data:=.dict #[]}) h.objs.size (.dK []):=
 ⟨Yx _,Yr.mpr (Ne.symm (Zv hb)),[],.nil,Heap.DictOf.new h⟩
theorem c8x{P:Program}{w:World}{H:Hp}(h:Heap)(hb:sysModules<h.objs.size):a1s P w H (h.push { cls:=.type "dict",data:=.dict #[]}) h.objs.size (.dT []):=
 ⟨Yx _,Yr.mpr (Ne.symm (Zv hb)),[],.nil,_,#[],0,Zk _ rfl,⟨rfl,rfl,rfl⟩,rfl,rfl,List.nodup_nil⟩
def tDNewK:TE:=λ_ H Q=>∀p,H p=none->Q (.ref p) (upd H p (.dK []))
def tDNewT:TE:=λ_ H Q=>∀p,H p=none->Q (.ref p) (upd H p (.dT []))
section
variable{X:Cx}{pos:Pos}
theorem b3s:PE X (.Dict [] [] pos) tDNewK:=λpins s σ H Q I h=>
 wpAny_Dict_empty ⟨.ref s.heap.objs.size,_,I.laid (a:=s.heap.objs.size) (o:=.dK []) (t':=s.toks) (λ_ _ q=>Zc _ q) (Zg _) (c8w s.heap I.big),rfl,h _ (I.hok.fresh (Zg _))⟩
theorem c8y:PE X (.Dict [] [] pos) tDNewT:=λpins s σ H Q I h=>
 wpAny_Dict_empty ⟨.ref s.heap.objs.size,_,I.laid (a:=s.heap.objs.size) (o:=.dT []) (t':=s.toks) (λ_ _ q=>Zc _ q) (Zg _) (c8x s.heap I.big),rfl,h _ (I.hok.fresh (Zg _))⟩
end
structure M1(X:Cx)(o:Expr)(m:Str)(apos:Pos)(e:Expr)(cpos:Pos):Prop where
 base:attributeBase o m X.env (eval o X.env)=eval o X.env
 few:((backTo cpos (starEach [e] X.env)).all (λx=>!x.1)&&(backToKw cpos (keywordEach [] X.env)).all (λx=>x.1.isSome)
  &&decide (([e]:List Expr).length+([]:List Keyword).length+(if([]:List Keyword).isEmpty then 0 else 1)<30))=true
 line:(apos.endLine==cpos.line)=true
 trees:backTo cpos (starEach [e] X.env)=[(false,eval e X.env)]
structure M2(X:Cx)(o:Expr)(m:Str)(apos:Pos)(e f:Expr)(cpos:Pos):Prop where
 base:attributeBase o m X.env (eval o X.env)=eval o X.env
 few:((backTo cpos (starEach [e,f] X.env)).all (λx=>!x.1)&&(backToKw cpos (keywordEach [] X.env)).all (λx=>x.1.isSome)
  &&decide (([e,f]:List Expr).length+([]:List Keyword).length+(if([]:List Keyword).isEmpty then 0 else 1)<30))=true
 line:(apos.endLine==cpos.line)=true
 trees:backTo cpos (starEach [e,f] X.env)=[(false,eval e X.env),(false,eval f X.env)]
def IsD(H:Hp)(a:Addr):Prop:=(∃kvs,Rd H a (.dK kvs))\/∃kvs,Rd H a (.dT kvs)
theorem isD_at{X:Cx}{pins:List (Addr×Obj)}{σ:St}{H:Hp}{s:Shared}{a:Addr}(I:Inv X pins σ H s)(d:IsD H a):
  s.TypeIs (.ref a) "dict"/\(∀b,Value.ref a=.ref b->∃ob,s.heap.get? b=some ob/\ob.dict=none)/\(a==sysModules)=false:=by
 rcases d with⟨kvs,e⟩|⟨kvs,e⟩
 ·obtain⟨_,hd,vs,_,dd⟩:=a8s I.hok e;refine⟨dd.typeIs,λb q=>?_,hd⟩;cases q;obtain⟨ob,_,_,h1,h2,_⟩:=dd;exact⟨ob,h1,h2.2.1⟩
 ·obtain⟨_,hd,xs,_,dd⟩:=b4w I.hok e;refine⟨dd.typeIs,λb q=>?_,hd⟩;cases q;obtain⟨ob,_,_,h1,h2,_⟩:=dd;exact⟨ob,h1,h2.2.1⟩
section
variable{X:Cx}{pins:List (Addr×Obj)}{σ:St}{H:Hp}{s:Shared}{a:Addr}{y d:V}{u r:Value}{o:Option V}{A:Around}{E:Value->Shared->Prop}
theorem d_get2{Q:Value->Shared->Prop}(hu:A.units+1<cLine)(I:Inv X pins σ H s)(g:DGet H a y o)(ry:RelV y u)(rd:RelV d r)(h:∀w' s',Inv X pins σ H s'->RelV (o.getD d) w'->Q w' s'):
  wpAny (model X.prog X.w) A (call (.builtin "dict.get") [.ref a,u,r]) Q E s:=by
 rcases g with⟨kvs,k,e,ey,l⟩|⟨kvs,k,b,e,ey,eb,l⟩
 ·subst ey;obtain⟨z,hd,vs,rel,dd⟩:=a8s I.hok e;refine Ta Tt dd.typeIs F.entry_dict_get (F.args_dict_get_3 _ _ _) (meets_dict_get_default (a1q X.prog X.w) a (b4v ry) hd r) ⟨_,dd.mapOf,h _ _ (I.tok _) ?_⟩;rw[l];exact(rel.val k).getD rd
 ·subst ey
  cases(show u=Value.ref b from ry)
  obtain⟨z,hd,xs,rel,dd⟩:=b4w I.hok e;refine Ta Tt dd.typeIs F.entry_dict_get (F.args_dict_get_3 _ _ _) (meetsH_dict_get_default (tupleKind (a1q X.prog X.w)) a b hd r) ⟨Vp hu,k,xs,b1h I.hok eb,dd,h _ _ (I.tok _) ?_⟩;rw[l];exact(rel.val k).getD rd
end
def c5r(td ty tx:TE):TE:=λσ H Q=>td σ H λx H1=>∃a,x=.ref a/\IsD H1 a/\ty σ H1 λy H2=>tx σ H2 λz H3=>∃o,DGet H3 a y o/\Q (o.getD z) H3
section
variable{X:Cx}{o e f:Expr}{apos cpos:Pos}{td ty tx:TE}
theorem c8z(hu:X.A.units+1<cLine)(ho:PE X o td)(he:PE X e ty)(hf:PE X f tx)(m:M2 X o "get" apos e f cpos):PE X (.Call (.Attribute o "get" apos) [e,f] [] cpos) (c5r td ty tx):=by
 intro pins s σ H Q I h;refine wpAny_Call_method m.base m.few m.line Tf Tt F.type_dict_get (thn (ho pins s σ H _ I h) λu s1 z9=>?_);obtain⟨x,H1,I1,rx,a,ex,d,q1⟩:=z9;subst ex;obtain rfl:u=Value.ref a:=rx;obtain⟨t1,t2,_⟩:=isD_at I1 d;refine⟨t1,t2,?_⟩;rw[m.trees]
 refine Ug rfl (Ra (W8 (thn (he pins s1 σ H1 _ I1 q1) λiv s2 ⟨y,H2,I2,ry,q2⟩=>
  W8 (thn (hf pins s2 σ H2 _ I2 q2) λfv s3 ⟨z,H3,I3,rz,ov,g,q3⟩=>Ve ?_))))
 exact d_get2 hu I3 g ry rz λw' s4 I4 rw'=>⟨_,H3,I4,rw',q3⟩
end
section
variable{X:Cx}{pins:List (Addr×Obj)}{σ:St}{H:Hp}{s:Shared}{a:Addr}{kvs:List (Key×V)}{A:Around}{E:Value->Shared->Prop}
theorem c9a{Q:Value->Shared->Prop}(I:Inv X pins σ H s)(e:Rd H a (.dK kvs))(h:∀p s',H p=none->Inv X pins σ (upd H p (.dK kvs)) s'->Q (.ref p) s'):wpAny (model X.prog X.w) A (call (.type "dict") [.ref a]) Q E s:=by
 obtain⟨z,hd,vs,rel,dd⟩:=a8s I.hok e;refine kt_call_dict hd dd (by rw[<-rel.length];exact z) λh' dd' hs=>?_
 refine h _ _ (I.hok.fresh (Zg _)) (I.laid (a:=s.heap.objs.size) (o:=.dK kvs) (t':=s.toks) (λb q hq=>?_) (Zg _) (b8w z (Yr.mpr (Ne.symm (Zv I.big))) rel dd'));exact(hs.2 b (Zv (Zh hq))).trans (Zc _ hq)
end
end L2
namespace Att
open PySem PySem.W PySem.Calls PyProof.Rows
theorem b4x{P:Params}{h:Heap}:∀(ns:List Int)(vs:List Value),WellAll P h vs (ns.map WData.int)->IntsAre vs ns:=by
 intro ns
 induction ns with
 |nil=>
  intro vs w;rw[Wv]at w;cases w;exact .nil
 |cons n ns ih=>
  intro vs w;rw[Z4]at w;cases w with
  |cons a b=>
   cases a;exact .cons _ _ (ih _ b)
theorem c5s{l:OpenLaw}{n:Nat}(hn:l.most=some n){P:Params}{h:Heap}{args:List WData}{vals:List Value}
  (hpre:l.row.toRowW.claim.pre args=true)(hwl:WellAll P h vals args):
  ∃a vs ns,vals=[Value.ref a]/\args=[WData.list (ns.map WData.int)]/\h.get? a=some { cls:=.type "list",data:=.seq vs.toArray}/\IntsAre vs ns/\ns.length<=n:=by
 have hsh:WShape.hasAll [] args [.list .int]=true:=(pre_splitW hpre).1;have hc:l.pre.holds [] { args:=args}=true:=(pre_splitW hpre).2;obtain⟨d,r,rfl,h1,h2⟩:=hasAllW_cons hsh;obtain rfl:=hasAllW_nil h2;obtain⟨xs,rfl,h3⟩:=hasW_list h1;obtain⟨ns,rfl⟩:=items_int h3;have hlen:ns.length<=n:=by
  unfold OpenLaw.pre at hc;have h4:(WTm.not (.lt (.lit (.int (n:Int))) (.len (.arg 0)))).holds [] { args:=[.list (ns.map .int)]}=true:=by
   have h4:=(holds_andW hc).1;rw[hn]at h4;exact h4
  have h5:=condW_of h4 (w_not (w_lt w_lit (w_len_list (w_arg rfl))));rw[length_map]at h5;refine Nat.le_of_not_lt λq=>?_
  have q':(n:Int)<((ns.length:Nat):Int):=by omega
  first
   | (rw[Zx q']at h5;exact absurd h5 qd)
   | (simp at h5;omega)
 cases hwl with
 |cons w1 w2=>
  cases w2;cases w1 with
  |list ho hall=>exact⟨_,_,ns,rfl,rfl,ho,b4x ns _ hall,hlen⟩
theorem c5t(l:OpenLaw)(args:List WData):l.row.toRowW.claim.post args (.bool true) args=true:=
 postW_of (r:=l.row.toRowW) (X:=(true==true))
  (show WShape.has [] (.bool true) .bool=true by first|rfl|decide|simp[WShape.has,WShape.arms,WShape.armsAll])
  (show(WTm.eq .res (.lit (.bool true))).value [] { args:=args,res:=some (.bool true),after:=args}=some (.bool (true==true))from w_eq_bool (w_res rfl) w_lit) rfl
end Att
namespace L2
open PySem PySem.Spec PyProof.Rows
theorem b7b:∀{vs:List Value}{ns:List Int},IntsAre vs ns->Vals (ns.map V.int) vs
 |_,_,.nil=>.nil
 |_,_,.cons n t h=>.cons ⟨t,rfl⟩ (b7b h)
def Only(H:Hp):Prop:=∀b,H b=none\/∃o xs,H b=some (.frz o (.lst xs))
theorem c9b{P:Program}{w:World}{K:W.Frag}{mg mb:Str->Option Value}{CX:CXT}{k:Nat}{fa a:Addr}{fd:FuncData}{x:Str}{sp:Sp}{s₁:Shared}{vs:List Value}{ns:List Int}
  (KX:K.In s₁.heap)(hns:s₁.heap.Ns mainGlobals mg)(hb:s₁.heap.Ns builtinsNs mb)(hbb:∀x:Str,x≠"__name__"->mb x=bootBuiltins x)(hlim:s₁.heap.NoLimit)(hg:s₁.gens= #[])
  (ha:s₁.heap.get? a=some { cls:=.type "list",data:=.seq vs.toArray})(hi:IntsAre vs ns)(hl:ns.length<=sizeLine)(hr:Room k callerA)
  (F:∀base:Heap,K.In base->base.Ns mainGlobals mg->FnOk P w K mg base CX k fa fd [x] sp)(hbind:∀(s:Shared)(u:Value),BindsTo s fd ⟨[u],[]⟩ [(x,u)])
  (hsp:∀H:Hp,Only H->SqL K H a (ns.map V.int)->sp [.ref a] H (λv _=>v=.bl true) λ_ _ _=>False)
  (hCX:∀H e s',CX [] H s₁ (λ_ _ _=>False) e s'->False):
  codeAny (model P w) callerA (.call (.ref fa) ⟨[.ref a],[]⟩) (λr s'=>r=.ok (.ret (.bool true))/\OldK s₁.heap s'.heap/\s'.os=s₁.os/\AllBare s'.gens) s₁:=by
 have rv:=b7b hi;have lenV:=hi.length;have core:∀H:Hp,Only H->SqL K H a (ns.map V.int)->HOk P w H s₁.heap->(∀b,H b≠none->b=a)->(H a≠none->K.lookup a=none)->
   codeAny (model P w) callerA (.call (.ref fa) ⟨[.ref a],[]⟩) (λr s'=>r=.ok (.ret (.bool true))/\OldK s₁.heap s'.heap/\s'.os=s₁.os/\AllBare s'.gens) s₁:=by
  intro H hO hS hok hA hK;have base_of:∀{b:Addr}{o:Obj},s₁.heap.get? b=some o->H b=none->(hidT s₁.heap H).get? b=some o:=λe n=>c8j e n
  have noA:∀{b:Addr}{o:Obj}{es:Array DictEntry}{ep:Nat},s₁.heap.get? b=some o->o.data=.dict es ep->H b=none:=λ{b o es ep} e d=>by
   cases q:H b with
   |none=>rfl
   |some u=>
    have e':b=a:=hA b (by rw[q];simp);subst e';rw[ha]at e;cases e;have d':Data.seq vs.toArray _=Data.dict es ep:=d;cases d'
  have nsK:∀{b:Addr}{m:Str->Option Value},s₁.heap.Ns b m->(hidT s₁.heap H).Ns b m:=λ{b m} ⟨o,es,ep,e,d,r⟩=>⟨o,es,ep,base_of e (noA e d),d,r⟩
  have hKb:K.In (hidT s₁.heap H):=λb o e=>base_of (KX b o e) (by
   cases q:H b with
   |none=>rfl
   |some u=>
    have e':b=a:=hA b (by rw[q];simp);subst e'
    rw[hK (by rw[q];simp)]at e;cases e)
  have hM:Mod K mg (hidT s₁.heap H):=⟨hKb,nsK hns,⟨mb,nsK hb,hbb⟩,let⟨mc,h1,h2⟩:=hlim;⟨mc,nsK h1,h2⟩⟩;have e0:Env0 P w K mg (hidT s₁.heap H) callerA [] s₁ H:=⟨rfl,hM,λb o e=>of_hidT e,Nat.le_of_eq (c4y _ _),trivial,λb hb=>absurd (show b∈([]:List Addr)from hb) qz,hok,.of_eq hg⟩;refine Vm ((F _ hKb (nsK hns)).run callerA [] s₁ H ⟨[.ref a],[]⟩ [.ref a] [.ref a] _ _ hr e0 (hbind s₁ (.ref a)) (.cons rfl .nil) (hsp H hO hS)) λr s' h=>?_
  cases r with
  |error e=>exact(hCX H e s' h).elim
  |ok fl=>
   cases fl with
   |next=>exact False.elim h
   |brk=>exact False.elim h
   |cont=>exact False.elim h
   |ret u=>
    obtain⟨v,H',os,bare,un,hok',r',q⟩:=h;have q':v=.bl true:=q;subst q';obtain rfl:u=Value.bool true:=r';refine⟨rfl,OldK.of_keep λb o e=>?_,os,bare⟩;cases q:H b with
    |none=>exact un.keep b o e q (by intro z;exact absurd (show b∈([]:List Addr)from z) qz) qz
    |some u=>
     rcases hO b with z|⟨ob,xs,z⟩
     ·rw[q]at z;cases z
     ·have z2:=un.frzs b ob _ z;obtain⟨e1,_⟩:=hok b _ z;obtain⟨e2,_⟩:=hok' b _ z2;rw[e]at e1;cases e1;exact e2
 cases hk:K.lookup a with
 |some o=>
  have e:=KX a o hk;rw[ha]at e;cases e;refine core (λ_=>none) (λ_=>.inl rfl) (.inr ⟨_,vs.toArray,_,hk,rfl,rfl,rfl,by rw[Zd,lenV];exact hl,by simpa using rv⟩) (λb u z=>by have z':(none:Option HO)=some u:=z;cases z') (λb z=>absurd rfl z) λz=>absurd rfl z
 |none=>
  refine core (λb=>if b=a then some (.frz { cls:=.type "list",data:=.seq vs.toArray} (.lst (ns.map V.int)))else none) (λb=>?_) (.inl (.inr ⟨{ cls:=.type "list",data:=.seq vs.toArray},if_pos rfl⟩)) (λb u z=>?_) (λb z=>?_) λ_=>hk
  ·by_cases hb:b=a
   ·exact .inr ⟨_,_,if_pos hb⟩
   ·exact .inl (if_neg hb)
  ·by_cases hb:b=a
   ·have z':=(if_pos hb).symm.trans z;cases z';subst hb;exact⟨ha,by rw[length_map];exact hl,vs,_,rv,ha⟩
   ·have z':=(if_neg hb).symm.trans z;cases z'
  ·by_cases hb:b=a
   ·exact hb
   ·exact absurd (if_neg hb) z
abbrev KOf{K:W.Frag}{h:Heap}(_:K.In h):W.Frag:=K
noncomputable def inClass(s:Stmt)(j:Nat):Stmt:=match s with
 | .ClassDef _ _ _ body _ _ _ _ _ _ _=>body.getD j (.Pass ⟨0,0,0,0⟩)
 |_=>.Pass ⟨0,0,0,0⟩
def a5l(s:Stmt):Arguments:=match s with
 | .FunctionDef _ a _ _ _ _ _ _ _ _=>a
 |_=>{ posonlyargs:=[],args:=[],vararg:=none,kwonlyargs:=[],kw_defaults:=[],kwarg:=none,defaults:=[]}
def a3k(s:Stmt):List Stmt:=match s with
 | .FunctionDef _ _ b _ _ _ _ _ _ _=>b
 |_=>[]
def a0n(s:Stmt):Scope:=match s with
 | .FunctionDef _ _ _ _ _ _ sc _ _ _=>sc
 |_=>{ kind:=.function,names:=[],isGenerator:=false,isCoroutine:=false}
abbrev CX0:CXT:=λ_ _ _ _ _ _=>False
abbrev E0:XK:=λ_ _ _=>False
theorem a0v{X:Cx}:a5q CX0 X E0:=λ_ _ _ _ _ _ _ h=>h.elim
structure Fun(K:W.Frag)(x qual:Str)(st:Stmt)(f:Addr)(fd:FuncData):Prop where
 ex:∃(oc:Value)(od:Option Addr)(kV doc pm:Value)(an:Option Addr)(cdv ct:Value)(osl:Array (Option Value)),
  fd=W.fnOf x qual (a5l st) (a3k st) (a0n st) .none kV doc pm an cdv ct/\K.lookup f=some ⟨oc,od,.func fd,osl⟩/\W.codeIn K cdv qual=true
 kp:W.keepIn K (.ref f)=true
section
variable{P:Program}{w:World}{K:W.Frag}{mg:Str->Option Value}{base:Heap}
theorem Fun.ok{x qual:Str}{st:Stmt}{f:Addr}{fd:FuncData}{N ps:List Str}{k:Nat}{sp:Sp}(F:Fun K x qual st f fd)(S:a0z N ps (a0n st))(len:∀vs H Q E,sp vs H Q E->vs.length=ps.length)
  (hbody:∀(cdv:Value)(A:Around)(outer:List Env)(s:Shared)(H:Hp)(vs:List V)(Q:VK)(E:XK),Room k (A.deeper (envOfC qual (a0n st) s.heap.objs.size f cdv))->sp vs H Q E->
   ∃t,PSs (cxOf CX0 P w K mg base N qual (a0n st) f cdv A outer s H E).nox (a3k st) t/\t { nx:=λ_ H'=>Q .non H',rt:=Q} (start N vs) H):FnOk P w K mg base CX0 (k+1) f fd ps sp:=by
 obtain⟨oc,od,kV,doc,pm,an,cdv,ct,osl,rfl,lk,hcd⟩:=F.ex;refine fn_of lk hcd S len λA outer s H vs Q E hr hsp=>?_
 obtain⟨t,h,q⟩:=hbody cdv A outer s H vs Q E hr hsp;exact⟨t,h.nox,q⟩
theorem fun_mk{x qual:Str}{st:Stmt}{f:Addr}{oc:Value}{od an:Option Addr}{osl:Array (Option Value)}{kV doc pm cdv ct:Value}(l:K.lookup f=some ⟨oc,od,.func (W.fnOf x qual (a5l st) (a3k st) (a0n st) .none kV doc pm an cdv ct),osl⟩)
  (c:W.codeIn K cdv qual=true)(k:W.keepIn K (.ref f)=true):Fun K x qual st f (W.fnOf x qual (a5l st) (a3k st) (a0n st) .none kV doc pm an cdv ct):=⟨⟨oc,od,kV,doc,pm,an,cdv,ct,osl,rfl,l,c⟩,k⟩
end
theorem b7y{A:Around}{k:Nat}(hr:Room k A):A.units+1<cLine:=Nat.lt_of_le_of_lt (Nat.add_le_add_left (by decide:1<=64) _) hr.units
theorem iteF{A B:Prop}(h:B):if false=true then A else B:=by
 rw[if_neg Zp];exact h
theorem iteT{A B:Prop}(h:A):if true=true then A else B:=by
 rw[if_pos rfl];exact h
def Same(H H':Hp):Prop:=∀b o,H b=some o->H' b=some o
theorem Same.refl(H:Hp):Same H H:=λ_ _ h=>h
theorem Same.trans{H H1 H2:Hp}(a:Same H H1)(b:Same H1 H2):Same H H2:=λc o h=>b c o (a c o h)
theorem Same.seq{K:W.Frag}{H H':Hp}{a:Addr}{xs:List V}(e:Same H H')(h:SqL K H a xs):SqL K H' a xs:=by
 rcases h with(h|⟨o,h⟩)|h
 ·exact .inl (.inl (e _ _ h))
 ·exact .inl (.inr ⟨o,e _ _ h⟩)
 ·exact .inr h
section
variable{X:Cx}
theorem c5u:a2b X (.builtin "len") (λxs H Q=>∃a kvs,xs=[V.ref a]/\H a=some (.dK kvs)/\Q (.int kvs.length) H):=by
 intro pins s σ H xs us Q I r h;obtain⟨a,kvs,rfl,ha,q⟩:=h;obtain⟨u,rfl,ru⟩:=vals1 r;cases ru;exact d_len I (.inl ha) λt s' I'=>⟨.int kvs.length,H,I',⟨t,rfl⟩,q⟩
end
end L2
set_option maxHeartbeats 4000000
namespace My
open PySem PySem.W PySem.Calls PyProof.Rows
theorem b4y{tb:String->Option Builtin}{p:Program}{w:World}{n₀:Nat}{ann:Option Value}:∀{n:Nat}{s s':Shared}{t:Thread}{f:Flow}{c:Code}{q:Pos},segRun tb p w n₀ ann 0 n s t=some (f,s',c,q)->topRun tb p w n₀ ann n s t=some s'
 |0,_,_,_,_,_,_,h=>by cases h
 |n+1,s,s',t,f,c,q,h=>by
  unfold segRun at h;unfold topRun;cases he:endAt 0 t with
  |some x=>
   rw[he]at h;cases h;have:through t=true:=by
    unfold endAt at he;unfold through;obtain⟨cur,code,pos,st⟩:=t;cases st with
    |nil=>split at he<;>simp_all
    |cons a b=>simp at he
   rw[this]
  |none=>
   have:through t=false:=by
    unfold endAt at he;unfold through;obtain⟨cur,code,pos,st⟩:=t;cases st with
    |nil=>
     dsimp only at he ⊢
     split at he
     ·cases he
     ·rename_i h1;simp only[List.isEmpty_nil,Ye]
      split
      ·exact(h1 _ rfl rfl).elim
      ·rfl
    |cons a b=>rfl
   rw[he]at h;rw[this];cases hk:stepOk n₀ ann t with
   |false=>rw[hk]at h;cases h
   |true=>
    rw[hk]at h;cases hs:step (denote tb) p w s t with
    |halt o x=>rw[hs]at h;cases h
    |go s₂ t₂=>rw[hs]at h;exact b4y h
noncomputable def bootT(P:Params):BT:=.node (boot_o_0 P) (.node (boot_o_1 P) (.node (boot_o_3 P) (.node (boot_o_7 P) .nil .nil) .nil) (.node (boot_o_5 P) (.node (boot_o_9 P) .nil .nil) .nil)) (.node (boot_o_2 P) (.node (boot_o_4 P) (.node (boot_o_8 P) .nil .nil) .nil) (.node (boot_o_6 P) (.node (boot_o_10 P) .nil .nil) .nil))
theorem boot_abs(P:Params):absHeap (bootT P) 11 {}=boot_heap P:=by kernel_rfl
noncomputable def bootS(w:World)(os:OsState):SharedT:=⟨bootT w.params,11,{},#[],boot_drawn,boot_toks,os⟩
noncomputable def looks{α:Type}(p q:Program)(loose:List Str)(Xt:Shared->Bool)(Yf:Shared->α)(g0:Bool)(h₀:Heap)(s:Shared):=
 ((staticsOk (importedModules p.main.body) h₀ s.heap&&namesBound p s.heap&&gensDone s&&laidKept h₀ s.heap),openSeen q loose (importedModules p.main.body) Xt g0 s,Yf s)
theorem left_of{p q:Program}{loose:List Str}{Xt:Shared->Bool}{α:Type}{Yf:Shared->α}{Ya:World->α}{N M:Nat}{g0:Bool}
  (e:opening p=plainProg p.main.scope.names)(hN:Nat.ble 600 N=true)(f:∀s,fenceModules? p s=some s)
  (size:∀w:World,((boot_heap w.params).isNs mainGlobals,(boot_heap w.params).nsMap mainGlobals "__annotations__")=(true,some (.ref 6)))
  (le:Nat.ble M N=true)
  (run:∀w:World,(λos=>(segRunT treeTable p w 11 (some (.ref 6)) 0 M (bootS w os) (topStub p)).map λr=>looks p q loose Xt Yf g0 (boot_heap w.params) r.2.1.abs)=λ_=>some (true,openGood q loose,Ya w)):
  LeftO p q loose Xt Yf Ya N g0:=λw=>by
 obtain⟨⟨h,gs,d,k,os⟩,e1,e2⟩:=W9.mp (boot_open e hN f w);obtain⟨rfl,rfl,rfl,rfl⟩:h=boot_heap w.params/\gs= #[]/\d=boot_drawn/\k=boot_toks:=by simpa using e2
 obtain⟨z1,z3⟩:_/\_:=by simpa only[Prod.mk.injEq]using size w
 obtain⟨⟨fl,s,c,ps⟩,r1,r2⟩:=W9.mp (congrFun (run w) os);obtain⟨l1,l2,l3⟩:_/\_/\_:=by simpa only[looks,Prod.mk.injEq]using r2
 have r:=topRun_mono (N-M) _ _ _ _ (b4y (segRun_of r1));rw[show M+(N-M)=N by have:=Nat.le_of_ble_eq_true le;omega]at r;have t:topFrom treeTable p w N ⟨boot_heap w.params,#[],boot_drawn,boot_toks,os⟩=some s.abs:=by
  unfold topFrom
  dsimp only
  rw[z1]
  show(topRun treeTable p w 11 _ N ⟨boot_heap w.params,#[],boot_drawn,boot_toks,os⟩ (topStub p)).bind _=_
  rw[z3];have r':topRun treeTable p w 11 (some (.ref 6)) N ⟨boot_heap w.params,#[],boot_drawn,boot_toks,os⟩ (topStub p)=some s.abs:=by
   rw[<-boot_abs];exact r
  rw[r']
  show(match staticsOk (importedModules p.main.body) (boot_heap w.params) s.abs.heap&&namesBound p s.abs.heap&&gensDone s.abs&&laidKept (boot_heap w.params) s.abs.heap with|true=>some s.abs|false=>none)=some s.abs
  rw[l1]
 unfold openEnds;rw[e1]
 show((topFrom treeTable p w N ⟨boot_heap w.params,#[],boot_drawn,boot_toks,os⟩).map _)=_
 rw[t];exact Y0 some (by dsimp only;rw[l2,l3])
theorem c5v(w:World):((boot_heap w.params).isNs mainGlobals,(boot_heap w.params).nsMap mainGlobals "__annotations__")=(true,some (.ref 6)):=by kernel_rfl
end My
lay_quick PySem.W.topStub PySem.W.openGood PySem.W.SharedT.abs PySem.W.xlAt PySem.W.recOk PySem.W.view My.looks
namespace L2
open PySem PySem.Spec PyProof.Rows
def clOf(env:Env):List (Str×NameKind)->List (Str×Addr)->List (Str×Addr)
 | [],acc=>acc
 | (n,k)::r,acc=>if k=.free then clOf env r ((n,(env.cells.lookup n).getD 0)::acc)else clOf env r acc
theorem b3t{env:Env}(f:(Str×NameKind)->List (Str×Addr)->Sem (ForInStep (List (Str×Addr))))
  (h1:∀n r c,env.cells.lookup n=some c->f (n,.free) r=pure (.yield ((n,c)::r)))(h2:∀n k r,k≠.free->f (n,k) r=pure (.yield r)):
  ∀(l:List (Str×NameKind))(acc:List (Str×Addr)),(∀y∈l,y.2=.free->∃c,env.cells.lookup y.1=some c)->forIn l acc f=pure (clOf env l acc)
 | [],acc,_=>by rw[Vc];rfl
 | (n,k)::r,acc,h=>by
  have hr:∀y∈r,y.2=.free->∃c,env.cells.lookup y.1=some c:=λy hy=>h y (Z8 _ hy)
  rw[W3]
  by_cases hk:k=.free
  ·subst hk;obtain⟨c,hc⟩:=h _ Yp rfl;have hc:env.cells.lookup n=some c:=hc;rw[h1 n acc c hc];have ih:=b3t f h1 h2 r ((n,c)::acc) hr
   show(forIn r ((n,c)::acc) f)=_
   rw[ih];unfold clOf;rw[if_pos rfl,hc];rw[<-clOf.eq_def];rfl
  ·rw[h2 n k acc hk];have ih:=b3t f h1 h2 r acc hr
   show(forIn r acc f)=_
   rw[ih]
   conv=>rhs;unfold clOf
   rw[if_neg hk]
theorem b0f{scope:Scope}{env:Env}(h:∀y∈scope.names,y.2=.free->∃c,env.cells.lookup y.1=some c):closureFor scope env=pure (clOf env scope.names []):=by
 unfold closureFor;have e:=b3t (env:=env) (λx r=>if x.2==NameKind.free then do let c <-cellOf env x.1;pure (ForInStep.yield ((x.1,c)::r))else pure (ForInStep.yield r))
  (λn r c hc=>by
   have e:cellOf env n=pure c:=by unfold cellOf;rw[hc]
   show(if(NameKind.free==NameKind.free)=true then _ else _)=_
   rw[if_pos qd,e]
   rfl)
  (λn k r hk=>by
   show(if(k==NameKind.free)=true then _ else _)=_
   rw[if_neg (by intro z;exact hk (eq_of_beq z))]) scope.names [] h
 exact(Y0 (λm=>m>>=λcs=>(pure cs:Sem (List (Str×Addr)))) e)
theorem b0g{env:Env}:∀(l:List (Str×NameKind))(acc:List (Str×Addr))(y:Str)(c:Addr),(∀y∈l,y.2=.free->∃c,env.cells.lookup y.1=some c)->(∀y c,acc.lookup y=some c->env.cells.lookup y=some c)->
  (clOf env l acc).lookup y=some c->env.cells.lookup y=some c
 | [],acc,y,c,_,ha,e=>ha y c e
 | (n,k)::r,acc,y,c,h,ha,e=>by
  have hr:∀y∈r,y.2=.free->∃c,env.cells.lookup y.1=some c:=λy hy=>h y (Z8 _ hy)
  unfold clOf at e
  by_cases hk:k=.free
  ·rw[if_pos hk]at e;refine b0g r _ y c hr (λz d q=>?_) e;rw[Xz]at q;cases hz:z==n with
   |true=>
    rw[hz]at q;have q':(env.cells.lookup n).getD 0=d:=Zl q;obtain⟨c',hc'⟩:=h _ Yp hk;have hc':env.cells.lookup n=some c':=hc';rw[hc']at q';have q':c'=d:=q';rw[eq_of_beq hz,hc',q']
   |false=>
    rw[hz]at q;exact ha z d q
  ·rw[if_neg hk]at e;exact b0g r acc y c hr ha e
theorem b3u{env:Env}:∀(l:List (Str×NameKind))(acc:List (Str×Addr))(y:Str),(∃c,acc.lookup y=some c)->∃c,(clOf env l acc).lookup y=some c
 | [],_,_,h=>h
 | (n,k)::r,acc,y,h=>by
  unfold clOf
  by_cases hk:k=.free
  ·rw[if_pos hk];refine b3u r _ y ?_;rw[Xz];cases hz:y==n with
   |true=>exact⟨_,rfl⟩
   |false=>exact h
  ·rw[if_neg hk];exact b3u r acc y h
theorem a6j{env:Env}:∀(l:List (Str×NameKind))(acc:List (Str×Addr))(y:Str),(y,NameKind.free)∈l->∃c,(clOf env l acc).lookup y=some c
 | [],_,_,h=>by simp at h
 | (n,k)::r,acc,y,h=>by
  unfold clOf
  by_cases hk:k=.free
  ·rw[if_pos hk];rcases Zi.mp h with e|e
   ·refine b3u r _ y ?_;have e1:y=n:=Y0 Prod.fst e;rw[Xz,e1]
    simp
   ·exact a6j r _ y e
  ·rw[if_neg hk];rcases Zi.mp h with e|e
   ·exact absurd (Y0 Prod.snd e).symm hk
   ·exact a6j r acc y e
theorem a3e(scope:Scope)(env:Env)(y:Str):(relabel scope env).names.lookup y=(scope.names.lookup y).map λk=>if(k==NameKind.free&&env.scope.kind==.function&&env.kindOf y==some .cell)=true then .cell else k:=by
 show(scope.names.map _).lookup y=_
 induction scope.names with
 |nil=>rfl
 |cons p r ih=>
  obtain⟨n,k⟩:=p;rw[Z4,Xz (a:=y) (k:=n) (b:=k)];cases hz:y==n with
  |true=>
   have e:y=n:=eq_of_beq hz;subst e
   show List.lookup y ((if(k==NameKind.free&&env.scope.kind==.function&&env.kindOf y==some .cell)=true then(y,NameKind.cell)else(y,k))::_)=some (if _ then _ else _)
   by_cases hc:(k==NameKind.free&&env.scope.kind==.function&&env.kindOf y==some .cell)=true
   ·rw[if_pos hc,if_pos hc];simp
   ·rw[if_neg hc,if_neg hc];simp
  |false=>
   show List.lookup y ((if(k==NameKind.free&&env.scope.kind==.function&&env.kindOf n==some .cell)=true then(n,NameKind.cell)else(n,k))::_)=_
   by_cases hc:(k==NameKind.free&&env.scope.kind==.function&&env.kindOf n==some .cell)=true
   ·rw[if_pos hc,Xz,hz];exact ih
   ·rw[if_neg hc,Xz,hz];exact ih
def a2j(X:Cx)(scope:Scope)(x:Str)(N':List Str)(C:Addr)(s:Shared)(H:Hp)(fp:List Addr)(pn:List (Addr×Obj)):Cx where
 prog:=X.prog
 w:=X.w
 K:=X.K
 mg:=X.mg
 base:=X.base
 A:=X.A
 N:=x::N'
 s₀:=s
 H₀:=H
 env:=compEnvC scope (clOf X.env scope.names []) C X.env
 outer:=X.stack
 stack:=X.stack
 ex:=fp
 fn:=λ_=>false
 calm:=X.calm
 pn:=pn
 xe:=λ_ _=>False
section
variable{X:Cx}{pins:List (Addr×Obj)}{σ:St}{H:Hp}{s:Shared}
structure a9r(X:Cx)(scope:Scope)(x:Str)(N':List Str):Prop where
 loc:scope.names.lookup x=some .local
 nocell:∀y∈scope.names,y.2≠.cell
 kind:scope.kind=.function
 names:∀y∈scope.names,y.2=.local->scope.names.lookup y.1=some .local
 free:∀y∈scope.names,y.2=.free->X.env.kindOf y.1=some .cell\/X.env.kindOf y.1=some .free
 nin:x∉N'
 nd:N'.Nodup
 len:N'.length=X.N.length
 sub:∀(i:Nat)(y:Str),N'[i]? =some y->X.N[i]? =some y\/scope.names.lookup y=none
 only:∀y∈scope.names,y.2=.local->y.1=x\/y.1∉N'
theorem Inv.compIn{scope:Scope}{x:Str}{N':List Str}{fp:List Addr}{h1:Heap}{tk:Nat}{m:Str->Option Value}(S:a9r X scope x N')(I:Inv X pins σ H s)(hf:∀b∈fp,FpOk X pins H b)(hfl:∀b∈fp,b<s.heap.objs.size)
  (hn:h1.Ns s.heap.objs.size m)(hsb:∀b o,s.heap.get? b=some o->h1.get? b=some o):
  Inv (a2j X scope x N' s.heap.objs.size s H fp (X.pn++pins)) [] (none::σ) H { s with heap:=h1,toks:=tk}:=by
 have hcells:∀y∈scope.names,y.2=.free->∃c,X.env.cells.lookup y.1=some c:=λy hy hk=>I.ok.has y.1 (S.free y hy hk)
 have sub:∀y c,(clOf X.env scope.names []).lookup y=some c->X.env.cells.lookup y=some c:=λy c e=>b0g _ _ y c hcells (λz d q=>by simp at q) e
 have lk:∀(y:Str)(k:NameKind),(relabel scope X.env).names.lookup y=some k->k=.cell\/k=.free->scope.names.lookup y=some .free:=λy k e hk=>by
  rw[a3e]at e;cases q:scope.names.lookup y with
  |none=>rw[q]at e;cases e
  |some k0=>
   rw[q]at e;have e':(if(k0==NameKind.free&&X.env.scope.kind==.function&&X.env.kindOf y==some .cell)=true then NameKind.cell else k0)=k:=Zl e
   by_cases hc:(k0==NameKind.free&&X.env.scope.kind==.function&&X.env.kindOf y==some .cell)=true
   ·simp only[Xg]at hc;rw[eq_of_beq hc.1.1]
   ·rw[if_neg hc]at e';subst e';rcases hk with hk|hk
    ·exact absurd hk (S.nocell _ (Z6 q))
    ·rw[hk]
 have lt:∀{b:Addr}{o:Obj},s.heap.get? b=some o->b≠s.heap.objs.size:=λe=>Zv (Zh e)
 refine⟨⟨I.ok.mod,by show(relabel scope X.env).kind=_;exact S.kind,I.ok.glob,I.ok.blt,Zg _,λy z c e1 e2=>I.ok.inj y z c (sub y c e1) (sub z c e2),λy hy=>?_,λy c hz=>(by cases hz),I.ok.hd,I.ok.frames,.inl rfl,
  λb hb=>⟨Zv (hfl b hb),λy c e=>(hf b hb).2.2.2.2.1 y c (sub y c e)⟩,I.bs,Yd I.ok.bsz I.sz,λb o e hb=>?_,λb hb hz=>?_,I.stack,I.stkFree⟩,
  rfl,I.bare,Un.kept hsb,⟨m,hn,λi y v h1 h2 h3=>?_⟩,λy c e=>?_,I.hok.fresh (Zg _),λy c e=>I.freeC y c (sub y c e),λp hp=>?_,I.hok.kept hsb,?_⟩
 ·have hy:(relabel scope X.env).names.lookup y=some .cell\/(relabel scope X.env).names.lookup y=some .free:=hy;have q:scope.names.lookup y=some .free:=hy.elim (λz=>lk y _ z (.inl rfl)) λz=>lk y _ z (.inr rfl)
  exact a6j _ _ y (Z6 q)
 ·obtain⟨_,_,_,f3,_,_⟩:=hf b hb;rcases f3 with f3|f3
  ·exact I.ok.noex b o e f3
  ·exact absurd (Z1 (Zh e) (Yd I.ok.bsz f3)) (Y4 _)
 ·have hz:b∈frs X.stack:=hz;obtain⟨_,f1,f2,_⟩:=hf b hb;rcases Zi.mp (I.stkSub b hz)with z|z
  ·exact f1 z
  ·exact f2 z
 ·cases i with
  |zero=>simp at h2
  |succ i=>
   have h1:N'[i]? =some y:=by simpa[a2j]using h1
   have h2:σ[i]? =some (some v):=by simpa using h2
   have hne:N'[i]? ≠some x:=λz=>S.nin (Yy z)
   have h3:Vis (relabel scope X.env) y:=h3;obtain⟨m',hn',hl'⟩:=I.loc;have q:scope.names.lookup y=some .free:=by
    rcases h3 with z|z|z
    ·exfalso
     rw[a3e]at z;cases q:scope.names.lookup y with
     |none=>rw[q]at z;cases z
     |some k0=>
      rw[q]at z;have e':(if(k0==NameKind.free&&X.env.scope.kind==.function&&X.env.kindOf y==some .cell)=true then NameKind.cell else k0)=.local:=Zl z
      by_cases hc:(k0==NameKind.free&&X.env.scope.kind==.function&&X.env.kindOf y==some .cell)=true
      ·rw[if_pos hc]at e';cases e'
      ·rw[if_neg hc]at e';subst e';rcases S.only _ (Z6 q) rfl with w|w
       ·exact hne (by rw[h1];exact Y0 some w)
       ·exact w (Yy h1)
    ·exact lk y _ z (.inl rfl)
    ·exact lk y _ z (.inr rfl)
   obtain⟨c,hc⟩:=a6j (env:=X.env) scope.names [] y (Z6 q);have hk:X.env.kindOf y=some .cell\/X.env.kindOf y=some .free:=S.free _ (Z6 q) rfl;have h1':X.N[i]? =some y:=(S.sub i y h1).resolve_right λz=>by rw[q]at z;cases z
   obtain⟨u,r,l⟩:=hl' i y v h1' h2 (.inr hk);refine⟨u,r,?_⟩;have kd:(compEnvC scope (clOf X.env scope.names []) s.heap.objs.size X.env).kindOf y=some .cell\/(compEnvC scope (clOf X.env scope.names []) s.heap.objs.size X.env).kindOf y=some .free:=by
    rcases h3 with z|z|z
    ·exfalso
     rw[a3e,q]at z;have e':(if(NameKind.free==NameKind.free&&X.env.scope.kind==.function&&X.env.kindOf y==some .cell)=true then NameKind.cell else NameKind.free)=.local:=Zl z
     by_cases hc:(NameKind.free==NameKind.free&&X.env.scope.kind==.function&&X.env.kindOf y==some .cell)=true
     ·rw[if_pos hc]at e';cases e'
     ·rw[if_neg hc]at e';cases e'
    ·exact .inl z
    ·exact .inr z
   rcases l with⟨a,_⟩|⟨_,c',hc',ic⟩
   ·rcases hk with k|k<;>(rw[k]at a;cases a)
   ·have e:X.env.cells.lookup y=some c:=sub y c hc;rw[e]at hc';cases hc';obtain⟨o,ho,hd⟩:=ic;exact .inr ⟨kd,c,hc,⟨o,hsb _ _ ho,hd⟩⟩
 ·obtain⟨v,o,ho,hd⟩:=I.cell y c (sub y c e);exact⟨v,o,hsb _ _ ho,hd⟩
 ·have hp:p∈X.pn++pins:=by
   have hp:p∈(X.pn++pins)++[]:=hp;rwa[X7]at hp
  obtain⟨e,n,ne,nf,d⟩:=I.pin p hp;refine⟨hsb _ _ e,n,lt e,λhz=>?_,d⟩;have hz:p.1∈frs X.stack:=hz;rcases Zi.mp (I.stkSub _ hz)with z|z
  ·exact ne z
  ·exact nf z
 ·show(none::σ).length=(x::N').length
  rw[length_cons,length_cons,I.len,S.len]
def PTs(X:Cx)(ifs:List Expr)(t:TT):Prop:=
 ∀(pins:List (Addr×Obj))(s:Shared)(σ:St)(H:Hp)(Q:Bool->Hp->Prop)(E:Value->Shared->Prop),Inv X pins σ H s->t σ H Q->
  wpAny (model X.prog X.w) X.A (forIn ifs true λc r=>if r=true then do let ok <-isTrue c X.env (eval c X.env);pure (ForInStep.yield ok)else pure (ForInStep.yield r)) (TP X pins σ Q) E s
def tYes:TT:=λ_ H Q=>Q true H
theorem a2s:PTs X [] tYes:=λ_ _ _ H _ _ I h=>wpAny_tests_nil ⟨H,I,h⟩
theorem b7c{prog:Program}{w:World}{A:Around}{R:Result->Shared->Prop}{s:Shared}{elt target iter:Expr}{ifs:List Expr}{scope:Scope}{pos:Pos}{it acc:Value}{env:Env}(J:Nat->Shared->Prop)
  (turn:∀n s,J n s->wpAny (model prog w) A (pyNext it) (λr s1=>match r with
   |none=>R (.ok .next) s1
   |some v=>wpAny (model prog w) A (letOwnedTupleGo target it v) (λ_ s2=>wpAny (model prog w) A (assign target env v) (λ_ s3=>
     wpAny (model prog w) A (forIn ifs true λc r=>if r=true then do let ok <-isTrue c env (eval c env);pure (ForInStep.yield ok)else pure (ForInStep.yield r)) (λok s4=>
      if ok=true then wpAny (model prog w) A (eval elt env) (λy s5=>wpAny (model prog w) A (call (.builtin "list.append") [acc,y]) (λ_ s6=>∃m,m<n/\J m s6) (λ_ _=>False) s5) (λ_ _=>False) s4
      else ∃m,m<n/\J m s4) (λ_ _=>False) s3) (λ_ _=>False) s2) (λ_ _=>False) s1) (λ_ _=>False) s)
  (n:Nat)(h:J n s):codeAny (model prog w) A (.compLoop (.ListComp elt [⟨target,iter,ifs,0⟩] scope pos) 0 it acc env) R s:=by
 have no:∀{α:Type}{t:Sem α}{Q:α->Shared->Prop}{E:Value->Shared->Prop}{s:Shared},wpAny (model prog w) A t Q (λ_ _=>False) s->wpAny (model prog w) A t Q E s:=
  λq=>Xw q (λ_ _ z=>z) λ_ _ z=>z.elim
 refine codeAny_loop rfl J (λn s hJ=>?_) n h;refine wpAny_noted (m:=compTurn (.ListComp elt [⟨target,iter,ifs,0⟩] scope pos) 0 it acc env) ?_;rw[compTurn_list];refine Za (V1 (Za (no (thn (turn n s hJ) λr s1 q1=>?_))));cases r with
 |none=>exact Ze q1
 |some v=>
  refine no ?_;refine Za (thn q1 λ_ s2 q2=>Za (thn q2 λ_ s3 q3=>Za (thn q3 λok s4 q4=>?_)));cases ok with
  |false=>exact Ze ⟨rfl,q4⟩
  |true=>exact Za (Za (thn q4 λy s5 q5=>Za (thn q5 λ_ s6 q6=>Ze (Ze ⟨rfl,q6⟩))))
def b7z(J:It)(tt:TT)(te:TE)(σ:St)(Q:VK)(D:Addr)(H1:Hp):Prop:=∃W:Nat->Nat->List V->Hp->Prop,(∃m,W 0 m [] (upd H1 D (.lst [])))/\
 ∀i m ys H',W i m ys H'->(J.stop i H'/\Q (.ref D) H')\/(J.go i H'/\∀v H2,J.yld i H' v H2->tt (some v::σ) H2 λb H3=>
  if b=true then te (some v::σ) H3 λy H4=>H4 D=some (.lst ys)/\ys.length<sizeLine/\∃m',m'<m/\W (i+1) m' (ys++[y]) (upd H4 D (.lst (ys++[y])))
  else ∃m',m'<m/\W (i+1) m' ys H3)
def b8a(wi:TI)(tt:TT)(te:TE):TE:=λσ H Q=>wi σ H λJ H1=>∀D,H1 D=none->b7z J tt te σ Q D H1
theorem b7d{elt iter:Expr}{x:Str}{N':List Str}{px:Pos}{ifs:List Expr}{scope:Scope}{pos:Pos}{tt:TT}{te:TE}(hc:X.calm=true)(S:a9r X scope x N')
  (ht:∀C s H fp pn,PTs (a2j X scope x N' C s H fp pn) ifs tt)(he:∀C s H fp pn,PE (a2j X scope x N' C s H fp pn) elt te){Q:VK}{itv:Value}{s2:Shared}{RR:Value->Addr->Result->Shared->Prop}
  (h2:PIE X pins σ (.Name x px) (λJ H1=>∀D,H1 D=none->b7z J tt te σ Q D H1) itv s2)
  (hend:∀(D C:Addr)(H6:Hp)(s7:Shared)(m7:Str->Option Value),Inv X pins σ H6 s7->s7.heap.Ns C m7->FpOk X pins H6 C->Q (.ref D) H6->RR (.ref D) C (.ok .next) s7):
  wpAny (model X.prog X.w) X.A (newList []) (λacc s3=>wpAny (model X.prog X.w) X.A (newFunctionEnv scope X.env.globals (clOf X.env scope.names []) [] X.env.qual none .none (some X.env)) (λcenv s4=>
   codeAny (model X.prog X.w) X.A (.compStart (.ListComp elt [⟨.Name x px,iter,ifs,0⟩] scope pos) 0 itv acc { cenv with scope:=relabel scope X.env}) (RR acc cenv.locals) s4) X.xe s3) X.xe s2:=by
 obtain⟨it,fp,tn,J,H2,e,I2,T,st2,f2,hW⟩:=h2;subst e;have hlt:∀b∈fp,b<s2.heap.objs.size:=λb hb=>by
  obtain⟨o,ho,_⟩:=T.obj _ _ st2 b hb;exact Zh ho
 obtain⟨W,⟨m0,w0⟩,hturn⟩:=hW s2.heap.objs.size (I2.hok.fresh (Zg _));refine Yo ?_ (by show 0<=sizeLine;exact Yx _);have I3:Inv X pins σ (upd H2 s2.heap.objs.size (.lst [])) { s2 with heap:=s2.heap.push { cls:=.type "list",data:=.seq ([]:List Value).toArray}}:=I2.lnew (t':=s2.toks) .nil (Yx _);have f3:∀b∈fp,FpOk X pins (upd H2 s2.heap.objs.size (.lst [])) b:=λb hb=>by
  obtain⟨g0,g⟩:=f2 b hb;exact⟨by rw[a0p (Zv (hlt b hb))];exact g0,g⟩
 have st3:tn 0 (s2.heap.push { cls:=.type "list",data:=.seq ([]:List Value).toArray}):=T.keep _ _ _ st2 λb _ o e=>Zc _ e
 have hlt3:∀b∈fp,b<(s2.heap.push { cls:=.type "list",data:=.seq ([]:List Value).toArray}).objs.size:=λb hb=>by rw[Yc];exact Va (hlt b hb)
 generalize hs3:({ s2 with heap:=s2.heap.push { cls:=.type "list",data:=.seq ([]:List Value).toArray}}:Shared)=s3 at I3;have eh:s3.heap=s2.heap.push { cls:=.type "list",data:=.seq ([]:List Value).toArray}:=by rw[<-hs3]
 rw[<-eh]at st3 hlt3
 show wpAny _ _ (newFunctionEnv scope X.env.globals (clOf X.env scope.names []) [] X.env.qual none .none (some X.env)) _ _ _
 refine Sv S.nocell (by intro y hy;simp at hy) (λh4 hns4 hsb4=>?_) S.kind;have hk4:∀b o,s3.heap.get? b=some o->h4.get? b=some o:=λb o e=>(hsb4.2 b (Zv (Zh e))).trans (Zc _ e)
 have I4:=Inv.compIn (tk:=s3.toks+([]:List (Str×Value)).length) S I3 f3 hlt3 hns4 hk4;have st4:tn 0 h4:=T.keep _ _ _ st3 λb _ o e=>hk4 b o e
 have fx:∀{H':Hp},(∀b∈fp,H' b=none)->∀b∈fp,FpOk (a2j X scope x N' s3.heap.objs.size s3 (upd H2 s2.heap.objs.size (.lst [])) fp (X.pn++pins)) [] H' b:=λ{H'} hn b hb=>by
  obtain⟨_,g1,g2,g3,g4,g5⟩:=f3 b hb;refine⟨hn b hb,Zv (hlt3 b hb),I4.ok.exfs b hb,.inl hb,λy c e=>(I4.ok.exf b hb).2 y c e,λp hp=>g5 p ?_⟩;have hp:p∈(X.pn++pins)++[]:=hp;rwa[X7]at hp
 have loop:∀s5:Shared,(∃(i n:Nat)(o:Option V)(ys:List V)(H5:Hp),Inv (a2j X scope x N' s3.heap.objs.size s3 (upd H2 s2.heap.objs.size (.lst [])) fp (X.pn++pins)) [] (o::σ) H5 s5/\tn i s5.heap/\(∀b∈fp,H5 b=none)/\W i n ys H5)->
   codeAny (model X.prog X.w) X.A (.compLoop (.ListComp elt [⟨.Name x px,iter,ifs,0⟩] scope pos) 0 (.ref it) (.ref s2.heap.objs.size) (compEnvC scope (clOf X.env scope.names []) s3.heap.objs.size X.env))
    (RR (.ref s2.heap.objs.size) s3.heap.objs.size) s5:=by
  rintro s5 ⟨i5,n5,o5,ys5,H5,I5,st5,fr5,w5⟩
  refine b7c (λn s'=>∃(i:Nat)(o:Option V)(ys:List V)(H5:Hp),Inv (a2j X scope x N' s3.heap.objs.size s3 (upd H2 s2.heap.objs.size (.lst [])) fp (X.pn++pins)) [] (o::σ) H5 s'/\tn i s'.heap/\(∀b∈fp,H5 b=none)/\W i n ys H5) ?_ n5 ⟨i5,o5,ys5,H5,I5,st5,fr5,w5⟩
  rintro n s6 ⟨i,o,ys,H6,I6,st6,fr6,w6⟩
  rcases hturn i n ys H6 w6 with⟨stop,qn⟩|⟨go,step⟩
  ·refine thn (T.done (a2j X scope x N' s3.heap.objs.size s3 (upd H2 s2.heap.objs.size (.lst [])) fp (X.pn++pins)) rfl rfl rfl hc i [] s6 _ H6 _ I6 (fx fr6) st6 stop) λr s7 ⟨hr,I7⟩=>?_
   subst hr;obtain⟨m7,hn7,_⟩:=id I7.loc;have I8:Inv X pins σ H6 s7:=I3.call' I7.os I7.base I7.hok I7.bare λb hb=>by
    obtain⟨_,g1,g2,g3,g4,g5⟩:=f3 b hb;exact⟨g3,g1,g4,g5⟩
   have f8:FpOk X pins H6 s3.heap.objs.size:=I3.fpOk (Zg _) I7.free;exact hend _ _ H6 s7 m7 I8 hn7 f8 qn
  ·refine thn (T.item (a2j X scope x N' s3.heap.objs.size s3 (upd H2 s2.heap.objs.size (.lst [])) fp (X.pn++pins)) rfl rfl rfl hc i [] s6 _ H6 _ I6 (fx fr6) st6 go) λr s7 ⟨u,hr,h7⟩=>?_
   subst hr;refine thn h7 λ_ s8 z9=>?_
   obtain⟨v,H8,I8,r8,y8,st8,fr8⟩:=z9;have I8':=I8.pinned (fx fr8) (T.obj _ _ st8);refine U7 (b3p I8' (i:=0) (X5.mpr ⟨S.nin,S.nd⟩) rfl (.inl (X9 S.loc)) r8 (λs9 I9=>?_) (.inr (X9 S.loc)));have I9:Inv (a2j X scope x N' s3.heap.objs.size s3 (upd H2 s2.heap.objs.size (.lst [])) fp (X.pn++pins)) ([]++a9o fp s8.heap) (some v::σ) H8 s9:=I9;refine thn (ht _ _ _ _ _ _ s9 (some v::σ) H8 _ _ I9 (step v H8 y8)) λb s10 z9=>?_
   obtain⟨H10,I10,q10⟩:=z9;have back:∀{s':Shared}{H':Hp}{ys':List V}{m':Nat},Inv (a2j X scope x N' s3.heap.objs.size s3 (upd H2 s2.heap.objs.size (.lst [])) fp (X.pn++pins)) ([]++a9o fp s8.heap) (some v::σ) H' s'->W (i+1) m' ys' H'->
     ∃(i:Nat)(o:Option V)(ys:List V)(H5:Hp),Inv (a2j X scope x N' s3.heap.objs.size s3 (upd H2 s2.heap.objs.size (.lst [])) fp (X.pn++pins)) [] (o::σ) H5 s'/\tn i s'.heap/\(∀b∈fp,H5 b=none)/\W i m' ys H5:=λ{s' H' ys' m'} I' w'=>by
    refine⟨i+1,some v,ys',H',I'.unpinned,T.keep _ _ _ st8 λb hb o e=>(I'.pin (b,o) (Z9 _ (Z9 _ (a5j hb e)))).1,λb hb=>?_,w'⟩;obtain⟨o,e,d⟩:=T.obj _ _ st8 b hb;exact(I'.pin (b,o) (Z9 _ (Z9 _ (a5j hb e)))).2.1
   cases b with
   |false=>
    rw[if_neg Zp]at q10 ⊢;obtain⟨m',hm,w'⟩:=q10;exact⟨m',hm,back I10 w'⟩
   |true=>
    rw[if_pos rfl]at q10 ⊢;refine thn (he _ _ _ _ _ _ s10 (some v::σ) H10 _ I10 q10) λy s11 z9=>?_
    obtain⟨yv,H11,I11,r11,hD,hz,m',hm,w'⟩:=z9;have ap:=b1g (X:=a2j X scope x N' s3.heap.objs.size s3 (upd H2 s2.heap.objs.size (.lst [])) fp (X.pn++pins)) _ s11 (some v::σ) H11 (.ref s2.heap.objs.size) [yv] (.ref s2.heap.objs.size) [y] (λ_ H'=>W (i+1) m' (ys++[yv]) H') I11 rfl (.cons r11 .nil) ⟨_,ys,yv,rfl,rfl,hD,hz,w'⟩;exact thn ap λ_ s12 ⟨_,H12,I12,_,w12⟩=>⟨m',hm,back I12 w12⟩
 have l4:=loop { s3 with heap:=h4,toks:=s3.toks+([]:List (Str×Value)).length} ⟨0,m0,none,[],_,I4,st4,λb hb=>(f3 b hb).1,w0⟩;exact Sf l4 (T.self _ _ _ _ _ st4 l4)
theorem a3f{elt iter:Expr}{x:Str}{N':List Str}{px:Pos}{ifs:List Expr}{scope:Scope}{pos:Pos}{wi:TI}{tt:TT}{te:TE}(hc:X.calm=true)(hi:PI X (.Name x px) iter wi)(S:a9r X scope x N')
  (ht:∀C s H fp pn,PTs (a2j X scope x N' C s H fp pn) ifs tt)(he:∀C s H fp pn,PE (a2j X scope x N' C s H fp pn) elt te)(hs:∀x,foldedSetIterable iter X.env x=pure x:=by intro _;rfl):
  PE X (.ListComp elt [⟨.Name x px,iter,ifs,0⟩] scope pos) (b8a wi tt te):=by
 intro pins s σ H Q I h;have hcells:∀y∈scope.names,y.2=.free->∃c,X.env.cells.lookup y.1=some c:=λy hy hk=>I.ok.has y.1 (S.free y hy hk)
 rw[eval_ListComp];refine V3 (use:=none) rfl hs (b0f hcells) S.kind S.names (thn (hi pins s σ H _ I h) λxv s1 h1=>thn h1 λitv s2 h2=>?_);refine b7d (RR:=λacc C=>compPost (model X.prog X.w) X.A X.xe none (EP X pins σ Q) acc C) hc S ht he h2 λD C H6 s7 m7 I8 hn7 f8 qn=>?_
 refine⟨m7,hn7,λh' hs'=>?_⟩;obtain⟨g0,g1,g2,g3,g4,g5⟩:=f8;exact⟨.ref D,H6,I8.turned (t':=s7.toks) (λb o hb e=>(hs'.2 b hb).trans e) g0 g1 g3 g4 g5,rfl,qn⟩
theorem ps_comp{elt iter:Expr}{x y:Str}{N':List Str}{i:Nat}{px py:Pos}{ifs:List Expr}{scope:Scope}{pos spos:Pos}{wi:TI}{tt:TT}{te:TE}(hN:X.N.Nodup)(hiy:X.N[i]? =some y)(hy:Loc X.env.scope y)(hc:X.calm=true)(hi:PI X (.Name x px) iter wi)(S:a9r X scope x N')
  (ht:∀C s H fp pn,PTs (a2j X scope x N' C s H fp pn) ifs tt)(he:∀C s H fp pn,PE (a2j X scope x N' C s H fp pn) elt te)
  (hsw:swapsWith (.ListComp elt [⟨.Name x px,iter,ifs,0⟩] scope pos) (some (.Name y py)) spos.line X.env=pure true:=by rfl)(hs:∀x,foldedSetIterable iter X.env x=pure x:=by intro _;rfl)
  (hf:X.fn y=true\/X.env.scope.names.lookup y=some .local:=by first|exact .inl rfl|exact .inr rfl|assumption):
  PS X (.Assign [.Name y py] (.ListComp elt [⟨.Name x px,iter,ifs,0⟩] scope pos) spos) (tAsg (b8a wi tt te) (a7r i)):=by
 intro pins s σ H D I h;have hcells:∀y∈scope.names,y.2=.free->∃c,X.env.cells.lookup y.1=some c:=λy hy hk=>I.ok.has y.1 (S.free y hy hk)
 rw[exec_Assign_Name_used _ _ _ _ hsw];refine Za (V1 (Za ?_))
 show wpAny _ X.A (do let _ <-comprehension (.ListComp elt [⟨.Name x px,iter,ifs,0⟩] scope pos) scope X.env _ (newList []) false (eval iter X.env) (some (assign (.Name y py) X.env))) _ _ s
 refine Za (thn (V3 (use:=some (assign (.Name y py) X.env)) (Q:=λ_ s'=>SP X pins D .next s') rfl hs (b0f hcells) S.kind S.names
  (thn (hi pins s σ H _ I h) λxv s1 h1=>thn h1 λitv s2 h2=>?_)) λ_ s' hq=>Ze (Ze hq))
 refine b7d (RR:=λacc C=>compPost (model X.prog X.w) X.A X.xe (some (assign (.Name y py) X.env)) (λ_ s'=>SP X pins D .next s') acc C) hc S ht he h2 λL C H6 s7 m7 I8 hn7 f8 qn=>?_
 obtain⟨g0,g1,g2,g3,g4,g5⟩:=f8
 show wpAny _ X.A (assign (.Name y py) X.env (.ref L)) _ _ _
 refine U7 (b6v I8 hN hiy hy (v:=.ref L) (u:=.ref L) rfl (λs8 I9 hch=>?_) hf);obtain⟨a,hsb,ha⟩:=hch;have hCa:C≠a:=by
  rcases ha with z|z
  ·rw[z];exact g1
  ·exactλw=>g4 _ _ z w.symm
 refine⟨m7,hn7.sameBut hsb hCa,λh' hs'=>?_⟩;exact⟨_,H6,I9.turned (t':=s8.toks) (λb o hb e=>(hs'.2 b hb).trans e) g0 g1 g3 g4 g5,qn⟩
end
def c5w(sc scope:Scope)(N N':List Str)(x:Str):Bool:=
 decide (scope.names.lookup x=some .local)&&scope.names.all (λy=>decide (y.2≠.cell))&&decide (scope.kind=.function)&&scope.names.all (λy=>decide (y.2=.local->scope.names.lookup y.1=some .local))&&
 scope.names.all (λy=>decide (y.2=.free->sc.names.lookup y.1=some .cell\/sc.names.lookup y.1=some .free))&&decide (x∉N')&&decide N'.Nodup&&decide (N'.length=N.length)&&
 (List.range N'.length).all (λi=>match N'[i]? with|some y=>decide (N[i]? =some y\/scope.names.lookup y=none)|none=>true)&&scope.names.all (λy=>decide (y.2=.local->y.1=x\/y.1∉N'))
theorem a2t{X:Cx}{scope:Scope}{x:Str}(sc:Scope)(N N':List Str)(hsc:X.env.scope=sc)(hN:X.N=N)(h:c5w sc scope N N' x=true):a9r X scope x N':=by
 subst hsc hN;unfold c5w at h;simp only[Xg,Xf,U9]at h;obtain⟨⟨⟨⟨⟨⟨⟨⟨⟨h1,h2⟩,h3⟩,h4⟩,h5⟩,h6⟩,h7⟩,h7'⟩,h8'⟩,h8⟩:=h;refine⟨h1,h2,h3,h4,h5,h6,h7,h7',λi y e=>?_,h8⟩;have hi:i<N'.length:=(Z7.mp e).1;have z:=h8' i (Y2.mpr hi);rw[e]at z;exact Zf z
def Its(x:Str):It:=⟨λi _=>i<x.cps.size,λi H v H'=>H'=H/\∃c,x.cps[i]? =some c/\v=.str ⟨#[c]⟩,λi _=>x.cps.size=i⟩
theorem b8x{P:Program}{w:World}{K:W.Frag}{tg:Expr}{it:Addr}{x:Str}{t:Tok}{ty:String}
  (hty:["enumerate","zip","dict_itemiterator","dict_reverseitemiterator","odict_iterator","itertools.zip_longest","itertools.pairwise"].contains ty=false)
  (hW:∀A':Around,A'.handled=none->Walks P w A' it [it] [it] x.cps.size (SignAt x) (λi h=>h.IsStrIter it ty x t i))
  (hself:∀(A:Around)(i:Nat)(s:Shared)(Q:Value->Shared->Prop)(E:Value->Shared->Prop),s.heap.IsStrIter it ty x t i->Q (.ref it) s->wpAny (model P w) A (pyIter (.ref it)) Q E s):
  Turn P w K tg (Its x) [it] it (λi h=>h.IsStrIter it ty x t i) where
 mem:=by simp
 obj:=λi h st b hb=>by
  have e:b=it:=by simpa using hb
  subst e;obtain⟨o,e,c,d⟩:=st;exact⟨o,e,λv z=>by rw[d]at z;cases z⟩
 keep:=λi h h' st k=>by
  obtain⟨o,e,r⟩:=st;exact⟨o,k it qz o e,r⟩
 item:=by
  intro X hP hw hK hc i pins s σ H E I hf st hg;subst hP hw hK;obtain⟨f0,f1,f2,f3,f4,f5⟩:=hf it qz;refine(hW X.A (I.ok.hd hc)).item i s _ _ hg st λv h' tk hv st' kk=>?_
  obtain⟨c,u,hx,rfl⟩:=hv;have I1:Inv X pins σ H { s with heap:=h',toks:=tk}:=I.turned (λb o hb e=>kk b o (by simpa using hb) e) f0 f1 f3 f4 f5;obtain⟨o,e,c',d⟩:=id st';exact⟨_,rfl,b7v (s:={ s with heap:=h',toks:=tk}) e c' d hty ⟨.str ⟨#[c]⟩,H,I1,⟨u,rfl⟩,⟨rfl,c,hx,rfl⟩,st',λb hb=>(hf b hb).1⟩⟩
 done:=by
  intro X hP hw hK hc i pins s σ H E I hf st hg;subst hP hw hK;obtain⟨f0,f1,f2,f3,f4,f5⟩:=hf it qz;have hg:x.cps.size=i:=hg;subst hg;exact(hW X.A (I.ok.hd hc)).done s _ _ st λh' tk kk=>⟨rfl,I.turned (λb o hb e=>kk b o (by simpa using hb) e) f0 f1 f3 f4 f5⟩
 self:=hself
section
variable{X:Cx}{tg:Expr}
def iStr(tl:TE):TI:=λσ H R=>tl σ H λv H1=>∃x,v=.str x/\R (Its x) H1
theorem pi_str{l:Expr}{tl:TE}(hl:PE X l tl):PI X tg l (iStr tl):=by
 intro pins s σ H R I h;refine thn (hl pins s σ H _ I h) λv s1 z9=>?_
 obtain⟨z,H1,I1,r1,q1⟩:=z9;obtain⟨x,e,q⟩:=q1;subst e;obtain⟨t,rfl⟩:=r1;have fp:∀b∈[s1.heap.objs.size],FpOk X pins H1 b:=λb hb=>by
  have e:b=s1.heap.objs.size:=by simpa using hb
  subst e;exact I1.fpOk (Zg _) (I1.hok.fresh (Zg _))
 cases ha:x.cps.all (· <128)
 ·refine wpAny_pyIter_wide ha ?_;exact⟨s1.heap.objs.size,[s1.heap.objs.size],_,_,H1,rfl,I1.kept (t':=s1.toks) λb o e=>Zc _ e,b8x (ty:="str_iterator") (t:=t) qd (λA' hA=>Walks.strWide hA _ x t) (λ_ _ _ _ _ st hq=>wpAny_pyIter_striter_wide st hq),⟨_,Zk _ rfl,rfl,rfl⟩,fp,q⟩
 ·refine wpAny_pyIter_ascii ha ?_;exact⟨s1.heap.objs.size,[s1.heap.objs.size],_,_,H1,rfl,I1.kept (t':=s1.toks) λb o e=>Zc _ e,b8x (ty:="str_ascii_iterator") (t:=t) qd (λA' hA=>Walks.strAscii hA _ x t) (λ_ _ _ _ _ st hq=>wpAny_pyIter_striter_ascii st hq),⟨_,Zk _ rfl,rfl,rfl⟩,fp,q⟩
end
structure Row(J:It)(n:Nat)(vs:Nat->V)(Ok:Hp->Prop):Prop where
 go:∀i H,i<n->Ok H->J.go i H
 yld:∀i H v H',i<n->Ok H->J.yld i H v H'->H'=H/\v=vs i
 stop:∀H,Ok H->J.stop n H
theorem a3p(lo:Int)(n:Nat):Row (Itr lo n) n (λi=>.int (lo+i)) (λ_=>True):=⟨λi H h _=>h,λi H v H' _ _ h=>h,λH _=>Zg n⟩
theorem row_str(x:Str):Row (Its x) x.cps.size (λi=>.str ⟨#[x.cps.getD i 0]⟩) (λ_=>True):=⟨λi H h _=>h,λi H v H' hi _ h=>by
 obtain⟨e,c,hc,rfl⟩:=h;refine⟨e,?_⟩;have:x.cps.getD i 0=c:=by rw[Wr,hc];rfl
 rw[this],λH _=>rfl⟩
theorem a3r{K:W.Frag}{a:Addr}{xs:List V}:Row (Itl K a) xs.length (λi=>xs.getD i .non) (λH=>SqL K H a xs):=⟨λi H h q=>⟨xs,xs[i],q,by simp[h]⟩,λi H v H' hi q h=>by
 obtain⟨e,y⟩:=h;refine⟨e,?_⟩;have:=y xs q
 rw[Zr,this];rfl,λH q=>⟨xs,q,Zg _⟩⟩
theorem row_tup{K:W.Frag}{a:Addr}{xs:List V}:Row (Itt K a) xs.length (λi=>xs.getD i .non) (λH=>SqT K H a xs):=⟨λi H h q=>⟨xs,xs[i],q,by simp[h]⟩,λi H v H' hi q h=>by
 obtain⟨e,y⟩:=h;refine⟨e,?_⟩;have:=y xs q
 rw[Zr,this];rfl,λH q=>⟨xs,q,Zg _⟩⟩
def ForW(J:It)(g:TG)(tb:TS)(D:Ends)(σ:St)(H:Hp):Prop:=∃W:Nat->Nat->St->Hp->Prop,(∃m,W 0 m σ H)/\∀i m σ H,W i m σ H->
   (J.stop i H/\D.nx σ H)\/(J.go i H/\∃N:St->Hp->Prop,(∀σ' H',N σ' H'->∃m',m'<m/\W (i+1) m' σ' H')/\∀x H',J.yld i H x H'->g x σ H' λσ2 H2=>tb { D with nx:=N,ct:=N,bk:=D.nx} σ2 H2)
theorem a8e{J:It}{n:Nat}{vs:Nat->V}{Ok:Hp->Prop}(R:Row J n vs Ok){g:TG}{tb:TS}{D:Ends}{σ:St}{H:Hp}(Pv:Nat->St->Hp->Prop)(h0:Pv 0 σ H)(hok:∀i σ H,Pv i σ H->Ok H)
  (hs:∀i σ H,i<n->Pv i σ H->g (vs i) σ H λσ2 H2=>tb { D with nx:=Pv (i+1),ct:=Pv (i+1),bk:=D.nx} σ2 H2)(hd:∀σ H,Pv n σ H->D.nx σ H):
  ForW J g tb D σ H:=by
 refine⟨λi m σ H=>m=n-i/\i<=n/\Pv i σ H,⟨n,qz,Yx _,h0⟩,?_⟩
 rintro i m σ H ⟨rfl,hi,p⟩
 by_cases hlt:i<n
 ·refine .inr ⟨R.go i H hlt (hok i σ H p),Pv (i+1),λσ' H' p'=>⟨n-(i+1),qo,rfl,hlt,p'⟩,λx H' y=>?_⟩;obtain⟨e1,e2⟩:=R.yld i H x H' hlt (hok i σ H p) y;subst e1 e2;exact hs i σ _ hlt p
 ·have e:i=n:=by omega
  subst e;exact .inl ⟨R.stop H (hok i σ H p),hd σ H p⟩
theorem a2i{J:It}{n:Nat}{vs:Nat->V}{Ok:Hp->Prop}(R:Row J n vs Ok){te:TE}{Q:VK}{σ:St}{H1:Hp}{D:Addr}(Pv:Nat->List V->Hp->Prop)(hn:n<=sizeLine)(h0:Pv 0 [] (upd H1 D (.lst [])))(hok:∀i ys H,Pv i ys H->Ok H)
  (hs:∀i ys H (Q':VK),i<n->ys.length=i->Pv i ys H->(∀y H4,H4 D=some (.lst ys)->Pv (i+1) (ys++[y]) (upd H4 D (.lst (ys++[y])))->Q' y H4)->te (some (vs i)::σ) H Q')
  (hd:∀ys H,ys.length=n->Pv n ys H->Q (.ref D) H):
  b7z J tYes te σ Q D H1:=by
 refine⟨λi m ys H=>m=n-i/\i<=n/\ys.length=i/\Pv i ys H,⟨n,qz,Yx _,rfl,h0⟩,?_⟩
 rintro i m ys H ⟨rfl,hi,hl,p⟩
 by_cases hlt:i<n
 ·refine .inr ⟨R.go i H hlt (hok i ys H p),λv H2 y=>?_⟩;obtain⟨e1,e2⟩:=R.yld i H v H2 hlt (hok i ys H p) y;subst e1 e2;exact hs i ys _ _ hlt hl p λv H4 q1 q2=>⟨q1,qo,n-(i+1),qo,rfl,hlt,by simp[hl],q2⟩
 ·have e:i=n:=by omega
  subst e;exact .inl ⟨R.stop H (hok _ ys H p),hd ys H hl p⟩
def mVar(i:Nat):TE:=λσ H Q=>match σ[i]? with|some (some v)=>Q v H|_=>False
def mB(Q:Bool->Hp->Prop):VK:=λz H'=>match z with| .bl k=>Q k H'|_=>False
theorem b8b(Q:Bool->Hp->Prop):mB Q=λz H'=>∃k,z=.bl k/\Q k H':=by
 funext z H'
 cases z<;>simp[mB]
section
variable{X:Cx}{a b c e:Expr}{ta tb tc te:TE}{pos:Pos}
theorem mv(i:Nat){x:Str}{pos:Pos}(hN:X.N[i]? =some x:=by rfl)(hv:Vis X.env.scope x:=by first|exact Or.inl rfl|exact Or.inr (Or.inl rfl)|exact Or.inr (Or.inr rfl))(hd:(x==("__debug__":Str))=false:=by decide)
  (hcd:(x==("__classdict__":Str))=false:=by decide):PE X (.Name x pos) (mVar i):=by
 intro pins s σ H Q I h;refine pe_var hN hv hd hcd pins s σ H Q I ?_;unfold mVar at h;split at h
 ·rename_i v q;exact⟨v,q,h⟩
 ·exact h.elim
def m2(C:Int->Int->Prop)(g:Int->Int->V):R2:=λx y H Q=>match x,y with
 | .int i,.int j=>C i j/\Q (g i j) H
 |_,_=>False
def m20(g:Int->Int->V):R2:=λx y H Q=>match x,y with
 | .int i,.int j=>Q (g i j) H
 |_,_=>False
theorem b4z{C:Int->Int->Prop}{g:Int->Int->V}{x y:V}{H:Hp}{Q:VK}(h:m2 C g x y H Q):rI C g x y H Q:=by
 cases x<;>cases y<;>first|exact(show False from h).elim|exact⟨_,_,rfl,rfl,h⟩
theorem b1i{g:Int->Int->V}{x y:V}{H:Hp}{Q:VK}(h:m20 g x y H Q):rI0 g x y H Q:=by
 cases x<;>cases y<;>first|exact(show False from h).elim|exact⟨_,_,rfl,rfl,h⟩
theorem OpR.imp{f:Value->Value->Sem Value}{r r':R2}(h:OpR X f r)(k:∀x y H Q,r' x y H Q->r x y H Q):OpR X f r':=λpins s σ H x y v u Q I rx ry q=>h pins s σ H x y v u Q I rx ry (k x y H Q q)
def mAdd(K:W.Frag):R2:=λx y H Q=>match x,y with
 | .int i,.int j=>Q (.int (i+j)) H
 | .str i,.str j=>i.length+j.length<=sizeLine/\Q (.str (i++j)) H
 | .ref p,.ref q=>(∃xs ys,H p=some (.lst xs)/\H q=some (.lst ys)/\xs.length+ys.length<=sizeLine/\∀d,H d=none->Q (.ref d) (upd H d (.lst (xs++ys))))\/
   ∃xs ys,SqT K H p xs/\SqT K H q ys/\xs≠[]/\xs.length+ys.length<=sizeLine/\(ys=[]->Q (.ref p) H)/\(ys≠[]->∀d,H d=none->Q (.ref d) (upd H d (.tup (xs++ys))))
 |_,_=>False
theorem mo_add:OpR X (binaryOp .Add) (mAdd X.K):=by
 refine(op_add.or (c3b.or (op_cat.or c1x))).imp λx y H Q h=>?_
 cases x<;>cases y<;>first
  |exact(show False from h).elim
  |exact .inl ⟨_,_,rfl,rfl,h⟩
  |exact .inr (.inl ⟨_,_,rfl,rfl,h⟩)
  | (rcases h with⟨xs,ys,h1,h2,h3,h4⟩|⟨xs,ys,h1,h2,h3,h4,h5⟩
     ·exact .inr (.inr (.inl ⟨_,_,xs,ys,rfl,rfl,h1,h2,h3,h4⟩))
     ·exact .inr (.inr (.inr ⟨_,_,xs,ys,rfl,rfl,h1,h2,h3,h4,h5⟩)))
theorem a3b:OpR X (binaryOp .Sub) (m20 λi j=>.int (i-j)):=op_sub.imp λ_ _ _ _ h=>b1i h
def mMul:R2:=λx y H Q=>match x,y with
 | .int i,.int j=>IntMulOk i j/\Q (.int (i*j)) H
 | .ref l,.int k=>∃xs,H l=some (.lst xs)/\-(2^63)<=k/\k<2^63/\xs.length*k.toNat<=sizeLine/\∀p,H p=none->Q (.ref p) (upd H p (.lst (List.replicate k.toNat xs).flatten))
 |_,_=>False
theorem op_mulW:OpR X (binaryOp .Mult) (rI (λi j=>IntMulOk i j) λi j=>.int (i*j)):=opI λ_ _ _ _ _ _ _ hc q=>mul_int q hc
theorem a4y:OpR X (binaryOp .Mult) mMul:=by
 refine(op_mulW.or op_rep).imp λx y H Q h=>?_
 cases x<;>cases y<;>first
  |exact(show False from h).elim
  |exact .inl ⟨_,_,rfl,rfl,h⟩
  | (obtain⟨xs,h1,h2,h3,h4,h5⟩:=h;exact .inr ⟨_,_,xs,rfl,rfl,h1,h2,h3,h4,h5⟩)
theorem a1z:OpR X (binaryOp .FloorDiv) (m2 CDiv λi j=>.int (i/j)):=op_fdiv.imp λ_ _ _ _ h=>b4z h
theorem a1e:OpR X (binaryOp .Mod) (m2 (λ_ j=>0<j) λi j=>.int (i%j)):=op_mod.imp λ_ _ _ _ h=>b4z h
theorem a9s:OpR X (binaryOp .Pow) (m2 CPow λi j=>.int (i^j.toNat)):=op_pow.imp λ_ _ _ _ h=>b4z h
theorem a7u:OpR X (compareOp .Lt) (m20 λi j=>.bl (decide (i<j))):=op_lt.imp λ_ _ _ _ h=>b1i h
theorem b8c:OpR X (compareOp .LtE) (m20 λi j=>.bl (decide (i<=j))):=op_le.imp λ_ _ _ _ h=>b1i h
theorem a8t:OpR X (compareOp .Gt) (m20 λi j=>.bl (decide (j<i))):=op_gt.imp λ_ _ _ _ h=>b1i h
theorem mo_ge:OpR X (compareOp .GtE) (m20 λi j=>.bl (decide (j<=i))):=op_ge.imp λ_ _ _ _ h=>b1i h
def mEq(n:Bool):R2:=λx y H Q=>match x,y with
 | .int i,.int j=>Q (.bl (n^^decide (i=j))) H
 | .str i,.str j=>Q (.bl (n^^decide (i=j))) H
 | .bl i,.bl j=>Q (.bl (n^^decide (i=j))) H
 | .non,.non=>Q (.bl (n^^true)) H
 | .non,.int _=>Q (.bl n) H
 | .non,.str _=>Q (.bl n) H
 | .non,.bl _=>Q (.bl n) H
 | .int _,.non=>Q (.bl n) H
 | .str _,.non=>Q (.bl n) H
 | .bl _,.non=>Q (.bl n) H
 | .int _,.str _=>Q (.bl n) H
 | .str _,.int _=>Q (.bl n) H
 | .bl _,.str _=>Q (.bl n) H
 | .str _,.bl _=>Q (.bl n) H
 |_,_=>False
theorem a0x:OpR X (compareOp .Eq) (mEq false):=by
 refine op_eq.imp λx y H Q h=>?_
 cases x<;>cases y<;>first
  |exact(show False from h).elim
  |exact⟨rfl,by simpa using(show Q _ H from h)⟩
theorem b5a:OpR X (compareOp .NotEq) (mEq true):=by
 refine op_ne.imp λx y H Q h=>?_
 cases x<;>cases y<;>first
  |exact(show False from h).elim
  |exact⟨rfl,by simpa using(show Q _ H from h)⟩
def b8d(t:TE):TT:=λσ H Q=>t σ H (mB Q)
theorem b8y(t:TE):b8d t=tTest t:=by
 funext σ H Q
 show t σ H (mB Q)=t σ H _
 rw[b8b]
theorem a0q{op:CmpOp}{r:R2}(ho:OpR X (compareOp op) r)(ha:PE X a ta)(hb:PE X b tb)(hm:behindInMarks op b=false):PT X (.Compare a [op] [b] pos) (b8d (tOp r ta tb)):=by
 rw[b8y];exact pt_cmpR ho ha hb hm
def b1j(r r':R2)(ta tb tc:TE):TE:=λσ H Q=>ta σ H λx H1=>tb σ H1 λy H2=>r x y H2 (mB λk H3=>if k=true then tc σ H3 λw' H4=>r' y w' H4 Q else Q (.bl false) H3)
theorem b7e(r r':R2)(ta tb tc:TE):b1j r r' ta tb tc=b4r r r' ta tb tc:=by
 funext σ H Q
 unfold b1j b4r;simp only[b8b]
theorem c9c{op op':CmpOp}{r r':R2}(ho:OpR X (compareOp op) r)(ho':OpR X (compareOp op') r')(ha:PE X a ta)(hb:PE X b tb)(hc:PE X c tc)
  (hm:lastMarks [op,op'] [b,c]=false:=by with_unfolding_all rfl):PE X (.Compare a [op,op'] [b,c] pos) (b1j r r' ta tb tc):=by
 rw[b7e];exact c8l ho ho' ha hb hc hm
theorem b8z{op op':CmpOp}{r r':R2}(ho:OpR X (compareOp op) r)(ho':OpR X (compareOp op') r')(ha:PE X a ta)(hb:PE X b tb)(hc:PE X c tc)
  (hm:lastMarks [op,op'] [b,c]=false:=by with_unfolding_all rfl):PT X (.Compare a [op,op'] [b,c] pos) (b8d (b1j r r' ta tb tc)):=by
 rw[b8y,b7e];exact c8m ho ho' ha hb hc hm
def mTru(K:W.Frag)(Q:Bool->Hp->Prop):VK:=λx H=>match x with
 | .non=>Q false H
 | .bl b=>Q b H
 | .int i=>Q (decide (i≠0)) H
 | .str y=>y.length<=sizeLine/\Q (decide (y.length≠0)) H
 | .ref p=>(∃xs,SqL K H p xs/\Q (!xs.isEmpty) H)\/(∃xs,SqT K H p xs/\Q (!xs.isEmpty) H)\/∃kvs,H p=some (.dK kvs)/\Q (!kvs.isEmpty) H
 |_=>False
theorem c2b{K:W.Frag}{Q:Bool->Hp->Prop}{x:V}{H:Hp}(h:mTru K Q x H):∃k,TruV K x H k/\Q k H:=by
 cases x with
 |non=>exact⟨_,rfl,h⟩
 |bl b=>exact⟨_,rfl,h⟩
 |int i=>
  have h:Q (decide (i≠0)) H:=h;refine⟨i !=0,rfl,?_⟩;have e:(i !=0)=decide (i≠0):=by
   rw[X8];simp
  rw[e];exact h
 |str y=>
  obtain⟨h1,h⟩:y.length<=sizeLine/\Q (decide (y.length≠0)) H:=h;refine⟨((y.length:Int) !=0),⟨h1,rfl⟩,?_⟩;have e:((y.length:Int) !=0)=decide (y.length≠0):=by
   rw[X8];simp
  rw[e];exact h
 |ref p=>
  rcases h with⟨xs,h1,h2⟩|⟨xs,h1,h2⟩|⟨xs,h1,h2⟩
  ·exact⟨_,.inl ⟨xs,h1,rfl⟩,h2⟩
  ·exact⟨_,.inr (.inl ⟨xs,h1,rfl⟩),h2⟩
  ·exact⟨_,.inr (.inr ⟨xs,h1,rfl⟩),h2⟩
 |_=>exact(show False from h).elim
def mTrue(K:W.Frag)(ta:TE):TT:=λσ H Q=>ta σ H (mTru K Q)
theorem mt_tru(ha:PE X a ta)(he:∀whole,isTrue a X.env whole=(do let v <-whole;standAt a.pos;holding [v] (truthy v)):=by intro _;rfl):PT X a (mTrue X.K ta):=by
 intro pins s σ H Q I h;exact isTrue_plain (thn (ha pins s σ H _ I h) λv s1 ⟨x,H1,I1,r1,q1⟩=>c5e pins s1 σ H1 x v Q I1 r1 (c2b q1)) (he _)
def b8e(ta tb:TE):TE:=λσ H Q=>ta σ H (mB λc H1=>if c=true then tb σ H1 Q else Q (.bl false) H1)
def mOrV(ta tb:TE):TE:=λσ H Q=>ta σ H (mB λc H1=>if c=true then Q (.bl true) H1 else tb σ H1 Q)
variable{rest:List Expr}
theorem a2k(ha:PE X a ta)(hb:PE X (.BoolOp .And (b::rest) pos) tb):PE X (.BoolOp .And (a::b::rest) pos) (b8e ta tb):=by
 have e:b8e ta tb=tAndV ta tb:=by funext σ H Q;unfold b8e tAndV;rw[b8b]
 rw[e];exact pe_and ha hb
theorem b8f(ha:PE X a ta)(hb:PE X (.BoolOp .Or (b::rest) pos) tb):PE X (.BoolOp .Or (a::b::rest) pos) (mOrV ta tb):=by
 have e:mOrV ta tb=tOrV ta tb:=by funext σ H Q;unfold mOrV tOrV;rw[b8b]
 rw[e];exact pe_or ha hb
def mIx(K:W.Frag):R2:=λx y H Q=>match x,y with
 | .ref p,.int i=>(∃xs v,SqL K H p xs/\atI xs i=some v/\Q v H)\/∃xs v,SqT K H p xs/\atI xs i=some v/\Q v H
 | .str z,.int i=>z.length<=sizeLine/\∃c,atI z.cps.toList i=some c/\Q (.str ⟨#[c]⟩) H
 |_,_=>False
theorem mi_seq:IxR X (mIx X.K):=by
 intro value slice pins s σ H x y v u Q I rx ry h hs;refine ix_seq value slice pins s σ H x y v u Q I rx ry ?_ hs;cases x<;>cases y<;>first
  |exact(show False from h).elim
  | (rcases h with⟨xs,v,h1,h2,h3⟩|⟨xs,v,h1,h2,h3⟩
     ·exact .inl ⟨_,xs,_,v,rfl,rfl,h1,h2,h3⟩
     ·exact .inr (.inl ⟨_,xs,_,v,rfl,rfl,h1,h2,h3⟩))
  | (obtain⟨h1,c,h2,h3⟩:=h;exact .inr (.inr ⟨_,_,c,rfl,rfl,h1,h2,h3⟩))
def inS(i j:Str):Bool:=!(Builtin.Str.occurrences j i 0 j.length 1).isEmpty
def mInS(n:Bool):R2:=λx y H Q=>match x,y with
 | .str i,.str j=>Q (.bl (n^^inS i j)) H
 |_,_=>False
theorem b5b:OpR X (compareOp .In) (mInS false):=c5d.imp λx y H Q h=>by
 cases x<;>cases y<;>first|exact(show False from h).elim|exact⟨_,_,rfl,rfl,by simpa[mInS,inS]using h⟩
def mI(R:Option Int->Hp->Prop):VK:=λx H1=>match x with| .int i=>R (some i) H1|_=>False
def b8g(t:TE):TO:=λσ H Q=>t σ H (mI Q)
theorem a5m(h:PE X e te):PO X (some e) (b8g te):=by
 have q:b8g te=tPart te:=by
  funext σ H Q
  unfold b8g tPart
  congr 1
  funext x H1
  cases x<;>simp[mI]
 rw[q];exact po_some h
def mLen(K:W.Frag):List V->Hp->VK->Prop:=λvs H Q=>match vs with
 | [.str y]=>y.length<=sizeLine/\Q (.int y.length) H
 | [.ref p]=>(∃xs,SqL K H p xs/\Q (.int xs.length) H)\/∃xs,SqT K H p xs/\Q (.int xs.length) H
 |_=>False
theorem mc_len:a2b X (.builtin "len") (mLen X.K):=by
 intro pins s σ H xs us Q I r h;refine c8o pins s σ H xs us Q I r ?_;rcases xs with _|⟨x,_|⟨y,ys⟩⟩
 ·exact(show False from h).elim
 ·cases x with
  |str y=>
   have h:y.length<=sizeLine/\Q (.int y.length) H:=h;exact⟨_,_,rfl,⟨h.1,rfl⟩,h.2⟩
  |ref p=>
   have h:(∃xs,SqL X.K H p xs/\Q (.int xs.length) H)\/∃xs,SqT X.K H p xs/\Q (.int xs.length) H:=h;rcases h with⟨ys,h1,h2⟩|⟨ys,h1,h2⟩
   ·exact⟨_,_,rfl,.inl ⟨ys,h1,rfl⟩,h2⟩
   ·exact⟨_,_,rfl,.inr ⟨ys,h1,rfl⟩,h2⟩
  |_=>exact(show False from h).elim
 ·cases x<;>exact(show False from h).elim
def mIsi(K:W.Frag):List V->Hp->VK->Prop:=λvs H Q=>match vs with
 | [x,.ty n]=>∃t b,TyOf K H x t/\W.kitOne K t (.type n)=some b/\Q (.bl b) H
 | [x,.ref c]=>∃t b,TyOf K H x t/\W.kitOne K t (.ref c)=some b/\Q (.bl b) H
 |_=>False
theorem mc_isi:a2b X (.builtin "isinstance") (mIsi X.K):=by
 intro pins s σ H xs us Q I r h;unfold mIsi at h;split at h
 ·obtain⟨u,w',rfl,r1,r2⟩:=a6w r;obtain⟨t,b,h1,h2,q⟩:=h;cases r2;exact a4x I r1 h1 h2 λtk=>⟨.bl b,H,I.tok _,rfl,q⟩
 ·obtain⟨u,w',rfl,r1,r2⟩:=a6w r;obtain⟨t,b,h1,h2,q⟩:=h;cases r2;exact a4x I r1 h1 h2 λtk=>⟨.bl b,H,I.tok _,rfl,q⟩
 ·exact h.elim
theorem b9a(K:W.Frag)(t:Value):W.kitOne K t t=some true:=by
 unfold W.kitOne;rw[if_pos qz]
theorem c2c:∀{bs:List Bool}{us:List Value},Vals (bs.map V.bl) us->us=bs.map Value.bool
 | [],_,.nil=>rfl
 |b::bs,_,.cons r t=>by
  have r:_=Value.bool b:=r;rw[Z4,r,c2c t]
theorem all_range(bs:List Bool):((List.range bs.length).all λi=>bs.getD i true)=bs.all id:=by
 rw[X8,Xf,Xf]
 constructor
 ·intro h x hx;obtain⟨i,hi,e⟩:=Rg hx;have:=h i (Y2.mpr hi);rw[Zr,Zb hi]at this
  simpa[e]using this
 ·intro h i hi;have hi:=Y2.mp hi;rw[Zr,Zb hi];exact h _ (Xp hi)
def mAll(K:W.Frag)(f:List Bool->Bool):List V->Hp->VK->Prop:=λvs H Q=>match vs with
 | [.ref p]=>∃bs:List Bool,SqL K H p (bs.map V.bl)/\Q (.bl (f bs)) H
 |_=>False
theorem c5x{pins:List (Addr×Obj)}{s:Shared}{σ:St}{H:Hp}{p:Addr}{bs:List Bool}{Q:VK}(hc:X.calm=true)(I:Inv X pins σ H s)(hs:SqL X.K H p (bs.map V.bl))(f:(Nat->Bool)->Nat->Bool)(q:Q (.bl (f (λi=>bs.getD i true) bs.length)) H){E:Value->Shared->Prop}:
  wpAny (model X.prog X.w) X.A.in1 (pyIter (.ref p)) (λit s2=>∃J fp wr n P St tr,it=.ref J/\Walks X.prog X.w X.A.in1 J fp wr n P St/\St 0 s2.heap/\TruthOf X.prog X.w X.A.in1 P tr/\
   ∀h' tk,(∀b o,b∉wr->s2.heap.get? b=some o->h'.get? b=some o)->EP X pins σ Q (.bool (f tr n)) { s2 with heap:=h',toks:=tk}) E s:=by
 obtain⟨its,r,pl,hz⟩:=I.list hs;have e:=c2c r;subst e;have hl:p<s.heap.objs.size:=by
  obtain⟨o,n,h1,_⟩:=pl;exact Zh h1
 refine U6 pl.isList ?_
 refine⟨s.heap.objs.size,[s.heap.objs.size,p],[s.heap.objs.size],(bs.map Value.bool).toArray.size,_,_,λi=>bs.getD i true,rfl,Walks.list (A:=X.A.in1) (show X.A.in1.handled=none from I.ok.hd hc) s.heap.objs.size p (Zv hl) (bs.map Value.bool).toArray,
  ⟨⟨_,Zk _ rfl,rfl,rfl⟩,pl.isList.at λo e=>Zc _ e⟩,λi v s' Q' E' hv hq=>?_,λh' tk hk=>?_⟩
 ·have hv:(bs.map Value.bool).toArray[i]? =some v:=hv
  rw[Su,Z5]at hv;cases e:bs[i]? with
  |none=>rw[e]at hv;cases hv
  |some b=>
   rw[e]at hv;have hv:Value.bool b=v:=Zl hv;subst hv;have hq:Q' (bs.getD i true) s':=hq;rw[Zr,e]at hq;exact Xu hq
 ·refine⟨.bl _,H,I.kept (λb o e=>hk b o ?_ (Zc _ e)),rfl,by simpa using q⟩;intro z;have z:b=s.heap.objs.size:=by simpa using z
  exact absurd (Zh e) (by rw[z];exact Y4 _)
theorem mc_all(hc:X.calm=true):a2b X (.builtin "all") (mAll X.K λbs=>bs.all id):=by
 intro pins s σ H xs us Q I r h;unfold mAll at h;split at h
 ·obtain⟨u,rfl,r1⟩:=vals1 r;cases r1;obtain⟨bs,hs,q⟩:=h;exact call_all_walk (c5x hc I hs (λtr n=>(List.range n).all tr) (by rw[all_range];exact q))
 ·exact h.elim
end
section
variable{X:Cx}{a b c e:Expr}{ta tb tc te:TE}{pos:Pos}
def mNotV(K:W.Frag)(ta:TE):TE:=λσ H Q=>ta σ H (mTru K λb H'=>Q (.bl (!b)) H')
theorem me_not(ha:PE X a ta):PE X (.UnaryOp .Not a pos) (mNotV X.K ta):=by
 intro pins s σ H Q I h;refine UnaryOp_ (thn (ha pins s σ H _ I h) λv s1 z9=>?_);obtain⟨x,H1,I1,r1,q1⟩:=z9;exact not_of (thn (c5e pins s1 σ H1 x v _ I1 r1 (c2b q1)) λb s2 ⟨H2,I2,q2⟩=>⟨.bl (!b),H2,I2,rfl,q2⟩)
def b6e:V->List V->Hp->VK->Prop:=λx vs H Q=>match x,vs with
 | .ref l,[y]=>∃xs,H l=some (.lst xs)/\xs.length<sizeLine/\Q .non (upd H l (.lst (xs++[y])))
 |_,_=>False
theorem a7f:MtR X "list.append" b6e:=by
 intro pins s σ H x xs v us Q I rx rs h;refine b1g pins s σ H x xs v us Q I rx rs ?_;unfold b6e at h;split at h
 ·obtain⟨ys,h1,h2,h3⟩:=h;exact⟨_,ys,_,rfl,rfl,h1,h2,h3⟩
 ·exact h.elim
def mPop:V->List V->Hp->VK->Prop:=λx vs H Q=>match x,vs with
 | .ref l,[]=>∃xs y,H l=some (.lst (xs++[y]))/\Q y (upd H l (.lst xs))
 |_,_=>False
theorem c5y:MtR X "list.pop" mPop:=by
 intro pins s σ H x xs v us Q I rx rs h;refine mt_pop pins s σ H x xs v us Q I rx rs ?_;unfold mPop at h;split at h
 ·obtain⟨ys,y,h1,h2⟩:=h;exact⟨_,_,y,rfl,rfl,h1,qz,by rw[List.dropLast_concat];exact h2⟩
 ·exact h.elim
def mRev:V->List V->Hp->VK->Prop:=λx vs H Q=>match x,vs with
 | .ref l,[]=>∃xs,H l=some (.lst xs)/\Q .non (upd H l (.lst xs.reverse))
 |_,_=>False
theorem c3l:MtR X "list.reverse" mRev:=by
 intro pins s σ H x xs v us Q I rx rs h;refine c3k pins s σ H x xs v us Q I rx rs ?_;unfold mRev at h;split at h
 ·obtain⟨ys,h1,h2⟩:=h;exact⟨_,_,rfl,rfl,h1,h2⟩
 ·exact h.elim
def mUn(g:Int->Int):V->Hp->VK->Prop:=λx H Q=>match x with| .int i=>Q (.int (g i)) H|_=>False
theorem a5y:UnR X (unaryOp .USub) (mUn λi=>-i):=by
 intro pins s σ H x v Q I rx h;refine un_neg pins s σ H x v Q I rx ?_;cases x<;>first|exact(show False from h).elim|exact⟨_,rfl,h⟩
end
section
variable{X:Cx}
theorem a4n{x:Str}{z:Str}{tk:Tok}{pos:Pos}(hg:Gl X x)(hm:X.mg x=some (.str z tk))(hd:(x==("__debug__":Str))=false:=by decide):PE X (.Name x pos) (tC (.str z)):=b2p hg hm ⟨tk,rfl⟩ hd
theorem pe_gint{x:Str}{z:Int}{tk:Tok}{pos:Pos}(hg:Gl X x)(hm:X.mg x=some (.int z tk))(hd:(x==("__debug__":Str))=false:=by decide):PE X (.Name x pos) (tC (.int z)):=b2p hg hm ⟨tk,rfl⟩ hd
end
section
variable{X:Cx}{a b c e o:Expr}{es:List Expr}{ta tb tc te to:TE}{t:TA}{pos:Pos}{tg l:Expr}{tl:TE}
theorem b9b{x:Str}{n:String}{pos:Pos}(hg:Gl X x)(hm:X.mg x=none)(hv:bootBuiltins x=some (.type n))(hn:x≠"__name__":=by decide)(hd:(x==("__debug__":Str))=false:=by decide):PE X (.Name x pos) (tC (.ty n)):=pe_bltn hg hm hv rfl hn hd
theorem a1m(K:W.Frag)(h:X.K=K):OpR X (binaryOp .Add) (mAdd K):=h▸mo_add
theorem a8k(K:W.Frag)(h:X.K=K)(ha:PE X a ta)(he:∀whole,isTrue a X.env whole=(do let v <-whole;standAt a.pos;holding [v] (truthy v)):=by intro _;rfl):PT X a (mTrue K ta):=h▸mt_tru ha he
theorem ke_not(K:W.Frag)(h:X.K=K)(ha:PE X a ta):PE X (.UnaryOp .Not a pos) (mNotV K ta):=h▸me_not ha
theorem a0f(K:W.Frag)(h:X.K=K):IxR X (mIx K):=h▸mi_seq
theorem a1o(K:W.Frag)(h:X.K=K):a2b X (.builtin "len") (mLen K):=h▸mc_len
theorem kc_isi(K:W.Frag)(h:X.K=K):a2b X (.builtin "isinstance") (mIsi K):=h▸mc_isi
theorem b5c(K:W.Frag)(h:X.K=K)(hc:X.calm=true):a2b X (.builtin "all") (mAll K λbs=>bs.all id):=h▸mc_all hc
theorem a3s(K:W.Frag)(h:X.K=K)(hl:PE X l tl):PI X tg l (iList K tl):=h▸pi_list hl
theorem kpi_tup(K:W.Frag)(h:X.K=K)(hl:PE X l tl):PI X tg l (iTup K tl):=h▸pi_tup hl
theorem b9c(K:W.Frag)(h:X.K=K){name:Str}{apos cpos:Pos}{T id:String}{r:V->List V->Hp->VK->Prop}(pa:PlainAttrs T)(slot:Slot T name id)(hty:typeOf (.builtin id)=pure (.type "method_descriptor"))(hm:MtR X id r)(ho:PE X o to)
  (hbase:attributeBase o name X.env (eval o X.env)=eval o X.env:=by rfl)(hline:(apos.endLine==cpos.line)=true:=by rfl):PE X (.Call (.Attribute o name apos) [] [] cpos) (tBM0 K T r to):=h▸pe_bm0 pa slot hty hm ho hbase hline
theorem a7v(K:W.Frag)(h:X.K=K){name:Str}{apos cpos:Pos}{T id:String}{r:V->List V->Hp->VK->Prop}(pa:PlainAttrs T)(slot:Slot T name id)(hty:typeOf (.builtin id)=pure (.type "method_descriptor"))(hm:MtR X id r)(ho:PE X o to)(ha:PA X (e::es) t)
  (hbase:attributeBase o name X.env (eval o X.env)=eval o X.env:=by rfl)
  (hfew:((backTo cpos (starEach (e::es) X.env)).all (λx=>!x.1)&&(backToKw cpos (keywordEach [] X.env)).all (λx=>x.1.isSome)
   &&decide ((e::es).length+([]:List Keyword).length+(if([]:List Keyword).isEmpty then 0 else 1)<30))=true:=by rfl)
  (hline:(apos.endLine==cpos.line)=true:=by rfl)(hs:starEach (e::es) X.env=(false,eval e X.env)::starEach es X.env:=by rfl)(hplain:(backTo cpos (starEach es X.env)).any (·.1)=false:=by rfl):
  PE X (.Call (.Attribute o name apos) (e::es) [] cpos) (tBM K T r to t):=h▸pe_bm pa slot hty hm ho ha hbase hfew hline hs hplain
theorem a3h{b c:Bool}(h:(false^^b)=c):b=c:=by cases b<;>exact h
end
theorem inS_one(c:Nat)(j:Str):inS ⟨#[c]⟩ j=decide (c∈j.cps.toList):=PySem.StrLaws.found_one j c
theorem a3t{α:Type}{xs:List α}{i:Int}(h0:0<=i)(h1:i<(xs.length:Int)):∃v,atI xs i=some v/\xs[i.toNat]? =some v:=by
 have hk:i.toNat<xs.length:=by omega
 have ek:i=((i.toNat:Nat):Int):=by omega
 have q:xs[i.toNat]? =some xs[i.toNat]:=Zb hk
 refine⟨xs[i.toNat],?_,q⟩;have:=atI_nat q;rw[<-ek]at this;exact this
theorem a0d{H:Hp}{p:Addr}(h:H p=none)(o:HO):Same H (upd H p o):=λb u q=>by rw[a0p (a1p q h)];exact q
theorem a1f{H H':Hp}{p:Addr}{o:HO}(e:Same H H')(h:H p=none):Same H (upd H' p o):=λb u q=>by rw[a0p (a1p q h)];exact e b u q
theorem Same.tup{K:W.Frag}{H H':Hp}{a:Addr}{xs:List V}(e:Same H H')(h:SqT K H a xs):SqT K H' a xs:=by
 rcases h with(h|⟨o,h⟩)|h
 ·exact .inl (.inl (e _ _ h))
 ·exact .inl (.inr ⟨o,e _ _ h⟩)
 ·exact .inr h
theorem c5z{i j:Int}(h1:0<j)(h2:j<1073741824):CDiv i j:=⟨h1,h2⟩
theorem c1a{i j:Int}(h:-(2^64)<j/\j<2^64):IntMulOk i j:=CMul.ok (.inr h)
theorem a4e{i j:Int}(h:-(2^64)<i/\i<2^64):IntMulOk i j:=CMul.ok (.inl h)
section
variable{K:W.Frag}{σ:St}{H:Hp}{Q:VK}{D:Ends}{ta tb tc te:TE}{t u:TS}{A B:TT}{P:Bool->Hp->Prop}{v x y:V}{i j:Int}{n:Nat}{b:Bool}{p q:Str}
theorem mVar_i(h:σ[n]? =some (some v))(k:Q v H):mVar n σ H Q:=by unfold mVar;rw[h];exact k
theorem tC_i(k:Q v H):tC v σ H Q:=k
theorem tOp_i{r:R2}(k:ta σ H λx H1=>tb σ H1 λy H2=>r x y H2 Q):tOp r ta tb σ H Q:=k
theorem tUn_i{r:V->Hp->VK->Prop}(k:ta σ H λx H1=>r x H1 Q):tUn r ta σ H Q:=k
theorem mUn_i{g:Int->Int}(k:Q (.int (g i)) H):mUn g (.int i) H Q:=k
theorem m20_i{g:Int->Int->V}(k:Q (g i j) H):m20 g (.int i) (.int j) H Q:=k
theorem m2_i{C:Int->Int->Prop}{g:Int->Int->V}(c:C i j)(k:Q (g i j) H):m2 C g (.int i) (.int j) H Q:=⟨c,k⟩
theorem mAdd_i(k:Q (.int (i+j)) H):mAdd K (.int i) (.int j) H Q:=k
theorem b1k(c:p.length+q.length<=sizeLine)(k:Q (.str (p++q)) H):mAdd K (.str p) (.str q) H Q:=⟨c,k⟩
theorem a4l(c:IntMulOk i j)(k:Q (.int (i*j)) H):mMul (.int i) (.int j) H Q:=⟨c,k⟩
theorem mEq_i(k:Q (.bl (b^^decide (i=j))) H):mEq b (.int i) (.int j) H Q:=k
theorem mEq_s(k:Q (.bl (b^^decide (p=q))) H):mEq b (.str p) (.str q) H Q:=k
theorem mEq_b{c d:Bool}(k:Q (.bl (b^^decide (c=d))) H):mEq b (.bl c) (.bl d) H Q:=k
theorem mInS_i(k:Q (.bl (b^^inS p q)) H):mInS b (.str p) (.str q) H Q:=k
theorem mB_i(k:P b H):mB P (.bl b) H:=k
theorem mTest_i(k:ta σ H (mB P)):b8d ta σ H P:=k
theorem mTrue_i(k:ta σ H (mTru K P)):mTrue K ta σ H P:=k
theorem mTru_b(k:P b H):mTru K P (.bl b) H:=k
theorem c9d{r r':R2}(k:ta σ H λx H1=>tb σ H1 λy H2=>r x y H2 (mB λk H3=>if k=true then tc σ H3 λw' H4=>r' y w' H4 Q else Q (.bl false) H3)):b1j r r' ta tb tc σ H Q:=k
theorem mAndV_i(k:ta σ H (mB λc H1=>if c=true then tb σ H1 Q else Q (.bl false) H1)):b8e ta tb σ H Q:=k
theorem mOrV_i(k:ta σ H (mB λc H1=>if c=true then Q (.bl true) H1 else tb σ H1 Q)):mOrV ta tb σ H Q:=k
theorem mNotV_i(k:ta σ H (mTru K λb H'=>Q (.bl (!b)) H')):mNotV K ta σ H Q:=k
theorem tIf_i(k:A σ H λc H1=>if c=true then ta σ H1 Q else tb σ H1 Q):tIf A ta tb σ H Q:=k
theorem tAnd_i(k:A σ H λc H1=>if c=true then B σ H1 P else P false H1):tAnd A B σ H P:=k
theorem tOr_i(k:A σ H λc H1=>if c=true then P true H1 else B σ H1 P):tOr A B σ H P:=k
theorem tNot_i(k:A σ H λc H1=>P (!c) H1):tNot A σ H P:=k
theorem tSeq_i(k:t { D with nx:=u D} σ H):tSeq t u D σ H:=k
theorem tNext_i(k:D.nx σ H):tNext D σ H:=k
theorem tRet_i(k:te σ H D.rt):tRet te D σ H:=k
theorem tIfS_i(k:A σ H λb H1=>if b=true then t D σ H1 else u D σ H1):tIfS A t u D σ H:=k
theorem tAsg_i{g:TG}(k:te σ H λx H1=>g x σ H1 D.nx):tAsg te g D σ H:=k
theorem tDrop_i(k:te σ H λ_ H1=>D.nx σ H1):tDrop te D σ H:=k
theorem a2l{N:St->Hp->Prop}(k:N (σ.set n (some v)) H):a7r n v σ H N:=k
theorem tCB_i{r:List V->Hp->VK->Prop}{a:TA}(k:a σ H λvs H1=>r vs H1 Q):tCB r a σ H Q:=k
theorem tCons_i{a:TA}{R:List V->Hp->Prop}(k:ta σ H λx H1=>a σ H1 λxs H2=>R (x::xs) H2):b7w ta a σ H R:=k
theorem tNil_i{R:List V->Hp->Prop}(k:R [] H):tNil σ H R:=k
theorem tBM_i{T:String}{r:V->List V->Hp->VK->Prop}{a:TA}(k:ta σ H λx H1=>tyV K T x H1/\a σ H1 λxs H2=>r x xs H2 Q):tBM K T r ta a σ H Q:=k
theorem tBM0_i{T:String}{r:V->List V->Hp->VK->Prop}(k:ta σ H λx H1=>tyV K T x H1/\r x [] H1 Q):tBM0 K T r ta σ H Q:=k
theorem tTup_i{a:TA}(k:a σ H λxs H1=>xs.length<=sizeLine/\∀p,H1 p=none->Q (.ref p) (upd H1 p (.tup xs))):tTup a σ H Q:=k
theorem tLst_i{a:TA}(k:a σ H λxs H1=>xs.length<=sizeLine/\∀p,H1 p=none->Q (.ref p) (upd H1 p (.lst xs))):tLst a σ H Q:=k
theorem tSl_i{r:V->Option Int->Option Int->Hp->VK->Prop}{tl th:TO}(k:te σ H λx H1=>tl σ H1 λl H2=>th σ H2 λu H3=>r x l u H3 Q):tSl r te tl th σ H Q:=k
theorem c6a{R:Option Int->Hp->Prop}(k:R none H):c1w σ H R:=k
theorem mPart_i{R:Option Int->Hp->Prop}(k:te σ H (mI R)):b8g te σ H R:=k
theorem mI_i{R:Option Int->Hp->Prop}(k:R (some i) H):mI R (.int i) H:=k
theorem mLen_s(c:p.length<=sizeLine)(k:Q (.int p.length) H):mLen K [.str p] H Q:=⟨c,k⟩
theorem a1v{a:Addr}{xs:List V}(c:SqL K H a xs)(k:Q (.int xs.length) H):mLen K [.ref a] H Q:=.inl ⟨xs,c,k⟩
theorem a9t{a:Addr}{xs:List V}(c:SqT K H a xs)(k:Q (.int xs.length) H):mLen K [.ref a] H Q:=.inr ⟨xs,c,k⟩
theorem a1h{a:Addr}{xs:List V}(c:SqL K H a xs)(e:atI xs i=some v)(k:Q v H):mIx K (.ref a) (.int i) H Q:=.inl ⟨xs,v,c,e,k⟩
theorem a0k{a:Addr}{xs:List V}(c:SqT K H a xs)(e:atI xs i=some v)(k:Q v H):mIx K (.ref a) (.int i) H Q:=.inr ⟨xs,v,c,e,k⟩
theorem b2t{c:Nat}(z:p.length<=sizeLine)(e:atI p.cps.toList i=some c)(k:Q (.str ⟨#[c]⟩) H):mIx K (.str p) (.int i) H Q:=⟨z,c,e,k⟩
theorem mIsi_b(k:Q (.bl true) H):mIsi K [.bl b,.ty "bool"] H Q:=⟨_,true,.bl b,b9a _ _,k⟩
theorem a7g{a:Addr}{xs:List V}(e:H a=some (.lst xs))(c:xs.length<sizeLine)(k:Q .non (upd H a (.lst (xs++[v])))):b6e (.ref a) [v] H Q:=⟨xs,e,c,k⟩
theorem iteB{c d:Prop}(h1:b=true->c)(h2:b=false->d):if b=true then c else d:=by
 cases b with
 |true=>exact h1 rfl
 |false=>exact h2 rfl
theorem c9e{sp:Sp}{E:XK}{a:TA}(k:a σ H λvs H1=>sp vs H1 Q E):b7x sp [] E a σ H Q:=by
 unfold b7x;have e:(λ(vs:List V) (H1:Hp)=>sp (vs++[]) H1 Q E)=λvs H1=>sp vs H1 Q E:=by funext vs H1;rw[X7]
 rw[e];exact k
theorem tFor_i{wi:TI}{g:TG}(k:wi σ H λJ H1=>ForW J g t D σ H1):tFor wi g t D σ H:=k
theorem iStr_i{R:It->Hp->Prop}(k:ta σ H λv H1=>∃x,v=.str x/\R (Its x) H1):iStr ta σ H R:=k
theorem iList_i{R:It->Hp->Prop}(k:ta σ H λx H1=>∃a,x=.ref a/\(∃xs,SqL K H1 a xs)/\R (Itl K a) H1):iList K ta σ H R:=k
theorem iTup_i{R:It->Hp->Prop}(k:ta σ H λx H1=>∃a,x=.ref a/\(∃xs,SqT K H1 a xs)/\R (Itt K a) H1):iTup K ta σ H R:=k
theorem iRng1_i{a:TA}{R:It->Hp->Prop}(k:a σ H λvs H1=>∃j:Int,vs=[.int j]/\-(2^62)<=j/\j<2^62/\R (Itr 0 j.toNat) H1):iRng1 a σ H R:=k
theorem tComp_i{wi:TI}{tt:TT}(k:wi σ H λJ H1=>∀D,H1 D=none->b7z J tt te σ Q D H1):b8a wi tt te σ H Q:=k
theorem a2u(Post:St->Hp->Prop)(h1:∀σ' H',Post σ' H'->u D σ' H')(h2:(∀σ' H',Post σ' H'->u D σ' H')->t { D with nx:=u D} σ H):tSeq t u D σ H:=h2 h1
theorem b1l{z:Str}{i:Int}(h0:0<=i)(h1:i<(z.length:Int)):∃c,atI z.cps.toList i=some c:=by
 obtain⟨c,hc,_⟩:=a3t (xs:=z.cps.toList) h0 (by simp only[Xl];exact h1);exact⟨c,hc⟩
end
mutual
inductive Den(K:W.Frag)(H:Hp):V->PyData->Prop
 |non:Den K H .non .none
 |bl (b:Bool):Den K H (.bl b) (.bool b)
 |int (i:Int):Den K H (.int i) (.int i)
 |str (x:Str):Den K H (.str x) (.str x)
 |tup {a:Addr} {us:List V} {ds:List PyData}:SqT K H a us->DenL K H us ds->Den K H (.ref a) (.tuple ds)
inductive DenL(K:W.Frag)(H:Hp):List V->List PyData->Prop
 |nil:DenL K H [] []
 |cons {u:V} {us:List V} {d:PyData} {ds:List PyData}:Den K H u d->DenL K H us ds->DenL K H (u::us) (d::ds)
end
mutual
theorem Den.monoT{K:W.Frag}{H H':Hp}(e:∀a xs,SqT K H a xs->SqT K H' a xs):∀{v:V}{d:PyData},Den K H v d->Den K H' v d
 |_,_,.non=>.non
 |_,_,.bl b=>.bl b
 |_,_,.int i=>.int i
 |_,_,.str x=>.str x
 |_,_,.tup h l=>.tup (e _ _ h) (DenL.monoT e l)
theorem DenL.monoT{K:W.Frag}{H H':Hp}(e:∀a xs,SqT K H a xs->SqT K H' a xs):∀{v:List V}{d:List PyData},DenL K H v d->DenL K H' v d
 |_,_,.nil=>.nil
 |_,_,.cons h l=>.cons (Den.monoT e h) (DenL.monoT e l)
end
theorem Den.mono{K:W.Frag}{H H':Hp}(e:Same H H'){v:V}{d:PyData}(h:Den K H v d):Den K H' v d:=h.monoT λ_ _ q=>e.tup q
theorem DenL.mono{K:W.Frag}{H H':Hp}(e:Same H H'){v:List V}{d:List PyData}(h:DenL K H v d):DenL K H' v d:=h.monoT λ_ _ q=>e.tup q
theorem b6f{K:W.Frag}{H:Hp}{p:Addr}{ys:List V}{o:HO}(h:H p=some (.lst ys)):∀a xs,SqT K H a xs->SqT K (upd H p o) a xs:=λa xs q=>by
 rcases q with(q|⟨o',q⟩)|q
 ·exact .inl (.inl (by rw[a0p (a6t q h (λz=>by cases z))];exact q))
 ·exact .inl (.inr ⟨o',by rw[a0p (a6t q h (λz=>by cases z))];exact q⟩)
 ·exact .inr q
theorem Den.lst{K:W.Frag}{H:Hp}{p:Addr}{ys:List V}{o:HO}(h:H p=some (.lst ys)){v:V}{d:PyData}(q:Den K H v d):Den K (upd H p o) v d:=q.monoT (b6f h)
theorem DenL.lst{K:W.Frag}{H:Hp}{p:Addr}{ys:List V}{o:HO}(h:H p=some (.lst ys)){v:List V}{d:List PyData}(q:DenL K H v d):DenL K (upd H p o) v d:=q.monoT (b6f h)
section
variable{K:W.Frag}{H:Hp}
theorem DenL.length:∀{us:List V}{ds:List PyData},DenL K H us ds->us.length=ds.length
 |_,_,.nil=>rfl
 |_,_,.cons _ l=>by rw[length_cons,length_cons,DenL.length l]
theorem DenL.get:∀{us:List V}{ds:List PyData}{i:Nat}{u:V},DenL K H us ds->us[i]? =some u->∃d,ds[i]? =some d/\Den K H u d
 |_,_,_,_,.nil,e=>by simp at e
 |_,_,0,_,.cons h _,e=>by simp at e;subst e;exact⟨_,rfl,h⟩
 |_,_,i+1,u,.cons _ l,e=>by
  obtain⟨d,h1,h2⟩:=DenL.get (i:=i) (u:=u) l (by simpa using e);exact⟨d,by simpa using h1,h2⟩
theorem DenL.append:∀{us vs:List V}{ds es:List PyData},DenL K H us ds->DenL K H vs es->DenL K H (us++vs) (ds++es)
 |_,_,_,_,.nil,l=>l
 |_,_,_,_,.cons h t,l=>.cons h (DenL.append t l)
theorem DenL.take:∀{us:List V}{ds:List PyData}(n:Nat),DenL K H us ds->DenL K H (us.take n) (ds.take n)
 |_,_,0,_=>.nil
 |_,_,_+1,.nil=>.nil
 |_,_,n+1,.cons h t=>.cons h (DenL.take n t)
theorem DenL.drop:∀{us:List V}{ds:List PyData}(n:Nat),DenL K H us ds->DenL K H (us.drop n) (ds.drop n)
 |_,_,0,l=>l
 |_,_,_+1,.nil=>.nil
 |_,_,n+1,.cons _ t=>DenL.drop n t
end
section
variable{X:Cx}{pins:List (Addr×Obj)}{σ:St}{H:Hp}{s:Shared}
theorem a5z:∀{ds:List PyData}{i:Nat}{d:PyData},ds[i]? =some d->d.depth<=PyData.depthAll ds
 | [],_,_,e=>by simp at e
 |x::r,0,d,e=>by simp at e;subst e;unfold PyData.depthAll;omega
 |x::r,i+1,d,e=>by
  have:=a5z (ds:=r) (i:=i) (d:=d) (by simpa using e);unfold PyData.depthAll;omega
end
section
variable{X:Cx}{a b c e:Expr}{ta tb tc te:TE}{pos:Pos}{tg l:Expr}{tl:TE}
theorem a3u{k:Nat}{A:Around}(hr:Room k A):A.units+150<cLine:=by have:=hr.un;omega
def mSlL(K:W.Frag):V->Option Int->Option Int->Hp->VK->Prop:=λx lo hi H Q=>∃a xs,x=.ref a/\SqL K H a xs/\∀p,H p=none->Q (.ref p) (upd H p (.lst (cutV xs lo hi)))
theorem a5u(K:W.Frag)(h:X.K=K):SlR X (mSlL K):=h▸sl_list
def mTup(K:W.Frag):List V->Hp->VK->Prop:=λvs H Q=>∃p ys,vs=[.ref p]/\((SqL K H p ys/\∀l,H l=none->Q (.ref l) (upd H l (.tup ys)))\/(SqT K H p ys/\Q (.ref p) H))
theorem b3v(K:W.Frag)(h:X.K=K):a2b X (.type "tuple") (mTup K):=h▸b7q
def mLst(K:W.Frag):List V->Hp->VK->Prop:=λvs H Q=>∃p ys,vs=[.ref p]/\(SqL K H p ys\/SqT K H p ys)/\∀l,H l=none->Q (.ref l) (upd H l (.lst ys))
theorem c2d(K:W.Frag)(h:X.K=K):a2b X (.type "list") (mLst K):=h▸b8v
def mMin:List V->Hp->VK->Prop:=λvs H Q=>∃i j,vs=[.int i,.int j]/\Q (.int (if j<i then j else i)) H
theorem b9d(hc:X.calm=true):a2b X (.builtin "min") mMin:=c5g hc
def mMax:List V->Hp->VK->Prop:=λvs H Q=>∃i j,vs=[.int i,.int j]/\Q (.int (if j>i then j else i)) H
theorem mc_max(hc:X.calm=true):a2b X (.builtin "max") mMax:=c5f hc
end
open PySem.AutoSeq1 in
open PySem.MeetsSeq PySem.MeetsSeq2 PySem.MeetsSeq3 in
theorem c3m(l:Addr)(items:Array Value)(n:Nat)(b:Addr)(items2:Array Value)(n2:Nat)(dd:Option Addr)(sl:Array (Option Value))(hs0:¬(!items.isEmpty&&Builtin.List.listTooLong (items.size+items2.size))=true)(hs1:items.size<=sizeLine)(hs2:items.size+items2.size<=sizeLine+1):
  Meets (Builtin.«list.extend» ⟨[.ref l,.ref b],[]⟩) (λ_ R s=>s.heap.get? l=some { cls:=.type "list",dict:=none,data:=.seq items n,slots:=#[]}/\s.heap.get? b=some { cls:=.type "tuple",dict:=dd,data:=.seq items2 n2,slots:=sl}/\
   R (.ok (.ret Value.none)) { s with heap:=s.heap.update l (Obj.mapSeq λx=>x++items2),toks:=s.toks}):=
 .of_wp λprog w A R s h=>by
  obtain⟨hp,g,d,tk,os⟩:=s;obtain⟨hl,hb,h⟩:=h;have f1:=idx_int;have f2:=PySem.AutoSeq1.sub_tuple_tuple;have f3:=PySem.AutoSeq1.sub_list_list;have f4:=PySem.AutoSeq1.sub_tuple_list;have f5:=PySem.AutoSeq1.sub_list_tuple;have hz':(items++items2).size<=sizeLine+1:=by rw[Array.size_append];exact hs2
  wp_walk using(X3 hl rfl (hz:=hs1) (_hz':=hz')),wpAny_loadPart' hl,wpAny_loadPart' hb
  exact⟨_,rfl,h⟩
section
variable{X:Cx}
def mExt(K:W.Frag):V->List V->Hp->VK->Prop:=λx vs H Q=>∃l b xs zs,x=.ref l/\vs=[.ref b]/\H l=some (.lst xs)/\(H b=some (.lst zs)\/SqT K H b zs)/\xs.length+zs.length<=sizeLine/\Q .non (upd H l (.lst (xs++zs)))
theorem b7f(K:W.Frag)(hK:X.K=K):MtR X "list.extend" (mExt K):=by
 subst hK;intro pins s σ H x vs v us Q I rx rv h;obtain⟨l,b,xs,zs,e1,e2,hH,hB,hz,q⟩:=h;rcases hB with hB|hB
 ·exact c5o pins s σ H x vs v us Q I rx rv ⟨l,b,xs,zs,e1,e2,hH,hB,hz,q⟩
 ·subst e1 e2;cases rx;obtain⟨u,rfl,ru⟩:=rv.one;cases ru;obtain⟨z,its,n,r,hl,e⟩:=I.lstM hH;obtain⟨its2,r2,pl,z2⟩:=I.tuple hB;obtain⟨⟨cls,dd,data,sl⟩,ho,hc,n2,hd⟩:=pl;simp only at hc hd;subst hc hd;have hl2:=r2.length;have hsz:its.toArray.size+its2.toArray.size<=sizeLine:=by rw[Zd,Zd];omega
  have hlong:¬(!its.toArray.isEmpty&&Builtin.List.listTooLong (its.toArray.size+its2.toArray.size))=true:=by
   rw[b3q hsz,Xj];exact Zp
  refine W5 Vt ⟨_,e,rfl⟩ Rj (S9 _ _) (c3m l its.toArray n b its2.toArray n2 dd sl hlong (by rw[Zd];omega) qo) ⟨e,ho,?_⟩;refine⟨.non,_,I.lset (its':=its++its2) hH e qz (r.append r2) ?_,rfl,q⟩;rw[Zj];omega
end
section
variable{prog:Program}{w:World}{A:Around}{E:Value->Shared->Prop}{s:Shared}
theorem b3h{t sl:Addr}{items:Array Value}{vl vu:Value}{lo hi:Option Int}{Q:Value->Shared->Prop}(ht:IsTup s.heap t items)(hs:s.heap.IsSliceOf sl vl vu .none)(pl:IsPart vl lo)(pu:IsPart vu hi)
  (hw:HT.sIx items.size 0 lo=0/\HT.sIx items.size items.size hi=items.size)(h:Q (.ref t) s):wpAny (model prog w) A (getItem (.ref t) (.ref sl)) Q E s:=by
 obtain⟨os,hos,hcs,hds⟩:=id hs;have hTs:s.TypeIs (.ref sl) "slice":=⟨os,hos,hcs⟩;unfold getItem
 try with_reducible refine Xh ?_
 first|refine Za (Ze ?_)|skip
 refine Za (wpAny_sequenceKey ht.typeIs qd ?_)
 refine Za (wpAny_callSpecial?_slot (name:=ofString "__getitem__") ht.typeIs Y1
  (Ym Y1 ht.typeIs Rc ?_ (Rq _ _)))
 show wpAny _ _ (Builtin.Tuple.tupleItemsOf (.ref t)>>=_) _ _ s
 refine Za (tupleItemsOf_ ht ?_);refine Za (Ua hTs ?_);rw[if_pos qd];refine Za (HT.sliceApplied_gen hs pl pu ?_)
 show wpAny _ _ (if(((HT.sIx items.size 0 lo:Nat):Int)==0&&(1:Int)==1&&(HT.sIx items.size items.size hi-HT.sIx items.size 0 lo)==items.size)=true then _ else _) _ _ s
 rw[if_pos (by rw[hw.1,hw.2];simp)];refine Za ?_;unfold Builtin.Tuple.tupleIsExact;refine Za (Ua ht.typeIs (Ze ?_));rw[if_pos qd];exact Za (Wk (Ze ⟨_,rfl,Ze h⟩))
end
section
variable{X:Cx}
def b9e(xs:List V)(lo hi:Option Int):Prop:=HT.sIx xs.length 0 lo=0/\HT.sIx xs.length xs.length hi=xs.length
def mSlT(K:W.Frag):V->Option Int->Option Int->Hp->VK->Prop:=λx lo hi H Q=>∃a xs,x=.ref a/\SqT K H a xs/\(b9e xs lo hi->Q (.ref a) H)/\(¬b9e xs lo hi->∀p,H p=none->Q (.ref p) (upd H p (.tup (cutV xs lo hi))))
theorem ks_tup(K:W.Frag)(hK:X.K=K):SlR X (mSlT K):=by
 subst hK;intro pins s σ H x v vl vu lo hi sl Q I rx hs pl pu h;obtain⟨a,xs,rfl,hx,h1,h2⟩:=h
 by_cases hw:b9e xs lo hi
 ·cases rx;obtain⟨its,r,ht,hz⟩:=I.tuple hx;have hlen:its.toArray.size=xs.length:=by rw[Zd];exact r.length.symm
  exact⟨"tuple",_,Y1.lookup,ht.typeIs,b3h ht hs pl pu (by rw[hlen];exact hw) ⟨.ref a,H,I,rfl,h1 hw⟩⟩
 ·exact sl_tup pins s σ H _ v vl vu lo hi sl Q I rx hs pl pu ⟨a,xs,rfl,hx,hw,h2 hw⟩
end
section
variable{σ:St}{H:Hp}{D:Ends}{t:TS}{c:TT}
def c6b(c:TT)(t:TS)(D:Ends)(σ:St)(H:Hp):Prop:=b8o c t D σ H
theorem c9f(k:c6b c t D σ H):b8o c t D σ H:=k
theorem a8u(Pv:Nat->St->Hp->Prop)(n:Nat)(h0:Pv n σ H)
  (hs:∀n σ H (R:Bool->Hp->Prop),Pv n σ H->(∀H1,(∀(D':Ends),D'.rt=D.rt->D'.bk=D.nx->(∀σ' H' m,m<n->Pv m σ' H'->D'.nx σ' H')->(∀σ' H' m,m<n->Pv m σ' H'->D'.ct σ' H')->t D' σ H1)->R true H1)->(∀H1,D.nx σ H1->R false H1)->c σ H R):c6b c t D σ H:=by
 refine⟨Pv,⟨n,h0⟩,λm σ H p=>?_⟩;refine hs m σ H _ p (λH1 k=>?_) (λH1 k=>k);exact⟨λσ' H'=>∃m',m'<m/\Pv m' σ' H',λ_ _ h=>h,k _ rfl rfl (λ_ _ m' hm hp=>⟨m',hm,hp⟩) (λ_ _ m' hm hp=>⟨m',hm,hp⟩)⟩
end
section
variable{X:Cx}{a:Expr}{ta:TE}
def tyN(K:W.Frag)(H:Hp):V->String->Prop
 | .non,T=>T="NoneType"
 | .bl _,T=>T="bool"
 | .int _,T=>T="int"
 | .str _,T=>T="str"
 | .ref p,T=>(T="list"/\∃xs,SqL K H p xs)\/(T="tuple"/\∃xs,SqT K H p xs)\/(T="dict"/\∃kvs,H p=some (.dK kvs))
 |_,_=>False
def mIs(K:W.Frag):List V->Hp->VK->Prop:=λvs H Q=>∃x n T b,vs=[x,.ty n]/\tyN K H x T/\(∀K':W.Frag,W.kitOne K' (.type T) (.type n)=some b)/\Q (.bl b) H
theorem kc_is(K:W.Frag)(hK:X.K=K):a2b X (.builtin "isinstance") (mIs K):=by
 subst hK;intro pins s σ H xs us Q I r h;obtain⟨x,n,T,b,rfl,ht,hk,q⟩:=h;obtain⟨u,w',rfl,r1,r2⟩:=a6w r;cases r2;have fin:∀tk,EP X pins σ Q (.bool b) { s with toks:=tk}:=λtk=>⟨.bl b,H,I.tok _,rfl,q⟩
 cases x with
 |non=>cases ht;exact a4x I r1 .non (hk _) fin
 |bl y=>cases ht;exact a4x I r1 (.bl y) (hk _) fin
 |int i=>cases ht;exact a4x I r1 (.int i) (hk _) fin
 |str z=>cases ht;exact a4x I r1 (.str z) (hk _) fin
 |ref p=>
  cases r1;rcases ht with⟨rfl,xs,hs⟩|⟨rfl,xs,hs⟩|⟨rfl,kvs,hs⟩
  ·obtain⟨its,_,⟨o,n',h1,h2,_⟩,_⟩:=I.list hs;exact Wi S1 I.kIn ⟨o,h1,h2⟩ (hk _) (λz=>nomatch z) fin
  ·obtain⟨its,_,⟨o,h1,h2,_⟩,_⟩:=I.tuple hs;exact Wi W.kitx_tuple I.kIn ⟨o,h1,h2⟩ (hk _) (λz=>nomatch z) fin
  ·exact a4x (x:=.ref p) I rfl (.dK hs) (hk _) fin
 |_=>exact(show False from ht).elim
end
section
variable{K:W.Frag}{H:Hp}{Q:VK}{i:Int}{p:Str}{b:Bool}{a:Addr}{xs:List V}
theorem is_str(k:Q (.bl true) H):mIs K [.str p,.ty "str"] H Q:=⟨_,_,_,true,rfl,rfl,λ_=>b9a _ _,k⟩
theorem a8f{α:Type}{xs:List α}{i:Int}{v:α}(h:atI xs i=some v):v∈xs:=by
 obtain⟨j,_,e,_⟩:=b2r h;exact Yy e
theorem b2u(l m:List Nat):(⟨l.toArray⟩:Str)++⟨m.toArray⟩=⟨(l++m).toArray⟩:=by
 apply Str.ext'
 show l.toArray++m.toArray=(l++m).toArray
 simp
theorem str_len(l:List Nat):(⟨l.toArray⟩:Str).length=l.length:=by simp[Str.length]
theorem ints_at{ns:List Int}{i:Int}{v:V}(h:atI (ns.map V.int) i=some v):∃n,v=.int n:=by
 have:=a8f h;obtain⟨n,_,e⟩:=Yb.mp this;exact⟨n,e.symm⟩
theorem b9f{ns:List Int}{i:Nat}(h:i<(ns.map V.int).length):∃n,(ns.map V.int).getD i .non=.int n:=by
 rw[length_map]at h;rw[Zr,Z5,Zb h];exact⟨_,rfl⟩
theorem a8l{lo hi:Option Int}(c:SqL K H a xs)(k:∀p,H p=none->Q (.ref p) (upd H p (.lst (cutV xs lo hi)))):mSlL K (.ref a) lo hi H Q:=⟨a,xs,rfl,c,k⟩
theorem b9g(c:SqL K H a xs)(k:∀l,H l=none->Q (.ref l) (upd H l (.tup xs))):mTup K [.ref a] H Q:=⟨a,xs,rfl,.inl ⟨c,k⟩⟩
theorem mLst_l(c:SqL K H a xs)(k:∀l,H l=none->Q (.ref l) (upd H l (.lst xs))):mLst K [.ref a] H Q:=⟨a,xs,rfl,.inl c,k⟩
theorem mMin_i{j:Int}(k:Q (.int (if j<i then j else i)) H):mMin [.int i,.int j] H Q:=⟨i,j,rfl,k⟩
theorem c6c{zs:List V}{l:Addr}(e:H l=some (.lst xs))(c:H a=some (.lst zs))(z:xs.length+zs.length<=sizeLine)(k:Q .non (upd H l (.lst (xs++zs)))):mExt K (.ref l) [.ref a] H Q:=⟨l,a,xs,zs,rfl,rfl,e,.inl c,z,k⟩
theorem c6d{l:Addr}{v:V}(e:H l=some (.lst (xs++[v])))(k:Q v (upd H l (.lst xs))):mPop (.ref l) [] H Q:=⟨xs,v,e,k⟩
theorem a7h{q:Addr}{ys:List V}(e1:H a=some (.lst xs))(e2:H q=some (.lst ys))(z:xs.length+ys.length<=sizeLine)(k:∀d,H d=none->Q (.ref d) (upd H d (.lst (xs++ys)))):mAdd K (.ref a) (.ref q) H Q:=.inl ⟨xs,ys,e1,e2,z,k⟩
end
abbrev a4z:Str:=ofString "abcdefghijklmnopqrstuvwxyz"
abbrev c6e:Str:=ofString "ABCDEFGHIJKLMNOPQRSTUVWXYZ"
abbrev figS:Str:=ofString "0123456789"
abbrev a4f:Str:=ofString "abcdefghijklmnopqrstuvwxyzABCDEFGHIJKLMNOPQRSTUVWXYZ0123456789"
abbrev one(c:Nat):Str:=⟨#[c]⟩
abbrev a4o:Sp:=λvs H Q _=>match vs with| [.int c]=>∀(n:Int)(H':Hp),-(10^30)<n->n<10^30->Same H H'->Q (.int n) H'|_=>False
theorem ln{n:Nat}(h:n<=100000):n<=sizeLine:=by rw[Yg];omega
theorem ln1{n:Nat}(h:n<100000):n<sizeLine:=by rw[Yg];omega
theorem tl62:a4f.length=62:=by decide+kernel
inductive Trm where
 |num(n:Int)
 |any(x:Str)
 |app(sg:Str)(ks:List Trm)
abbrev numS:Str:=ofString "num"
abbrev anyS:Str:=ofString "any"
abbrev appS:Str:=ofString "app"
mutual
def Trm.data:Trm->PyData
 | .num n=>.tuple [.str numS,.int n]
 | .any x=>.tuple [.str anyS,.str x]
 | .app sg ks=>.tuple [.str appS,.str sg,.tuple (Trm.dataL ks)]
def Trm.dataL:List Trm->List PyData
 | []=>[]
 |t::r=>t.data::Trm.dataL r
end
mutual
def Trm.size:Trm->Nat
 | .num _=>1
 | .any _=>1
 | .app _ ks=>1+Trm.sizeL ks
def Trm.sizeL:List Trm->Nat
 | []=>0
 |t::r=>t.size+Trm.sizeL r
end
theorem Trm.size_pos:∀t:Trm,1<=t.size
 | .num _=>Zg 1
 | .any _=>Zg 1
 | .app _ ks=>by unfold Trm.size;omega
mutual
theorem Trm.depth_le:∀t:Trm,t.data.depth<=2*t.size
 | .num _=>by simp[Trm.data,Trm.size,PyData.depth,PyData.depthAll]
 | .any _=>by simp[Trm.data,Trm.size,PyData.depth,PyData.depthAll]
 | .app _ ks=>by
  have:=Trm.depthL_le ks;simp only[Trm.data,Trm.size,PyData.depth,PyData.depthAll];omega
theorem Trm.depthL_le:∀ts:List Trm,PyData.depthAll (Trm.dataL ts)<=2*Trm.sizeL ts
 | []=>by simp[Trm.dataL,Trm.sizeL,PyData.depthAll]
 |t::r=>by
  have h1:=Trm.depth_le t;have h2:=Trm.depthL_le r;simp only[Trm.dataL,Trm.sizeL,PyData.depthAll];omega
end
theorem Trm.dataL_map:∀ts:List Trm,Trm.dataL ts=ts.map Trm.data
 | []=>rfl
 |t::r=>by rw[Trm.dataL,Trm.dataL_map r,Z4]
theorem Trm.sizeL_map:∀ts:List Trm,Trm.sizeL ts=(ts.map Trm.size).sum
 | []=>rfl
 |t::r=>by rw[Trm.sizeL,Trm.sizeL_map r,Z4,List.sum_cons]
theorem Trm.sizeL_app(a b:List Trm):Trm.sizeL (a++b)=Trm.sizeL a+Trm.sizeL b:=by
 rw[Trm.sizeL_map,Trm.sizeL_map,Trm.sizeL_map,Zt,List.sum_append]
theorem Trm.len_le(ts:List Trm):ts.length<=Trm.sizeL ts:=by
 induction ts with
 |nil=>simp
 |cons t r ih=>
  have:=t.size_pos;rw[Trm.sizeL,length_cons];omega
section
variable{K:W.Frag}{H:Hp}{v:V}
theorem a3v{n:Int}(h:Den K H v (Trm.num n).data):∃a,v=.ref a/\SqT K H a [.str numS,.int n]:=by
 unfold Trm.data at h;cases h with
 |tup hs hl=>
  cases hl with
  |cons h1 hl=>
   cases hl with
   |cons h2 hl=>
    cases hl;cases h1;cases h2;exact⟨_,rfl,hs⟩
theorem a3w{x:Str}(h:Den K H v (Trm.any x).data):∃a,v=.ref a/\SqT K H a [.str anyS,.str x]:=by
 unfold Trm.data at h;cases h with
 |tup hs hl=>
  cases hl with
  |cons h1 hl=>
   cases hl with
   |cons h2 hl=>
    cases hl;cases h1;cases h2;exact⟨_,rfl,hs⟩
theorem a1x{sg:Str}{ks:List Trm}(h:Den K H v (Trm.app sg ks).data):∃a b us,v=.ref a/\SqT K H a [.str appS,.str sg,.ref b]/\SqT K H b us/\DenL K H us (Trm.dataL ks):=by
 unfold Trm.data at h;cases h with
 |tup hs hl=>
  cases hl with
  |cons h1 hl=>
   cases hl with
   |cons h2 hl=>
    cases hl with
    |cons h3 hl=>
     cases hl;cases h1;cases h2;cases h3 with
     |tup hb hk=>exact⟨_,_,_,rfl,hs,hb,hk⟩
theorem a4p{a:Addr}{n:Int}(h:SqT K H a [.str numS,.int n]):Den K H (.ref a) (Trm.num n).data:=by
 unfold Trm.data;exact .tup h (.cons (.str _) (.cons (.int _) .nil))
theorem a5v{a:Addr}{x:Str}(h:SqT K H a [.str anyS,.str x]):Den K H (.ref a) (Trm.any x).data:=by
 unfold Trm.data;exact .tup h (.cons (.str _) (.cons (.str _) .nil))
theorem a2m{a b:Addr}{sg:Str}{ks:List Trm}{us:List V}(h:SqT K H a [.str appS,.str sg,.ref b])(hb:SqT K H b us)(hk:DenL K H us (Trm.dataL ks)):Den K H (.ref a) (Trm.app sg ks).data:=by
 unfold Trm.data;exact .tup h (.cons (.str _) (.cons (.str _) (.cons (.tup hb hk) .nil)))
theorem a6k{t:Trm}(h:Den K H v t.data):∃a us ds,v=.ref a/\SqT K H a us/\DenL K H us ds/\t.data=.tuple ds:=by
 cases t with
 |num n=>unfold Trm.data at h ⊢;cases h with|tup hs hl=>exact⟨_,_,_,rfl,hs,hl,rfl⟩
 |any x=>unfold Trm.data at h ⊢;cases h with|tup hs hl=>exact⟨_,_,_,rfl,hs,hl,rfl⟩
 |app sg ks=>unfold Trm.data at h ⊢;cases h with|tup hs hl=>exact⟨_,_,_,rfl,hs,hl,rfl⟩
theorem DenL.snoc{us:List V}{ds:List PyData}{d:PyData}(h:DenL K H us (ds++[d])):∃us' u,us=us'++[u]/\DenL K H us' ds/\Den K H u d:=by
 induction ds generalizing us with
 |nil=>
  cases h with
  |cons h1 h2=>
   cases h2;exact⟨[],_,rfl,.nil,h1⟩
 |cons x r ih=>
  cases h with
  |cons h1 h2=>
   obtain⟨us',u,rfl,a,b⟩:=ih h2;exact⟨_::us',u,rfl,.cons h1 a,b⟩
theorem DenL.nil_inv{us:List V}(h:DenL K H us []):us=[]:=by cases h;rfl
end
theorem dig_val(k:Nat)(h:k<10):(Nat.digitChar k).toNat=48+k:=by
 have:k=0\/k=1\/k=2\/k=3\/k=4\/k=5\/k=6\/k=7\/k=8\/k=9:=by omega
 rcases this with rfl|rfl|rfl|rfl|rfl|rfl|rfl|rfl|rfl|rfl<;>rfl
def a5a(n:Nat):List Nat:=(Nat.toDigits 10 n).map Char.toNat
theorem a9u{n:Nat}(h:n<10):a5a n=[48+n]:=by
 unfold a5a;rw[Nat.toDigits_of_lt_base h,Z4,Wv,dig_val n h]
theorem c9g{n k:Nat}(hk:1<=k)(h:n<10^k):(a5a n).length<=k:=by
 unfold a5a;rw[length_map];exact digits10_le hk h
theorem b9h(n:Nat):((toString (n:Int):String):Str)=⟨(a5a n).toArray⟩:=text_ofNat n
section
variable{X:Cx}
def mStr:List V->Hp->VK->Prop:=λvs H Q=>match vs with
 | [.int i]=>i.natAbs.log2<1920/\Q (.str (toString i)) H
 |_=>False
theorem mc_str:a2b X (.type "str") mStr:=by
 intro pins s σ H xs us Q I r h;refine b8p pins s σ H xs us Q I r ?_;unfold mStr at h;split at h
 ·exact⟨_,rfl,h.1,h.2⟩
 ·exact h.elim
theorem c6f{i:Int}(h0:0<=i)(h1:i<10^30):i.natAbs.log2<1920:=by
 by_cases h:i.natAbs=0
 ·rw[h];decide
 ·refine(Ur h).mpr ?_;refine Z1 (m:=10^30) qo ?_;refine Yd (m:=2^100) qk (Nat.pow_le_pow_right qd qd)
theorem mStr_i{i:Int}{H:Hp}{Q:VK}(h0:0<=i)(h1:i<10^30)(k:Q (.str ⟨(a5a i.toNat).toArray⟩) H):mStr [.int i] H Q:=by
 refine⟨c6f h0 h1,?_⟩;obtain⟨n,rfl⟩:=T9 h0;have e:=b9h n;rw[V0]at k;rw[<-e]at k;exact k
def mRepS:R2:=λx y H Q=>∃(c:Nat)(k:Int),x=.str ⟨#[c]⟩/\y=.int k/\0<=k/\k<=1000/\Q (.str ⟨(List.replicate k.toNat c).toArray⟩) H
theorem b9i(c:Nat):∀(n:Nat)(a:List Nat),(List.replicate n (#[c]:Array Nat)).foldl (· ++ ·) a.toArray=(a++List.replicate n c).toArray
 |0,a=>by simp
 |n+1,a=>by
  rw[Y8,Tr,show a.toArray++ #[c]=(a++[c]).toArray by simp,b9i c n (a++[c]),Te,Y8];rfl
theorem c1b{c:Nat}{k:Int}(h0:0<=k):Txt.mul ⟨#[c]⟩ k=⟨(List.replicate k.toNat c).toArray⟩:=by
 unfold Txt.mul
 split
 ·have:k=0:=by omega
  subst this;rfl
 ·split
  ·rename_i h1 h2;have:k=1:=by
    rw[Bool.or_eq_true]at h2;rcases h2 with h2|h2
    ·simpa using h2
    ·simp[Str.length]at h2
   subst this;rfl
  ·have:=b9i c k.toNat [];rw[Wn]at this;exact Y0 Str.mk this
theorem ko_repS:OpR X (binaryOp .Mult) mRepS:=by
 intro pins s σ H x y v u Q I rx ry h;obtain⟨c,k,rfl,rfl,h0,h1,q⟩:=h;obtain⟨t,rfl⟩:=rx;obtain⟨t',rfl⟩:=ry;have e1:(⟨#[c]⟩:Str).length=1:=rfl;refine SB.mul ⟨?_,λ_ _=>?_,λ_ _=>?_⟩ λt' k'=>⟨.str _,H,I.tok _,⟨_,rfl⟩,?_⟩
 ·rw[Zo qo,Zo qo];rfl
 ·rw[e1];have h2:(0:Int)<k:=by omega
  have:(1:Int)<=(2^63-1)/k:=Int.le_ediv_of_mul_le h2 qo;omega
 ·rw[e1,Nat.one_mul];exact Zo (show ¬(k.toNat>sizeLine) by rw[Yg];omega)
 ·rw[c1b h0];exact q
theorem b9j(K:W.Frag)(h:X.K=K):OpR X (compareOp .In) (rIn K false):=h▸c5m
theorem mMax_i{i j:Int}{H:Hp}{Q:VK}(k:Q (.int (if j>i then j else i)) H):mMax [.int i,.int j] H Q:=⟨i,j,rfl,k⟩
theorem mRepS_i{c:Nat}{k:Int}{H:Hp}{Q:VK}(h0:0<=k)(h1:k<=1000)(q:Q (.str ⟨(List.replicate k.toNat c).toArray⟩) H):mRepS (.str ⟨#[c]⟩) (.int k) H Q:=⟨c,k,rfl,rfl,h0,h1,q⟩
end
section
variable{σ:St}{H:Hp}{Q:VK}{D:Ends}{td ty tx tv:TE}
theorem tDGet_i(k:td σ H λx H1=>ty σ H1 λy H2=>∃a v,x=.ref a/\DGet H2 a y (some v)/\Q v H2):tDGet td ty σ H Q:=k
theorem c9h(k:td σ H λx H1=>∃a,x=.ref a/\IsD H1 a/\ty σ H1 λy H2=>tx σ H2 λz H3=>∃o,DGet H3 a y o/\Q (o.getD z) H3):c5r td ty tx σ H Q:=k
theorem sDPut_i(k:tv σ H λv H1=>td σ H1 λx H2=>ty σ H2 λy H3=>∃a H4,x=.ref a/\DPut H3 a y v H4/\D.nx σ H4):sDPut td ty tv D σ H:=k
end
section
variable{X:Cx}
def mIsN(n:Bool):R2:=λx y H Q=>y=.non/\Q (.bl (n^^decide (x=.non))) H
theorem b5d:OpR X (compareOp .Is) (mIsN false):=op_isN.imp λ_ _ _ _ h=>⟨h.1,by have:=h.2;rwa[Zn]at this⟩
theorem b2v:OpR X (compareOp .IsNot) (mIsN true):=op_notN.imp λ_ _ _ _ h=>⟨h.1,by have:=h.2;rwa[T7]at this⟩
theorem isN_non{n:Bool}{H:Hp}{Q:VK}(k:Q (.bl (!n)) H):mIsN n .non .non H Q:=⟨rfl,by rw[Zx rfl,Bool.xor_true];exact k⟩
def mInt:List V->Hp->VK->Prop:=λvs H Q=>match vs with
 | [.int i]=>Q (.int i) H
 | [.bl b]=>Q (.int (if b then 1 else 0)) H
 |_=>False
theorem b5e:a2b X (.type "int") mInt:=by
 intro pins s σ H xs us Q I r h;refine c5h pins s σ H xs us Q I r ?_;unfold mInt at h;split at h
 ·exact .inl ⟨_,rfl,h⟩
 ·exact .inr ⟨_,rfl,h⟩
 ·exact h.elim
theorem mInt_b{b:Bool}{H:Hp}{Q:VK}(k:Q (.int (if b then 1 else 0)) H):mInt [.bl b] H Q:=k
end
def But(p:Addr)(H H':Hp):Prop:=∀b o,b≠p->H b=some o->H' b=some o
theorem But.tup{K:W.Frag}{p:Addr}{H H':Hp}{ys:List V}(e:But p H H')(hp:H p=some (.lst ys)){a:Addr}{xs:List V}(h:SqT K H a xs):SqT K H' a xs:=by
 rcases h with(h|⟨o,h⟩)|h
 ·exact .inl (.inl (e _ _ (λz=>by subst z;rw[hp]at h;cases h) h))
 ·exact .inl (.inr ⟨o,e _ _ (λz=>by subst z;rw[hp]at h;cases h) h⟩)
 ·exact .inr h
theorem c6g(n:Nat)(m:Int)(h:0<=m):HT.sIx n n (some m)=min m.toNat n:=by
 unfold HT.sIx;have e:¬(m<0):=by omega
 simp only[e,W1]
theorem b3w(n k:Nat):HT.sIx n k none=k:=rfl
section
variable{X:Cx}{pins:List (Addr×Obj)}{σ:St}{H:Hp}{s:Shared}{h':Heap}
theorem Inv.turnedLaid{t':Nat}{ch:List Addr}{T:Addr}{o:HO}(I:Inv X pins σ H s)(hf:∀b∈ch,FpOk X pins H b)(k:∀b u,b∉ch->s.heap.get? b=some u->h'.get? b=some u)(hT:s.heap.objs.size<=T)
  (new:a1s X.prog X.w (upd H T o) h' T o):Inv X pins σ (upd H T o) { s with heap:=h',toks:=t'}:=by
 have hn:H T=none:=I.hok.fresh hT;have nin:∀b u,H b=some u->b∉ch:=λb u e hb=>by rw[(hf b hb).1]at e;cases e
 have neT:∀b u,s.heap.get? b=some u->b≠T:=λb u e=>Zv (Z1 (Zh e) hT)
 refine I.step (g':=s.gens) (d':=s.drawn) (ch:=ch) (λb hb=>⟨(hf b hb).2.2.2.1,(hf b hb).2.1,(hf b hb).2.2.2.2.1,(hf b hb).2.2.2.2.2⟩) (λb u _ _ hc e _=>k b u hc e) (λb u _ _ hc e _=>⟨u.slots,k b u hc e⟩)
  (λb u hc e n=>by rw[a0p (neT b u e)];exact n) (λb u hc e=>⟨u,k b u hc e⟩) (λb xs q=>by rw[a0p (a1p q hn)];exact q) (λb u xs q=>by rw[a0p (a1p q hn)];exact q) (λb ps q=>⟨#[],by rw[a0p (a1p q hn),q];simp⟩) (λm hm=>?_) (λb u e=>?_) I.bare
 ·obtain⟨q,es,ep,ho,r⟩:=hm;exact⟨q,es,ep,k _ q (λhb=>(hf _ hb).2.1 rfl) ho,r⟩
 ·by_cases hb:b=T
  ·subst hb;rw[a0c]at e;cases e;exact new
  ·rw[a0p hb]at e;refine(I.hok b u e).stay (λc v hc q=>k c v ?_ q) (λc q=>by rw[a0p (a1p q hn)];exact q) λc xs q=>by rw[a0p (a1p q hn)];exact q
   rcases hc with z|z
   ·rw[z];exact nin b u e
   ·exact nin c _ z
end
def Ite(K:W.Frag)(a:Addr)(n:Nat):It:=⟨λi H=>i<n/\∃xs,SqL K H a xs/\xs.length=n,λi H v H'=>∃T x,H T=none/\v=.ref T/\H'=upd H T (.tup [.int i,x])/\∀xs,SqL K H a xs->xs[i]? =some x,λi H=>i=n/\∃xs,SqL K H a xs/\xs.length=n⟩
theorem c6h{P:Program}{w:World}{K:W.Frag}{elts:List Expr}{k:Nat}{pos:Pos}(a e it:Addr)(n:Nat)(hei:e≠it)(hai:a≠it)(hae:a≠e):
  Turn P w K (.Tuple elts k pos) (Ite K a n) [e,it] e (λi h=>(∃old,IsEnum h e it (i:Nat) old)/\h.IsListIter it a i) where
 mem:=by simp
 obj:=λi h st b hb=>by
  obtain⟨⟨old,h1⟩,o,h2,h3,h4⟩:=st;simp only[Zi,Zs,Yv]at hb;rcases hb with rfl|rfl
  ·exact⟨_,h1,λv z=>by have z':Data.fields _=Data.cell v:=z;cases z'⟩
  ·exact⟨o,h2,λv z=>by rw[h4]at z;cases z⟩
 keep:=λi h h' st hk=>⟨let⟨old,q⟩:=st.1;⟨old,hk e qz _ q⟩,st.2.at λo q=>hk it qz o q⟩
 item:=by
  intro X hP hw hK hc i pins s σ H E I hf st hg;subst hP hw hK;obtain⟨hi,xs,hq,hl⟩:=hg;obtain⟨its,rv,p,hz⟩:=I.list hq;have hlen:=rv.length;have D:=Draws.list (prog:=X.prog) (w:=X.w) (A:=X.A.in1) (show X.A.in1.handled=none from I.ok.hd hc) it a hai its.toArray;have W:=WalksT.enumerateD D e hei (by simp only[Zi,Zs,Yv,not_or];exact⟨hei,Ne.symm hae⟩) qz;refine W.item i s _ _ (by rw[Zd];omega) ⟨st.1,st.2,p.isList⟩ λT vals h1 tk hPt hT htup hmid hk1=>?_
  obtain⟨t,x,hx,rfl⟩:=hPt;refine⟨.ref T,rfl,W.go elts k pos i T { s with heap:=h1,toks:=tk} _ _ hmid λh2 hst2 hk2=>?_⟩;have hx2:its[i]? =some x:=by simpa using hx
  have hix:i<xs.length:=by omega
  obtain⟨u,hu,ru⟩:=rv.get (Zb hix);rw[hu]at hx2;cases hx2;have hk:∀b u,b∉[e,it]->s.heap.get? b=some u->h2.get? b=some u:=λb u hb q=>hk2 b u hb (hk1 b u hb q)
  have hTn:T∉[e,it]:=by
   obtain⟨_,_,z1,z2⟩:=hmid;simp only[Zi,Zs,Yv,not_or];exact⟨z1,z2⟩
  have hTup:IsTup h2 T #[.int i t,x]:=by
   obtain⟨o,h3,h4⟩:=htup;exact⟨o,hk2 T o hTn h3,h4⟩
  refine⟨.ref T,upd H T (.tup [.int i,xs[i]]),I.turnedLaid (ch:=[e,it]) hf hk hT ⟨by simp[Yg],[.int i t,x],.cons ⟨t,rfl⟩ (.cons ru .nil),hTup⟩,rfl,?_,?_,λb hb=>?_⟩
  ·exact⟨T,xs[i],I.hok.fresh hT,rfl,rfl,λys hy=>by rw[I.list_inj hy hq];exact Zb hix⟩
  ·exact⟨by simpa using hst2.1,hst2.2.1⟩
  ·have nb:b≠T:=λz=>hTn (by rw[<-z];exact hb)
   rw[a0p nb];exact(hf b hb).1
 done:=by
  intro X hP hw hK hc i pins s σ H E I hf st hg;subst hP hw hK;obtain⟨hi,xs,hq,hl⟩:=hg;subst hi;obtain⟨its,rv,p,hz⟩:=I.list hq;obtain⟨old,h1⟩:=st.1;obtain⟨f0,f1,f2,f3,f4,f5⟩:=hf it qz;have hlen:=rv.length;exact wpAny_pyNext_enum_end (I.ok.hd hc) h1 st.2 p.isList (by simp;omega) λh' eb=>⟨rfl,I.turned (t':=s.toks) (λb o hb q=>eb b o hb q) f0 f1 f3 f4 f5⟩
 self:=λ_ _ _ _ _ st h=>by
  obtain⟨⟨old,h1⟩,_⟩:=st;exact wpAny_pyIter_enum h1 h
section
variable{X:Cx}
def iEnum(K:W.Frag)(ta:TA):TI:=λσ H R=>ta σ H λvs H1=>∃a xs,vs=[.ref a]/\SqL K H1 a xs/\R (Ite K a xs.length) H1
theorem c9i(K:W.Frag)(hK:X.K=K){elts:List Expr}{k:Nat}{tpos:Pos}{a:Expr}{ta:TA}{p pos:Pos}(hg:Gl X "enumerate")(hm:X.mg "enumerate"=none)(ha:PA X [a] ta)(hs:starEach [a] X.env=[(false,eval a X.env)]:=by rfl):PI X (.Tuple elts k tpos) (.Call (.Name "enumerate" p) [a] [] pos) (iEnum K ta):=by
 subst hK;intro pins s σ H R I h;refine Call_ (a4w I hg hm boot_enumerate (Yh (thn (ha pos pins s σ H _ I h) λus s1 ⟨vs,H1,I1,r1,q1⟩=>?_) hs rfl));obtain⟨l,xs,e,hq,q⟩:=q1;subst e;cases r1 with
 |cons r rr=>
  cases rr;cases r;obtain⟨its,rv,pl,hz⟩:=I1.list hq;have hlt:l<s1.heap.objs.size:=by obtain⟨o,ho,_⟩:=pl.isList;exact Zh ho
  refine call_enumerate_list pl.isList λh' he hit hsz hk=>wpAny_pyIter_enum he ?_
  refine⟨_,[s1.heap.objs.size+1,s1.heap.objs.size],_,_,H1,rfl,I1.kept (t':=s1.toks) hk,c6h l (s1.heap.objs.size+1) s1.heap.objs.size xs.length (Nat.succ_ne_self _) (Zv hlt) (Zv (Va hlt)),⟨⟨_,he⟩,hit⟩,λb hb=>?_,q⟩;simp only[Zi,Zs,Yv]at hb;rcases hb with rfl|rfl
  ·exact I1.fpOk (Vy _) (I1.hok.fresh (Vy _))
  ·exact I1.fpOk (Zg _) (I1.hok.fresh (Zg _))
end
theorem iEnum_i{K:W.Frag}{σ:St}{H:Hp}{ta:TA}{R:It->Hp->Prop}(k:ta σ H λvs H1=>∃a xs,vs=[.ref a]/\SqL K H1 a xs/\R (Ite K a xs.length) H1):iEnum K ta σ H R:=k
open PySem PySem.Spec PyProof.Rows PySem.W
section
variable{X:Cx}
theorem b3m{α β:Type}{R:α->β->Prop}:∀{xs:List α}{ys:List β},Paired R xs ys->∀(i:Nat)(y:β),ys[i]? =some y->∃x,xs[i]? =some x/\R x y
 |_,_,.nil,i,x,h=>by simp at h
 |_,_,.cons r t,0,x,h=>by simp at h;subst h;exact⟨_,rfl,r⟩
 |_,_,.cons r t,i+1,x,h=>by simpa using b3m t i x (by simpa using h)
theorem kV_rel{P:Program}{w:World}{k:Key}{u:Value}(h:(a1q P w).is k u=true):RelV (kV k) u:=by
 cases u with
 |int i t=>
  cases k with
  |inl j=>
   have e:(Sum.inl i:Key)=Sum.inl j:=(a1q P w).inj _ _ _ (a9d P w i t) h;cases e;exact⟨t,rfl⟩
  |inr x=>exact nomatch (show(Sum.inl i:Key)=Sum.inr x from(a1q P w).inj _ _ _ (a9d P w i t) h)
 |str x t=>
  cases k with
  |inr j=>
   have e:(Sum.inr x:Key)=Sum.inr j:=(a1q P w).inj _ _ _ (a9e P w x t) h;cases e;exact⟨t,rfl⟩
  |inl i=>exact nomatch (show(Sum.inr x:Key)=Sum.inl i from(a1q P w).inj _ _ _ (a9e P w x t) h)
 |_=>cases k<;>exact absurd (show false=true from h) Zp
def mLstK:List V->Hp->VK->Prop:=λvs H Q=>∃a kvs,vs=[.ref a]/\Rd H a (.dK kvs)/\∀p:Addr,H p=none->Q (.ref p) (upd H p (.lst (kvs.map λkv=>kV kv.1)))
theorem b3n:∀{xs:List V}{us:List Value},us.length=xs.length->(∀(j:Nat)(v:Value),us[j]? =some v->∃x,xs[j]? =some x/\RelV x v)->Vals xs us
 | [],[],_,_=>.nil
 |x::r,u::t,hl,h=>by
  obtain⟨y,h1,h2⟩:=h 0 u rfl
  simp at h1
  subst h1;exact .cons h2 (b3n (by simpa using hl) λj v e=>by simpa using h (j+1) v (by simpa using e))
 | [],_::_,hl,_=>by simp at hl
 |_::_,[],hl,_=>by simp at hl
theorem c9j(hc:X.calm=true):a2b X (.type "list") mLstK:=by
 intro pins s σ H vs us Q I r h;obtain⟨a,kvs,rfl,ha,q⟩:=h;obtain⟨u,rfl,r1⟩:=vals1 r;cases r1;obtain⟨z,lo,xs,rel,dd⟩:=a8s I.hok ha;obtain⟨ep,dd⟩:=dd.dictAt;have hlx:=rel.length;refine kdl_call (kdl_dict (knd:=a1q X.prog X.w) lo) (I.ok.hd hc) dd qo λh' tk acc c hk hS hacc=>?_
 refine⟨.ref s.heap.objs.size,_,I.laid (a:=s.heap.objs.size) (o:=.lst (kvs.map λkv=>kV kv.1)) (t':=tk) hk (Zg _) ⟨by simp;omega,acc.toList,c,?_,by simpa using hS⟩,rfl,q _ (I.hok.fresh (Zg _))⟩;refine b3n (by rw[Xl,hacc.1,length_map,hlx]) λj v e=>?_
 obtain⟨k,x,h1,h2⟩:=hacc.2 j v (by rw[<-Wp];exact e);obtain⟨kv,h3,h4,h5⟩:=b3m rel j (k,x) h1;refine⟨kV k,by rw[Z5,h3];exact Y0 (λz=>some (kV z)) h4,?_⟩;exact kV_rel h2
end
open PySem.AutoSeq1 (wpAny_loadPart')
section
variable{X:Cx}
theorem b2w(K:W.Frag)(hK:X.K=K){pos:Pos}{es:List Expr}{k:Nat}{t:TGs}{n:Nat}(hc:X.calm=true)(h:PGs X es t)
  (hn:(assignEach es X.env).length=n:=by rfl)(hst:(assignEach es X.env).findIdx? (·.1)=none:=by rfl):PG X (.Tuple es k pos) (gTup K n t):=hK▸c4z hc h hn hst
end
section
variable{K:W.Frag}{σ:St}{H:Hp}{Q:VK}{D:Ends}{a:Addr}{xs:List V}{n:Nat}
theorem b9k{t:TGs}{N:St->Hp->Prop}(hs:SqT K H a xs)(hl:xs.length=n)(k:t xs σ H N):gTup K n t (.ref a) σ H N:=⟨a,xs,rfl,hs,hl,k⟩
theorem gCons_i{t:TG}{u:TGs}{v:V}{r:List V}{N:St->Hp->Prop}(k:t v σ H λσ' H'=>u r σ' H' N):gCons t u (v::r) σ H N:=⟨v,r,rfl,k⟩
theorem gNil_i{N:St->Hp->Prop}(k:N σ H):gNil [] σ H N:=⟨rfl,k⟩
end
section
variable{X:Cx}
theorem a2c{A:Around}{s:Shared}{a b:Key}{u v:Value}(ra:RelV (kV a) u)(rb:RelV (kV b) v):SeqAt.EqAt A s u v (decide (a=b)):=by
 cases a with
 |inl i=>
  obtain⟨t,rfl⟩:=ra;cases b with
  |inl j=>
   obtain⟨t',rfl⟩:=rb;rw[c4u];have:=Vr (A:=A) (s:=s) i t j t'
   simpa[PyData.eqv]using this
  |inr y=>
   obtain⟨t',rfl⟩:=rb;rw[c4w];exact U2 i t y t'
 |inr x=>
  obtain⟨t,rfl⟩:=ra;cases b with
  |inl j=>
   obtain⟨t',rfl⟩:=rb;rw[c4x];exact U0 x t j t'
  |inr y=>
   obtain⟨t',rfl⟩:=rb;rw[c4v];have:=Vq (A:=A) (s:=s) x t y t';have e:(x==y)=decide (x=y):=by
    by_cases h:x=y
    ·subst h;simp
    ·rw[Zo h];exact Yr.mpr h
   rw[<-e]
   simpa[PyData.eqv]using this
theorem all_eq(k1 k2:List Key):((List.range (min k1.length k2.length)).all (λj=>decide (k1[j]? =k2[j]?))&&(k1.length==k2.length))=decide (k1=k2):=by
 by_cases h:k1=k2
 ·subst h
  simp
 ·rw[Zo h];cases hl:(k1.length==k2.length)with
  |false=>rw[Xj]
  |true=>
   have hl:k1.length=k2.length:=eq_of_beq hl;rw[V7];refine Bool.eq_false_iff.mpr λz=>h ?_
   apply List.ext_getElem?
   intro j
   by_cases hj:j<k1.length
   ·exact Zf (Xf.mp z j (Y2.mpr qo))
   ·rw[X2 qo,X2 qo]
end
structure QE(X:Cx)(e:Expr)(t:TE):Prop where
 pe:PE X e t
structure QS(X:Cx)(st:Stmt)(t:TS):Prop where
 ps:PS X st t
structure QSs(X:Cx)(l:List Stmt)(t:TS):Prop where
 pss:PSs X l t
section
variable{X:Cx}{pos pos':Pos}{e k v:Expr}{te tk tv:TE}{st:Stmt}{rest:List Stmt}{t u:TS}
theorem a3x{i:Nat}{x:Str}(hN:X.N.Nodup)(hi:X.N[i]? =some x)(hx:Loc X.env.scope x)(he:QE X e te)(hs:swapsWith e (some (.Name x pos')) pos.line X.env=pure false)(hf:X.fn x=true\/X.env.scope.names.lookup x=some .local):QS X (.Assign [.Name x pos'] e pos) (tAsg te (a7r i)):=⟨a0s hN hi hx he.pe hs hf⟩
theorem a1d(h1:QS X st t)(h2:QSs X rest u):QSs X (st::rest) (tSeq t u):=⟨a0g h1.ps h2.pss⟩
theorem a3l(h1:QS X st t):QSs X [st] t:=⟨a0h h1.ps⟩
end
section
variable{X:Cx}{tg:Expr}
def mAbs:List V->Hp->VK->Prop:=λvs H Q=>∃i,vs=[.int i]/\Q (.int (if i<0 then -i else i)) H
theorem c6i:a2b X (.builtin "abs") mAbs:=c8n
theorem mAbs_i{i:Int}{H:Hp}{Q:VK}(k:Q (.int (if i<0 then -i else i)) H):mAbs [.int i] H Q:=⟨i,rfl,k⟩
end
def TbIs(h:Heap)(T:Addr):Prop:=∃oT ts,h.get? T=some oT/\oT.data=.fields ts/\ts[3]? =some Value.none
structure Left(fs:List Addr)(ea:Addr)(o:Obj)(ok:Addr->Prop)(h h':Heap):Prop where
 keep:∀b u,b≠ea->¬ok b->b∉fs->h.get? b=some u->h'.get? b=some u
 slot:∀b u,b≠ea->¬ok b->h.get? b=some u->∃sl,h'.get? b=some { u with slots:=sl}
 there:∀b u,h.get? b=some u->∃u',h'.get? b=some u'
 tb:∃T,h.objs.size<=T/\TbIs h' T/\h'.get? ea=some (o.mapFields (·.setIfInBounds 1 (.ref T)))
theorem a5w{o:Obj}{vs:Array Value}(f:Array Value->Array Value)(h:o.data=.fields vs):(o.mapFields f).data=.fields (f vs):=X1 h f
theorem c2e(o:Obj)(f:Array Value->Array Value):(o.mapFields f).dict=o.dict:=by
 unfold Obj.mapFields
 split<;>rfl
section
variable{M:Model}{A:Around}{E:Value->Shared->Prop}
theorem b3o{s:Shared}{base:Heap}{env:Env}{outer:List Env}{L ea:Addr}{o:Obj}{vs:Array Value}{hd0:Value}{had:Bool}{Q:Unit->Shared->Prop}
  (fr:A.frames=some (env::outer))(ff:s.heap.FunFrames base (env::outer))(fe:env.frame=some L)(ge:s.heap.get? ea=some o)(gd:o.data=.fields vs)(g1:1<vs.size)
  (q:∀h',Left (frs (env::outer)) ea o (λ_=>False) s.heap h'->Q () { s with heap:=h'}):
  wpAny M A (do let a <-frameOf env;let pl <-entryPlaceOf L had;let b <-EntryCells.newEntry hd0 a .none (rawInt L) .none pl;setField (.ref ea) 1 b) (λ_ s1=>wpAny M A (setFlight (.ref ea) none) Q E s1) E s:=by
 have nea:ea∉frs (env::outer):=λz=>by
  obtain⟨_,u,hu,hn⟩:=ff.mem z;rw[ge]at hu;cases hu;exact hn vs gd
 refine Za (wpAny_frameOf_fun fr ff fe λhA sA=>?_);refine Za (wpAny_entryPlaceOf λpl hpl=>?_);unfold EntryCells.newEntry newFields;refine Za (Yo ?_ (hpl.sizeOk5 _ _ _ _ _));generalize hob:({ cls:=.type "traceback",dict:=none,data:=.fields ([hd0,.ref L,.none,rawInt L,.none]++(if pl.isEmpty then List.replicate 6 Value.none else pl)).toArray}:Obj)=ob;have obd:ob.data=.fields ([hd0,.ref L,.none,rawInt L,.none]++(if pl.isEmpty then List.replicate 6 Value.none else pl)).toArray:=by rw[<-hob]
 have eA:hA.get? ea=some o:=(sA.2.1 ea nea).trans ge;have eB:=Zc (h:=hA) ob eA;have nT:hA.objs.size≠ea:=Y6 (Zh eA);refine Xs eB gd g1 ?_;have dC:=a5w (·.setIfInBounds 1 (Value.ref hA.objs.size)) gd;have eC:=Z3 (Obj.mapFields (·.setIfInBounds 1 (Value.ref hA.objs.size))) eB (Xo dC);have tC:=(Zz (hA.push ob) (Obj.mapFields (·.setIfInBounds 1 (Value.ref hA.objs.size))) (Ne.symm nT)).trans (Zk hA (by cases ob;cases hob;rfl));have sz3:3<([hd0,.ref L,.none,rawInt L,.none]++(if pl.isEmpty then List.replicate 6 Value.none else pl)).toArray.size:=by
  simp only[Zd,Zj,length_cons,length_nil];omega
 unfold setFlight;refine Za (Z0 eC dC (x:=.ref hA.objs.size) (by simp[g1]) ?_);rw[if_pos (show(Value.ref hA.objs.size !=Value.none)=true from by simp)];refine Xs tC obd sz3 (q _ ?_);have kept:∀b u,b≠ea->hA.get? b=some u->(((hA.push ob).update ea (Obj.mapFields (·.setIfInBounds 1 (Value.ref hA.objs.size)))).update hA.objs.size (Obj.mapFields (·.setIfInBounds 3 ((none:Option Addr).elim Value.none λf=>rawInt f)))).get? b=some u:=λb u hb hu=>by
  rw[Zz _ _ (Y6 (Zh hu)),Zz _ _ (Ne.symm hb)];exact Zc _ hu
 refine⟨λb u hb _ hf hu=>kept b u hb ((sA.2.1 b hf).trans hu),λb u hb _ hu=>?_,λb u hu=>?_,hA.objs.size,?_,?_,?_⟩
 ·obtain⟨sl,e⟩:=sA.2.2 b u hu;exact⟨sl,kept b _ hb e⟩
 ·by_cases hb:b=ea
  ·subst hb;exact⟨_,by rw[Zz _ _ nT];exact eC⟩
  ·obtain⟨sl,e⟩:=sA.2.2 b u hu;exact⟨_,kept b _ hb e⟩
 ·rw[sA.1];exact Zg _
 ·exact⟨_,_,Z3 _ tC (Xo (a5w _ obd)),a5w _ obd,by simp[sz3]⟩
 ·rw[Zz _ _ nT];exact eC
theorem b1m{s:Shared}{base:Heap}{env:Env}{outer:List Env}{L ea:Addr}{o:Obj}{vs:Array Value}{ok:Addr->Prop}{Q:Unit->Shared->Prop}
  (fr:A.frames=some (env::outer))(ff:s.heap.FunFrames base (env::outer))(fe:env.frame=some L)(ge:s.heap.get? ea=some o)(gd:o.data=.fields vs)
  (tb:vs[1]? =some .none\/∃T,vs[1]? =some (.ref T)/\T≠ea/\ok T/\TbIs s.heap T)
  (q:∀h',Left (frs (env::outer)) ea o ok s.heap h'->Q () { s with heap:=h'}):wpAny M A (noteFrame (.ref ea) env) (λ_ s1=>wpAny M A (setFlight (.ref ea) none) Q E s1) E s:=by
 unfold noteFrame;simp only[fe];rcases tb with g|⟨T,g,nT,kT,oT,ts,hT,dT,t3⟩
 ·refine Za (Z0 ge gd g ?_);rw[if_neg qd];refine b3o fr ff fe ge gd (Yk.mp g).1 λh' l=>q h' ⟨λb u hb _=>l.keep b u hb id,λb u hb _=>l.slot b u hb id,l.there,l.tb⟩
 ·refine Za (Z0 ge gd g ?_);rw[if_pos (show(Value.ref T !=Value.none)=true from by simp)];refine Za (Z0 hT dT t3 ?_);rw[if_neg (show ¬((Value.none==rawInt L)=true)from by simp[rawInt])];refine Za (Xs hT dT (Yk.mp t3).1 ?_);have oth:∀b,b≠T->(s.heap.update T (Obj.mapFields (·.setIfInBounds 3 Value.none))).get? b=s.heap.get? b:=λb hb=>Zz _ _ (Ne.symm hb)
  have self:=Z3 (Obj.mapFields (·.setIfInBounds 3 Value.none)) hT (Xo (a5w _ dT));have nrec:∀b u,s.heap.get? b=some u->(∀ws,u.data≠.fields ws)->b≠T:=λb u hu hn z=>by
   subst z;rw[hT]at hu;cases hu;exact hn ts dT
  refine b3o fr (ff.of_keeps λb u hu hn=>⟨u,(oth b (nrec b u hu hn)).trans hu,rfl⟩) fe ((oth ea (Ne.symm nT)).trans ge) gd (Yk.mp g).1 λh' l=>q h' ⟨λb u hb hk hf hu=>l.keep b u hb id hf ((oth b (λz=>hk (z▸kT))).trans hu),λb u hb hk hu=>l.slot b u hb id ((oth b (λz=>hk (z▸kT))).trans hu),λb u hu=>?_,?_⟩
  ·by_cases hb:b=T
   ·subst hb;exact l.there b _ self
   ·exact l.there b u ((oth b hb).trans hu)
  ·obtain⟨T2,h1,h2,h3⟩:=l.tb;exact⟨T2,by rw[Heap.size_after_update]at h1;exact h1,h2,h3⟩
end
open PySem PySem.W
abbrev newS:String:="ValueError.__new__"
structure XCls(K:Frag)(C:Addr)(bm:List Value):Prop where
 obj:∃nm q N bs sn sub ab col dd k0 k1 k2 k3 k5,K.lookup C=some (excClassObj nm q C N bs bm true sn sub ab col dd k0 k1 k2 k3 k5 newS)
 hasV:bm.contains (.type "ValueError")=true
 hasB:bm.contains (.type "BaseException")=true
 noA:bm.contains (.type "AttributeError")=false
 noN:bm.contains (.type "NameError")=false
section
variable{prog:Program}{w:World}{A:Around}{E:Value->Shared->Prop}{R:Result->Shared->Prop}{h:Heap}{g:Array GenState}{d:Drawn}{t:Nat}{os:OsState}
variable{nm q:Str}{C N:Addr}{bs bm:List Value}{sn:List Str}{sub:List Value}{ab:Bool}{col:Option Bool}{dd:Option Addr}{k0 k1 k2 k3 k5:Option Value}
theorem x_check(hV:bm.contains (.type "ValueError")=true){rest:List Value}{Q:Unit->Shared->Prop}(hC:h.get? C=some (excClassObj nm q C N bs bm true sn sub ab col dd k0 k1 k2 k3 k5 newS))(hq:Q () ⟨h,g,d,t,os⟩):
  wpAny (model prog w) A (checkBuiltinCall newS ⟨.ref C::rest,[]⟩) Q E ⟨h,g,d,t,os⟩:=by
 have F:=Vk;have hc:(Value.ref C::bm).contains (.type "ValueError")=true:=by rw[Xq,hV,Uh]
 have hs:=F.noStar;simp only[checkBuiltinCall,F.newKind,F.newSplit,F.newRow]
 repeat (first|refine Yj hC ?_| (refine Xk hC ?_;rw[hc])|refine wpAny_staticBase_exc hC ?_|refine wpAny_madeBy_exc hC ?_|simp only[bne_self_eq_false,Xr,W1]|wp_step)
 exact hq
theorem x_new(hV:bm.contains (.type "ValueError")=true)(hA:bm.contains (.type "AttributeError")=false)(hN:bm.contains (.type "NameError")=false){rest:List Value}(hC:h.get? C=some (excClassObj nm q C N bs bm true sn sub ab col dd k0 k1 k2 k3 k5 newS))
  (hq:R (.ok (.ret (.ref (h.objs.size+1)))) ⟨(h.push { cls:=.type "tuple",data:=.seq rest.toArray}).push { cls:=.ref C,data:=.fields #[.ref h.objs.size,.none,.none,.none,.bool false,.none]},g,d,t,os⟩)(hl:rest.length<=sizeLine):
  codeAny (model prog w) A (.builtin newS ⟨.ref C::rest,[]⟩) R ⟨h,g,d,t,os⟩:=by
 have F:=Vk;have he:=F.ends;have c1:(Value.ref C::bm).contains (.type "ValueError")=true:=by rw[Xq,hV,Uh]
 have c2:(Value.ref C::bm).contains (.type "AttributeError")=false:=by rw[Xq,hA];rfl
 have c3:(Value.ref C::bm).contains (.type "NameError")=false:=by rw[Xq,hN];rfl
 refine codeAny_builtinAt F.entry ?_;unfold Builtin.«BaseException.__new__»;refine PySem.wpAt_bind ?_
 show PySem.wpAt _ _ _ (stack>>=_) _ _ _
 refine PySem.wpAt_bind (PySem.wpAt_stack λp below=>Rf ?_)
 wp_walk
 refine Rf ?_;rw[F.owner]
 repeat (first|with_reducible refine wpAny_madeHere_exc F.canon hC ?_|with_reducible refine Yj hC ?_| (with_reducible refine Xk hC ?_;first|rw[c1]|rw[c2]|rw[c3])|wp_step)
 show R _ _
 rw[Yc];exact hq
theorem x_tcall{K:Frag}{fI:Addr}(KX:K.In h)(X:XCls K C bm)(hI:findIn K (.ref C) "__init__"=some (some (.ref fI)))(hf:typeIn K (.ref fI)=some (.type "function")){rest:List Value}{Q:PySem.Fin->Shared->Prop}(hl:rest.length<=sizeLine)
  (hq:wpAny (model prog w) A (call (.ref fI) (.ref (h.objs.size+1)::rest)) (λr s'=>r=.none/\Q (.done (.ret (.ref (h.objs.size+1)))) s') E ⟨((h.push { cls:=.type "tuple",data:=.seq rest.toArray}).push { cls:=.ref C,data:=.fields #[.ref h.objs.size,.none,.none,.none,.bool false,.none]}),g,d,t,os⟩):
  wpAny (model prog w) A (Builtin.«type.__call__» ⟨.ref C::rest,[]⟩) Q E ⟨h,g,d,t,os⟩:=by
 obtain⟨nm,q,N,bs,sn,sub,ab,col,dd,k0,k1,k2,k3,k5,hC'⟩:=X.obj;have hC:=KX _ _ hC';have F:=Vk
 repeat (first|with_reducible refine Yj hC ?_|with_reducible refine wpAny_madeBy_exc hC ?_|wp_step)
 refine codeAny_call_builtin_code (Rz _ F.quiet) (x_check X.hasV hC ?_);refine x_new X.hasV X.noA X.noN hC ?_ hl
 show wpAny _ _ _ _ _ _
 have kp:∀b o,h.get? b=some o->((h.push { cls:=.type "tuple",data:=.seq rest.toArray}).push { cls:=.ref C,data:=.fields #[.ref h.objs.size,.none,.none,.none,.bool false,.none]}).get? b=some o:=λb o e=>Zc _ (Zc _ e)
 have hC2:=kp _ _ hC;have KX2:K.In ((h.push { cls:=.type "tuple",data:=.seq rest.toArray}).push { cls:=.ref C,data:=.fields #[.ref h.objs.size,.none,.none,.none,.bool false,.none]}):=KX.keeps kp;have hget:((h.push { cls:=.type "tuple",data:=.seq rest.toArray}).push { cls:=.ref C,data:=.fields #[.ref h.objs.size,.none,.none,.none,.bool false,.none]}).get? (h.objs.size+1)=some { cls:=.ref C,data:=.fields #[.ref h.objs.size,.none,.none,.none,.bool false,.none]}:=by heap_get
 have cC:(Value.ref C::bm).contains (.ref C)=true:=by simp
 unfold isInstance
 repeat (first|with_reducible refine Yj hget ?_| (with_reducible refine Xk hC2 ?_;rw[cC])|wp_step)
 show wpAny _ _ (typeLookup (.ref C) _) _ _ _
 refine(looks_findIn KX2 hI).here ?_;refine Xh (Za ((bind_fn KX2 _ hf).here ?_));refine Za (Xw hq (λr s' hr=>?_) λ_ _ x=>x);obtain⟨rfl,hQ⟩:=hr
 wp_walk
 exact hQ
theorem x_call{K:Frag}{fI:Addr}(KX:K.In h)(X:XCls K C bm)(hI:findIn K (.ref C) "__init__"=some (some (.ref fI)))(hf:typeIn K (.ref fI)=some (.type "function")){rest:List Value}{Q:Value->Shared->Prop}(hl:rest.length<=sizeLine)
  (hq:wpAny (model prog w) (A.under (.builtin "type.__call__" ⟨.ref C::rest,[]⟩)) (call (.ref fI) (.ref (h.objs.size+1)::rest)) (λr s'=>r=.none/\Q (.ref (h.objs.size+1)) s') E ⟨((h.push { cls:=.type "tuple",data:=.seq rest.toArray}).push { cls:=.ref C,data:=.fields #[.ref h.objs.size,.none,.none,.none,.bool false,.none]}),g,d,t,os⟩):
  wpAny (model prog w) A (call (.ref C) rest) Q E ⟨h,g,d,t,os⟩:=by
 obtain⟨nm,q,N,bs,sn,sub,ab,col,dd,k0,k1,k2,k3,k5,hC'⟩:=X.obj;have hC:=KX _ _ hC';have f1:=tc_lookup;have f2:=tc_bind (.ref C);have hT:(⟨h,g,d,t,os⟩:Shared).TypeIs (.ref C) "type":=⟨_,hC,rfl⟩;refine Ub (codeAny_of_tree ?_)
 show wpAny _ _ (callAny (.ref C) _) _ _ _
 repeat (any_goals (first|assumption|with_reducible refine Yj hC ?_|wp_step))
 refine⟨rfl,?_⟩;exact codeAny_call_builtin_at (Rz _ qk) entry_typeCall (wpAny_check_type_call_sub hC (x_tcall KX X hI hf hl hq))
end
section
variable{prog:Program}{w:World}{A:Around}{E:Value->Shared->Prop}{R:Result->Shared->Prop}{h:Heap}{g:Array GenState}{d:Drawn}{t:Nat}{os:OsState}{K:Frag}{C e:Addr}{bm:List Value}{o:Obj}{vs:Array Value}
theorem x_init(KX:K.In h)(X:XCls K C bm)(he:h.get? e=some o)(hc:o.cls=.ref C)(hd:o.data=.fields vs){t0:Addr}(h0:vs[0]? =some (.ref t0)){v:Value}{Q:Value->Shared->Prop}
  (hq:Q .none ⟨(h.push { cls:=.type "tuple",data:=.seq [v].toArray}).update e (Obj.mapFields (·.setIfInBounds 0 (.ref h.objs.size))),g,d,t,os⟩):
  wpAny (model prog w) A (call (.builtin "ValueError.__init__") [.ref e,v]) Q E ⟨h,g,d,t,os⟩:=by
 obtain⟨nm,q,N,bs,sn,sub,ab,col,dd,k0,k1,k2,k3,k5,hC'⟩:=X.obj;have hC:=KX _ _ hC';have F:=Vk;have c1:(Value.ref C::bm).contains (.type "ValueError")=true:=by rw[Xq,X.hasV,Uh]
 have hs:=F.noStar;have ck:∀Q':Unit->Shared->Prop,Q' () ⟨h,g,d,t,os⟩->∀A' E',wpAny (model prog w) A' (checkBuiltinCall "ValueError.__init__" ⟨[.ref e,v],[]⟩) Q' E' ⟨h,g,d,t,os⟩:=by
  intro Q' hq' A' E';simp only[checkBuiltinCall,F.initKind,F.initSplit,F.initRow]
  repeat (first| (with_reducible refine Yj he ?_;rw[hc])|with_reducible refine Yj hC ?_| (with_reducible refine Xk hC ?_;rw[c1])|wp_step)
  exact hq'
 refine Ub (Sy F.init.plain F.initEntry (ck _ ?_ _ _));unfold Builtin.«BaseException.__init__»
 dsimp only
 rw[if_neg qz];unfold newTuple Builtin.BaseException.bexcPut;have hz:0<vs.size:=(Yk.mp h0).1;have he1:=Zc (h:=h) { cls:=.type "tuple",data:=.seq [v].toArray} he;refine Za (Yo (Za (Za (Z0 he1 hd h0 (Za (Xs he1 hd hz ?_))))) (by show[v].toArray.size<=sizeLine;rw[Zd,Yg];simp));exact Vj (Ze hq)
theorem x_raise{M:Model}{env:Env}{s:Shared}{x:Sem Value}{Q:Flow->Shared->Prop}(hh:A.handled=none)
  (hx:wpAny M A x (λv s1=>∃e o vs C bm,v=.ref e/\XCls K C bm/\K.In s1.heap/\s1.heap.get? e=some o/\o.cls=.ref C/\o.data=.fields vs/\vs[1]? =some .none/\E (.ref e) s1) E s):
  wpAny M A (raiseStmt env (some x) none) Q E s:=by
 unfold raiseStmt;refine Za (Xw hx (λv s1 h1=>?_) λ_ _ x=>x);obtain⟨e,o,vs,C,bm,rfl,X,KX,he,hc,hd,h1,hE⟩:=h1;obtain⟨hp,g,d,tk,os⟩:=s1;obtain⟨nm,q,N,bs,sn,sub,ab,col,dd,k0,k1,k2,k3,k5,hC'⟩:=X.obj;have hC:=KX _ _ hC';have cB:(Value.ref C::bm).contains (.type "BaseException")=true:=by rw[Xq,X.hasB,Uh]
 obtain⟨oc,od,odt,osl⟩:=o
 dsimp only at hc hd
 subst hc hd
 repeat (first|with_reducible refine Yj he ?_|with_reducible refine Yj hC ?_| (with_reducible refine Xk hC ?_;rw[cB])| (with_reducible refine Z0 he rfl h1 ?_)|wp_step)
 exact wpAny_raiseNew_none hh hE
theorem b9l(self:Value)(what:Str):∀l:List Value,(∀v∈l,∃a,v=Value.ref a)->∀r,refuseLoop self what (l++r)=refuseLoop self what r
 | [],_,_=>rfl
 |v::l,h,r=>by
  obtain⟨a,rfl⟩:=h v Yp;rw[X0,refuseLoop_ref,b9l self what l (λv hv=>h v (Z8 _ hv)) r]
def XUp(bm:List Value):Prop:=∃l:List Value,(∀v∈l,∃a,v=Value.ref a)/\bm=l++[.type "ValueError",.type "Exception",.type "BaseException",.type "object"]
theorem x_set(KX:K.In h)(X:XCls K C bm)(U:XUp bm)(sa:findIn K (.ref C) "__setattr__"=some (some (.builtin "object.__setattr__"))){name:Str}(hn:findIn K (.ref C) name=some none)
  (he:h.get? e=some o)(hc:o.cls=.ref C)(hd:o.data=.fields vs){mA:Str->Option Value}{ns:List Str}(hw:PySem.Within mA ns)(hz:ns.length<=1000)(hm:(o.dict=none/\∀n,mA n=none)\/∃dx,o.dict=some dx/\dx≠e/\h.Ns1 dx mA){v:Value}{Q:Unit->Shared->Prop}
  (hq:∀h' dx tk,(o.dict=some dx\/(o.dict=none/\h.objs.size<=dx))->h'.get? e=some { o with dict:=some dx}->dx≠e->h'.Ns1 dx (λy=>if y=name then some v else mA y)->(∀b u,b≠e->b≠dx->h.get? b=some u->h'.get? b=some u)->Q () ⟨h',g,d,tk,os⟩):
  wpAny (model prog w) A (setAttr (.ref e) name v) Q E ⟨h,g,d,t,os⟩:=by
 obtain⟨nm,q,N,bs,sn,sub,ab,col,dd,k0,k1,k2,k3,k5,hC'⟩:=X.obj;have hC:=KX _ _ hC';obtain⟨l,hl,hbm⟩:=U;have SF:=F.store_ValueError;have hpass:refuseLoop (.ref e) "__setattr__" (.ref C::bm)=pure ():=by
  rw[refuseLoop_ref,hbm,b9l _ _ l hl];exact SF.passes (.ref e)
 have cO:(Value.ref C::bm).contains (.type "object")=true:=by rw[Xq,hbm];simp
 obtain⟨oc,od,odt,osl⟩:=o
 dsimp only at hc hd
 subst hc hd;have f3:=SF.slot.bind (.ref e);have ck:∀(Q':Unit->Shared->Prop)(u:Nat)(nv:Value),Q' () ⟨h,g,d,u,os⟩->∀A' E',wpAny (model prog w) A' (checkBuiltinCall "object.__setattr__" ⟨[.ref e,nv,v],[]⟩) Q' E' ⟨h,g,d,u,os⟩:=by
  intro Q' u nv hq' A' E';have ha:=SF.args (.ref e) nv v;simp only[checkBuiltinCall,SF.kind,SF.split];refine Za ?_;unfold isInstance
  repeat (first|with_reducible refine Yj he ?_| (with_reducible refine Xk hC ?_;rw[cO])|wp_step)
  exact hq'
 unfold setAttr callSpecial? specialOf
 repeat (any_goals (first|assumption|with_reducible refine Yj he ?_|with_reducible refine(looks_findIn KX sa).here ?_|wp_step))
 refine Sy SF.slot.plain SF.entry (ck _ _ _ ?_ _ _);unfold Builtin.«object.__setattr__»
 repeat (first|rw[refuse_eq]|rw[hpass]|with_reducible refine Yj he ?_|with_reducible refine wpAny_mroOf_exc hC ?_|with_reducible refine(looks_findIn KX hn).here ?_|wp_step)
 rcases hm with⟨hdn,hmA⟩|⟨dx,hdx,hne,hns⟩
 ·dsimp only at hdn
  subst hdn
  dsimp only
  rw[if_neg (by simp[typeHasDict])];have he1:(h.push { cls:=.type "dict",data:=.dict #[]}).get? e=some ⟨.ref C,none,.fields vs,osl⟩:=Zc _ he;have nes:e≠h.objs.size:=Zv (Zh he);refine Za (wpAny_alloc' ?_);refine Za (wpAny_update' he1 ?_);refine Ze ?_;have gd:=(Rh (h.push { cls:=.type "dict",data:=.dict #[]}) h.objs.size e (λo=>{ cls:=o.cls,dict:=some h.objs.size,data:=o.data,slots:=o.slots}) nes.symm).trans (Heap.get?_push_at rfl rfl);have nd:((h.push { cls:=.type "dict",data:=.dict #[]}).update e λo=>{ cls:=o.cls,dict:=some h.objs.size,data:=o.data,slots:=o.slots}).Ns h.objs.size (λ_=>none):=⟨_,#[],_,gd,rfl,λ_ z=>absurd z qz,λ_=>rfl⟩
  show wpAny _ _ (Builtin.ObjectAttr.storeInDict h.objs.size (.str name _) name v) _ _ _
  unfold Builtin.ObjectAttr.storeInDict Builtin.ObjectAttr.newKeyGuard;refine Za (Ze (Za (Sb (Heap.Ns1.of_empty nd) λh' hn' hs=>?_)));obtain⟨oD,esD,epD,hoD,hdD,hcD⟩:=hn'.count (Tb name v PySem.Within.nil);refine Za (Ti hoD (by rw[hdD];exact Tj (Yd hcD (by rw[length_cons,length_nil,Yg];omega))) ?_)
  wp_walk
  have ge':h'.get? e=some ⟨.ref C,some h.objs.size,.fields vs,osl⟩:=(hs.2 e nes).trans (Z3 _ he1 rfl);refine hq h' h.objs.size _ (.inr ⟨rfl,Zg _⟩) ge' nes.symm ?_ (λb u hb hbd hu=>?_)
  ·obtain⟨o',es,ep,e1,e2,e3,eu,e4⟩:=hn';exact⟨o',es,ep,e1,e2,e3,eu,λy=>by rw[e4 y];by_cases hy:y=name<;>simp[hy,hmA]⟩
  ·exact(hs.2 b hbd).trans ((Rh _ _ _ _ hb).trans (Zc _ hu))
 ·dsimp only at hdx
  subst hdx
  dsimp only
  refine Ze ?_
  show wpAny _ _ (Builtin.ObjectAttr.storeInDict dx (.str name _) name v) _ _ _
  unfold Builtin.ObjectAttr.storeInDict Builtin.ObjectAttr.newKeyGuard;refine Za (Ze (Za (Sb hns λh' hn' hs=>?_)));obtain⟨oD,esD,epD,hoD,hdD,hcD⟩:=hn'.count (Tb name v hw);refine Za (Ti hoD (by rw[hdD];exact Tj (Yd hcD (by rw[length_cons,Yg];omega))) ?_)
  wp_walk
  exact hq h' dx _ (.inl rfl) ((hs.2 e hne.symm).trans he) hne hn' (λb u hb hbd hu=>(hs.2 b hbd).trans hu)
theorem x_match(KX:K.In h)(X:XCls K C bm)(he:h.get? e=some o)(hc:o.cls=.ref C){C':Addr}{bm':List Value}(X':XCls K C' bm'){Q:Bool->Shared->Prop}(hq:Q ((Value.ref C::bm).contains (.ref C')) ⟨h,g,d,t,os⟩):
  wpAny (model prog w) A (excMatches (.ref e) (.ref C')) Q E ⟨h,g,d,t,os⟩:=by
 obtain⟨nm,q,N,bs,sn,sub,ab,col,dd,k0,k1,k2,k3,k5,hC'⟩:=X.obj;have hC:=KX _ _ hC';obtain⟨nm',q',N',bs',sn',sub',ab',col',dd',l0,l1,l2,l3,l5,hD'⟩:=X'.obj;have hD:=KX _ _ hD';have cB:(Value.ref C'::bm').contains (.type "BaseException")=true:=by rw[Xq,X'.hasB,Uh]
 have f:=tc_notTuple;generalize hb:(Value.ref C::bm).contains (.ref C')=b at hq;unfold excMatches
 repeat (first| (with_reducible refine Yj he ?_;rw[hc])|with_reducible refine Yj hD ?_| (with_reducible refine Xk hD ?_;rw[cB])| (with_reducible refine Xk hC ?_;rw[hb])|wp_step)
 cases b<;>(wp_walk;exact hq)
end
def XFp(e C:Addr)(dx:Option Addr)(fr:Bool)(h:Heap):Prop:=∃o vs t0 x,h.get? e=some o/\o.cls=.ref C/\o.dict=dx/\o.data=.fields vs/\vs[0]? =some (Value.ref t0)/\vs[1]? =some x/\(fr=true->x=.none)/\vs[2]? =some Value.none
def XF(e C:Addr)(dx:Option Addr)(fr:Bool):HO:=.ext (XFp e C dx fr)
theorem XFp.on{e C:Addr}{dx:Option Addr}{fr:Bool}{h h':Heap}(x:XFp e C dx fr h)(k:∀o,h.get? e=some o->h'.get? e=some o):XFp e C dx fr h':=by
 obtain⟨o,vs,t0,y,a,b⟩:=x;exact⟨o,vs,t0,y,k o a,b⟩
theorem b5f{P:Program}{w:World}{H:Hp}{h:Heap}{e C:Addr}{dx:Option Addr}{fr:Bool}(x:XFp e C dx fr h):a1s P w H h e (XF e C dx fr):=⟨x,let⟨o,_,_,_,a,_⟩:=x;⟨o,a⟩,λ_ _ z k=>z.on k⟩
theorem b0h{P:Program}{w:World}{H:Hp}{h:Heap}{e C:Addr}{dx:Option Addr}{fr:Bool}(ok:HOk P w H h)(a:H e=some (XF e C dx fr)):XFp e C dx fr h:=(ok e _ a).1
theorem c9k{H:Hp}{a:Addr}{o:HO}(h:H a=some o):upd H a o=H:=by
 funext b
 by_cases e:b=a
 ·subst e;rw[a0c,h]
 ·rw[a0p e]
def TbOf(s:Shared)(ea:Addr)(H':Hp)(h:Heap):Prop:=∃o vs T,h.get? ea=some o/\o.data=.fields vs/\vs[1]? =some (Value.ref T)/\T≠ea/\s.heap.objs.size<=T/\H' T=none/\TbIs h T
def CXo(P:Program)(w:World):CXT:=λouter H s E e s'=>∃ea C dx H',e=.ref ea/\H' ea=some (XF ea C dx false)/\s'.os=s.os/\AllBare s'.gens/\Un (frs outer) [] H H' s.heap s'.heap/\HOk P w H' s'.heap/\TbOf s ea H' s'.heap/\E (.ref C) (some ea) H'
section
variable{X:Cx}{pins:List (Addr×Obj)}{σ:St}{H:Hp}{s:Shared}
def TOk(X:Cx)(pins:List (Addr×Obj))(H:Hp)(T:Addr):Prop:=X.s₀.heap.objs.size<=T/\T≠X.env.locals/\(∀x c,X.env.cells.lookup x=some c->c≠T)/\(∀p∈X.pn++pins,p.1≠T)/\H T=none
theorem b9m{h':Heap}{ea C:Addr}{dx:Option Addr}{fr:Bool}{o:Obj}{ok:Addr->Prop}{ch:List Addr}(I:Inv X pins σ H s)(hx:H ea=some (XF ea C dx fr))(ge:s.heap.get? ea=some o)(l:Left (frs X.stack) ea o ok s.heap h')(hok:∀T,ok T->T∈ch)(hch:∀T∈ch,TOk X pins H T)(hnew:fr=false):
  Inv X pins σ H { s with heap:=h'}:=by
 subst hnew;have ntr:∀b u,H b=some u->¬ok b:=λb u e z=>by rw[(hch b (hok b z)).2.2.2.2]at e;cases e
 have nfr:∀b u,H b=some u->b∉frs X.stack:=λb u e z=>by rw[I.stkFree b z]at e;cases e
 have hk:HOk X.prog X.w H h':=λa u e=>by
  by_cases ha:a=ea
  ·subst ha;rw[hx]at e;cases e;obtain⟨o',vs,t0,y,a1,a2,a3,a4,a5,a6,_,a8⟩:=b0h I.hok hx;rw[ge]at a1;cases a1;obtain⟨T,_,_,gT⟩:=l.tb;refine b5f ⟨_,_,t0,.ref T,gT,?_,?_,a5w _ a4,?_,?_,(λz=>by cases z),?_⟩
   ·rw[Vx];exact a2
   ·rw[c2e];exact a3
   ·rw[Wb qd];exact a5
   ·have:=(Yk.mp a6).1
    simp[this]
   ·rw[Wb qd];exact a8
  ·refine(I.hok a u e).stay (λb v hb q=>?_) (λ_ q=>q) λ_ _ q=>q
   rcases hb with rfl|hb
   ·exact l.keep b v ha (ntr b u e) (nfr b u e) q
   ·refine l.keep b v (λz=>?_) (ntr b _ hb) (nfr b _ hb) q;rw[z,hx]at hb;cases hb
 refine I.step (g':=s.gens) (d':=s.drawn) (t':=s.toks) (ch:=ch) (λb hb=>⟨.inr (hch b hb).1,(hch b hb).2.1,(hch b hb).2.2.1,(hch b hb).2.2.2.1⟩) (λb u hL hf hc e n=>?_) (λb u hL hf hc e n=>?_) (λ_ _ _ _ n=>n) (λb u hc e=>l.there b u e) (λ_ _ e=>e) (λ_ _ _ e=>e) (λb ps e=>⟨#[],by rw[e];simp⟩) (λm hm=>?_) hk I.bare
 ·refine l.keep b u (λz=>by rw[z,hx]at n;cases n) (λz=>hc (hok b z)) (λz=>?_) e;rcases Zi.mp (I.stkSub b z)with z|z
  ·exact hL z
  ·exact hf z
 ·exact l.slot b u (λz=>by rw[z,hx]at n;cases n) (λz=>hc (hok b z)) e
 ·obtain⟨u,es,ep,e,r⟩:=hm;obtain⟨sl,e2⟩:=l.slot _ u (λz=>by have:=I.free;rw[z,hx]at this;cases this) (λz=>(hch _ (hok _ z)).2.1 rfl) e;exact⟨_,es,ep,e2,r⟩
theorem b6g{T:Addr}(I:Inv X pins σ H s)(h:s.heap.objs.size<=T){H':Hp}(hn:H' T=none):TOk X pins H' T:=by
 refine⟨Yd I.sz h,λz=>?_,λx c e z=>?_,λp hp z=>?_,hn⟩
 ·rw[z]at h;exact absurd I.lt (Tx.mpr h)
 ·obtain⟨v,o,ho,_⟩:=I.cell x c e;rw[z]at ho;exact absurd (Zh ho) (Tx.mpr h)
 ·obtain⟨hp1,_⟩:=I.pin p hp;rw[z]at hp1;exact absurd (Zh hp1) (Tx.mpr h)
theorem c2f{ea:Addr}{o:Obj}{vs:Array Value}{ok:Addr->Prop}{fs:List Addr}{h':Heap}(I:Inv X pins σ H s)(ge:s.heap.get? ea=some o)(gd:o.data=.fields vs)(g1:1<vs.size)(l:Left fs ea o ok s.heap h'):TbOf s ea H h':=by
 obtain⟨T,h1,h2,h3⟩:=l.tb;exact⟨_,_,T,h3,a5w _ gd,by simp[g1],λz=>absurd (Zh ge) (by rw[<-z];exact Tx.mpr h1),h1,I.hok.fresh h1,h2⟩
end
section
variable{P:Program}{w:World}{K:Frag}{mg:Str->Option Value}{base:Heap}{N:List Str}{qual:Str}{scope:Scope}{f:Addr}{cd:Value}{A:Around}{outer:List Env}{s:Shared}{H:Hp}{E:XK}
theorem xe_of{pins:List (Addr×Obj)}{σ:St}{H':Hp}{s2:Shared}{ea C:Addr}{dx:Option Addr}(I:Inv (cxOf (CXo P w) P w K mg base N qual scope f cd A outer s H E) pins σ H' s2)(hx:H' ea=some (XF ea C dx false))
  (tb:∀vs o,s2.heap.get? ea=some o->o.data=.fields vs->vs[1]? =some .none\/∃T,vs[1]? =some (.ref T)/\T≠ea/\TOk (cxOf (CXo P w) P w K mg base N qual scope f cd A outer s H E) pins H' T/\TbIs s2.heap T)(hE:E (.ref C) (some ea) H'):
  (cxOf (CXo P w) P w K mg base N qual scope f cd A outer s H E).xe (.ref ea) s2:=by
 obtain⟨o,vs,t0,y,a1,a2,a3,a4,a5,a6,_⟩:=b0h I.hok hx;have g1:=(Yk.mp a6).1
 show wpAny _ _ (leaving _ (.ref ea)) _ _ s2
 have fin:∀(ok:Addr->Prop)(ch:List Addr)(h':Heap),(∀T,ok T->T∈ch)->(∀T∈ch,TOk (cxOf (CXo P w) P w K mg base N qual scope f cd A outer s H E) pins H' T)->Left (frs (cxOf (CXo P w) P w K mg base N qual scope f cd A outer s H E).stack) ea o ok s2.heap h'->CXo P w outer H s E (.ref ea) { s2 with heap:=h'}:=λok ch h' hok hch l=>by
  have I2:=b9m I hx a1 l hok hch rfl;refine⟨ea,C,dx,H',rfl,hx,I2.os,I2.bare,I2.base,I2.hok,?_,hE⟩;obtain⟨o2,vs2,T,b1,b2,b3,b4,b5,b6,b7⟩:=c2f I a1 a4 g1 l;exact⟨o2,vs2,T,b1,b2,b3,b4,Yd I.sz b5,b6,b7⟩
 refine Za ?_;rcases tb vs o a1 a4 with z|⟨T,z1,z2,z3,z4⟩
 ·exact b1m (ok:=λ_=>False) I.ok.frames I.stack rfl a1 a4 (.inl z) λh' l=>fin _ [] h' (λ_ z=>z.elim) (λ_ z=>absurd z Zs) l
 ·exact b1m (ok:=λb=>b=T) I.ok.frames I.stack rfl a1 a4 (.inr ⟨T,z1,z2,rfl,z4⟩) λh' l=>fin _ [T] h' (λ_ z=>Zu.mpr z) (λb z=>by rw[Zu.mp z];exact z3) l
theorem a7w:a5q (CXo P w) (cxOf (CXo P w) P w K mg base N qual scope f cd A outer s H E) E:=by
 intro pins σ H1 s1 e s2 I h;obtain⟨ea,C,dx,H',rfl,hx,os,bare,un,hok,tb,hE⟩:=h;have I2:=I.call' (ch:=[]) os un hok bare (λ_ z=>absurd z Zs);obtain⟨o,vs,T,b1,b2,b3,b4,b5,b6,b7⟩:=tb;refine xe_of I2 hx (λvs' o' c1 c2=>.inr ⟨T,?_,b4,?_,b7⟩) hE
 ·rw[b1]at c1;cases c1;rw[b2]at c2;cases c2;exact b3
 ·exact b6g I b5 b6
end
section
variable{X:Cx}{pins:List (Addr×Obj)}{σ:St}{H:Hp}{s:Shared}{pos apos np:Pos}{a b o e value:Expr}{es:List Expr}{t:TA}{te ta tv:TE}{f x:Str}
theorem b5g:bootBuiltins "ValueError"=some (.type "ValueError"):=by rfl
def c6j(K:Frag)(t:TA):TE:=λσ H Q=>t σ H λvs H2=>∃e C dx fr bm y,vs=[.ref e,y]/\H2 e=some (XF e C dx fr)/\XCls K C bm/\Q .non H2
theorem c9l{pl:Sem Bool}(hg:Gl X "ValueError")(hm:X.mg "ValueError"=none)(ha:PA X [a,b] t)(hst:starEach [a,b] X.env=(false,eval a X.env)::starEach [b] X.env:=by rfl)(hpl:(backTo pos (starEach [b] X.env)).any (·.1)=false:=by rfl)
  (ht:eval (.Call (.Attribute (.Name "ValueError" np) "__init__" apos) [a,b] [] pos) X.env=(do
   let ov <-eval (.Name "ValueError" np) X.env
   standAt apos.atName
   let(f,first) <-holding [ov] (getMethod ov "__init__" pl)
   callWith pos f first (backTo pos (starEach [a,b] X.env)) (backToKw pos (keywordEach [] X.env))):=by rfl):
  PE X (.Call (.Attribute (.Name "ValueError" np) "__init__" apos) [a,b] [] pos) (c6j X.K t):=by
 intro pins s σ H Q I h;refine Ui (pl:=pl) (thn ((b9b (X:=X) (pos:=np) hg hm b5g) pins s σ H (λv H1=>v=.ty "ValueError"/\H1=H) I ⟨rfl,rfl⟩) λu s1 ⟨y,H1,I1,ry,e1,e2⟩=>?_) ht;subst e1 e2;obtain rfl:u=Value.type "ValueError":=ry;obtain⟨m,F⟩:=I1.fr;refine method_type F I1.ok.mod.kin (by kernel_rfl) qk (v:=.builtin "ValueError.__init__") (by kernel_rfl) qk ?_;have I2:=I1.tok (s1.toks+1);refine callWith_builtin1 (thn (ha pos pins _ σ H1 _ I2 h) λus s2 ⟨vs,H2,I3,r,q⟩=>?_) hst hpl;obtain⟨ea,C,dx,fr,bm,y,rfl,hx,Xc,q⟩:=q;obtain⟨u1,us1,rfl,r1,r2⟩:∃u1 us1,us=u1::us1/\RelV (.ref ea) u1/\Vals [y] us1:=by cases r with|cons p q=>exact⟨_,_,rfl,p,q⟩
 obtain⟨u2,rfl,r3⟩:=r2.one;obtain rfl:u1=Value.ref ea:=r1;obtain⟨ob,ws,t0,z,a1,a2,a3,a4,a5,a6,a7,a8⟩:=b0h I3.hok hx;obtain⟨hp,g,d,tk,os⟩:=s2;refine x_init I3.kIn Xc a1 a2 a4 a5 ?_;refine⟨.non,H2,?_,rfl,q⟩;have k1:∀b u,b≠ea->hp.get? b=some u->((hp.push { cls:=.type "tuple",data:=.seq [u2].toArray}).update ea (Obj.mapFields (·.setIfInBounds 0 (.ref hp.objs.size)))).get? b=some u:=λb u hb hu=>by
  rw[Zz _ _ (Ne.symm hb)];exact Zc _ hu
 have k2:=Z3 (Obj.mapFields (·.setIfInBounds 0 (.ref hp.objs.size))) (Zc { cls:=.type "tuple",data:=.seq [u2].toArray} a1) (Xo (a5w _ a4));have sz0:=(Yk.mp a5).1;have:=I3.write (t':=tk) (o:=XF ea C dx fr) (x:=ea) (e:=ea) (by rw[hx];exact True.intro) (.inl rfl) k1 ⟨_,k2⟩ (b5f ⟨_,_,hp.objs.size,z,k2,by rw[Vx];exact a2,by rw[c2e];exact a3,a5w _ a4,by simp[sz0],by rw[Wb qd];exact a6,a7,by rw[Wb qd];exact a8⟩);rw[c9k hx]at this;exact this
structure b0i(K:Frag)(C:Addr):Prop where
 ga:findIn K (.ref C) "__getattribute__"=some (some (.builtin "BaseException.__getattribute__"))
 gx:findIn K (.ref C) "__getattr__"=some none
 sa:findIn K (.ref C) "__setattr__"=some (some (.builtin "object.__setattr__"))
def tXSet(K:Frag)(ta tv:TE)(f:Str):TS:=λD σ H=>tv σ H λy H1=>ta σ H1 λx H2=>∃e C bm fr,x=.ref e/\XCls K C bm/\XUp bm/\b0i K C/\a2g K C f/\
 ((H2 e=some (XF e C none fr)/\∀dx,H2 dx=none->dx≠e->D.nx σ (upd (upd H2 dx (.xd [(f,y)])) e (XF e C (some dx) fr)))\/(∃dx fs,H2 e=some (XF e C (some dx) fr)/\H2 dx=some (.xd fs)/\fs.length<=900/\D.nx σ (upd H2 dx (.xd (putF f y fs)))))
theorem c6k{mA:Str->Option Value}{fs:List (Str×V)}(h:∀f,RelO (fs.lookup f) (mA f)):PySem.Within mA (fs.map (·.1)):=λy hy=>by
 cases e:fs.lookup y with
 |none=>
  have:=h y;rw[e]at this;exact absurd (RelO.none_of this) hy
 |some v=>
  have:=List.mem_map_of_mem (f:=(·.1)) (Z6 e);exact this
theorem c2g(ha:PE X o ta)(hv:PE X value tv)(hs:swapsWith value (some (.Attribute o f apos)) pos.line X.env=pure false:=by rfl):PS X (.Assign [.Attribute o f apos] value pos) (tXSet X.K ta tv f):=by
 intro pins s σ H D I h;refine Th (thn (hv pins s σ H _ I h) λu s1 ⟨y,H1,I1,ry,q⟩=>thn (ha pins s1 σ H1 _ I1 q) λov s2 ⟨x,H2,I2,rx,ea,C,bm,fr,ex,Xc,U,Xa,n,q2⟩=>?_) hs;subst ex;obtain rfl:ov=Value.ref ea:=rx;obtain⟨hp,g,d,tk,os⟩:=s2;rcases q2 with⟨hx,q3⟩|⟨dx,fs,hx,hd,hl,q3⟩
 ·obtain⟨ob,ws,t0,z,a1,a2,a3,a4,a5,a6,a7⟩:=b0h I2.hok hx;refine x_set (mA:=λ_=>none) (ns:=[]) I2.kIn Xc U Xa.sa n a1 a2 a4 (λy hy=>absurd rfl hy) qz (.inl ⟨a3,λ_=>rfl⟩) λh' dx tk' hdx g1 g2 g3 g4=>?_
  have hsz:hp.objs.size<=dx:=by
   rcases hdx with z|z
   ·rw[a3]at z;cases z
   ·exact z.2
  refine⟨σ,_,?_,q3 dx (I2.hok.fresh hsz) g2⟩;have gg:∀b u,b≠ea->hp.get? b=some u->h'.get? b=some u:=λb u hb hu=>g4 b u hb (Zv (Z1 (Zh hu) hsz)) hu
  have hfree:=I2.hok.fresh hsz
  have okd:a1s X.prog X.w (upd (upd H2 dx (.xd [(f,y)])) ea (XF ea C (some dx) fr)) h' dx (.xd [(f,y)]):=⟨_,g3,λk=>by
   by_cases hk:k=f
   ·subst hk;simp only[List.lookup,Tmq,if_true];exact ry
   ·have hb:(k==f)=false:=Yr.mpr hk;simp only[List.lookup,hb,if_neg hk]
    exact trivial⟩
  have okh:HOk X.prog X.w (upd (upd H2 dx (.xd [(f,y)])) ea (XF ea C (some dx) fr)) h':=λb v hb=>by
   by_cases h1:b=ea
   ·subst h1;rw[a0c]at hb;cases hb;exact b5f ⟨_,ws,t0,z,g1,a2,rfl,a4,a5,a6,a7⟩
   ·rw[a0p h1]at hb
    by_cases h2:b=dx
    ·subst h2;rw[a0c]at hb;cases hb;exact okd
    ·rw[a0p h2]at hb;have nd:∀c u,H2 c=some u->c≠dx:=λc u hc z=>by rw[z,hfree]at hc;cases hc
     refine(I2.hok b v hb).stay (λc w' hc qq=>gg c w' ?_ qq) (λc qq=>?_) λc xs qq=>?_
     ·rcases hc with rfl|hc
      ·exact h1
      ·exactλzz=>by rw[zz,hx]at hc;cases hc
     ·rw[a0p (λzz=>by rw[zz,hx]at qq;cases qq),a0p (nd c _ qq)];exact qq
     ·rw[a0p (λzz=>by rw[zz,hx]at qq;cases qq),a0p (nd c _ qq)];exact qq
  refine I2.un (t':=tk') ?_ okh;refine⟨λb u e n hb hx'=>gg b u (λzz=>by rw[zz,hx]at n;cases n) e,λb u e n hb hx'=>⟨u.slots,gg b u (λzz=>by rw[zz,hx]at n;cases n) e⟩,λb u e n hx'=>?_,λb u e hx'=>?_,λb xs e=>?_,λb u xs e=>?_,λb ps e=>⟨#[],?_⟩⟩
  ·rw[a0p (λzz=>by rw[zz,hx]at n;cases n),a0p (Zv (Z1 (Zh e) hsz))];exact n
  ·by_cases h1:b=ea
   ·subst h1;exact⟨_,g1⟩
   ·exact⟨u,gg b u h1 e⟩
  ·rw[a0p (λzz=>by rw[zz,hx]at e;cases e),a0p (λzz=>by rw[zz,hfree]at e;cases e)];exact e
  ·rw[a0p (λzz=>by rw[zz,hx]at e;cases e),a0p (λzz=>by rw[zz,hfree]at e;cases e)];exact e
  ·rw[a0p (λzz=>by rw[zz,hx]at e;cases e),a0p (λzz=>by rw[zz,hfree]at e;cases e),e];simp
 ·obtain⟨ob,ws,t0,z,a1,a2,a3,a4,a5,a6,a7⟩:=b0h I2.hok hx;obtain⟨mA,hm,hr⟩:=(show a1s X.prog X.w H2 hp dx (.xd fs)from I2.hok dx _ hd);have hne:dx≠ea:=λzz=>by rw[zz,hx]at hd;cases hd
  refine x_set (mA:=mA) (ns:=fs.map (·.1)) I2.kIn Xc U Xa.sa n a1 a2 a4 (c6k hr) (by rw[length_map];omega) (.inr ⟨dx,a3,hne,hm⟩) λh' dx' tk' hdx g1 g2 g3 g4=>?_
  obtain rfl:dx'=dx:=by
   rcases hdx with z|z
   ·rw[a3]at z;exact(Zl z).symm
   ·rw[a3]at z;cases z.1
  refine⟨σ,_,?_,q3⟩;have gg:∀b u,b≠dx'->hp.get? b=some u->h'.get? b=some u:=λb u hb hu=>by
   by_cases h1:b=ea
   ·subst h1;rw[a1]at hu;cases hu;rw[g1,<-a3]
   ·exact g4 b u h1 hb hu
  have nw:a1s X.prog X.w (upd H2 dx' (.xd (putF f y fs))) h' dx' (.xd (putF f y fs)):=⟨_,g3,λk=>by
   rw[a9f]
   by_cases hk:k=f
   ·rw[if_pos hk,if_pos hk];exact ry
   ·rw[if_neg hk,if_neg hk]
    exact hr k⟩
  have okh:HOk X.prog X.w (upd H2 dx' (.xd (putF f y fs))) h':=λb v hb=>by
   by_cases h1:b=dx'
   ·subst h1;rw[a0c]at hb;cases hb;exact nw
   ·rw[a0p h1]at hb;refine(I2.hok b v hb).stay (λc w' hc qq=>gg c w' ?_ qq) (λc qq=>?_) λc xs qq=>?_
    ·rcases hc with rfl|hc
     ·exact h1
     ·exactλzz=>by rw[zz,hd]at hc;cases hc
    ·rw[a0p (λzz=>by rw[zz,hd]at qq;cases qq)];exact qq
    ·rw[a0p (λzz=>by rw[zz,hd]at qq;cases qq)];exact qq
  refine I2.un (t':=tk') ?_ okh;refine⟨λb u e n hb hx'=>gg b u (λzz=>by rw[zz,hd]at n;cases n) e,λb u e n hb hx'=>⟨u.slots,gg b u (λzz=>by rw[zz,hd]at n;cases n) e⟩,λb u e n hx'=>?_,λb u e hx'=>?_,λb xs e=>?_,λb u xs e=>?_,λb ps e=>⟨#[],?_⟩⟩
  ·rw[a0p (λzz=>by rw[zz,hd]at n;cases n)];exact n
  ·by_cases h1:b=dx'
   ·subst h1;exact let⟨u,_,_,e,_⟩:=g3;⟨u,e⟩
   ·exact⟨u,gg b u h1 e⟩
  ·rw[a0p (λzz=>by rw[zz,hd]at e;cases e)];exact e
  ·rw[a0p (λzz=>by rw[zz,hd]at e;cases e)];exact e
  ·rw[a0p (λzz=>by rw[zz,hd]at e;cases e),e];simp
end
section
variable{X:Cx}{CX:CXT}{k:Nat}{f C:Addr}{fd:FuncData}{ps:List Str}{sp:Sp}{dvs:List V}{ds:List Value}{E:XK}{x m:Str}{p pos apos np:Pos}{e o:Expr}{es:List Expr}{ta te:TE}{t:TA}{bm:List Value}
structure XMk(K:Frag)(C:Addr)(bm:List Value)(f:Addr):Prop where
 cls:XCls K C bm
 init:findIn K (.ref C) "__init__"=some (some (.ref f))
 fn:typeIn K (.ref f)=some (.type "function")
 kp:keepIn K (.ref C)=true
theorem run_exc{pins:List (Addr×Obj)}{σ:St}{H:Hp}{s:Shared}{Q:VK}{us:List Value}{vs:List V}(M:XMk X.K C bm f)(F:FnOk X.prog X.w X.K X.mg X.base CX k f fd ps sp)(hr:Room (k+1) X.A)(hb:Binds X.K fd ps ds)(hd:Vals dvs ds)
  (hx:a5q CX X E)(I:Inv X pins σ H s)(r:Vals vs us)(hl0:us.length<=1000)
  (h:∀e,H e=none->sp (.ref e::(vs++dvs)) (upd H e (XF e C none true)) (λv H2=>v=.non/\Q (.ref e) H2) E):
  wpAny (model X.prog X.w) X.A (call (.ref C) us) (EP X pins σ Q) X.xe s:=by
 obtain⟨hp,g,d,tk,os⟩:=s;have hq:=h (hp.objs.size+1) (I.hok.fresh (Vy _));have I2:Inv X pins σ (upd H (hp.objs.size+1) (XF (hp.objs.size+1) C none true)) ⟨(hp.push { cls:=.type "tuple",data:=.seq us.toArray}).push { cls:=.ref C,data:=.fields #[.ref hp.objs.size,.none,.none,.none,.bool false,.none]},g,d,tk,os⟩:=by
  refine I.laid (t':=tk) (λb u e=>Zc _ (Zc _ e)) (Vy _) (b5f ⟨{ cls:=.ref C,data:=.fields #[.ref hp.objs.size,.none,.none,.none,.bool false,.none]},#[.ref hp.objs.size,.none,.none,.none,.bool false,.none],hp.objs.size,.none,?_,rfl,rfl,rfl,rfl,rfl,(λ_=>rfl),rfl⟩)
  heap_get
 have r2:Vals (V.ref (hp.objs.size+1)::(vs++dvs)) (Value.ref (hp.objs.size+1)::(us++ds)):=.cons rfl (r.append hd);have hl:(Value.ref (hp.objs.size+1)::us++ds).length=ps.length:=by
  have q:=r2.length;rw[F.len _ _ _ _ hq]at q;exact q.symm
 refine x_call I.kIn M.cls M.init M.fn (by rw[Yg];omega) (Ub (Vm (F.run _ X.stack _ _ ⟨Value.ref (hp.objs.size+1)::us,[]⟩ (Value.ref (hp.objs.size+1)::(us++ds)) _ _ E (hr.make C us []) (I2.env0.make C us []) (hb _ (Value.ref (hp.objs.size+1)::us) I2.kIn hl) r2 hq) λr s' hq'=>?_));cases r with
 |error e=>exact hx pins σ _ _ e s' I2 hq'
 |ok fl=>
  cases fl with
  |ret u=>
   obtain⟨v,H',I3,rv,ev,q3⟩:=I2.after hq';subst ev;exact⟨rv,⟨V.ref (hp.objs.size+1),H',I3,rfl,q3⟩⟩
  |next=>exact False.elim hq'
  |brk=>exact False.elim hq'
  |cont=>exact False.elim hq'
def c6l(C:Addr)(sp:Sp)(dvs:List V)(E:XK)(t:TA):TE:=λσ H Q=>t σ H λvs H1=>vs.length<=1000/\∀e,H1 e=none->sp (.ref e::(vs++dvs)) (upd H1 e (XF e C none true)) (λv H2=>v=.non/\Q (.ref e) H2) E
theorem b0j(M:XMk X.K C bm f)(F:FnOk X.prog X.w X.K X.mg X.base CX k f fd ps sp)(hr:Room (k+1) X.A)(hg:Gl X x)(hm:X.mg x=some (.ref C))(hb:Binds X.K fd ps ds)(hd:Vals dvs ds)(hx:a5q CX X E)
  (ha:PA X (e::es) t)(hdb:(x==("__debug__":Str))=false:=by decide)(he:starEach (e::es) X.env=(false,eval e X.env)::starEach es X.env:=by rfl)(hpl:(backTo pos (starEach es X.env)).any (·.1)=false:=by rfl):
  PE X (.Call (.Name x p) (e::es) [] pos) (c6l C sp dvs E t):=by
 intro pins s σ H Q I h;refine W4 (a9k I hg hm ?_ hdb);refine Vn (h₀:=X.base) I.ok.mod.kin M.kp (thn (ha pos pins s σ H _ I h) λus s1 ⟨vs,H1,I1,r,ql,q⟩=>⟨I1.kIn,?_⟩) he hpl;exact run_exc M F hr hb hd hx I1 r (show us.length<=1000 by rw[<-r.length];exact ql) q
def XeOk(X:Cx)(EX:XK):Prop:=∀(pins:List (Addr×Obj))(σ:St)(H:Hp)(s:Shared)(ea C:Addr)(dx:Option Addr),Inv X pins σ H s->H ea=some (XF ea C dx false)->(∃o vs,s.heap.get? ea=some o/\o.data=.fields vs/\vs[1]? =some Value.none)->EX (.ref C) (some ea) H->X.xe (.ref ea) s
theorem b2x{P:Program}{w:World}{K:Frag}{mg:Str->Option Value}{base:Heap}{N:List Str}{qual:Str}{scope:Scope}{f:Addr}{cd:Value}{A:Around}{outer:List Env}{s:Shared}{H:Hp}{E:XK}:XeOk (cxOf (CXo P w) P w K mg base N qual scope f cd A outer s H E) E:=λpins σ H' s2 ea C dx I hx ⟨o,vs,g1,g2,g3⟩ hE=>
 xe_of I hx (λvs' o' c1 c2=>.inl (by rw[g1]at c1;cases c1;rw[g2]at c2;cases c2;exact g3)) hE
def c6m(EX:XK)(K:Frag)(te:TE):TS:=λ_ σ H=>te σ H λv H1=>∃e C dx bm,v=.ref e/\XCls K C bm/\H1 e=some (XF e C dx true)/\EX (.ref C) (some e) (upd H1 e (XF e C dx false))
theorem b0k{EX:XK}(hc:X.calm=true)(hE:XeOk X EX)(he:PE X e te):PS X (.Raise (some e) none pos) (c6m EX X.K te):=by
 intro pins s σ H D I h
 show wpAny _ _ (do standAt pos;raiseStmt X.env (some (do let v <-eval e X.env;standAt pos;pure v)) none) _ _ s
 refine Za (V1 (x_raise (K:=X.K) (I.ok.hd hc) (Za (thn (he pins s σ H _ I h) λv s1 ⟨y,H1,I1,ry,q⟩=>Za (V1 (Ze ?_))))));obtain⟨ea,C,dx,bm,rfl,Xc,hx,hq⟩:=q;obtain rfl:v=Value.ref ea:=ry;obtain⟨ob,ws,t0,z,a1,a2,a3,a4,a5,a6,a7,a8⟩:=b0h I1.hok hx;have a6:ws[1]? =some Value.none:=by rw[a6,a7 rfl]
 refine⟨ea,ob,ws,C,bm,rfl,Xc,I1.kIn,a1,a2,a4,a6,?_⟩;have I2:Inv X pins σ (upd H1 ea (XF ea C dx false)) s1:=by
  have:=I1.write (t':=s1.toks) (h':=s1.heap) (o:=XF ea C dx false) (x:=ea) (e:=ea) (by rw[hx];exact True.intro) (.inl rfl) (λ_ _ _ z=>z) ⟨_,a1⟩ (b5f ⟨ob,ws,t0,.none,a1,a2,a3,a4,a5,a6,(λz=>by cases z),a8⟩);exact this
 exact hE pins σ _ s1 ea C dx I2 a0c ⟨ob,ws,a1,a4,a6⟩ hq
structure XClsM(K:Frag)(C:Addr)(m:Str)(f:Addr):Prop where
 ga:specialIn K (.ref C) "__getattribute__"=some (some (.builtin "type.__getattribute__"))
 rd:readsIn K C (.type "type")=true
 at_:findCls K (.ref C) (.type "type") m=some (.val (.ref f))
 kp:keepIn K (.ref f)=true
theorem pe_clsm{pl:Sem Bool}(M:XClsM X.K C m f)(F:FnOk X.prog X.w X.K X.mg X.base CX k f fd ps sp)(hr:Room k X.A)(hg:Gl X x)(hm:X.mg x=some (.ref C))(hb:Binds X.K fd ps ds)(hd:Vals dvs ds)(hx:a5q CX X E)(ha:PA X (e::es) t)
  (hdb:(x==("__debug__":Str))=false:=by decide)(hst:starEach (e::es) X.env=(false,eval e X.env)::starEach es X.env:=by rfl)(hpl:(backTo pos (starEach es X.env)).any (·.1)=false:=by rfl)
  (ht:eval (.Call (.Attribute (.Name x np) m apos) (e::es) [] pos) X.env=(do
   let ov <-eval (.Name x np) X.env
   standAt apos.atName
   let(f,first) <-holding [ov] (getMethod ov m pl)
   callWith pos f first (backTo pos (starEach (e::es) X.env)) (backToKw pos (keywordEach [] X.env))):=by rfl):
  PE X (.Call (.Attribute (.Name x np) m apos) (e::es) [] pos) (b7x sp dvs E t):=by
 intro pins s σ H Q I h;refine Ui (pl:=pl) (thn ((b2p (X:=X) (pos:=np) (v:=.ref C) hg hm rfl hdb) pins s σ H (λv H1=>v=.ref C/\H1=H) I ⟨rfl,rfl⟩) λu s1 ⟨y,H1,I1,ry,e1,e2⟩=>?_) ht;subst e1 e2;obtain rfl:u=Value.ref C:=ry;refine method_cls I1.kIn M.ga (cls_value I1.kIn M.rd M.at_ rfl ?_);have I2:=I1.tok (s1.toks+1);refine Vn (first:=[]) (h₀:=X.base) I.ok.mod.kin M.kp (thn (ha pos pins _ σ H1 _ I2 h) λus s2 ⟨vs,H2,I3,r,q2⟩=>⟨I3.kIn,?_⟩) hst hpl;exact b8r F hr hb hd hx I3 r q2
end
theorem Fun.okX{P:Program}{w:World}{K:Frag}{mg:Str->Option Value}{base:Heap}{x qual:Str}{st:Stmt}{f:Addr}{fd:FuncData}{N ps:List Str}{k:Nat}{sp:Sp}(F:Fun K x qual st f fd)(S:a0z N ps (a0n st))(len:∀vs H Q E,sp vs H Q E->vs.length=ps.length)
  (hbody:∀(cdv:Value)(A:Around)(outer:List Env)(s:Shared)(H:Hp)(vs:List V)(Q:VK)(E:XK),Room k (A.deeper (envOfC qual (a0n st) s.heap.objs.size f cdv))->sp vs H Q E->
   ∃t,PSs (cxOf (CXo P w) P w K mg base N qual (a0n st) f cdv A outer s H E) (a3k st) t/\t { nx:=λ_ H'=>Q .non H',rt:=Q} (start N vs) H):FnOk P w K mg base (CXo P w) (k+1) f fd ps sp:=by
 obtain⟨oc,od,kV,doc,pm,an,cdv,ct,osl,rfl,lk,hcd⟩:=F.ex;exact fn_of lk hcd S len λA outer s H vs Q E hr hsp=>hbody cdv A outer s H vs Q E hr hsp
def Cx.inX(X:Cx)(ea:Addr):Cx:={ X with A:=X.A.mark (some (.ref ea)),calm:=false,xe:=λ_ _=>False}
section
variable{X:Cx}{pins:List (Addr×Obj)}{σ:St}{H:Hp}{s:Shared}{ea:Addr}
theorem Inv.inX(I:Inv X pins σ H s)(ea:Addr):Inv (X.inX ea) pins σ H s:=
 ⟨⟨I.ok.mod,I.ok.kind,I.ok.glob,I.ok.blt,I.ok.above,I.ok.inj,I.ok.has,I.ok.cab,(λz=>by cases z),I.ok.frames,I.ok.stk,I.ok.exf,I.ok.bs,I.ok.bsz,I.ok.noex,I.ok.exfs,I.ok.funs,I.ok.frf⟩,I.os,I.bare,I.base,I.loc,I.cell,I.free,I.freeC,I.pin,I.hok,I.len⟩
theorem Inv.outX(ok:X.Ok)(I:Inv (X.inX ea) pins σ H s):Inv X pins σ H s:=⟨ok,I.os,I.bare,I.base,I.loc,I.cell,I.free,I.freeC,I.pin,I.hok,I.len⟩
theorem SP.outX(ok:X.Ok){D:Ends}{f:Flow}{s':Shared}(h:SP (X.inX ea) pins D f s'):SP X pins D f s':=by
 cases f with
 |next=>obtain⟨σ',H',I,q⟩:=h;exact⟨σ',H',I.outX ok,q⟩
 |brk=>obtain⟨σ',H',I,q⟩:=h;exact⟨σ',H',I.outX ok,q⟩
 |cont=>obtain⟨σ',H',I,q⟩:=h;exact⟨σ',H',I.outX ok,q⟩
 |ret u=>obtain⟨v,σ',H',I,r,q⟩:=h;exact⟨v,σ',H',I.outX ok,r,q⟩
theorem fly_ok{M:Model}{A:Around}{E:Value->Shared->Prop}{T:Addr}{o:Obj}{vs:Array Value}{Q:Unit->Shared->Prop}(I:Inv X pins σ H s)(ge:s.heap.get? ea=some o)(gd:o.data=.fields vs)(g1:vs[1]? =some (.ref T))(hT:TOk X pins H T)(tb:TbIs s.heap T)
  (q:∀s',Inv X pins σ H s'->Q () s'):wpAny M A (setFlight (.ref ea) none) Q E s:=by
 obtain⟨oT,ts,h1,h2,h3⟩:=tb;unfold setFlight;refine Za (Z0 ge gd g1 ?_);rw[if_pos (show(Value.ref T !=Value.none)=true from by simp)];refine Xs h1 h2 (Yk.mp h3).1 (q _ ?_);exact I.turned (t':=s.toks) (it:=T) (λb u hb hu=>by rw[Zz _ _ (Ne.symm hb)];exact hu) hT.2.2.2.2 hT.2.1 (.inr hT.1) hT.2.2.1 hT.2.2.2.1
def b8h(X:Cx)(pins:List (Addr×Obj))(H:Hp)(ea:Addr)(h:Heap):Prop:=∃o vs T,h.get? ea=some o/\o.data=.fields vs/\vs[1]? =some (Value.ref T)/\T≠ea/\TOk X pins H T/\TbIs h T
end
structure FunD(K:Frag)(x qual:Str)(st:Stmt)(f:Addr)(fd:FuncData)(dV:Value):Prop where
 ex:∃(oc:Value)(od:Option Addr)(kV doc pm:Value)(an:Option Addr)(cdv ct:Value)(osl:Array (Option Value)),
  fd=fnOf x qual (a5l st) (a3k st) (a0n st) dV kV doc pm an cdv ct/\K.lookup f=some ⟨oc,od,.func fd,osl⟩/\codeIn K cdv qual=true
 kp:keepIn K (.ref f)=true
section
variable{P:Program}{w:World}{K:Frag}{mg:Str->Option Value}{base:Heap}
theorem FunD.ok{dV:Value}{x qual:Str}{st:Stmt}{f:Addr}{fd:FuncData}{N ps:List Str}{k:Nat}{sp:Sp}(F:FunD K x qual st f fd dV)(S:a0z N ps (a0n st))(len:∀vs H Q E,sp vs H Q E->vs.length=ps.length)
  (hbody:∀(cdv:Value)(A:Around)(outer:List Env)(s:Shared)(H:Hp)(vs:List V)(Q:VK)(E:XK),Room k (A.deeper (envOfC qual (a0n st) s.heap.objs.size f cdv))->sp vs H Q E->
   ∃t,PSs (cxOf CX0 P w K mg base N qual (a0n st) f cdv A outer s H E).nox (a3k st) t/\t { nx:=λ_ H'=>Q .non H',rt:=Q} (start N vs) H):FnOk P w K mg base CX0 (k+1) f fd ps sp:=by
 obtain⟨oc,od,kV,doc,pm,an,cdv,ct,osl,rfl,lk,hcd⟩:=F.ex;refine fn_of lk hcd S len λA outer s H vs Q E hr hsp=>?_
 obtain⟨t,h,q⟩:=hbody cdv A outer s H vs Q E hr hsp;exact⟨t,h.nox,q⟩
theorem funD_mk{dV:Value}{x qual:Str}{st:Stmt}{f:Addr}{oc:Value}{od an:Option Addr}{osl:Array (Option Value)}{kV doc pm cdv ct:Value}(l:K.lookup f=some ⟨oc,od,.func (fnOf x qual (a5l st) (a3k st) (a0n st) dV kV doc pm an cdv ct),osl⟩)
  (c:codeIn K cdv qual=true)(k:keepIn K (.ref f)=true):FunD K x qual st f (fnOf x qual (a5l st) (a3k st) (a0n st) dV kV doc pm an cdv ct) dV:=⟨⟨oc,od,kV,doc,pm,an,cdv,ct,osl,rfl,l,c⟩,k⟩
end
end L2
namespace Att
open PySem PySem.W PySem.Calls PyProof.Rows
theorem bits_of{ns:List Int}(h:WData.layableAll [WData.list (ns.map WData.int)]=true):∀i∈ns,Builtin.Int.intBits i<=1048576:=by
 have h1:(WData.list (ns.map WData.int)).layable=true:=by
  unfold WData.layableAll at h
  simpa using h
 obtain⟨g1,g2,h2⟩:=layableW_iff.mp h1;have h3:WData.weightAll (ns.map WData.int)<=2^20:=h2;clear h h1 h2 g1 g2
 induction ns with
 |nil=>intro i hi;exact absurd hi qz
 |cons n r ih=>
  rw[Z4]at h3;have h4:(WData.int n).weight+1+WData.weightAll (r.map WData.int)<=2^20:=h3;intro i hi;rcases Zi.mp hi with e|e
  ·subst e;have:(WData.int i).weight=Builtin.Int.intBits i:=rfl;omega
  ·exact ih qo i e
theorem attach_callB{l:OpenLaw}{n:Nat}{q:Program}{loose:List Str}{XP:(Str->Option Value)->Heap->Prop}{YP:World->Heap->Prop}{d:DefRec}
  (hn:l.most=some n)(hdf:d.params.defaults=[])
  (call:∀(w:World)(s₀ s₁:Shared)(mg mb:Str->Option Value)(fa:Addr)(o:Obj)(pm cd doc:Value)(a:Addr)(vs:List Value)(ns:List Int),
   Ground q loose [] XP w s₀ mg mb s₁.heap->YP w s₁.heap->
   s₁.heap.get? fa=some o->o.data=.func (docDef d.name d.params d.body d.scope pm cd doc)->s₁.heap.CodeRec cd d.name->mg d.name=some (.ref fa)->
   s₁.heap.get? a=some { cls:=.type "list",data:=.seq vs.toArray}->IntsAre vs ns->ns.length<=n->(∀i∈ns,Builtin.Int.intBits i<=1048576)->s₁.gens= #[]->
   codeAny (model l.prog w) callerA (.call (.ref fa) ⟨[.ref a],[]⟩) (λr s'=>r=.ok (.ret (.bool true))/\OldK s₁.heap s'.heap/\s'.os=s₁.os/\AllBare s'.gens) s₁):
  WalkO q loose XP YP l.row.toRowW d [] (λf vs=>PySem.call f vs):=by
 intro w s₀ s₁ mg mb G Y fa o pm cd doc dV kV ho hd hcd hD hmg hg args vals as hpre hlay hrd hwl hlo;obtain rfl:dV=.none:=Dflts.none hD hdf;obtain rfl:kV=.none:=Dflts.noKw hD;obtain⟨a,vs,ns,rfl,rfl,hobj,hints,hlen⟩:=c5s hn hpre hwl;refine enter_call (Vm (call w s₀ s₁ mg mb fa o pm cd doc a vs ns G Y ho (fd_plain hd) hcd hmg hobj hints hlen (bits_of hlay) hg) λr s' hq=>?_);obtain⟨rfl,h2,h3,h4⟩:=hq;exact⟨.inl ⟨.bool true,.bool true,[],rfl,λ_=>rfl,.bool true,c5t l _,λ_=>⟨List.Pairwise.nil,λ_ hm=>(nomatch hm)⟩⟩,h2,h3,h4⟩
end Att
namespace L2
open PySem PySem.Spec PyProof.Rows
theorem c9m{l:W.OpenLaw}{n k:Nat}{q:Program}{loose:List Str}{XP:(Str->Option Value)->Heap->Prop}{YP:World->Heap->Prop}{d:DefRec}{K:Params->W.Frag}{CX:World->CXT}{sp:World->Sp}{x:Str}
  (hn:l.most=some n)(hn2:n<=sizeLine)(hdf:d.params.defaults=[])(hr:Room k callerA)
  (hY:∀(w:World)(h:Heap),YP w h->(K w.params).In h)
  (F:∀(w:World)(mg:Str->Option Value)(fa:Addr)(h:Heap),(K w.params).In h->h.Ns mainGlobals mg->mg d.name=some (.ref fa)->
   ∃fd:FuncData,(∀(s:Shared)(u:Value),BindsTo s fd ⟨[u],[]⟩ [(x,u)])/\
    ∀base:Heap,(K w.params).In base->base.Ns mainGlobals mg->FnOk l.prog w (K w.params) mg base (CX w) k fa fd [x] (sp w))
  (hsp:∀(w:World)(H:Hp)(a:Addr)(ns:List Int),ns.length<=n->(∀i∈ns,Builtin.Int.intBits i<=1048576)->Only H->SqL (K w.params) H a (ns.map V.int)->sp w [.ref a] H (λv _=>v=.bl true) λ_ _ _=>False)
  (hCX:∀(w:World)(H:Hp)(s:Shared)(e:Value)(s':Shared),CX w [] H s (λ_ _ _=>False) e s'->False):
  W.WalkO q loose XP YP l.row.toRowW d [] (λf vs=>PySem.call f vs):=by
 refine Att.attach_callB hn hdf λw s₀ s₁ mg mb fa o pm cd doc a vs ns G Y ho hd hcd hmg hobj hints hlen hbits hg=>?_
 have KX:=hY w _ Y;obtain⟨fd,hb,hF⟩:=F w mg fa _ KX G.T.g hmg;exact c9b KX G.T.g G.T.b G.T.builtins G.T.nolimit hg hobj hints (Yd hlen hn2) hr hF hb (λH hO hS=>hsp w H a ns hlen hbits hO hS) λH e s'=>hCX w H s₁ e s'
theorem b5h{a b:Int}(h:Builtin.Int.intBits a+Builtin.Int.intBits b<=8388608):IntMulOk a b:=by
 unfold IntMulOk Builtin.Int.intTooBig;intro z;simp only[Xg,U9]at z;have h2:=z.2;have hb:((bitsLine:Nat):Int)=134217728:=by decide
 omega
theorem c2h(x:Int)(k:Nat)(h:x.natAbs<2^k):Builtin.Int.intBits x<=k:=by
 unfold Builtin.Int.intBits
 by_cases h0:x=0
 ·subst h0;simp
 ·have hz:(x==0)=false:=Yr.mpr h0;rw[hz];simp only[Xr,W1];have h1:x.natAbs≠0:=by omega
  have:=(Ur h1).mpr h;omega
theorem lt_bits(x:Int)(k:Nat)(h:Builtin.Int.intBits x<=k):x.natAbs<2^k:=by
 unfold Builtin.Int.intBits at h
 by_cases h0:x=0
 ·subst h0;simp;exact Nat.two_pow_pos k
 ·have hz:(x==0)=false:=Yr.mpr h0;rw[hz]at h;simp only[Xr,W1]at h;have h1:x.natAbs≠0:=by omega
  exact(Ur h1).mp qo
open PySem PySem.Spec PyProof.Rows PySem.W
section
variable{X:Cx}
theorem mo_modN:OpR X (binaryOp .Mod) (m2 (λ_ j=>j≠0) λi j=>.int (i.fmod j)):=op_modN.imp λ_ _ _ _ h=>b4z h
def b8i(_ j:Int):Prop:=j≠0/\j.natAbs<2^1000
theorem b3x:OpR X (binaryOp .FloorDiv) (m2 b8i λi j=>.int (i.fdiv j)):=
 (opI λ_ j _ _ _ _ _ (hc:b8i _ j) q=>floordiv_int hc.1 q (.inl (PyProof.noPylong_of_log2 (by
  have h0:j.natAbs≠0:=λz=>hc.1 (Int.natAbs_eq_zero.mp z)
  exact Ue ((Ur h0).mpr hc.2) qd))):OpR X (binaryOp .FloorDiv) (rI b8i λi j=>.int (i.fdiv j))).imp λ_ _ _ _ h=>b4z h
theorem b6h(K:Frag)(h:X.K=K):OpR X (compareOp .NotIn) (rIn K true):=h▸b8u
end
theorem b3y(x:Str):∀xs:List Str,inV (.str x) (xs.map V.str)=decide (x∈xs)
 | []=>by simp[inV]
 |y::r=>by
  have ih:=b3y x r;unfold inV at ih ⊢;rw[Z4,Wa,ih]
  show((y==x)||decide (x∈r))=decide (x∈y::r)
  by_cases h:y=x
  ·subst h;simp
  ·have h2:x≠y:=λz=>h z.symm
   simp[h,h2]
theorem b9n(xs:List Str):(xs.map V.str).all a7t=true:=by
 rw[Xf];intro v hv;obtain⟨x,_,rfl⟩:=Yb.mp hv;rfl
theorem b6i{K:Frag}{H:Hp}{Q:VK}{p:Addr}{x:Str}(xs:List Str)(h:SqL K H p (xs.map V.str)\/SqT K H p (xs.map V.str))(k:Q (.bl (decide (x∈xs))) H):rIn K false (.str x) (.ref p) H Q:=⟨p,_,rfl,h,rfl,b9n xs,by rw[b3y];exact k⟩
theorem b0l{K:Frag}{H:Hp}{Q:VK}{p:Addr}{x:Str}(xs:List Str)(h:SqL K H p (xs.map V.str)\/SqT K H p (xs.map V.str))(k:Q (.bl (!decide (x∈xs))) H):rIn K true (.str x) (.ref p) H Q:=⟨p,_,rfl,h,rfl,b9n xs,by rw[b3y];exact k⟩
section
variable{K:Frag}{σ:St}{H:Hp}{Q:VK}{D:Ends}{t:TA}{te ta tv:TE}{f:Str}{sp:Sp}{dvs:List V}{E EX:XK}{C C':Addr}
theorem c9n(k:te σ H λv H1=>∃e C dx bm,v=.ref e/\XCls K C bm/\H1 e=some (XF e C dx true)/\EX (.ref C) (some e) (upd H1 e (XF e C dx false))):c6m EX K te D σ H:=k
theorem c9o(k:t σ H λvs H1=>vs.length<=1000/\∀e,H1 e=none->sp (.ref e::(vs++dvs)) (upd H1 e (XF e C none true)) (λv H2=>v=.non/\Q (.ref e) H2) E):c6l C sp dvs E t σ H Q:=k
theorem c9p(k:t σ H λvs H2=>∃e C dx fr bm y,vs=[.ref e,y]/\H2 e=some (XF e C dx fr)/\XCls K C bm/\Q .non H2):c6j K t σ H Q:=k
theorem tXSet_i(k:tv σ H λy H1=>ta σ H1 λx H2=>∃e C bm fr,x=.ref e/\XCls K C bm/\XUp bm/\b0i K C/\a2g K C f/\
 ((H2 e=some (XF e C none fr)/\∀dx,H2 dx=none->dx≠e->D.nx σ (upd (upd H2 dx (.xd [(f,y)])) e (XF e C (some dx) fr)))\/(∃dx fs,H2 e=some (XF e C (some dx) fr)/\H2 dx=some (.xd fs)/\fs.length<=900/\D.nx σ (upd H2 dx (.xd (putF f y fs)))))):tXSet K ta tv f D σ H:=k
end
def rowS:Str:=ofString "row"
def b5i:Str:=ofString "word"
structure Born(H H':Hp)(e C:Addr)(fr:Bool)(fs:List (Str×V)):Prop where
 ex:∃dx,H dx=none/\dx≠e/\H' e=some (XF e C (some dx) fr)/\H' dx=some (.xd fs)
 keep:∀b,b≠e->∀o,H b=some o->H' b=some o
def IsX(H:Hp)(ea C:Addr)(fs:List (Str×V)):Prop:=∃dx,H ea=some (XF ea C (some dx) false)/\H dx=some (.xd fs)
abbrev a5b(K:Frag):Sp:=λvs H Q _=>match vs with
 | [.ref e,v,.int r]=>∃C bm fr,XCls K C bm/\XUp bm/\b0i K C/\a2g K C rowS/\H e=some (XF e C none fr)/\∀H',Born H H' e C fr [(rowS,.int r)]->Q .non H'
 |_=>False
abbrev a3m(K:Frag):Sp:=λvs H Q _=>match vs with
 | [.ref e,.str w,.int r]=>∃C bm fr,XCls K C bm/\XUp bm/\b0i K C/\a2g K C rowS/\a2g K C b5i/\H e=some (XF e C none fr)/\∀H',Born H H' e C fr [(rowS,.int r),(b5i,.str w)]->Q .non H'
 |_=>False
theorem a7x{H H1 H2:Hp}{e C:Addr}{fs:List (Str×V)}(hn:H e=none)(s:Same H H1)(h1:H1 e=none)(b:Born (upd H1 e (XF e C none true)) H2 e C true fs):∃dx,H2 e=some (XF e C dx true)/\IsX (upd H2 e (XF e C dx false)) e C fs/\Same H (upd H2 e (XF e C dx false)):=by
 obtain⟨⟨dx,a1,a2,a3,a4⟩,k⟩:=b;refine⟨some dx,a3,⟨dx,a0c,by rw[a0p a2];exact a4⟩,λc o hc=>?_⟩;have hce:c≠e:=λz=>by rw[z,hn]at hc;cases hc
 rw[a0p hce];exact k c hce o (by rw[a0p hce];exact s c o hc)
structure XIs(K:Frag)(C:Addr):Prop where
 ha:findIn K (.ref C) "__class__"=some (some (.builtin "object.__class__"))
 hn:specialIn K (.builtin "object.__class__") "__get__"=some (some (.builtin "getset_descriptor.__get__"))
 htk:takesIn K (.builtin "object.__class__")=some true
 hm:mroIn K C (.type "object")=some true
section
variable{X:Cx}{pins:List (Addr×Obj)}{σ:St}{H:Hp}{s:Shared}{h':Heap}
theorem Inv.turnedMany{t':Nat}{ch:List Addr}(I:Inv X pins σ H s)(hf:∀b∈ch,FpOk X pins H b)(k:∀b u,b∉ch->s.heap.get? b=some u->h'.get? b=some u):Inv X pins σ H { s with heap:=h',toks:=t'}:=by
 have nin:∀b u,H b=some u->b∉ch:=λb u e hb=>by rw[(hf b hb).1]at e;cases e
 refine I.step (g':=s.gens) (d':=s.drawn) (ch:=ch) (λb hb=>⟨(hf b hb).2.2.2.1,(hf b hb).2.1,(hf b hb).2.2.2.2.1,(hf b hb).2.2.2.2.2⟩) (λb u _ _ hc e _=>k b u hc e) (λb u _ _ hc e _=>⟨u.slots,k b u hc e⟩)
  (λb u hc e n=>n) (λb u hc e=>⟨u,k b u hc e⟩) (λb xs q=>q) (λb u xs q=>q) (λb ps q=>⟨#[],by rw[q];simp⟩) (λm hm=>?_) (λb u e=>?_) I.bare
 ·obtain⟨q,es,ep,ho,r⟩:=hm;exact⟨q,es,ep,k _ q (λhb=>(hf _ hb).2.1 rfl) ho,r⟩
 ·refine(I.hok b u e).stay (λc v hc q=>k c v ?_ q) (λc q=>q) λc xs q=>q
  rcases hc with z|z
  ·rw[z];exact nin b u e
  ·exact nin c _ z
end
theorem b1n:∀n l l':Nat,l<n->l'<n->ZipApart (n+4) (n+2) (n+3) n (n+1) l l':=λn l l' h h'=>by constructor<;>(show ¬((_:Nat)=_);omega)
def Izp(K:W.Frag)(a b:Addr)(n m:Nat):It:=⟨λi H=>i<min n m/\∃xs ys,SqL K H a xs/\SqL K H b ys/\xs.length=n/\ys.length=m,λi H v H'=>∃T x y,H T=none/\v=.ref T/\H'=upd H T (.tup [x,y])/\(∀xs,SqL K H a xs->xs[i]? =some x)/\(∀ys,SqL K H b ys->ys[i]? =some y),λi H=>i=min n m/\∃xs ys,SqL K H a xs/\SqL K H b ys/\xs.length=n/\ys.length=m⟩
theorem c9q{P:Program}{w:World}{K:W.Frag}{elts:List Expr}{k:Nat}{pos:Pos}(z TI TO i1 i2 a b:Addr)(n m:Nat)(D:ZipApart z TI TO i1 i2 a b):
  Turn P w K (.Tuple elts k pos) (Izp K a b n m) [z,TI,TO,i1,i2] z (λi h=>IsZip h z TI TO .none/\IsPair h TI (.ref i1) (.ref i2)/\(∃a b,IsPair h TO a b)/\h.IsListIter i1 a i/\h.IsListIter i2 b i) where
 mem:=by simp
 obj:=λi h st c hc=>by
  obtain⟨hz,hTI,⟨x,y,hTO⟩,⟨o1,h1,h1b,h1c⟩,⟨o2,h2,h2b,h2c⟩⟩:=st;simp only[Zi,Zs,Yv]at hc;rcases hc with rfl|rfl|rfl|rfl|rfl
  ·exact⟨_,hz,λv q=>by have q':Data.fields _=Data.cell v:=q;cases q'⟩
  ·exact⟨_,hTI,λv q=>by have q':Data.seq _=Data.cell v:=q;cases q'⟩
  ·exact⟨_,hTO,λv q=>by have q':Data.seq _=Data.cell v:=q;cases q'⟩
  ·exact⟨o1,h1,λv q=>by rw[h1c]at q;cases q⟩
  ·exact⟨o2,h2,λv q=>by rw[h2c]at q;cases q⟩
 keep:=λi h h' st hk=>by
  obtain⟨hz,hTI,⟨x,y,hTO⟩,h1,h2⟩:=st;exact⟨hk z qz _ hz,hk TI qz _ hTI,⟨x,y,hk TO qz _ hTO⟩,h1.at λo q=>hk i1 qz o q,h2.at λo q=>hk i2 qz o q⟩
 item:=by
  intro X hP hw hK hc i pins s σ H E I hf st hg;subst hP hw hK;obtain⟨hi,xs,ys,hq1,hq2,hl1,hl2⟩:=hg;obtain⟨its,rv,p,hz⟩:=I.list hq1;obtain⟨its',rv',p',hz'⟩:=I.list hq2;have hlen:=rv.length;have hlen':=rv'.length;have W:=WalksT.zip2 (prog:=X.prog) (w:=X.w) (A:=X.A) (I.ok.hd hc) z TI TO i1 i2 a b D its.toArray its'.toArray;refine W.item i s _ _ (by rw[Zd,Zd,<-hlen,<-hlen',hl1,hl2];exact hi) ⟨st.1,st.2.1,st.2.2.1,st.2.2.2.1,st.2.2.2.2,p.isList,p'.isList⟩ λT vals h1 tk hPt hT htup hmid hk1=>?_
  obtain⟨x,y,hx,hy,rfl⟩:=hPt;refine⟨.ref T,rfl,W.go elts k pos i T { s with heap:=h1,toks:=tk} _ _ hmid λh2 hst2 hk2=>?_⟩;have hx2:its[i]? =some x:=by simpa using hx
  have hy2:its'[i]? =some y:=by simpa using hy
  have hix:i<xs.length:=by omega
  have hiy:i<ys.length:=by omega
  obtain⟨u,hu,ru⟩:=rv.get (Zb hix);obtain⟨u',hu',ru'⟩:=rv'.get (Zb hiy);rw[hu]at hx2;rw[hu']at hy2;cases hx2;cases hy2;have hk:∀b u,b∉[z,TO,i1,i2]->s.heap.get? b=some u->h2.get? b=some u:=λb u hb q=>hk2 b u hb (hk1 b u hb q)
  have hk':∀b u,b∉[z,TI,TO,i1,i2]->s.heap.get? b=some u->h2.get? b=some u:=λb u hb q=>hk b u (λq=>hb (by simp only[Zi,Zs,Yv]at q ⊢;rcases q with rfl|rfl|rfl|rfl<;>simp)) q
  have hTn:=W.apart _ _ _ hmid;have hTI:T≠TI:=λq=>by
   have:TI<s.heap.objs.size:=Zh st.2.1;exact Y4 _ (Z1 this (q▸hT))
  have hTup:IsTup h2 T #[x,y]:=by
   obtain⟨o,h3,h4⟩:=htup;exact⟨o,hk2 T o hTn h3,h4⟩
  refine⟨.ref T,upd H T (.tup [xs[i],ys[i]]),I.turnedLaid (ch:=[z,TI,TO,i1,i2]) hf hk' hT ⟨by simp[Yg],[x,y],.cons ru (.cons ru' .nil),hTup⟩,rfl,?_,?_,λb hb=>?_⟩
  ·exact⟨T,xs[i],ys[i],I.hok.fresh hT,rfl,rfl,λzs hy=>by rw[I.list_inj hy hq1];exact Zb hix,λzs hy=>by rw[I.list_inj hy hq2];exact Zb hiy⟩
  ·exact⟨hst2.1,hst2.2.1,hst2.2.2.1,hst2.2.2.2.1,hst2.2.2.2.2.1⟩
  ·have nb:b≠T:=λq=>by
    subst q;simp only[Zi,Zs,Yv]at hb hTn;rcases hb with q|q|q|q|q
    ·exact hTn (.inl q)
    ·exact hTI q
    ·exact hTn (.inr (.inl q))
    ·exact hTn (.inr (.inr (.inl q)))
    ·exact hTn (.inr (.inr (.inr q)))
   rw[a0p nb];exact(hf b hb).1
 done:=by
  intro X hP hw hK hc i pins s σ H E I hf st hg;subst hP hw hK;obtain⟨hi,xs,ys,hq1,hq2,hl1,hl2⟩:=hg;subst hi;obtain⟨its,rv,p,hz⟩:=I.list hq1;obtain⟨its',rv',p',hz'⟩:=I.list hq2;have hlen:=rv.length;have hlen':=rv'.length;obtain⟨sz,sTI,⟨x,y,sTO⟩,s1,s2⟩:=st;have hend:its.toArray[min n m]? =none\/its'.toArray[min n m]? =none:=by
   rcases Nat.le_total n m with q|q
   ·left;simp;omega
   ·right;simp;omega
  refine wpAny_pyNext_zip_end (I.ok.hd hc) D sz sTI sTO s1 s2 p.isList p'.isList hend λh' eb=>⟨rfl,I.turnedMany (t':=s.toks) (ch:=[z,TI,TO,i1,i2]) hf λc u hc q=>eb c u (λe=>hc (by simp[e])) (λe=>hc (by simp[e])) (λe=>hc (by simp[e])) (λe=>hc (by simp[e])) q⟩
 self:=λ_ _ _ _ _ st h=>Vg st.1 h
section
variable{X:Cx}
def iZip(K:W.Frag)(ta:TA):TI:=λσ H R=>ta σ H λvs H1=>∃a b xs ys,vs=[.ref a,.ref b]/\SqL K H1 a xs/\SqL K H1 b ys/\R (Izp K a b xs.length ys.length) H1
theorem kpi_zip(K:W.Frag)(hK:X.K=K){elts:List Expr}{k:Nat}{tpos:Pos}{a b:Expr}{ta:TA}{p pos:Pos}(hg:Gl X "zip")(hm:X.mg "zip"=none)(ha:PA X [a,b] ta)(hs:starEach (a::[b]) X.env=(false,eval a X.env)::starEach [b] X.env:=by rfl)(hpl:(backTo pos (starEach [b] X.env)).any (·.1)=false:=by rfl):PI X (.Tuple elts k tpos) (.Call (.Name "zip" p) [a,b] [] pos) (iZip K ta):=by
 subst hK;intro pins s σ H R I h;refine Call_ (a4w I hg hm (by decide+kernel:bootBuiltins "zip"=some (.type "zip")) (Yh (thn (ha pos pins s σ H _ I h) λus s1 ⟨vs,H1,I1,r1,q1⟩=>?_) hs hpl));obtain⟨l,l',xs,ys,e,hq,hq',q⟩:=q1;subst e;obtain⟨u,u',rfl,r1,r2⟩:=a6w r1;cases r1;cases r2;obtain⟨its,rv,pl,hz⟩:=I1.list hq;obtain⟨its',rv',pl',hz'⟩:=I1.list hq';have hlt:l<s1.heap.objs.size:=by obtain⟨o,ho,_⟩:=pl.isList;exact Zh ho
 have hlt':l'<s1.heap.objs.size:=by obtain⟨o,ho,_⟩:=pl'.isList;exact Zh ho
 refine call_zip_2 pl.isList pl'.isList λh' he hTI hTO hi1 hi2 hsz hk=>Vg he ?_
 have D:ZipApart (s1.heap.objs.size+4) (s1.heap.objs.size+2) (s1.heap.objs.size+3) s1.heap.objs.size (s1.heap.objs.size+1) l l':=b1n _ _ _ hlt hlt';refine⟨_,[s1.heap.objs.size+4,s1.heap.objs.size+2,s1.heap.objs.size+3,s1.heap.objs.size,s1.heap.objs.size+1],_,_,H1,rfl,I1.kept (t':=s1.toks) hk,c9q _ _ _ _ _ l l' xs.length ys.length D,⟨he,hTI,⟨_,_,hTO⟩,hi1,hi2⟩,λb hb=>?_,q⟩;have hb:s1.heap.objs.size<=b:=by
  simp only[Zi,Zs,Yv]at hb;rcases hb with rfl|rfl|rfl|rfl|rfl
  ·exact Yn _ _
  ·exact Yn _ _
  ·exact Yn _ _
  ·exact Zg _
  ·exact Yn _ _
 exact I1.fpOk hb (I1.hok.fresh hb)
end
theorem iZip_i{K:W.Frag}{σ:St}{H:Hp}{ta:TA}{R:It->Hp->Prop}(k:ta σ H λvs H1=>∃a b xs ys,vs=[.ref a,.ref b]/\SqL K H1 a xs/\SqL K H1 b ys/\R (Izp K a b xs.length ys.length) H1):iZip K ta σ H R:=k
section
variable{X:Cx}{es rest:List Expr}{k:Nat}{pos:Pos}{env:Env}{te:TE}{t:TA}
def notStar:Expr->Bool
 | .Starred _ _=>false
 |_=>true
theorem b9o{e:Expr}(h:notStar e=true):starEach (e::rest) env=(false,eval e env)::starEach rest env:=by
 cases e<;>first|rfl|cases h
theorem a0a{e:Expr}(ha:PE X e te)(hr:PA X rest t)(h:notStar e=true:=by rfl):PA X (e::rest) (b7w te t):=c1u ha hr (b9o h)
theorem a8m{n:Option Expr}{l:Nat}:swapsWith (.Tuple es k pos) n l env=pure false:=rfl
theorem a5c{n:Option Expr}{l:Nat}:swapsWith (.List es pos) n l env=pure false:=rfl
theorem a1y{a b:Expr}{op:Operator}{n:Option Expr}{l:Nat}:swapsWith (.BinOp a op b pos) n l env=pure false:=rfl
theorem b5j{a b:Expr}{n:Option Expr}{l:Nat}:swapsWith (.Subscript a b pos) n l env=pure false:=rfl
theorem a1g{a:Expr}{kw:List Keyword}{n:Option Expr}{l:Nat}:swapsWith (.Call a es kw pos) n l env=pure false:=rfl
end
structure QA(X:Cx)(es:List Expr)(t:TA):Prop where
 pa:PA X es t
section
variable{X:Cx}{a b e:Expr}{es rest:List Expr}{k:Nat}{pos pos':Pos}{te ta tb:TE}{t:TA}{u v:TS}{st:Stmt}{x:Str}
theorem a1b(h:PE X e te):QE X e te:=⟨h⟩
theorem a2y(h:PS X st u):QS X st u:=⟨h⟩
theorem a0y:QA X [] tNil:=⟨a0e⟩
theorem a0o(ha:QE X e te)(hr:QA X rest t)(h:notStar e=true):QA X (e::rest) (b7w te t):=⟨c1u ha.pe hr.pa (b9o h)⟩
theorem a1k(h:QA X es t):QE X (.Tuple es k pos) (tTup t):=⟨a1j h.pa⟩
theorem a2e(h:QA X es t):QE X (.List es pos) (tLst t):=⟨a1u h.pa⟩
theorem qe_op{op:Operator}{r:R2}(ho:OpR X (binaryOp op) r)(ha:QE X a ta)(hb:QE X b tb):QE X (.BinOp a op b pos) (tOp r ta tb):=⟨a0l ho ha.pe hb.pe⟩
theorem qe_ix{r:R2}(hr:IxR X r)(ha:QE X a ta)(hb:QE X b tb)(hs:c1z b):QE X (.Subscript a b pos) (tOp r ta tb):=⟨a0i hr ha.pe hb.pe hs⟩
theorem b0m{c:Expr}{l m:List Stmt}{tc:TT}(hc:PT X c tc)(ha:QSs X l u)(hb:QSs X m v):QS X (.If c l m pos) (tIfS tc u v):=⟨a1a hc ha.pss hb.pss⟩
theorem a9v:QSs X [] tNext:=⟨a0u⟩
end
namespace FD
end FD
section
variable{prog:Program}{w:World}{A:Around}{R:Result->Shared->Prop}
def b9p{K:Type}[DecidableEq K](knd:PySem.KeyKind prog w K)(ts:List Addr)(kvs:List (K×Value))(h:Heap):Prop:=∀(i:Nat)(T:Addr),ts[i]? =some T->∃(kk:K)(key val:Value),kvs[i]? =some (kk,val)/\knd.is kk key=true/\IsTup h T #[key,val]
theorem b9p.keep{K:Type}[DecidableEq K]{knd:PySem.KeyKind prog w K}{ts:List Addr}{kvs:List (K×Value)}{h h':Heap}(x:b9p knd ts kvs h)(k:∀T∈ts,∀o,h.get? T=some o->h'.get? T=some o):b9p knd ts kvs h':=λi T e=>by
 obtain⟨kk,key,val,e1,e2,o,ho,r⟩:=x i T e;exact⟨kk,key,val,e1,e2,o,k T (Yy e) o ho,r⟩
end
section
variable{X:Cx}
def mDictK:List V->Hp->VK->Prop:=λvs H Q=>∃(a:Addr)(kvs:List (Key×V)),vs=[.ref a]/\H a=some (.dK kvs)/\∀p,H p=none->Q (.ref p) (upd H p (.dK kvs))
theorem c9r:a2b X (.type "dict") mDictK:=by
 intro pins s σ H xs us Q I r h;obtain⟨a,kvs,rfl,ha,q⟩:=h;obtain⟨u,rfl,r1⟩:=vals1 r;obtain rfl:u=Value.ref a:=r1;exact c9a I (.inl ha) λp s' hp I'=>⟨.ref p,_,I',rfl,q p hp⟩
end
abbrev Rws:=List (Str×Trm)
def a2q(K:Frag)(H:Hp)(kvs:List (Key×V))(rows:Rws):Prop:=Paired (λ(p:Key×V) (q:Str×Trm)=>p.1=Sum.inr q.1/\Den K H p.2 q.2.data) kvs rows
def a3i(rows:Rws)(x:Str):Option Trm:=(rows.find? λr=>decide (r.1=x)).map (·.2)
def putR(rows:Rws)(x:Str)(t:Trm):Rws:=if(rows.any λr=>decide (r.1=x))=true then rows.map (λr=>if r.1=x then(r.1,t)else r)else rows++[(x,t)]
section
variable{K:Frag}{H H':Hp}{kvs:List (Key×V)}{rows:Rws}
theorem a2q.mono(h:a2q K H kvs rows)(s:Same H H'):a2q K H' kvs rows:=Paired.mapP h λ_ _ z=>⟨z.1,z.2.mono s⟩
theorem a2q.monoT(h:a2q K H kvs rows)(e:∀a xs,SqT K H a xs->SqT K H' a xs):a2q K H' kvs rows:=Paired.mapP h λ_ _ z=>⟨z.1,z.2.monoT e⟩
theorem a2q.len(h:a2q K H kvs rows):kvs.length=rows.length:=V5 h
theorem key_inr(a b:Str):((Sum.inr a:Key)=Sum.inr b)↔a=b:=⟨λh=>Uq h,λh=>by rw[h]⟩
theorem a2q.get:∀{kvs:List (Key×V)}{rows:Rws},a2q K H kvs rows->∀x:Str,(a3i rows x=none/\valV kvs (Sum.inr x)=none)\/∃t v,a3i rows x=some t/\valV kvs (Sum.inr x)=some v/\Den K H v t.data
 | [],[],_,x=>.inl ⟨rfl,rfl⟩
 | (k,v)::kr,(y,t)::rr,.cons h r,x=>by
  obtain⟨e1,e2⟩:=h;have e1:k=Sum.inr y:=e1;subst e1
  by_cases hx:y=x
  ·subst hx;refine .inr ⟨t,v,?_,?_,e2⟩
   ·simp[a3i]
   ·simp[valV]
  ·have ih:=a2q.get r x;have n1:a3i ((y,t)::rr) x=a3i rr x:=by simp[a3i,hx]
   have n2:valV ((Sum.inr y,v)::kr) (Sum.inr x)=valV kr (Sum.inr x):=by simp[valV,hx]
   rw[n1,n2];exact ih
theorem a2q.any:∀{kvs:List (Key×V)}{rows:Rws},a2q K H kvs rows->∀x:Str,(kvs.any λkv=>decide (kv.1=Sum.inr x))=rows.any λr=>decide (r.1=x)
 | [],[],_,x=>rfl
 | (k,v)::kr,(y,t)::rr,.cons h r,x=>by
  have e1:k=Sum.inr y:=h.1;subst e1;rw[Wa,Wa,a2q.any r x]
  congr 1
  exact Wh.mpr (key_inr y x)
theorem a2q.put(h:a2q K H kvs rows){x:Str}{v:V}{t:Trm}(d:Den K H v t.data):a2q K H (putK kvs (Sum.inr x) v) (putR rows x t):=by
 unfold putK putR;rw[h.any x]
 split
 ·rename_i hz0;clear hz0
  induction kvs generalizing rows with
  |nil=>cases rows with|nil=>exact .nil|cons _ _=>cases h
  |cons p r ih=>
   cases rows with
   |nil=>cases h
   |cons q m=>
    cases h with
    |cons e f=>
     refine .cons ?_ (ih f)
     dsimp only
     obtain⟨e1,e2⟩:=e
     by_cases hx:q.1=x
     ·rw[if_pos hx,if_pos (by rw[e1,hx])];exact⟨e1,d⟩
     ·rw[if_neg hx,if_neg (by rw[e1];exactλz=>hx (Uq z))];exact⟨e1,e2⟩
 ·rename_i hz0;clear hz0
  induction kvs generalizing rows with
  |nil=>cases rows with|nil=>exact .cons ⟨rfl,d⟩ .nil|cons _ _=>cases h
  |cons p r ih=>
   cases rows with
   |nil=>cases h
   |cons q m=>
    cases h with
    |cons e f=>exact .cons e (ih f)
theorem b9q:∀{rows:Rws}{x:Str}{t:Trm},a3i rows x=some t->(x,t)∈rows
 | [],x,t,h=>by simp[a3i]at h
 | (y,u)::r,x,t,h=>by
  by_cases hx:y=x
  ·have:u=t:=by simpa[a3i,hx]using h
   subst this hx;exact Yp
  ·exact Z8 _ (b9q (by simpa[a3i,hx]using h))
end
mutual
def eqb:Trm->Trm->Bool
 | .num a,.num b=>decide (a=b)
 | .any x,.any y=>decide (x=y)
 | .app s ks,.app r ls=>decide (s=r)&&eqbL ks ls
 |_,_=>false
def eqbL:List Trm->List Trm->Bool
 | [],[]=>true
 |a::r,b::m=>eqb a b&&eqbL r m
 |_,_=>false
end
theorem a7i{p:Prop}(h:¬p):false=true↔p:=⟨λz=>Bool.noConfusion z,λz=>absurd z h⟩
mutual
theorem b2y:∀t u:Trm,eqb t u=true↔t=u
 | .num a,.num b=>Ro.trans ⟨λh=>h▸rfl,λh=>Trm.num.inj h⟩
 | .num a,.any y=>a7i nofun
 | .num a,.app _ _=>a7i nofun
 | .any x,.num b=>a7i nofun
 | .any x,.any y=>Ro.trans ⟨λh=>h▸rfl,λh=>Trm.any.inj h⟩
 | .any x,.app _ _=>a7i nofun
 | .app _ _,.num b=>a7i nofun
 | .app _ _,.any y=>a7i nofun
 | .app s ks,.app r ls=>(Wu (x:=decide (s=r)) (y:=eqbL ks ls)).trans ⟨λ⟨h,k⟩=>Zf h▸(a8n ks ls).mp k▸rfl,λh=>⟨Zx (Trm.app.inj h).1,(a8n ks ls).mpr (Trm.app.inj h).2⟩⟩
theorem a8n:∀t u:List Trm,eqbL t u=true↔t=u
 | [],[]=>⟨λ_=>rfl,λ_=>rfl⟩
 | [],_::_=>a7i nofun
 |_::_,[]=>a7i nofun
 |a::r,b::m=>(Wu (x:=eqb a b) (y:=eqbL r m)).trans ⟨λ⟨h,k⟩=>(b2y a b).mp h▸(a8n r m).mp k▸rfl,λh=>⟨(b2y a b).mpr (Xi h).1,(a8n r m).mpr (Xi h).2⟩⟩
end
theorem b3z(t:Trm):eqb t t=true:=(b2y t t).mpr rfl
theorem b9r:∀ks ls:List Trm,((List.range (min ks.length ls.length)).all (λj=>match ks[j]?,ls[j]? with|some a,some b=>eqb a b|_,_=>true)&&(ks.length==ls.length))=eqbL ks ls
 | [],[]=>by simp[eqbL]
 | [],_::_=>by simp[eqbL]
 |_::_,[]=>by simp[eqbL]
 |a::r,b::m=>by
  have ih:=b9r r m
  show _=(eqb a b&&eqbL r m)
  rw[<-ih,length_cons,length_cons,Nat.succ_min_succ,Sj,Ux,List.all_map,Bool.and_assoc]
  congr 1
  congr 1
  ·simp
mutual
theorem Trm.data_inj:∀{t u:Trm},t.data=u.data->t=u
 | .num a,.num b,h=>by simp[Trm.data]at h;rw[h]
 | .num a,.any y,h=>by simp[Trm.data]at h
 | .num a,.app _ _,h=>by simp[Trm.data]at h
 | .any x,.num b,h=>by simp[Trm.data]at h
 | .any x,.any y,h=>by simp[Trm.data]at h;rw[h]
 | .any x,.app _ _,h=>by simp[Trm.data]at h
 | .app _ _,.num b,h=>by simp[Trm.data]at h
 | .app _ _,.any y,h=>by simp[Trm.data]at h
 | .app s ks,.app r ls,h=>by
  simp only[Trm.data,PyData.tuple.injEq,Ul,PyData.str.injEq,and_true,true_and]at h;rw[h.1,Trm.dataL_inj h.2]
theorem Trm.dataL_inj:∀{t u:List Trm},Trm.dataL t=Trm.dataL u->t=u
 | [],[],_=>rfl
 | [],_::_,h=>by simp[Trm.dataL]at h
 |_::_,[],h=>by simp[Trm.dataL]at h
 |a::r,b::m,h=>by
  simp only[Trm.dataL,Ul]at h;rw[Trm.data_inj h.1,Trm.dataL_inj h.2]
end
section
variable{X:Cx}{pins:List (Addr×Obj)}{σ:St}{H:Hp}{s:Shared}
mutual
theorem c2i(I:Inv X pins σ H s):∀{v:V}{d d':PyData},Den X.K H v d->Den X.K H v d'->d=d'
 |_,_,_,.non,h=>by cases h;rfl
 |_,_,_,.bl b,h=>by cases h;rfl
 |_,_,_,.int i,h=>by cases h;rfl
 |_,_,_,.str x,h=>by cases h;rfl
 |_,_,_,.tup hs hl,h=>by
  cases h with
  |tup hs' hl'=>
   have e:=I.tuple_inj hs hs';subst e;rw[b4a I hl hl']
theorem b4a(I:Inv X pins σ H s):∀{v:List V}{d d':List PyData},DenL X.K H v d->DenL X.K H v d'->d=d'
 |_,_,_,.nil,h=>by cases h;rfl
 |_,_,_,.cons h l,h'=>by
  cases h' with
  |cons g m=>rw[c2i I h g,b4a I l m]
end
theorem b7g(I:Inv X pins σ H s){A:Around}{a b:Addr}{us us':List V}(hs:SqT X.K H a us)(hs':SqT X.K H b us')(hab:a≠b)(e:Nat->Bool)(hu:A.units+1<cLine)
  (items:∀j x x' w w',us[j]? =some x->us'[j]? =some x'->RelV x w->RelV x' w'->SeqAt.EqAt A.in1 s w w' (e j)):SeqAt.EqAt A s (.ref a) (.ref b) ((List.range (min us.length us'.length)).all e&&(us.length==us'.length)):=by
 obtain⟨its,rv,p,_⟩:=I.tuple hs;obtain⟨its',rv',p',_⟩:=I.tuple hs';have l1:=rv.length;have l2:=rv'.length
 have key:=SeqAt.RcAt.tuples (A:=A) (e:=e) (show s.heap.IsTuple a its.toArray from p) (show s.heap.IsTuple b its'.toArray from p') qo (λj h1 h2=>by
  have h1:j<its.length:=by simpa using h1
  have h2:j<its'.length:=by simpa using h2
  have x1:us[j]? =some us[j]:=Zb qo
  have x2:us'[j]? =some us'[j]:=Zb qo
  obtain⟨w1,y1,z1⟩:=rv.get x1;obtain⟨w2,y2,z2⟩:=rv'.get x2;have q1:its.toArray[j]=w1:=by
   have:=Zb h1;rw[y1]at this
   simpa using(Zl this).symm
  have q2:its'.toArray[j]=w2:=by
   have:=Zb h2;rw[y2]at this
   simpa using(Zl this).symm
  rw[q1,q2]
  exact items j _ _ _ _ x1 x2 z1 z2)
 rw[Zd,Zd,<-l1,<-l2]at key;exact U1 hab key
def eT(t t':Trm):Nat->Bool
 |0=>match t,t' with| .num _,.num _=>true| .any _,.any _=>true| .app _ _,.app _ _=>true|_,_=>false
 |1=>match t,t' with| .num a,.num b=>decide (a=b)| .any x,.any y=>decide (x=y)| .app r _,.app q _=>decide (r=q)| .any x,.app q _=>decide (x=q)| .app r _,.any y=>decide (r=y)|_,_=>false
 |2=>match t,t' with| .app _ ks,.app _ ls=>eqbL ks ls|_,_=>true
 |_=>true
def lenT:Trm->Nat
 | .app _ _=>3
 |_=>2
theorem two_b(x:Bool):((true&&(x&&true))&&true)=x:=by cases x<;>rfl
theorem thr_b(x y:Bool):((true&&(x&&(y&&true)))&&true)=(x&&y):=by cases x<;>cases y<;>rfl
theorem b9s(t t':Trm):((List.range (min (lenT t) (lenT t'))).all (eT t t')&&(lenT t==lenT t'))=eqb t t':=by
 cases t<;>cases t'<;>first|rfl|exact two_b _|exact thr_b _ _
theorem b9t{ks:List Trm}{t:Trm}(h:t∈ks):t.size<=Trm.sizeL ks:=by
 obtain⟨a,b,rfl⟩:=List.append_of_mem h;rw[Trm.sizeL_app,Trm.sizeL];omega
theorem b4b(I:Inv X pins σ H s)(n:Nat)(ih:∀(A:Around)(t t':Trm)(v v':V)(u u':Value),t.size<=n->A.units+2*n+4<cLine->Den X.K H v t.data->Den X.K H v' t'.data->RelV v u->RelV v' u'->SeqAt.EqAt A s u u' (eqb t t'))
  (A:Around)(t t':Trm){a a':Addr}(h:Den X.K H (.ref a) t.data)(h':Den X.K H (.ref a') t'.data)(hz:t.size<=n+1)(hu:A.units+2*(n+1)+4<cLine):
  ∃us us',SqT X.K H a us/\SqT X.K H a' us'/\us.length=lenT t/\us'.length=lenT t'/\∀j x x' w w',us[j]? =some x->us'[j]? =some x'->RelV x w->RelV x' w'->SeqAt.EqAt A.in1 s w w' (eT t t' j):=by
 cases t with
 |num m=>
  obtain⟨a0,e0,hs⟩:=a3v h;cases e0;cases t' with
  |num m'=>
   obtain⟨a0',e0',hs'⟩:=a3v h';cases e0';refine⟨_,_,hs,hs',rfl,rfl,λj y y' w w' h1 h2 r1 r2=>?_⟩
   match j,h1,h2 with
    |0,h1,h2=>
     simp only[Zw,Z2]at h1 h2;subst h1 h2;have:=a2c (A:=A.in1) (s:=s) (a:=Sum.inr numS) (b:=Sum.inr numS) r1 r2;rw[show decide ((Sum.inr numS:Key)=Sum.inr numS)=true from qk]at this;exact this
    |1,h1,h2=>
     simp only[Yl,Zw,Z2]at h1 h2;subst h1 h2;have:=a2c (A:=A.in1) (s:=s) (a:=Sum.inl m) (b:=Sum.inl m') r1 r2;have e9:decide ((Sum.inl m:Key)=Sum.inl m')=decide (m=m'):=by
      refine Wh.mpr ⟨λh=>?_,λh=>by rw[h]⟩
      injection h
     rw[e9]at this;exact this
    |j+2,h1,h2=>simp at h1
  |any x'=>
   obtain⟨a0',e0',hs'⟩:=a3w h';cases e0';refine⟨_,_,hs,hs',rfl,rfl,λj y y' w w' h1 h2 r1 r2=>?_⟩
   match j,h1,h2 with
    |0,h1,h2=>
     simp only[Zw,Z2]at h1 h2;subst h1 h2;have:=a2c (A:=A.in1) (s:=s) (a:=Sum.inr numS) (b:=Sum.inr anyS) r1 r2;rw[show decide ((Sum.inr numS:Key)=Sum.inr anyS)=false from qk]at this;exact this
    |1,h1,h2=>
     simp only[Yl,Zw,Z2]at h1 h2;subst h1 h2;have:=a2c (A:=A.in1) (s:=s) (a:=Sum.inl m) (b:=Sum.inr x') r1 r2;have e9:decide ((Sum.inl m:Key)=Sum.inr x')=false:=Zo (λh=>by cases h);rw[e9]at this;exact this
    |j+2,h1,h2=>simp at h1
  |app sg' ks'=>
   obtain⟨a0',b',ku',e0',hs',hb',hk'⟩:=a1x h';cases e0';refine⟨_,_,hs,hs',rfl,rfl,λj y y' w w' h1 h2 r1 r2=>?_⟩
   match j,h1,h2 with
    |0,h1,h2=>
     simp only[Zw,Z2]at h1 h2;subst h1 h2;have:=a2c (A:=A.in1) (s:=s) (a:=Sum.inr numS) (b:=Sum.inr appS) r1 r2;rw[show decide ((Sum.inr numS:Key)=Sum.inr appS)=false from qk]at this;exact this
    |1,h1,h2=>
     simp only[Yl,Zw,Z2]at h1 h2;subst h1 h2;have:=a2c (A:=A.in1) (s:=s) (a:=Sum.inl m) (b:=Sum.inr sg') r1 r2;have e9:decide ((Sum.inl m:Key)=Sum.inr sg')=false:=Zo (λh=>by cases h);rw[e9]at this;exact this
    |j+2,h1,h2=>simp at h1
 |any x=>
  obtain⟨a0,e0,hs⟩:=a3w h;cases e0;cases t' with
  |num m'=>
   obtain⟨a0',e0',hs'⟩:=a3v h';cases e0';refine⟨_,_,hs,hs',rfl,rfl,λj y y' w w' h1 h2 r1 r2=>?_⟩
   match j,h1,h2 with
    |0,h1,h2=>
     simp only[Zw,Z2]at h1 h2;subst h1 h2;have:=a2c (A:=A.in1) (s:=s) (a:=Sum.inr anyS) (b:=Sum.inr numS) r1 r2;rw[show decide ((Sum.inr anyS:Key)=Sum.inr numS)=false from qk]at this;exact this
    |1,h1,h2=>
     simp only[Yl,Zw,Z2]at h1 h2;subst h1 h2;have:=a2c (A:=A.in1) (s:=s) (a:=Sum.inr x) (b:=Sum.inl m') r1 r2;have e9:decide ((Sum.inr x:Key)=Sum.inl m')=false:=Zo (λh=>by cases h);rw[e9]at this;exact this
    |j+2,h1,h2=>simp at h1
  |any x'=>
   obtain⟨a0',e0',hs'⟩:=a3w h';cases e0';refine⟨_,_,hs,hs',rfl,rfl,λj y y' w w' h1 h2 r1 r2=>?_⟩
   match j,h1,h2 with
    |0,h1,h2=>
     simp only[Zw,Z2]at h1 h2;subst h1 h2;have:=a2c (A:=A.in1) (s:=s) (a:=Sum.inr anyS) (b:=Sum.inr anyS) r1 r2;rw[show decide ((Sum.inr anyS:Key)=Sum.inr anyS)=true from qk]at this;exact this
    |1,h1,h2=>
     simp only[Yl,Zw,Z2]at h1 h2;subst h1 h2;have:=a2c (A:=A.in1) (s:=s) (a:=Sum.inr x) (b:=Sum.inr x') r1 r2;have e9:decide ((Sum.inr x:Key)=Sum.inr x')=decide (x=x'):=by
      refine Wh.mpr ⟨λh=>?_,λh=>by rw[h]⟩
      injection h
     rw[e9]at this;exact this
    |j+2,h1,h2=>simp at h1
  |app sg' ks'=>
   obtain⟨a0',b',ku',e0',hs',hb',hk'⟩:=a1x h';cases e0';refine⟨_,_,hs,hs',rfl,rfl,λj y y' w w' h1 h2 r1 r2=>?_⟩
   match j,h1,h2 with
    |0,h1,h2=>
     simp only[Zw,Z2]at h1 h2;subst h1 h2;have:=a2c (A:=A.in1) (s:=s) (a:=Sum.inr anyS) (b:=Sum.inr appS) r1 r2;rw[show decide ((Sum.inr anyS:Key)=Sum.inr appS)=false from qk]at this;exact this
    |1,h1,h2=>
     simp only[Yl,Zw,Z2]at h1 h2;subst h1 h2;have:=a2c (A:=A.in1) (s:=s) (a:=Sum.inr x) (b:=Sum.inr sg') r1 r2;have e9:decide ((Sum.inr x:Key)=Sum.inr sg')=decide (x=sg'):=by
      refine Wh.mpr ⟨λh=>?_,λh=>by rw[h]⟩
      injection h
     rw[e9]at this;exact this
    |j+2,h1,h2=>simp at h1
 |app sg ks=>
  obtain⟨a0,b,ku,e0,hs,hb,hk⟩:=a1x h;cases e0;cases t' with
  |num m'=>
   obtain⟨a0',e0',hs'⟩:=a3v h';cases e0';refine⟨_,_,hs,hs',rfl,rfl,λj y y' w w' h1 h2 r1 r2=>?_⟩
   match j,h1,h2 with
    |0,h1,h2=>
     simp only[Zw,Z2]at h1 h2;subst h1 h2;have:=a2c (A:=A.in1) (s:=s) (a:=Sum.inr appS) (b:=Sum.inr numS) r1 r2;rw[show decide ((Sum.inr appS:Key)=Sum.inr numS)=false from qk]at this;exact this
    |1,h1,h2=>
     simp only[Yl,Zw,Z2]at h1 h2;subst h1 h2;have:=a2c (A:=A.in1) (s:=s) (a:=Sum.inr sg) (b:=Sum.inl m') r1 r2;have e9:decide ((Sum.inr sg:Key)=Sum.inl m')=false:=Zo (λh=>by cases h);rw[e9]at this;exact this
    |j+2,h1,h2=>simp at h2
  |any x'=>
   obtain⟨a0',e0',hs'⟩:=a3w h';cases e0';refine⟨_,_,hs,hs',rfl,rfl,λj y y' w w' h1 h2 r1 r2=>?_⟩
   match j,h1,h2 with
    |0,h1,h2=>
     simp only[Zw,Z2]at h1 h2;subst h1 h2;have:=a2c (A:=A.in1) (s:=s) (a:=Sum.inr appS) (b:=Sum.inr anyS) r1 r2;rw[show decide ((Sum.inr appS:Key)=Sum.inr anyS)=false from qk]at this;exact this
    |1,h1,h2=>
     simp only[Yl,Zw,Z2]at h1 h2;subst h1 h2;have:=a2c (A:=A.in1) (s:=s) (a:=Sum.inr sg) (b:=Sum.inr x') r1 r2;have e9:decide ((Sum.inr sg:Key)=Sum.inr x')=decide (sg=x'):=by
      refine Wh.mpr ⟨λh=>?_,λh=>by rw[h]⟩
      injection h
     rw[e9]at this;exact this
    |j+2,h1,h2=>simp at h2
  |app sg' ks'=>
   obtain⟨a0',b',ku',e0',hs',hb',hk'⟩:=a1x h';cases e0';refine⟨_,_,hs,hs',rfl,rfl,λj y y' w w' h1 h2 r1 r2=>?_⟩
   match j,h1,h2 with
    |0,h1,h2=>
     simp only[Zw,Z2]at h1 h2;subst h1 h2;have:=a2c (A:=A.in1) (s:=s) (a:=Sum.inr appS) (b:=Sum.inr appS) r1 r2;rw[show decide ((Sum.inr appS:Key)=Sum.inr appS)=true from qk]at this;exact this
    |1,h1,h2=>
     simp only[Yl,Zw,Z2]at h1 h2;subst h1 h2;have:=a2c (A:=A.in1) (s:=s) (a:=Sum.inr sg) (b:=Sum.inr sg') r1 r2;have e9:decide ((Sum.inr sg:Key)=Sum.inr sg')=decide (sg=sg'):=by
      refine Wh.mpr ⟨λh=>?_,λh=>by rw[h]⟩
      injection h
     rw[e9]at this;exact this
    |2,h1,h2=>
     simp only[Yl,Zw,Z2]at h1 h2;subst h1 h2;obtain rfl:w=Value.ref b:=r1;obtain rfl:w'=Value.ref b':=r2
     show SeqAt.EqAt A.in1 s (.ref b) (.ref b') (eqbL ks ks')
     by_cases hbb:b=b'
     ·subst hbb;have e1:=I.tuple_inj hb hb';subst e1;have e2:=Trm.dataL_inj (b4a I hk hk');subst e2;rw[(a8n ks ks).mpr rfl];exact Xx _
     ·have l1:=hk.length;have l2:=hk'.length;rw[Trm.dataL_map,length_map]at l1 l2
      have:=b7g I (A:=A.in1) hb hb' hbb (λj=>match ks[j]?,ks'[j]? with|some a,some b=>eqb a b|_,_=>true) (by show A.units+1+1<cLine;omega) (λj y y' z z' g1 g2 q1 q2=>by
       obtain⟨d,e1,d1⟩:=hk.get g1;obtain⟨d',e2,d2⟩:=hk'.get g2;rw[Trm.dataL_map,Z5]at e1 e2;cases f1:ks[j]? with
       |none=>rw[f1]at e1;cases e1
       |some k1=>
        cases f2:ks'[j]? with
        |none=>rw[f2]at e2;cases e2
        |some k2=>
         rw[f1]at e1;rw[f2]at e2;cases e1;cases e2;have hs1:=b9t (Yy f1);simp only[Trm.size]at hz
         exact ih A.in1.in1 k1 k2 y y' z z' qo (by show A.units+1+1+2*n+4<cLine;omega) d1 d2 q1 q2)
      rw[l1,l2,b9r]at this;exact this
    |j+3,h1,h2=>simp at h1
theorem b4c(I:Inv X pins σ H s):∀(n:Nat)(A:Around)(t t':Trm)(v v':V)(u u':Value),t.size<=n->A.units+2*n+4<cLine->Den X.K H v t.data->Den X.K H v' t'.data->RelV v u->RelV v' u'->SeqAt.EqAt A s u u' (eqb t t'):=by
 intro n
 induction n with
 |zero=>
  intro A t t' v v' u u' hz;have:=t.size_pos;omega
 |succ n ih=>
  intro A t t' v v' u u' hz hu h h' r r';obtain⟨a,_,_,rfl,_⟩:=a6k h;obtain⟨a',_,_,rfl,_⟩:=a6k h';obtain rfl:u=Value.ref a:=r;obtain rfl:u'=Value.ref a':=r'
  by_cases hab:a=a'
  ·subst hab;have e1:=Trm.data_inj (c2i I h h');rw[e1,b3z];exact Xx _
  obtain⟨us,us',hs,hs',l1,l2,it⟩:=b4b I n ih A t t' h h' hz hu;have key:=b7g I (A:=A) hs hs' hab (eT t t') qo it;rw[l1,l2,b9s]at key;exact key
end
section
variable{X:Cx}
def mEqT(K:Frag)(n:Bool):R2:=λx y H Q=>∃(t t':Trm),Den K H x t.data/\Den K H y t'.data/\t.size<=70/\Q (.bl (n^^eqb t t')) H
theorem b5k(K:Frag)(hK:X.K=K)(hu:X.A.units+150<cLine):OpR X (compareOp .Eq) (mEqT K false):=by
 subst hK;intro pins s σ H x y v u Q I rx ry h;obtain⟨t,t',h,h',hz,k⟩:=h;obtain⟨a,_,_,rfl,_⟩:=a6k h;obtain⟨a',_,_,rfl,_⟩:=a6k h';cases rx;cases ry;obtain⟨us,us',hs,hs',l1,l2,it⟩:=b4b I 69 (b4c I 69) X.A t t' h h' qo qo;obtain⟨its,rv,p1,_⟩:=I.tuple hs;obtain⟨its',rv',p2,_⟩:=I.tuple hs';have m1:=rv.length;have m2:=rv'.length;refine SeqAt.eq_tupleAt (e:=eT t t') (show s.heap.IsTuple a its.toArray from p1) (show s.heap.IsTuple a' its'.toArray from p2) qo (λj h1 h2=>?_) ?_
 ·have h1:j<its.length:=by simpa using h1
  have h2:j<its'.length:=by simpa using h2
  have x1:us[j]? =some us[j]:=Zb qo
  have x2:us'[j]? =some us'[j]:=Zb qo
  obtain⟨w1,y1,z1⟩:=rv.get x1;obtain⟨w2,y2,z2⟩:=rv'.get x2;have q1:its.toArray[j]=w1:=by
   have:=Zb h1;rw[y1]at this
   simpa using(Zl this).symm
  have q2:its'.toArray[j]=w2:=by
   have:=Zb h2;rw[y2]at this
   simpa using(Zl this).symm
  rw[q1,q2];exact it j _ _ _ _ x1 x2 z1 z2
 ·rw[Zd,Zd,<-m1,<-m2,l1,l2,b9s];rw[Zn]at k;exact⟨.bl _,H,I,rfl,k⟩
theorem ko_neT(K:Frag)(hK:X.K=K)(hu:X.A.units+150<cLine):OpR X (compareOp .NotEq) (mEqT K true):=by
 subst hK;intro pins s σ H x y v u Q I rx ry h;obtain⟨t,t',h,h',hz,k⟩:=h;obtain⟨a,_,_,rfl,_⟩:=a6k h;obtain⟨a',_,_,rfl,_⟩:=a6k h';cases rx;cases ry;obtain⟨us,us',hs,hs',l1,l2,it⟩:=b4b I 69 (b4c I 69) X.A t t' h h' qo qo;obtain⟨its,rv,p1,_⟩:=I.tuple hs;obtain⟨its',rv',p2,_⟩:=I.tuple hs';have m1:=rv.length;have m2:=rv'.length;refine Re (e:=eT t t') (show s.heap.IsTuple a its.toArray from p1) (show s.heap.IsTuple a' its'.toArray from p2) qo (λj h1 h2=>?_) X.prog X.w _ _ ?_
 ·have h1:j<its.length:=by simpa using h1
  have h2:j<its'.length:=by simpa using h2
  have x1:us[j]? =some us[j]:=Zb qo
  have x2:us'[j]? =some us'[j]:=Zb qo
  obtain⟨w1,y1,z1⟩:=rv.get x1;obtain⟨w2,y2,z2⟩:=rv'.get x2;have q1:its.toArray[j]=w1:=by
   have:=Zb h1;rw[y1]at this
   simpa using(Zl this).symm
  have q2:its'.toArray[j]=w2:=by
   have:=Zb h2;rw[y2]at this
   simpa using(Zl this).symm
  rw[q1,q2];exact it j _ _ _ _ x1 x2 z1 z2
 ·rw[Zd,Zd,<-m1,<-m2,l1,l2,b9s];rw[T7]at k;exact⟨.bl _,H,I,rfl,k⟩
theorem a9w{K:Frag}{H:Hp}{Q:VK}{x y:V}{n:Bool}{t t':Trm}(h:Den K H x t.data)(h':Den K H y t'.data)(hz:t.size<=70)(k:Q (.bl (n^^eqb t t')) H):mEqT K n x y H Q:=⟨t,t',h,h',hz,k⟩
end
section
variable{prog:Program}{w:World}{A:Around}{E:Value->Shared->Prop}{s:Shared}
theorem a6a{it l:Addr}{i:Nat}{items}{x:Value}{Q:Value->Shared->Prop}(hit:s.heap.IsTupleIter it l i)
  (hl:s.heap.IsTuple l items)(hx:items[i]? =some x)
  (hQ:∀h',h'.IsTupleIter it l (i+1)->Heap.SameBut it s.heap h'->Q x { s with heap:=h'}):
  wpAny (model prog w) A (Builtin.SmallTypes.nextOf (.ref it)) Q E s:=by
 obtain⟨o,ho,hc,hd⟩:=id hit;obtain⟨ol,hol,_,nl,hdl⟩:=hl;unfold Builtin.SmallTypes.nextOf
 refine Za (wpAny_callSpecial?_slot (name:=ofString "__next__") hit.typeIs Wt
  (Ym Wt hit.typeIs Tv ?_ (Tu _)))
 show wpAny _ _ (field (.ref it) 0>>=_) _ _ s
 refine Za (Z0 ho hd (x:=.ref l) rfl ?_)
 show wpAny _ _ (if(Value.ref l==Value.none)=true then _ else _) _ _ s
 rw[if_neg (show ¬((Value.ref l==Value.none)=true)from Zp)]
 show wpAny _ _ (field (.ref it) 1>>=_) _ _ s
 refine Za (Z0 ho hd (x:=.int i 0) rfl ?_)
 show wpAny _ _ (seqItems? (.ref l)>>=_) _ _ s
 refine Za (Yu hol hdl ?_);simp only[V0,hx];refine Za (Xs ho hd qz (Ze ⟨x,rfl,Ze (hQ _ ?_ (Wc ..))⟩))
 exact⟨_,Z3 _ ho (Xo (X1 hd _)),(Vx ..).trans hc,by
  rw[X1 hd];simp[rawInt]⟩
theorem b7h{it l:Addr}{i:Nat}{items}{Q:Value->Shared->Prop}(hh:A.handled=none)
  (hit:s.heap.IsTupleIter it l i)(hl:s.heap.IsTuple l items)(hx:items[i]? =none)
  (hE:∀h' e,Heap.ExtBut it s.heap h'->(∃o,h'.get? e=some o/\o.cls=.type "StopIteration")->E (.ref e) { s with heap:=h'}):
  wpAny (model prog w) A (Builtin.SmallTypes.nextOf (.ref it)) Q E s:=by
 obtain⟨o,ho,hc,hd⟩:=id hit;obtain⟨ol,hol,_,nl,hdl⟩:=hl;unfold Builtin.SmallTypes.nextOf
 refine Za (wpAny_callSpecial?_slot (name:=ofString "__next__") hit.typeIs Wt
  (Ym Wt hit.typeIs Tv ?_ (Tu _)))
 show wpAny _ _ (field (.ref it) 0>>=_) _ _ s
 refine Za (Z0 ho hd (x:=.ref l) rfl ?_)
 show wpAny _ _ (if(Value.ref l==Value.none)=true then _ else _) _ _ s
 rw[if_neg (show ¬((Value.ref l==Value.none)=true)from Zp)]
 show wpAny _ _ (field (.ref it) 1>>=_) _ _ s
 refine Za (Z0 ho hd (x:=.int i 0) rfl ?_)
 show wpAny _ _ (seqItems? (.ref l)>>=_) _ _ s
 refine Za (Yu hol hdl ?_);simp only[V0,hx];refine Za (Wk (Za (Xs ho hd qz ?_)))
 show wpAny _ _ (newExc (.type "StopIteration") []>>=_) _ _ _
 refine Za ?_;simp only[newExc,newTuple];refine Za (Yo ?_ (by size_fits));refine Za (m:=firstArgMember _ _) (Ws (a:=Value.none) (by first|rfl| (simp only[firstArgMember];rfl)) ?_);refine Yo ?_ (by size_fits);simp only[raiseNew];refine Za (wpAny_handled ?_)
 first|rw[show A.in1.handled=none from hh]|rw[hh]
 refine Za (Ze (wpAny_throw ?_));exact hE _ _ (((Wc ..).extBut.push _).push _) ⟨_,Zk _ rfl,rfl⟩
abbrev a5r(h:Heap)(z TI TO:Addr)(f0:Value)(f1:Bool):Prop:=
 h.get? z=some { cls:=.type "zip",dict:=none,data:=.fields #[f0,.bool f1,.bool false,.ref TI,.ref TO],slots:=#[]}
theorem c6n{z TI TO i1 i2 l1 l2:Addr}{k1 k2:Nat}{xs ys:Array Value}{x y a b:Value}{Q:Value->Shared->Prop}(D:ZipApart z TI TO i1 i2 l1 l2)
  (hz:IsZip s.heap z TI TO .none)(hTI:IsPair s.heap TI (.ref i1) (.ref i2))(hTO:IsPair s.heap TO a b)
  (h1:s.heap.IsTupleIter i1 l1 k1)(h2:s.heap.IsTupleIter i2 l2 k2)(hl1:s.heap.IsTuple l1 xs)(hl2:s.heap.IsTuple l2 ys)(hx:xs[k1]? =some x)(hy:ys[k2]? =some y)
  (hQ:∀h',a5r h' z TI TO (rawInt s.heap.objs.size) false->IsPair h' TO x y->h'.IsTupleIter i1 l1 (k1+1)->h'.IsTupleIter i2 l2 (k2+1)->IsPair h' s.heap.objs.size x y->h'.objs.size=s.heap.objs.size+1->
   (∀c o,c≠z->c≠TO->c≠i1->c≠i2->s.heap.get? c=some o->h'.get? c=some o)->Q (.ref s.heap.objs.size) { s with heap:=h'}):
  wpAny (model prog w) A (Builtin.«zip.__next__» ⟨[.ref z],[]⟩) (λfin s'=>∃v,fin=.done (.ret v)/\Q v s') E s:=by
 show wpAny _ _ (field (.ref z) 2>>=_) _ _ _
 refine Za (Z0 hz rfl (x:=.bool false) rfl ?_)
 show wpAny _ _ (field (.ref z) 3>>=_) _ _ _
 refine Za (Z0 hz rfl (x:=.ref TI) rfl ?_);refine Za (Yu hTI rfl ?_)
 show wpAny _ _ (Builtin.SmallTypes.ownedTupleIsFree (.ref z)>>=_) _ _ _
 refine Za ?_;unfold Builtin.SmallTypes.ownedTupleIsFree;refine Za (Z0 hz rfl (x:=.none) rfl (Ze ?_));simp only[if_true];refine Za (Wk ?_);refine Za (Z0 hz rfl (x:=.ref TO) rfl ?_);refine Za (Xe hz qz λh₁ hz₁ hs₁=>?_)
 replace hz₁:IsZip h₁ z TI TO .ellipsis:=hz₁
 refine Za ?_;simp only[Tn,Tq,W3,Vc];refine Za (Za (V2 ?_))
 show wpAny _ _ (Builtin.SmallTypes.nextOf (.ref i1)>>=_) _ _ _
 refine Za (a6a (h1.extBut hs₁.extBut D.i1z) (hl1.extBut hs₁.extBut D.l1z) hx λh₂ h1₂ hs₂=>Ze ?_);have hTO₂:IsPair h₂ TO a b:=hs₂.extBut _ _ D.TOi1 (hs₁.extBut _ _ D.TOz hTO);refine Za (Yu hTO₂ rfl ?_);refine Za (Vi hTO₂ λh₃ hTO₃ hs₃=>?_)
 replace hTO₃:IsPair h₃ TO x b:=hTO₃
 refine Za (Vj (Ze ?_));refine Za (Za (V2 ?_))
 show wpAny _ _ (Builtin.SmallTypes.nextOf (.ref i2)>>=_) _ _ _
 refine Za (a6a (((h2.extBut hs₁.extBut D.i2z).extBut hs₂.extBut D.i12.symm).extBut hs₃.extBut D.TOi2.symm)
  (((hl2.extBut hs₁.extBut D.l2z).extBut hs₂.extBut D.l2i1).extBut hs₃.extBut D.l2TO) hy λh₄ h2₄ hs₄=>Ze ?_)
 have hTO₄:IsPair h₄ TO x b:=hs₄.extBut _ _ D.TOi2 hTO₃;refine Za (Yu hTO₄ rfl ?_);refine Za (Vi hTO₄ λh₅ hTO₅ hs₅=>?_)
 replace hTO₅:IsPair h₅ TO x y:=hTO₅
 refine Za (Vj (Ze (Ze ?_)));refine Za (Yu hTO₅ rfl ?_);refine Za (Tw ?_);have hsz:h₅.objs.size=s.heap.objs.size:=by rw[hs₅.1,hs₄.1,hs₃.1,hs₂.1,hs₁.1]
 have hz₅:IsZip h₅ z TI TO .ellipsis:=hs₅.extBut _ _ D.TOz.symm (hs₄.extBut _ _ D.i2z.symm (hs₃.extBut _ _ D.TOz.symm (hs₂.extBut _ _ D.i1z.symm hz₁)));have hk₅:∀c o,c≠z->c≠TO->c≠i1->c≠i2->s.heap.get? c=some o->h₅.get? c=some o:=λc o c1 c2 c3 c4 e=>
  hs₅.extBut _ _ c2 (hs₄.extBut _ _ c4 (hs₃.extBut _ _ c2 (hs₂.extBut _ _ c3 (hs₁.extBut _ _ c1 e))))
 have h1₅:h₅.IsTupleIter i1 l1 (k1+1):=((h1₂.extBut hs₃.extBut D.TOi1.symm).extBut hs₄.extBut D.i12).extBut hs₅.extBut D.TOi1.symm;have h2₅:h₅.IsTupleIter i2 l2 (k2+1):=h2₄.extBut hs₅.extBut D.TOi2.symm;have hzlt:z<h₅.objs.size:=Zh hz₅
 show wpAny _ _ (Builtin.SmallTypes.ownedTupleHandOut (.ref z) (.ref h₅.objs.size)>>=_) _ _ _
 refine Za ?_;unfold Builtin.SmallTypes.ownedTupleHandOut;have hz₆:IsZip (h₅.push { cls:=.type "tuple",data:=.seq #[x,y]}) z TI TO .ellipsis:=Zc _ hz₅;refine Za (Xe hz₆ qz λh₇ hz₇ hs₇=>?_)
 replace hz₇:IsZip h₇ z TI TO (rawInt h₅.objs.size):=hz₇
 refine Xe hz₇ qz λh₈ hz₈ hs₈=>?_
 replace hz₈:IsZip h₈ z TI TO (rawInt h₅.objs.size):=hz₈
 have up:∀c o,c≠z->h₅.get? c=some o->h₈.get? c=some o:=λc o c1 e=>hs₈.extBut _ _ c1 (hs₇.extBut _ _ c1 (Zc _ e))
 have hT₈:IsPair h₈ h₅.objs.size x y:=hs₈.extBut _ _ (Y6 hzlt) (hs₇.extBut _ _ (Y6 hzlt) (Zk _ rfl));have hz8:h₈.objs.size=h₅.objs.size+1:=by rw[hs₈.1,hs₇.1,Yc]
 rw[hsz]at hz₈ hT₈ hz8;refine Ze ⟨_,rfl,?_⟩
 show Q (.ref h₅.objs.size) _
 rw[hsz];exact hQ h₈ hz₈ (up _ _ D.TOz hTO₅) (h1₅.at λo e=>up _ o D.i1z e) (h2₅.at λo e=>up _ o D.i2z e) hT₈ hz8 λc o c1 c2 c3 c4 e=>up c o c1 (hk₅ c o c1 c2 c3 c4 e)
theorem b1o{z TI TO i1 i2 l1 l2:Addr}{k1:Nat}{xs:Array Value}{Q:Fin->Shared->Prop}(hh:A.handled=none)(D:ZipApart z TI TO i1 i2 l1 l2)
  (hz:IsZip s.heap z TI TO .none)(hTI:IsPair s.heap TI (.ref i1) (.ref i2))
  (h1:s.heap.IsTupleIter i1 l1 k1)(hl1:s.heap.IsTuple l1 xs)(hx:xs[k1]? =none)
  (hE:∀h' e,(∀c o,c≠z->c≠TO->c≠i1->c≠i2->s.heap.get? c=some o->h'.get? c=some o)->(∃o,h'.get? e=some o/\o.cls=.type "StopIteration")->E (.ref e) { s with heap:=h'}):
  wpAny (model prog w) A (Builtin.«zip.__next__» ⟨[.ref z],[]⟩) Q E s:=by
 show wpAny _ _ (field (.ref z) 2>>=_) _ _ _
 refine Za (Z0 hz rfl (x:=.bool false) rfl ?_)
 show wpAny _ _ (field (.ref z) 3>>=_) _ _ _
 refine Za (Z0 hz rfl (x:=.ref TI) rfl ?_);refine Za (Yu hTI rfl ?_)
 show wpAny _ _ (Builtin.SmallTypes.ownedTupleIsFree (.ref z)>>=_) _ _ _
 refine Za ?_;unfold Builtin.SmallTypes.ownedTupleIsFree;refine Za (Z0 hz rfl (x:=.none) rfl (Ze ?_));simp only[if_true];refine Za (Wk ?_);refine Za (Z0 hz rfl (x:=.ref TO) rfl ?_);refine Za (Xe hz qz λh₁ hz₁ hs₁=>?_)
 replace hz₁:IsZip h₁ z TI TO .ellipsis:=hz₁
 refine Za ?_;simp only[Tn,Tq,W3,Vc];refine Za (Za (V2 ?_))
 show wpAny _ _ (Builtin.SmallTypes.nextOf (.ref i1)>>=_) _ _ _
 refine Za (b7h hh (h1.extBut hs₁.extBut D.i1z) (hl1.extBut hs₁.extBut D.l1z) hx λh₂ e hs₂ he=>?_);obtain⟨oe,hoe,hce⟩:=he;have hz₂:IsZip h₂ z TI TO .ellipsis:=hs₂ _ _ D.i1z.symm hz₁;have hez:e≠z:=λx=>by subst x;rw[hz₂]at hoe;cases hoe;simp at hce
 refine Xe hz₂ qz λh₃ _ hs₃=>hE h₃ e (λc o c1 _ c3 _ x=>hs₃.extBut _ _ c1 (hs₂ _ _ c3 (hs₁.extBut _ _ c1 x))) ⟨oe,hs₃.extBut _ _ hez hoe,hce⟩
theorem b1d{z TI TO T:Addr}{f1:Bool}{o:Obj}{Q:Bool->Shared->Prop}(hz:a5r s.heap z TI TO (rawInt T) f1)(hT:s.heap.get? T=some o)
  (hQ:∀h',a5r h' z TI TO (rawInt T) true->Heap.SameBut z s.heap h'->Q false { s with heap:=h'}):wpAny (model prog w) A (Builtin.SmallTypes.ownedTupleIsFree (.ref z)) Q E s:=by
 unfold Builtin.SmallTypes.ownedTupleIsFree;refine Za (Z0 hz rfl (x:=rawInt T) rfl ?_)
 show wpAny _ _ (loadIfAlive ((T:Int).toNat)>>=_) _ _ _
 rw[V0];refine Za (kdx_alive hT ?_);simp only[Option.isNone_some,Xr,W1];refine Za (Z0 hz rfl (x:=.bool f1) rfl ?_);cases f1 with
 |true=>
  rw[if_neg (show ¬((Value.bool true !=Value.bool true)=true)from Zp)];exact Ze (hQ _ hz (Heap.SameBut.refl _ _))
 |false=>
  rw[if_pos (show(Value.bool false !=Value.bool true)=true from rfl)];refine Za (Xe hz qz λh₃ he₃ hs₃=>?_);exact Ze (hQ _ he₃ hs₃)
theorem c6o{z TI TO i1 i2 l1 l2 T:Addr}{f1:Bool}{oT:Obj}{k1 k2:Nat}{xs ys:Array Value}{x y:Value}{Q:Value->Shared->Prop}(D:ZipApart z TI TO i1 i2 l1 l2)
  (hz:a5r s.heap z TI TO (rawInt T) f1)(hT:s.heap.get? T=some oT)(hTI:IsPair s.heap TI (.ref i1) (.ref i2))
  (h1:s.heap.IsTupleIter i1 l1 k1)(h2:s.heap.IsTupleIter i2 l2 k2)(hl1:s.heap.IsTuple l1 xs)(hl2:s.heap.IsTuple l2 ys)(hx:xs[k1]? =some x)(hy:ys[k2]? =some y)
  (hQ:∀h',a5r h' z TI TO (rawInt T) true->h'.IsTupleIter i1 l1 (k1+1)->h'.IsTupleIter i2 l2 (k2+1)->IsPair h' s.heap.objs.size x y->h'.objs.size=s.heap.objs.size+1->
   (∀c o,c≠z->c≠i1->c≠i2->s.heap.get? c=some o->h'.get? c=some o)->Q (.ref s.heap.objs.size) { s with heap:=h'}):
  wpAny (model prog w) A (Builtin.«zip.__next__» ⟨[.ref z],[]⟩) (λfin s'=>∃v,fin=.done (.ret v)/\Q v s') E s:=by
 show wpAny _ _ (field (.ref z) 2>>=_) _ _ _
 refine Za (Z0 hz rfl (x:=.bool false) rfl ?_)
 show wpAny _ _ (field (.ref z) 3>>=_) _ _ _
 refine Za (Z0 hz rfl (x:=.ref TI) rfl ?_);refine Za (Yu hTI rfl ?_)
 show wpAny _ _ (Builtin.SmallTypes.ownedTupleIsFree (.ref z)>>=_) _ _ _
 refine Za (b1d hz hT λh₁ hz₁ hs₁=>?_);simp only[Xr,W1];refine Za ?_;simp only[Rv,W3,Vc];refine Za (Za (Xh ?_))
 show wpAny _ _ (Builtin.SmallTypes.nextOf (.ref i1)>>=_) _ _ _
 refine Za (a6a (h1.extBut hs₁.extBut D.i1z) (hl1.extBut hs₁.extBut D.l1z) hx λh₂ h1₂ hs₂=>Ze ?_);refine Ze ?_;refine Za (Za (Xh ?_))
 show wpAny _ _ (Builtin.SmallTypes.nextOf (.ref i2)>>=_) _ _ _
 refine Za (a6a ((h2.extBut hs₁.extBut D.i2z).extBut hs₂.extBut D.i12.symm) ((hl2.extBut hs₁.extBut D.l2z).extBut hs₂.extBut D.l2i1) hy λh₄ h2₄ hs₄=>Ze ?_);refine Ze (Ze ?_);refine Za (Tw (hsz:=by show 2<=sizeLine;rw[Yg];omega) ?_);have hsz:h₄.objs.size=s.heap.objs.size:=by rw[hs₄.1,hs₂.1,hs₁.1]
 refine Ze ⟨_,rfl,?_⟩
 show Q (.ref h₄.objs.size) _
 have hz₄:a5r h₄ z TI TO (rawInt T) true:=hs₄.extBut _ _ D.i2z.symm (hs₂.extBut _ _ D.i1z.symm hz₁);have e5:IsPair (h₄.push { cls:=.type "tuple",data:=.seq #[x,y]}) h₄.objs.size x y:=Zk _ rfl;rw[hsz]at e5 ⊢;refine hQ _ (Zc _ hz₄) ((h1₂.extBut hs₄.extBut D.i12).at λo e=>Zc _ e) (h2₄.at λo e=>Zc _ e) e5 (by rw[Yc,hsz]) λc o c1 c3 c4 e=>Zc _ (hs₄.extBut _ _ c4 (hs₂.extBut _ _ c3 (hs₁.extBut _ _ c1 e)))
theorem b9u{z TI TO i1 i2 l1 l2 T:Addr}{f1:Bool}{oT:Obj}{k1:Nat}{xs:Array Value}{Q:Fin->Shared->Prop}(hh:A.handled=none)(D:ZipApart z TI TO i1 i2 l1 l2)
  (hz:a5r s.heap z TI TO (rawInt T) f1)(hT:s.heap.get? T=some oT)(hTI:IsPair s.heap TI (.ref i1) (.ref i2))
  (h1:s.heap.IsTupleIter i1 l1 k1)(hl1:s.heap.IsTuple l1 xs)(hx:xs[k1]? =none)
  (hE:∀h' e,(∀c o,c≠z->c≠TO->c≠i1->c≠i2->s.heap.get? c=some o->h'.get? c=some o)->(∃o,h'.get? e=some o/\o.cls=.type "StopIteration")->E (.ref e) { s with heap:=h'}):
  wpAny (model prog w) A (Builtin.«zip.__next__» ⟨[.ref z],[]⟩) Q E s:=by
 show wpAny _ _ (field (.ref z) 2>>=_) _ _ _
 refine Za (Z0 hz rfl (x:=.bool false) rfl ?_)
 show wpAny _ _ (field (.ref z) 3>>=_) _ _ _
 refine Za (Z0 hz rfl (x:=.ref TI) rfl ?_);refine Za (Yu hTI rfl ?_)
 show wpAny _ _ (Builtin.SmallTypes.ownedTupleIsFree (.ref z)>>=_) _ _ _
 refine Za (b1d hz hT λh₁ hz₁ hs₁=>?_);simp only[Xr,W1];refine Za ?_;simp only[Rv,W3,Vc];refine Za (Za (Xh ?_))
 show wpAny _ _ (Builtin.SmallTypes.nextOf (.ref i1)>>=_) _ _ _
 refine Za (b7h hh (h1.extBut hs₁.extBut D.i1z) (hl1.extBut hs₁.extBut D.l1z) hx λh₂ e hs₂ he=>?_);exact hE h₂ e (λc o c1 _ c3 _ x=>hs₂ _ _ c3 (hs₁.extBut _ _ c1 x)) he
end
theorem c3n:typeLookup (.type "zip") "__len__"=pure none:=by rw[Xn,Yq];kernel_rfl
theorem c1c:typeLookup (.type "zip") "__length_hint__"=pure none:=by rw[Xn,Yq];kernel_rfl
abbrev ztH1(h:Heap)(l1:Addr):Heap:=h.push { cls:=.type "tuple_iterator",data:=.fields #[.ref l1,.int 0 0]}
abbrev ztH2(h:Heap)(l1 l2:Addr):Heap:=(ztH1 h l1).push { cls:=.type "tuple_iterator",data:=.fields #[.ref l2,.int 0 0]}
abbrev ztH3(h:Heap)(l1 l2:Addr):Heap:=(ztH2 h l1 l2).push { cls:=.type "tuple",data:=.seq #[.ref h.objs.size,.ref (ztH1 h l1).objs.size]}
abbrev ztH4(h:Heap)(l1 l2:Addr):Heap:=(ztH3 h l1 l2).push { cls:=.type "tuple",data:=.seq #[.none,.none]}
abbrev ztH5(h:Heap)(l1 l2:Addr):Heap:=(ztH4 h l1 l2).push { cls:=.type "zip",data:=.fields #[.none,.bool false,.bool false,.ref (ztH2 h l1 l2).objs.size,.ref (ztH3 h l1 l2).objs.size]}
theorem c3o(l1 l2:Addr)(xs ys:Array Value):
  Meets (Builtin.«zip.__new__» ⟨[.type "zip",.ref l1,.ref l2],[]⟩) (λ_ R s=>s.heap.IsTuple l1 xs/\s.heap.IsTuple l2 ys/\
   R (.ok (.ret (.ref (ztH4 s.heap l1 l2).objs.size))) { s with heap:=ztH5 s.heap l1 l2}):=
 .of_wp λprog w A R s h=>by
  obtain⟨hp,g,d,tk,os⟩:=s;obtain⟨hl1,hl2,h⟩:=h;have hsub:=sub_zip;have hL1:Heap.IsTuple (Shared.heap ⟨hp,g,d,tk,os⟩) l1 xs:=hl1;have hL2:Heap.IsTuple (Shared.heap ⟨hp.push { cls:=.type "tuple_iterator",data:=.fields #[.ref l1,.int 0 0]},g,d,tk,os⟩) l2 ys:=Heap.IsTuple.push hl2 _
  wp_walk using Vo hL1,Vo hL2
  exact⟨_,rfl,h⟩
section
variable{prog:Program}{w:World}{A:Around}{E:Value->Shared->Prop}{s:Shared}
theorem c6p{l1 l2:Addr}{xs ys:Array Value}{Q:Value->Shared->Prop}(hl1:s.heap.IsTuple l1 xs)(hl2:s.heap.IsTuple l2 ys)
  (h:∀h',IsZip h' (s.heap.objs.size+4) (s.heap.objs.size+2) (s.heap.objs.size+3) .none->IsPair h' (s.heap.objs.size+2) (.ref s.heap.objs.size) (.ref (s.heap.objs.size+1))->
   IsPair h' (s.heap.objs.size+3) .none .none->h'.IsTupleIter s.heap.objs.size l1 0->h'.IsTupleIter (s.heap.objs.size+1) l2 0->h'.objs.size=s.heap.objs.size+5->
   (∀c o,s.heap.get? c=some o->h'.get? c=some o)->Q (.ref (s.heap.objs.size+4)) { s with heap:=h'}):
  wpAny (model prog w) A (call (.type "zip") [.ref l1,.ref l2]) Q E s:=by
 refine Sg F.called_zip qd (F.typeCall_zip_2 _ _) (F.newCall_zip_2 _ _) (λobj=>S8 obj _ _) F.entry_zip_new
  (c3o l1 l2 xs ys) ⟨hl1,hl2,?_⟩
 have z1:(ztH1 s.heap l1).objs.size=s.heap.objs.size+1:=Yc ..;have z2:(ztH2 s.heap l1 l2).objs.size=s.heap.objs.size+2:=by rw[Yc,z1]
 have z3:(ztH3 s.heap l1 l2).objs.size=s.heap.objs.size+3:=by rw[Yc,z2]
 have z4:(ztH4 s.heap l1 l2).objs.size=s.heap.objs.size+4:=by rw[Yc,z3]
 have z5:(ztH5 s.heap l1 l2).objs.size=s.heap.objs.size+5:=by rw[Yc,z4]
 have g5:(ztH5 s.heap l1 l2).get? (ztH4 s.heap l1 l2).objs.size=some _:=Zk _ rfl;have g4:(ztH5 s.heap l1 l2).get? (ztH3 s.heap l1 l2).objs.size=some _:=Zc _ (Zk _ rfl);have g3:(ztH5 s.heap l1 l2).get? (ztH2 s.heap l1 l2).objs.size=some _:=Zc _ (Zc _ (Zk _ rfl));have g2:(ztH5 s.heap l1 l2).get? (ztH1 s.heap l1).objs.size=some _:=Zc _ (Zc _ (Zc _ (Zk _ rfl)));have g1:(ztH5 s.heap l1 l2).get? s.heap.objs.size=some _:=Zc _ (Zc _ (Zc _ (Zc _ (Zk _ rfl))))
 show _/\_
 rw[z2,z3,z4]at g5;rw[z1,z2]at g3;rw[z3]at g4;rw[z1]at g2;rw[z4]
 exact⟨⟨_,g5,rfl⟩,h _ g5 g3 g4 ⟨_,g1,rfl,rfl⟩ ⟨_,g2,rfl,rfl⟩ z5 λc o x=>
  Zc _ (Zc _ (Zc _ (Zc _ (Zc _ x))))⟩
def ZS(h:Heap)(z TI TO i1 i2 t1 t2 S:Addr)(i:Nat):Prop:=
 ((IsZip h z TI TO .none/\∃a b,IsPair h TO a b)\/∃(T:Addr)(f1:Bool)(o:Obj),a5r h z TI TO (rawInt T) f1/\h.get? T=some o/\T≠z/\T≠TO/\T≠i1/\T≠i2/\T≠S)/\IsPair h TI (.ref i1) (.ref i2)/\h.IsTupleIter i1 t1 i/\h.IsTupleIter i2 t2 i
theorem ZS.keep{h h':Heap}{z TI TO i1 i2 t1 t2 S:Addr}{i:Nat}(st:ZS h z TI TO i1 i2 t1 t2 S i)(k:∀c o,c≠S->h.get? c=some o->h'.get? c=some o)(n:S≠z/\S≠TI/\S≠TO/\S≠i1/\S≠i2):ZS h' z TI TO i1 i2 t1 t2 S i:=by
 obtain⟨q,hTI,h1,h2⟩:=st;refine⟨?_,k _ _ n.2.1.symm hTI,h1.at λo e=>k _ o n.2.2.2.1.symm e,h2.at λo e=>k _ o n.2.2.2.2.symm e⟩;rcases q with⟨hz,a,b,hTO⟩|⟨T,f1,o,hz,hT,d⟩
 ·exact .inl ⟨k _ _ n.1.symm hz,a,b,k _ _ n.2.2.1.symm hTO⟩
 ·exact .inr ⟨T,f1,o,k _ _ n.1.symm hz,k _ _ d.2.2.2.2 hT,d⟩
theorem zs_item{z TI TO i1 i2 t1 t2 S:Addr}{i:Nat}{xs ys:Array Value}{x y:Value}{Q:Option Value->Shared->Prop}(D:ZipApart z TI TO i1 i2 t1 t2)(st:ZS s.heap z TI TO i1 i2 t1 t2 S i)(hS:S<s.heap.objs.size)
  (hl1:s.heap.IsTuple t1 xs)(hl2:s.heap.IsTuple t2 ys)(hx:xs[i]? =some x)(hy:ys[i]? =some y)
  (hQ:∀h',ZS h' z TI TO i1 i2 t1 t2 S (i+1)->IsPair h' s.heap.objs.size x y->(∀c o,c≠z->c≠TO->c≠i1->c≠i2->s.heap.get? c=some o->h'.get? c=some o)->Q (some (.ref s.heap.objs.size)) { s with heap:=h'}):
  wpAny (model prog w) A (pyNext (.ref z)) Q E s:=by
 obtain⟨q,hTI,h1,h2⟩:=st;have lt:∀{c o},s.heap.get? c=some o->s.heap.objs.size≠c:=λe=>Y6 (Zh e)
 have n1:s.heap.objs.size≠i1:=by obtain⟨_,e,_⟩:=h1;exact lt e
 have n2:s.heap.objs.size≠i2:=by obtain⟨_,e,_⟩:=h2;exact lt e
 rcases q with⟨hz,a,b,hTO⟩|⟨T,f1,o,hz,hT,d⟩
 ·have hTy:s.TypeIs (.ref z) "zip":=⟨_,hz,rfl⟩;unfold pyNext
  refine Za (Xy (wpAny_callSpecial?_slot (name:=ofString "__next__") hTy Y5
   (Ym Y5 hTy Wx
    (c6n D hz hTI hTO h1 h2 hl1 hl2 hx hy λh' a1 a2 a3 a4 a5 a6 a7=>Ze (hQ h' ⟨.inr ⟨_,false,_,a1,a5,lt hz,lt hTO,n1,n2,Y6 hS⟩,a7 _ _ D.TIz D.TITO D.TIi1 D.TIi2 hTI,a3,a4⟩ a5 a7)) (Wq _))))
 ·have hTy:s.TypeIs (.ref z) "zip":=⟨_,hz,rfl⟩;unfold pyNext
  refine Za (Xy (wpAny_callSpecial?_slot (name:=ofString "__next__") hTy Y5
   (Ym Y5 hTy Wx
    (c6o D hz hT hTI h1 h2 hl1 hl2 hx hy λh' a1 a3 a4 a5 a6 a7=>Ze (hQ h' ⟨.inr ⟨T,true,o,a1,a7 _ _ d.1 d.2.2.1 d.2.2.2.1 hT,d⟩,a7 _ _ D.TIz D.TIi1 D.TIi2 hTI,a3,a4⟩ a5 λc o c1 _ c3 c4 e=>a7 c o c1 c3 c4 e)) (Wq _))))
theorem zs_end{z TI TO i1 i2 t1 t2 S:Addr}{i:Nat}{xs:Array Value}{Q:Option Value->Shared->Prop}(hh:A.handled=none)(D:ZipApart z TI TO i1 i2 t1 t2)(st:ZS s.heap z TI TO i1 i2 t1 t2 S i)
  (hl1:s.heap.IsTuple t1 xs)(hx:xs[i]? =none)
  (hQ:∀h',(∀c o,c≠z->c≠TO->c≠i1->c≠i2->s.heap.get? c=some o->h'.get? c=some o)->Q none { s with heap:=h'}):
  wpAny (model prog w) A (pyNext (.ref z)) Q E s:=by
 obtain⟨q,hTI,h1,h2⟩:=st;rcases q with⟨hz,a,b,hTO⟩|⟨T,f1,o,hz,hT,d⟩
 ·have hTy:s.TypeIs (.ref z) "zip":=⟨_,hz,rfl⟩;unfold pyNext
  refine Za (Xy (wpAny_callSpecial?_slot (name:=ofString "__next__") hTy Y5
   (Ym Y5 hTy Wx (b1o hh D hz hTI h1 hl1 hx λh' e hk he=>?_) (Wq _))))
  obtain⟨o,ho,hc⟩:=he;refine Za (Wf (T:="StopIteration") (b:=true) ⟨o,ho,hc⟩ Up ?_);exact Ze (hQ _ hk)
 ·have hTy:s.TypeIs (.ref z) "zip":=⟨_,hz,rfl⟩;unfold pyNext
  refine Za (Xy (wpAny_callSpecial?_slot (name:=ofString "__next__") hTy Y5
   (Ym Y5 hTy Wx (b9u hh D hz hT hTI h1 hl1 hx λh' e hk he=>?_) (Wq _))))
  obtain⟨o,ho,hc⟩:=he;refine Za (Wf (T:="StopIteration") (b:=true) ⟨o,ho,hc⟩ Up ?_);exact Ze (hQ _ hk)
end
def a8g(H:Hp)(qs:List Addr)(xs ys:List V):Prop:=∀(j:Nat)(q:Addr)(x y:V),qs[j]? =some q->xs[j]? =some x->ys[j]? =some y->H q=some (.tup [x,y])
section
variable{X:Cx}{pins:List (Addr×Obj)}{σ:St}
theorem c9s{A:Around}{R:Result->Shared->Prop}{z TI TO i1 i2 t1 t2 S:Addr}{xs ys:List V}{H0:Hp}(hh:A.handled=none)(D:ZipApart z TI TO i1 i2 t1 t2)(ltS:∀b∈[z,TI,TO,i1,i2],b<S)(hlen:ys.length=xs.length)(h0:H0 S=none)(res:Value)
  (hR:∀s' H' qs,Inv X pins σ H' s'->Same H0 H'->H' S=some (.lst (qs.map V.ref))->qs.length=xs.length->a8g H' qs xs ys->R (.ok (.ret res)) s'):
  ∀(k i:Nat)(s:Shared)(H:Hp)(qs:List Addr),xs.length-i=k->i<=xs.length->Inv X pins σ H s->SqT X.K H t1 xs->SqT X.K H t2 ys->ZS s.heap z TI TO i1 i2 t1 t2 S i->(∀b∈[z,TI,TO,i1,i2],FpOk X pins H b)->Same H0 H->H S=some (.lst (qs.map V.ref))->qs.length=i->a8g H qs xs ys->
   codeAny (model X.prog X.w) A (.builtin "list.extend.loop" ⟨[.ref S,.ref z,res],[]⟩) R s:=by
 have n:S≠z/\S≠TI/\S≠TO/\S≠i1/\S≠i2:=⟨Y6 (ltS _ qz),Y6 (ltS _ qz),Y6 (ltS _ qz),Y6 (ltS _ qz),Y6 (ltS _ qz)⟩;intro k
 induction k with
 |zero=>
  intro i s H qs hk hi I hq1 hq2 st hf sm hS hl pr;have hin:i=xs.length:=by omega
  obtain⟨its,rv,p,hz⟩:=I.tuple hq1;have hlx:=rv.length;refine codeAny_builtin Rk ?_;rw[Rb We _]
  show wpAny _ A.in1 (pyNext (.ref z)>>=_) _ _ s
  refine Za (zs_end (A:=A.in1) hh D st (show s.heap.IsTuple t1 its.toArray from p) (by simp;omega) λh' he=>?_);refine Ze (hR { s with heap:=h'} H qs (I.turnedMany (t':=s.toks) (ch:=[z,TI,TO,i1,i2]) hf λc u hc e=>he c u (λq=>hc (by simp[q])) (λq=>hc (by simp[q])) (λq=>hc (by simp[q])) (λq=>hc (by simp[q])) e) sm hS qo pr)
 |succ k ih=>
  intro i s H qs hk hi I hq1 hq2 st hf sm hS hl pr;have hlt:i<xs.length:=by omega
  have hlt':i<ys.length:=by omega
  obtain⟨its,rv,p,hz⟩:=I.tuple hq1;obtain⟨its',rv',p',hz'⟩:=I.tuple hq2;obtain⟨u,hu,ru⟩:=rv.get (Zb hlt);obtain⟨u',hu',ru'⟩:=rv'.get (Zb hlt');obtain⟨zS,it3,n3,r3,l3,e3⟩:=I.lstM hS;have hSl:S<s.heap.objs.size:=Zh e3;refine codeAny_builtin Rk ?_;rw[Rb We _]
  show wpAny _ A.in1 (pyNext (.ref z)>>=_) _ _ s
  refine Za (zs_item D st hSl (show s.heap.IsTuple t1 its.toArray from p) (show s.heap.IsTuple t2 its'.toArray from p') (by simpa using hu) (by simpa using hu') λh' st' hp hkp=>?_);have hk':∀b o,b∉[z,TI,TO,i1,i2]->s.heap.get? b=some o->h'.get? b=some o:=λc o hc e=>hkp c o (λq=>hc (by simp[q])) (λq=>hc (by simp[q])) (λq=>hc (by simp[q])) (λq=>hc (by simp[q])) e
  have fr:H s.heap.objs.size=none:=I.hok.fresh (Zg _);have I1:Inv X pins σ (upd H s.heap.objs.size (.tup [xs[i],ys[i]])) { s with heap:=h'}:=I.turnedLaid (t':=s.toks) (ch:=[z,TI,TO,i1,i2]) hf hk' (Zg _) ⟨by simp[Yg],[u,u'],.cons ru (.cons ru' .nil),⟨_,hp,rfl,_,rfl⟩⟩;have hST:S≠s.heap.objs.size:=Zv hSl;have hS1:upd H s.heap.objs.size (.tup [xs[i],ys[i]]) S=some (.lst (qs.map V.ref)):=by rw[a0p hST];exact hS
  have e4:h'.get? S=some { cls:=.type "list",data:=.seq it3.toArray n3}:=hkp S _ n.1 n.2.2.1 n.2.2.2.1 n.2.2.2.2 e3;have hq:(qs.map V.ref).length=i:=by rw[length_map];exact hl
  have I2:=I1.lset (t':=s.toks) (f:=(·.push (Value.ref s.heap.objs.size))) (its':=it3++[Value.ref s.heap.objs.size]) (ys:=(qs++[s.heap.objs.size]).map V.ref) hS1 e4 qz (by rw[Zt];exact r3.append (.cons rfl .nil)) (by rw[length_map,Zj,Zm];omega)
  show wpAny _ A.in1 (updateSeq S (·.push (Value.ref s.heap.objs.size))>>=_) _ _ _
  refine Za ?_;have b1:But S H (upd (upd H s.heap.objs.size (.tup [xs[i],ys[i]])) S (.lst ((qs++[s.heap.objs.size]).map V.ref))):=λb o hb e=>by
   rw[a0p hb,a0p (a1p e fr)];exact e
  refine X3 e4 rfl (Ze ⟨Uw We _,ih (i+1) _ _ (qs++[s.heap.objs.size]) qo hlt I2 (b1.tup hS hq1) (b1.tup hS hq2) (st'.keep (λc o hc e=>(Zz _ _ (Ne.symm hc)).trans e) n) (λb hb=>?_) (λb o e=>?_) a0c (by rw[Zj,hl];rfl) (λj q x y g1 g2 g3=>?_)⟩) (by rw[Zd];omega) (by show(it3.toArray.push (Value.ref s.heap.objs.size)).size<=sizeLine+1;rw[Array.size_push,Zd];omega)
  ·have fb:=hf b hb;have nb:b≠S:=λq=>by rw[q]at fb;rw[fb.1]at hS;cases hS
   have nT:b≠s.heap.objs.size:=Zv (Ue (ltS b hb) hSl);refine⟨?_,fb.2⟩;rw[a0p nb,a0p nT];exact fb.1
  ·exact b1 b o (λq=>by rw[q,h0]at e;cases e) (sm b o e)
  ·rcases Nat.lt_trichotomy j qs.length with h1|h1|h1
   ·rw[Vu h1]at g1;have:=pr j q x y g1 g2 g3;exact b1 _ _ (λe=>by rw[e,hS]at this;cases this) this
   ·subst h1;have hb:s.heap.objs.size=q:=by simpa using g1
    subst hb;rw[a0p hST.symm,a0c];rw[hl]at g2 g3;rw[Zb hlt]at g2;rw[Zb hlt']at g3;cases g2;cases g3;rfl
   ·have hnone:(qs++[s.heap.objs.size])[j]? =none:=X2 (by rw[Zj,Zm];omega)
    rw[hnone]at g1;cases g1
theorem b9v{A:Around}{E:Value->Shared->Prop}{s:Shared}{H:Hp}{Q:Value->Shared->Prop}{z TI TO i1 i2 t1 t2:Addr}{xs ys:List V}(hh:A.handled=none)(D:ZipApart z TI TO i1 i2 t1 t2)(I:Inv X pins σ H s)(hq1:SqT X.K H t1 xs)(hq2:SqT X.K H t2 ys)(hlen:ys.length=xs.length)
  (hz:IsZip s.heap z TI TO .none)(hTI:IsPair s.heap TI (.ref i1) (.ref i2))(hTO:IsPair s.heap TO .none .none)(h1:s.heap.IsTupleIter i1 t1 0)(h2:s.heap.IsTupleIter i2 t2 0)(hf:∀b∈[z,TI,TO,i1,i2],FpOk X pins H b)
  (h:∀s' H' p qs,H p=none->Inv X pins σ H' s'->Same H H'->H' p=some (.lst (qs.map V.ref))->qs.length=xs.length->a8g H' qs xs ys->Q (.ref p) s'):
  wpAny (model X.prog X.w) A (call (.type "list") [.ref z]) Q E s:=by
 refine callType_codes (Q₁:=λobj s₁=>obj=.ref s.heap.objs.size/\s₁={ s with heap:=s.heap.push { cls:=.type "list",data:=.seq #[]}}) F.called_list (F.typeCall_list_1 _) F.entry_list_init
  (code_list_new _ ⟨rfl,rfl⟩) λobj s₁ h₁=>?_
 obtain⟨rfl,rfl⟩:=h₁;have hS:(s.heap.push { cls:=.type "list",data:=.seq #[]}).get? s.heap.objs.size=some { cls:=.type "list",data:=.seq #[]}:=Zk _ rfl;refine⟨⟨_,hS,rfl⟩,Ry _ _,?_⟩;have ltS:∀b∈[z,TI,TO,i1,i2],b<s.heap.objs.size:=λb hb=>by
  obtain⟨_,e1,_⟩:=h1;obtain⟨_,e2,_⟩:=h2;simp only[Zi,Zs,Yv]at hb;rcases hb with rfl|rfl|rfl|rfl|rfl
  ·exact Zh hz
  ·exact Zh hTI
  ·exact Zh hTO
  ·exact Zh e1
  ·exact Zh e2
 generalize hSS:s.heap.objs.size=S at hS ltS ⊢;have fr:H S=none:=by rw[<-hSS];exact I.hok.fresh (Zg _)
 show wpAny _ _ (do let old <-Builtin.List.listItems (.ref S);Builtin.List.listUpdate (.ref S) (λ_=>#[]);letGo old.toList.reverse;Builtin.List.listExtendWith (.ref S) (.ref z) .none) _ _ _
 refine Za ?_;unfold Builtin.List.listItems;refine Za (Yu hS rfl (Ze ?_))
 show wpAny _ _ (updateSeq S (λ_=>#[])>>=λ_=>letGo (#[]:Array Value).toList.reverse>>=λ_=>Builtin.List.listExtendWith (.ref S) (.ref z) .none) _ _ _
 refine Za (X3 hS rfl ?_);have hS₁:=Z3 (Obj.mapSeq (λ_=>(#[]:Array Value))) hS rfl;have k1:∀b o,b≠S->s.heap.get? b=some o->((s.heap.push { cls:=.type "list",data:=.seq #[]}).update S (Obj.mapSeq (λ_=>(#[]:Array Value)))).get? b=some o:=
  λb o hb e=>(Zz _ _ (Ne.symm hb)).trans (Zc _ e)
 refine Za (Vj ?_);generalize ((s.heap.push { cls:=.type "list",data:=.seq #[]}).update S (Obj.mapSeq (λ_=>(#[]:Array Value))))=hp1 at hS₁ k1 ⊢;have nz:z≠S:=Zv (ltS z qz);have hz1:IsZip hp1 z TI TO .none:=k1 _ _ nz hz;have hT1:Shared.TypeIs { s with heap:=hp1} (.ref z) "zip":=⟨_,hz1,rfl⟩;unfold Builtin.List.listExtendWith;refine Za (Ua hT1 ?_);have g1:Builtin.List.listSameRef (.ref S) (.ref z)=false:=by simp[Builtin.List.listSameRef,nz.symm]
 have g2:(Value.type "zip"==Value.type "list")=false:=by decide
 have g3:(Value.type "zip"==Value.type "tuple")=false:=by decide
 simp only[g1,g2,g3,T8,Xr,W1];refine Za (Vg hz1 ?_);refine Za (Xh ?_);unfold Builtin.List.listLengthHint;refine Za (Xm hT1 c3n ?_)
 show wpAny _ _ (specialOf (Value.ref z) (ofString "__length_hint__")>>=_) _ _ _
 refine Za (Xm hT1 c1c ?_);refine Ze ?_
 show wpAny _ _ (rule "list.extend.makes-room">>=λ_=>Builtin.List.listTouch (.ref S)>>=λ_=>
  again (.builtin "list.extend.loop" ⟨[.ref S,.ref z,.none],[]⟩)) _ _ _
 refine Za (Wk ?_);refine Za ?_
 show wpAny _ _ (updateSeq S (·.push .none)>>=λ_=>updateSeq S (·.pop)) _ _ _
 refine Za (X3 hS₁ rfl ?_);have hS₂:=Z3 (Obj.mapSeq (·.push Value.none)) hS₁ rfl;refine X3 (hz:=by seq_fits) hS₂ rfl ?_;have hS₃:=Z3 (Obj.mapSeq (·.pop)) hS₂ rfl;have k3:∀b o,b≠S->s.heap.get? b=some o->((hp1.update S (Obj.mapSeq (·.push Value.none))).update S (Obj.mapSeq (·.pop))).get? b=some o:=
  λb o hb e=>(Zz _ _ (Ne.symm hb)).trans ((Zz _ _ (Ne.symm hb)).trans (k1 b o hb e))
 refine Ze ⟨Uw We _,?_⟩;have keepS:∀b o,s.heap.get? b=some o->((hp1.update S (Obj.mapSeq (·.push Value.none))).update S (Obj.mapSeq (·.pop))).get? b=some o:=λb o e=>k3 b o (λq=>by have:=Zh e;rw[q,hSS]at this;exact Y4 _ this) e
 have I1:Inv X pins σ (upd H S (.lst [])) { s with heap:=((hp1.update S (Obj.mapSeq (·.push Value.none))).update S (Obj.mapSeq (·.pop)))}:=I.laid (t':=s.toks) (a:=S) (o:=.lst []) keepS (by rw[hSS];exact Zg _) ⟨Yx _,[],_,.nil,hS₃⟩;have sm:Same H (upd H S (.lst [])):=λb o e=>by rw[a0p (a1p e fr)];exact e
 refine c9s (A:=A.in1) (X:=X) (pins:=pins) (σ:=σ) (H0:=H) (xs:=xs) (ys:=ys) hh D ltS hlen fr .none (λs' H' qs I' sm' hS' hl' pr'=>⟨rfl,h s' H' S qs fr I' sm' hS' hl' pr'⟩) xs.length 0 _ _ [] qo (Yx _) I1 (sm.tup hq1) (sm.tup hq2) ⟨.inl ⟨k3 _ _ nz hz,_,_,k3 _ _ (Zv (ltS TO qz)) hTO⟩,k3 _ _ (Zv (ltS TI qz)) hTI,h1.at λo e=>k3 _ o (Zv (ltS i1 qz)) e,h2.at λo e=>k3 _ o (Zv (ltS i2 qz)) e⟩ (λb hb=>⟨by rw[a0p (Zv (ltS b hb))];exact(hf b hb).1,(hf b hb).2⟩) sm a0c rfl (λj q x y g _ _=>by simp at g)
end
section
variable{X:Cx}
def b9w(K:W.Frag)(ta:TA):TE:=λσ H Q=>ta σ H λvs H1=>∃a b xs ys,vs=[.ref a,.ref b]/\SqT K H1 a xs/\SqT K H1 b ys/\ys.length=xs.length/\∀p H2 qs,H1 p=none->Same H1 H2->H2 p=some (.lst (qs.map V.ref))->qs.length=xs.length->a8g H2 qs xs ys->Q (.ref p) H2
theorem c3p(K:W.Frag)(hK:X.K=K)(hc:X.calm=true){a b:Expr}{ta:TA}{p1 p2 pos1 pos2:Pos}(hg:Gl X "list")(hm:X.mg "list"=none)(hg2:Gl X "zip")(hm2:X.mg "zip"=none)(ha:PA X [a,b] ta)
  (hs:starEach (a::[b]) X.env=(false,eval a X.env)::starEach [b] X.env:=by rfl)(hpl:(backTo pos2 (starEach [b] X.env)).any (·.1)=false:=by rfl)
  (hs1:starEach [Expr.Call (.Name "zip" p2) [a,b] [] pos2] X.env=[(false,eval (.Call (.Name "zip" p2) [a,b] [] pos2) X.env)]:=by rfl):
  PE X (.Call (.Name "list" p1) [.Call (.Name "zip" p2) [a,b] [] pos2] [] pos1) (b9w K ta):=by
 subst hK;intro pins s σ H Q I h;refine Call_ (a4w I hg hm Tl (Yh ?_ hs1 rfl));rw[hs1]
 show wpAny _ _ (spliced ((false,eval (.Call (.Name "zip" p2) [a,b] [] pos2) X.env)::backTo pos1 (starEach [] X.env))) _ _ s
 refine W8 ?_;refine Call_ (a4w I hg2 hm2 (by decide+kernel:bootBuiltins "zip"=some (.type "zip")) (Yh (thn (ha pos2 pins s σ H _ I h) λus s1 ⟨vs,H1,I1,r1,q1⟩=>?_) hs hpl));obtain⟨l,l',xs,ys,e,hq,hq',hlen,q⟩:=q1;subst e;obtain⟨u,u',rfl,r1,r2⟩:=a6w r1;cases r1;cases r2;obtain⟨its,rv,pl,hz⟩:=I1.tuple hq;obtain⟨its',rv',pl',hz'⟩:=I1.tuple hq';have tl:s1.heap.IsTuple l its.toArray:=pl;have tl':s1.heap.IsTuple l' its'.toArray:=pl';have hlt:l<s1.heap.objs.size:=by obtain⟨o,ho,_⟩:=tl;exact Zh ho
 have hlt':l'<s1.heap.objs.size:=by obtain⟨o,ho,_⟩:=tl';exact Zh ho
 refine c6p tl tl' λh' he hTI hTO hi1 hi2 hsz hk=>?_
 refine Ve ?_;have D:ZipApart (s1.heap.objs.size+4) (s1.heap.objs.size+2) (s1.heap.objs.size+3) s1.heap.objs.size (s1.heap.objs.size+1) l l':=b1n _ _ _ hlt hlt';have I2:Inv X pins σ H1 { s1 with heap:=h'}:=I1.kept (t':=s1.toks) hk;refine b9v (I1.ok.hd hc) D I2 hq hq' hlen he hTI hTO hi1 hi2 (λb hb=>?_) λs' H' p qs fr I' sm hp hl pr=>⟨.ref p,H',I',rfl,q p H' qs fr sm hp hl pr⟩
 have hb:s1.heap.objs.size<=b:=by
  simp only[Zi,Zs,Yv]at hb;rcases hb with rfl|rfl|rfl|rfl|rfl
  ·exact Yn _ _
  ·exact Yn _ _
  ·exact Yn _ _
  ·exact Zg _
  ·exact Yn _ _
 exact I1.fpOk hb (I1.hok.fresh hb)
theorem c3q{K:W.Frag}{σ:St}{H:Hp}{ta:TA}{Q:VK}(k:ta σ H λvs H1=>∃a b xs ys,vs=[.ref a,.ref b]/\SqT K H1 a xs/\SqT K H1 b ys/\ys.length=xs.length/\∀p H2 qs,H1 p=none->Same H1 H2->H2 p=some (.lst (qs.map V.ref))->qs.length=xs.length->a8g H2 qs xs ys->Q (.ref p) H2):b9w K ta σ H Q:=k
def mSetd:V->List V->Hp->VK->Prop:=λx vs H Q=>∃(a:Addr)(kvs:List (Key×V))(k:Key)(d:V),x=.ref a/\vs=[kV k,d]/\H a=some (.dK kvs)/\kvs.length<sizeLine/\(∀v,valV kvs k=some v->Q v H)/\(valV kvs k=none->Q d (upd H a (.dK (putK kvs k d))))
theorem mm_setd:MtR X "dict.setdefault" mSetd:=by
 intro pins s σ H x vs v us Q I rx rv h;obtain⟨a,kvs,k,d,rfl,rfl,ha,hz,q1,q2⟩:=h;cases rx;obtain⟨u,u',rfl,r1,r2⟩:=a6w rv;obtain⟨z1,d1,vs1,rel,dd⟩:=dk_of I.hok ha;refine Ta Vd dd.typeIs Sa (T6 _ _ _) (kt_meets_setdefault (a1q X.prog X.w) a (b4v r1) d1 u')
  ⟨vs1,dd,by rw[<-rel.length];exact z1,λw' hw=>?_,λhn h' dd' hs=>?_⟩
 ·have hr:=rel.val k;rw[hw]at hr;cases hv:valV kvs k with
  |none=>rw[hv]at hr;cases hr
  |some y=>
   rw[hv]at hr;obtain⟨y',e1,r3⟩:=RelO.some_of hr;cases e1;exact⟨y,H,I.tok _,r3,q1 y hv⟩
 ·have hr:=rel.val k;rw[hn]at hr;cases hv:valV kvs k with
  |some y=>rw[hv]at hr;obtain⟨_,e1,_⟩:=RelO.some_of hr;cases e1
  |none=>
   refine⟨d,_,?_,r2,q2 hv⟩;have hl:(putK kvs k d).length<=sizeLine:=by have:=a6x kvs k d;omega
   have he:∃q,h'.get? a=some q:=let⟨q,_,_,hq,_⟩:=dd';⟨q,hq⟩
   exact b2s I (by rw[ha];exact True.intro) hs he (b8w hl d1 (rel.put k r2) dd')
theorem mSetd_i{a:Addr}{kvs:List (Key×V)}{k:Key}{d y:V}{H:Hp}{Q:VK}(ey:y=kV k)(ha:H a=some (.dK kvs))(hz:kvs.length<sizeLine)(q1:∀v,valV kvs k=some v->Q v H)(q2:valV kvs k=none->Q d (upd H a (.dK (putK kvs k d)))):mSetd (.ref a) [y,d] H Q:=⟨a,kvs,k,d,rfl,by rw[ey],ha,hz,q1,q2⟩
def mNeKs(K:W.Frag):R2:=λx y H Q=>∃(p:Addr)(k1:List Key),x=.ref p/\SqT K H p (k1.map kV)/\((y=.non/\Q (.bl true) H)\/∃(q:Addr)(k2:List Key),y=.ref q/\SqT K H q (k2.map kV)/\Q (.bl (!decide (k1=k2))) H)
theorem ko_neKs(K:W.Frag)(hK:X.K=K)(hu:X.A.units+150<cLine):OpR X (compareOp .NotEq) (mNeKs K):=by
 subst hK;intro pins s σ H x y v u Q I rx ry h;obtain⟨p,k1,rfl,hp,h⟩:=h;cases rx;obtain⟨its,rv,p1,_⟩:=I.tuple hp;rcases h with⟨rfl,k⟩|⟨q,k2,rfl,hq,k⟩
 ·cases ry;exact SeqAt.RcNeAt.tuple_none (show s.heap.IsTuple p its.toArray from p1) qo X.prog X.w _ _ ⟨.bl true,H,I,rfl,k⟩
 cases ry;obtain⟨its',rv',p2,_⟩:=I.tuple hq;have l1:=rv.length;have l2:=rv'.length;rw[length_map]at l1 l2;refine Re (e:=λj=>decide (k1[j]? =k2[j]?)) (show s.heap.IsTuple p its.toArray from p1) (show s.heap.IsTuple q its'.toArray from p2) qo (λj h1 h2=>?_) X.prog X.w _ _ ?_
 ·have g1:j<its.length:=by simpa using h1
  have g2:j<its'.length:=by simpa using h2
  have j1:j<k1.length:=by omega
  have j2:j<k2.length:=by omega
  obtain⟨w1,y1,z1⟩:=rv.get (show(k1.map kV)[j]? =some (kV k1[j]) by rw[Z5,Zb j1];rfl);obtain⟨w2,y2,z2⟩:=rv'.get (show(k2.map kV)[j]? =some (kV k2[j]) by rw[Z5,Zb j2];rfl);have q1:its.toArray[j]=w1:=by
   have:=Zb g1;rw[y1]at this
   simpa using(Zl this).symm
  have q2:its'.toArray[j]=w2:=by
   have:=Zb g2;rw[y2]at this
   simpa using(Zl this).symm
  rw[q1,q2];have e0:decide (k1[j]? =k2[j]?)=decide (k1[j]=k2[j]):=by rw[Zb j1,Zb j2];exact Wh.mpr ⟨λh=>Zl h,λh=>by rw[h]⟩
  rw[e0];exact a2c z1 z2
 ·rw[Zd,Zd,<-l1,<-l2,all_eq];exact⟨.bl _,H,I,rfl,k⟩
end
theorem c3r:typeLookup (.type "list_reverseiterator") "__len__"=pure none:=by rw[Xn,Yq];kernel_rfl
theorem c9t:typeLookup (.type "list_reverseiterator") "__length_hint__"=pure (some (.builtin "list_reverseiterator.__length_hint__")):=by rw[Xn,Yq];kernel_rfl
theorem c6q:typeLookup (.type "reversed") "__len__"=pure none:=by rw[Xn,Yq];kernel_rfl
theorem b4d:Manifest.owners.lookup (String.ofList ['d','e','s','r','e','v','e','r'].reverse)=some Manifest.sig_reversed:=by kernel_rfl
theorem a5d:Slot "reversed" "__next__" "reversed.__next__":=
 .of (owner:="reversed") (n:="__next__") (by rw[Xn,Yq];kernel_rfl) qk qk qk
  (by first|exact .inl (by decide+kernel)|exact .inr qk) (by rw[Wg];kernel_rfl)
theorem b1e:entryFor table "reversed.__next__"=some Builtin.«reversed.__next__»:=entryFor_of_tree (by kernel_rfl)
theorem a9x(a:Value):argsOk "reversed.__next__" ⟨[a],[]⟩:=by
 unfold argsOk;rw[signature?_of (id:="reversed.__next__") (n:=['_','_','t','x','e','n','_','_']) (o:=['d','e','s','r','e','v','e','r']) (by kernel_rfl) b4d];kernel_rfl
theorem b1p:Slot "reversed" "__iter__" "reversed.__iter__":=
 .of (owner:="reversed") (n:="__iter__") (by rw[Xn,Yq];kernel_rfl) qk qk qk
  (by first|exact .inl (by decide+kernel)|exact .inr qk) (by rw[Wg];kernel_rfl)
theorem b6j(a:Value):argsOk "reversed.__iter__" ⟨[a],[]⟩:=by
 unfold argsOk;rw[signature?_of (id:="reversed.__iter__") (n:=['_','_','r','e','t','i','_','_']) (o:=['d','e','s','r','e','v','e','r']) (by kernel_rfl) b4d];kernel_rfl
theorem b7r:entryFor table "reversed.__iter__"=some Builtin.«dict_keyiterator.__iter__»:=
 entryFor_alias (id':="dict_keyiterator.__iter__") (by kernel_rfl) (by first|rfl|decide+kernel| (unfold String.splitOn;simp+decide [String.splitOnAux])) qk (by kernel_rfl)
theorem a8o:Slot "reversed" "__length_hint__" "reversed.__length_hint__":=
 .of (owner:="reversed") (n:="__length_hint__") (by rw[Xn,Yq];kernel_rfl) qk qk qk
  (by first|exact .inl (by decide+kernel)|exact .inr qk) (by rw[Wg];kernel_rfl)
theorem b7s:entryFor table "reversed.__length_hint__"=some Builtin.«reversed.__length_hint__»:=entryFor_of_tree (by kernel_rfl)
theorem b6k(a:Value):argsOk "reversed.__length_hint__" ⟨[a],[]⟩:=by
 unfold argsOk;rw[signature?_of (id:="reversed.__length_hint__") (n:="__length_hint__".toList.reverse) (o:=['d','e','s','r','e','v','e','r']) (by kernel_rfl) b4d];kernel_rfl
theorem b9x:Slot "reversed" "__init__" "object.__init__":=
 .of (owner:="object") (n:="__init__") (by rw[Xn,Yq];kernel_rfl) qk qk qk
  (by first|exact .inl (by decide+kernel)|exact .inr qk) (by rw[Wg];kernel_rfl)
theorem c6r:TypeCalled "reversed" "reversed.__new__" "object.__init__":=
 ⟨qk,qk,⟨_,_,F.mro_reversed⟩,madeBy_type F.mro_reversed F.lookup_reversed_new qk,qk,by rw[Wg];kernel_rfl,b9x⟩
theorem c3s:typeLookup (.type "tuple") "__reversed__"=pure none:=by rw[Xn,Yq];kernel_rfl
def IsRv(h:Heap)(a t:Addr)(i:Int):Prop:=∃o,h.get? a=some o/\o.cls=.type "reversed"/\o.data=.fields #[.ref t,rawInt i]
theorem IsRv.typeIs{s:Shared}{a t:Addr}{i:Int}(x:IsRv s.heap a t i):s.TypeIs (.ref a) "reversed":=let⟨o,ho,hc,_⟩:=x;⟨o,ho,hc⟩
theorem IsRv.at{h h':Heap}{a l:Addr}{i:Int}(x:IsRv h a l i)(e:∀o,h.get? a=some o->h'.get? a=some o):IsRv h' a l i:=let⟨o,ho,r⟩:=x;⟨o,e _ ho,r⟩
def b5l(t:Addr)(i:Int):Obj:={ cls:=.type "reversed",data:=.fields #[.ref t,rawInt i]}
theorem c6s(t:Addr)(items:Array Value)(hn:(items.size:Int)<2^63):
  Meets (Builtin.«reversed.__new__» ⟨[.type "reversed",.ref t],[]⟩) (λ_ R s=>IsTup s.heap t items/\∀tk,R (.ok (.ret (.ref s.heap.objs.size))) { s with heap:=s.heap.push (b5l t ((items.size:Int)-1)),toks:=tk}):=
 .of_wp λprog w A R s h=>by
  obtain⟨ht,h⟩:=h;unfold Builtin.«reversed.__new__»;refine Za (Ws (newClass_reversed _) ?_)
  try dsimp only
  refine Za (Ws (a:=()) (by first|rfl|kernel_rfl) ?_);refine Za (Ws (a:=()) (by first|rfl|kernel_rfl) ?_)
  try dsimp only
  refine Za (Xm ht.typeIs c3s ?_)
  try dsimp only
  refine Za ?_
  show wpAny _ _ (isInstance (Value.ref t) (.type "dict")>>=_) _ _ _
  refine Za (Wf (T:="tuple") (b:=false) ht.typeIs (by rw[Wg];kernel_rfl) ?_);refine Ys (λhab=>absurd hab qd) (λ_=>?_);refine Za (Xm ht.typeIs Uz.lookup ?_);refine Ys (λ_=>?_) (λhab=>absurd qk hab);refine Ze ?_;refine Ys (λhab=>absurd hab qd) (λ_=>?_);refine Za (len_tuple ht hn ?_);refine Za (m:=asInt? _) (Ze ?_);refine Za ?_
  show wpAny _ _ (newObj (.type "reversed") (.fields #[.ref t,rawInt ((items.size:Int)-1)])) _ _ _
  refine Yo (Ze ⟨_,rfl,?_⟩);exact h _
section
variable{prog:Program}{w:World}{A:Around}{E:Value->Shared->Prop}{s:Shared}
theorem b3i{t:Addr}{items:Array Value}{Q:Value->Shared->Prop}(ht:IsTup s.heap t items)(hn:(items.size:Int)<2^63)
  (h:∀tk,Q (.ref s.heap.objs.size) { s with heap:=s.heap.push (b5l t ((items.size:Int)-1)),toks:=tk}):wpAny (model prog w) A (call (.type "reversed") [.ref t]) Q E s:=by
 refine Sg c6r qd (F.typeCall_reversed_1 _) (F.newCall_reversed_1 _) (λobj=>F.args_object_init_2 obj _) F.entry_reversed_new (c6s t items hn) ⟨ht,λtk=>?_⟩;exact⟨⟨_,Zk _ rfl,rfl⟩,h tk⟩
theorem b9y{it t:Addr}{i:Nat}{items:Array Value}{x:Value}{Q:Option Value->Shared->Prop}(hit:IsRv s.heap it t (i:Int))(ht:IsTup s.heap t items)(hi:(i:Int)<2^63)(hx:items[i]? =some x)
  (hQ:∀h' tk,IsRv h' it t ((i:Int)-1)->Heap.SameBut it s.heap h'->Q (some x) { s with heap:=h',toks:=tk}):wpAny (model prog w) A (pyNext (.ref it)) Q E s:=by
 obtain⟨o,ho,hc,hd⟩:=id hit;unfold pyNext
 refine Za (Xy (wpAny_callSpecial?_slot (name:=ofString "__next__") hit.typeIs a5d
  (Ym a5d hit.typeIs b1e ?_ (a9x _))))
 unfold Builtin.«reversed.__next__»;refine Za (Ws (a:=(Value.ref it,[])) rfl ?_)
 try dsimp only
 refine Za (Z0 ho hd (x:=.ref t) rfl ?_);refine Za (Z0 ho hd (x:=rawInt (i:Int)) rfl ?_)
 show wpAny _ _ (if(i:Int)<0 then _ else _) _ _ s
 rw[if_neg qo];refine Za (Xm ht.typeIs Uz.lookup ?_);refine Ys (λhab=>absurd hab qd) (λ_=>?_);refine Za (wpAny_mkInt ?_);have hlt:i<items.size:=by
  rcases Nat.lt_or_ge i items.size with z|z
  ·exact z
  ·rw[Array.getElem?_eq_none z]at hx;cases hx
 have hj:seqIndex? (i:Int) items.size=some i:=by
  unfold seqIndex?
  simp
  omega
 refine Za (Xy (getItem_tuple (s:={ s with toks:=s.toks+1}) (j:=i) ht qo hi hj hx ?_));refine Za (Z0 ho hd (x:=rawInt (i:Int)) rfl ?_)
 show wpAny _ _ (setField (.ref it) 1 (rawInt ((i:Int)-1))>>=λ_=>ret x) _ _ _
 refine Za (Xs ho hd qz ?_);refine Ze ⟨x,rfl,Ze (hQ _ _ ?_ (Wc ..))⟩
 exact⟨_,Z3 _ ho (Xo (X1 hd _)),(Vx ..).trans hc,by
  rw[X1 hd];simp⟩
theorem c1d{it t:Addr}{Q:Option Value->Shared->Prop}(hh:A.handled=none)(hit:IsRv s.heap it t (-1))
  (hQ:∀h',Heap.ExtBut it s.heap h'->Q none { s with heap:=h'}):wpAny (model prog w) A (pyNext (.ref it)) Q E s:=by
 obtain⟨o,ho,hc,hd⟩:=id hit;unfold pyNext
 refine Za (Xy (wpAny_callSpecial?_slot (name:=ofString "__next__") hit.typeIs a5d
  (Ym a5d hit.typeIs b1e ?_ (a9x _))))
 unfold Builtin.«reversed.__next__»;refine Za (Ws (a:=(Value.ref it,[])) rfl ?_)
 try dsimp only
 refine Za (Z0 ho hd (x:=.ref t) rfl ?_);refine Za (Z0 ho hd (x:=rawInt (-1)) rfl ?_)
 show wpAny _ _ (if(-1:Int)<0 then _ else _) _ _ s
 rw[if_pos qd];refine Za (Wk ?_);refine Za ?_
 show wpAny _ _ (setField (.ref it) 1 (rawInt (-1))>>=λ_=>setField (.ref it) 0 .none) _ _ _
 refine Za (Xs ho hd qz ?_);have ho1:=Z3 (Obj.mapFields (·.setIfInBounds 1 (rawInt (-1)))) ho (Xo (X1 hd _));have hd1:(Obj.mapFields (λx=>x.setIfInBounds 1 (rawInt (-1))) o).data=.fields #[.ref t,rawInt (-1)]:=by rw[X1 hd];simp
 refine Xs ho1 hd1 qz ?_;refine Za ?_
 show wpAny _ _ (newExc (.type "StopIteration") []>>=_) _ _ _
 refine Za ?_;simp only[newExc,newTuple];refine Za (Yo ?_ (by size_fits));refine Za (m:=firstArgMember _ _) (Ws (a:=Value.none) (by first|rfl| (simp only[firstArgMember];rfl)) ?_);refine Yo ?_ (by size_fits);simp only[raiseNew];refine Za (wpAny_handled ?_)
 first|rw[show A.in1.handled=none from hh]|rw[hh]
 refine Za (Ze (wpAny_throw ?_));refine Za (Wf (T:="StopIteration") (b:=true) ⟨_,Zk _ rfl,rfl⟩ Up ?_);refine Ze (hQ _ (λb u hb e=>?_));exact Zc _ (Zc _ ((Zz _ _ (Ne.symm hb)).trans ((Zz _ _ (Ne.symm hb)).trans e)))
theorem iter_rv{it t:Addr}{i:Int}{Q:Value->Shared->Prop}(hit:IsRv s.heap it t i)(h:Q (.ref it) s):wpAny (model prog w) A (pyIter (.ref it)) Q E s:=by
 refine wpAny_pyIter_slot hit.typeIs b1p (Ym b1p hit.typeIs b7r ?_ (b6j _))
 show wpAny _ _ (ret (.ref it)) _ _ s
 exact Ze ⟨_,rfl,"reversed",_,hit.typeIs,a5d.lookup,h⟩
theorem c9u{r:Addr}{Q:Bool->Shared->Prop}(hT:s.TypeIs (.ref r) "list_reverseiterator")(h:Q false s):wpAny (model prog w) A (Builtin.List.listLengthHint (.ref r)) Q E s:=by
 unfold Builtin.List.listLengthHint;refine Za (Xm hT c3r ?_)
 show wpAny _ _ (specialOf (Value.ref r) (ofString "__length_hint__")>>=_) _ _ _
 refine Za (Xm hT c9t ?_);generalize hid:("list_reverseiterator.__length_hint__":String)=id0
 wp_delta
 rw[show splitId id0=some ("list_reverseiterator","__length_hint__")from by subst hid;decide+kernel];subst hid;refine Za (Wf (T:="list_reverseiterator") (b:=true) hT (by rw[Wg];kernel_rfl) ?_);refine Ys (λhab=>absurd hab qd) (λ_=>?_);refine Ys (λ_=>?_) (λhab=>absurd qk hab);refine Ys (λhab=>absurd hab qk) (λ_=>?_);exact Ze h
theorem hint_rv{r t:Addr}{i:Int}{items:Array Value}{Q:Bool->Shared->Prop}(hit:IsRv s.heap r t i)(ht:IsTup s.heap t items)(hi:i=(items.size:Int)-1)(hn:items.size<=2^24)(h:∀b tk,Q b { s with toks:=tk}):wpAny (model prog w) A (Builtin.List.listLengthHint (.ref r)) Q E s:=by
 have hT:=hit.typeIs;obtain⟨o,ho,hc,hd⟩:=id hit;unfold Builtin.List.listLengthHint;refine Za (Xm hT c6q ?_)
 show wpAny _ _ (specialOf (Value.ref r) (ofString "__length_hint__")>>=_) _ _ _
 refine Za (Xm hT a8o.lookup ?_);generalize hid:("reversed.__length_hint__":String)=id0
 wp_delta
 rw[show splitId id0=some ("reversed","__length_hint__")from by subst hid;decide+kernel];subst hid;refine Za (Wf (T:="reversed") (b:=true) hT (by rw[Wg];kernel_rfl) ?_);refine Ys (λhab=>absurd hab qd) (λ_=>?_);refine Ys (λhab=>absurd hab qk) (λ_=>?_);refine Za (Wk ?_);refine Za (Ws (a8o.bind _) ?_);refine Za (Xy (Ym a8o hT b7s ?_ (b6k _)));unfold Builtin.«reversed.__length_hint__»;refine Za (Ws (a:=Value.ref r) rfl ?_);refine Za (Z0 ho hd (x:=.ref t) rfl ?_);refine Ys (λhab=>absurd hab Zp) (λ_=>?_);refine Za (len_tuple ht qo ?_);refine Za (m:=asInt? _) (Ze ?_);refine Za (Z0 ho hd (x:=rawInt i) rfl ?_)
 show wpAny _ _ (if(items.size:Int)<i+1 then _ else _) _ _ _
 rw[if_neg qo];refine Za (wpAny_mkInt (Ze ⟨_,rfl,?_⟩));refine Za (m:=asInt? _) (Ze ?_);have e1:Builtin.List.listFitsIndex (i+1)=true:=by simp[Builtin.List.listFitsIndex];omega
 have e2:Builtin.List.listTooLong (i+1).toNat=false:=by simp[Builtin.List.listTooLong,Yg];omega
 refine Ys (λhab=>absurd hab (by rw[e1];decide)) (λ_=>?_);refine Ys (λhab=>absurd hab qo) (λ_=>?_);refine Ys (λhab=>absurd hab (by rw[e2];decide)) (λ_=>?_);exact Ze (h _ _)
theorem c9v(hh:A.handled=none)(I t:Addr)(hne:t≠I)(items:Array Value)(hn:items.size<=2^24):
  Walks prog w A I [I,t] [I] items.size (λi v=>items[items.size-1-i]? =some v) (λi h=>i<=items.size/\IsRv h I t ((items.size:Int)-1-(i:Int))/\IsTup h t items) where
 sub:=λb hb=>by simp at hb;simp[hb]
 frame:=λ_ _ _ x hk=>⟨x.1,x.2.1.at λo e=>hk I qz o e,let⟨o,ho,r⟩:=x.2.2;⟨o,hk t qz o ho,r⟩⟩
 item:=λi s Q E hi x hQ=>by
  have e:(items.size:Int)-1-(i:Int)=((items.size-1-i:Nat):Int):=by omega
  have hit:=x.2.1;rw[e]at hit;have hx:items[items.size-1-i]? =some (items[items.size-1-i]'(by omega)):=Wz qo
  refine b9y hit x.2.2 qo hx λh' tk hit' hs'=>?_
  have e2:((items.size-1-i:Nat):Int)-1=(items.size:Int)-1-((i+1:Nat):Int):=by omega
  rw[e2]at hit';exact hQ _ h' tk hx ⟨hi,hit',let⟨o,ho,r⟩:=x.2.2;⟨o,(hs'.2 t hne).trans ho,r⟩⟩ λb o hb eo=>hs'.extBut b o (λh=>hb (by simp[h])) eo
 done:=λs Q E x hQ=>by
  have e:(items.size:Int)-1-(items.size:Int)= -1:=by omega
  have hit:=x.2.1;rw[e]at hit;exact c1d hh hit λh' he'=>hQ h' s.toks λb o hb eo=>he' b o (λh=>hb (by simp[h])) eo
 self:=λ_ _ _ _ x hQ=>iter_rv x.2.1 hQ
theorem b1q{Q:Value->Shared->Prop}{T:String}{I:Addr}{fp wr:List Addr}{n:Nat}{P:Nat->Value->Prop}{St:Nat->Heap->Prop}(W:Walks prog w A.in1.in1 I fp wr n P St)(hn:n<=sizeLine)
  (hT:∀(s':Shared),St 0 s'.heap->s'.TypeIs (.ref I) T)(h2:(Value.type T==Value.type "list")=false)(h3:(Value.type T==Value.type "tuple")=false)
  (hint:∀{A':Around}{E':Value->Shared->Prop}(s':Shared)(Q':Bool->Shared->Prop),St 0 s'.heap->(∀b tk,Q' b { s' with toks:=tk})->wpAny (model prog w) A' (Builtin.List.listLengthHint (.ref I)) Q' E' s')
  (hst:St 0 s.heap)(hfp:∀b∈fp,b<s.heap.objs.size)(hI:I∈fp)
  (hQ:∀h' tk acc' c',(∀b o,b∉wr->s.heap.get? b=some o->h'.get? b=some o)->
   h'.get? s.heap.objs.size=some { cls:=.type "list",dict:=none,data:=.seq acc' c',slots:=#[]}->ItemsOf P acc' n->Q (.ref s.heap.objs.size) { s with heap:=h',toks:=tk}):
  wpAny (model prog w) A (call (.type "list") [.ref I]) Q E s:=by
 have hSf:s.heap.objs.size∉fp:=λhm=>Y4 _ (hfp _ hm)
 have hSI:s.heap.objs.size≠I:=λe=>hSf (e▸hI)
 refine callType_codes (Q₁:=λobj s₁=>obj=.ref s.heap.objs.size/\s₁={ s with heap:=s.heap.push { cls:=.type "list",data:=.seq #[]}}) F.called_list (F.typeCall_list_1 _) F.entry_list_init
  (code_list_new _ ⟨rfl,rfl⟩) λobj s₁ h₁=>?_
 obtain⟨rfl,rfl⟩:=h₁;have hS:(s.heap.push { cls:=.type "list",data:=.seq #[]}).get? s.heap.objs.size=some { cls:=.type "list",data:=.seq #[]}:=Zk _ rfl;refine⟨⟨_,hS,rfl⟩,Ry _ _,?_⟩;generalize hSS:s.heap.objs.size=S at hS hSf hSI hQ ⊢
 show wpAny _ _ (do let old <-Builtin.List.listItems (.ref S);Builtin.List.listUpdate (.ref S) (λ_=>#[]);letGo old.toList.reverse;Builtin.List.listExtendWith (.ref S) (.ref I) .none) _ _ _
 refine Za ?_;unfold Builtin.List.listItems;refine Za (Yu hS rfl (Ze ?_))
 show wpAny _ _ (updateSeq S (λ_=>#[])>>=λ_=>letGo (#[]:Array Value).toList.reverse>>=λ_=>Builtin.List.listExtendWith (.ref S) (.ref I) .none) _ _ _
 refine Za (X3 hS rfl ?_);have hS₁:=Z3 (Obj.mapSeq (λ_=>(#[]:Array Value))) hS rfl;have k1:∀b o,b≠S->s.heap.get? b=some o->((s.heap.push { cls:=.type "list",data:=.seq #[]}).update S (Obj.mapSeq (λ_=>(#[]:Array Value)))).get? b=some o:=
  λb o hb e=>(Zz _ _ (Ne.symm hb)).trans (Zc _ e)
 refine Za (Vj ?_);generalize ((s.heap.push { cls:=.type "list",data:=.seq #[]}).update S (Obj.mapSeq (λ_=>(#[]:Array Value))))=hp1 at hS₁ k1 ⊢;have neS:∀b∈fp,b≠S:=λb hb e=>hSf (e▸hb)
 have st1:St 0 hp1:=W.frame 0 _ _ hst λb hb o e=>k1 b o (neS b hb) e
 unfold Builtin.List.listExtendWith;refine Za (Ua (hT { s with heap:=hp1} st1) ?_);have g1:Builtin.List.listSameRef (.ref S) (.ref I)=false:=by simp[Builtin.List.listSameRef,hSI]
 simp only[g1,h2,h3,T8,Xr,W1];refine Za (W.self 0 { s with heap:=hp1} _ _ st1 ?_);refine Za (Xh (hint { s with heap:=hp1} _ st1 λb tk=>?_));have key:∀(h:Heap)(c₁:Nat),(∀b o,b≠S->s.heap.get? b=some o->h.get? b=some o)->h.get? S=some { cls:=.type "list",data:=.seq #[] c₁}->
   codeAny (model prog w) A.in1 (.builtin "list.extend.loop" ⟨[.ref S,.ref I,.none],[]⟩) (wants (λr s'=>r=.none/\Q (.ref S) s') E) { s with heap:=h,toks:=tk}:=by
  intro h c₁ hk hS₂;refine codeAny_extend_loopS W.toS hn S hSf .none n 0 _ #[] c₁ rfl (Yx _) (W.frame 0 _ _ hst λb hb o e=>hk b o (neS b hb) e) hS₂ (ItemsOf.nil _) λs' acc' c' hm hS' hacc=>?_
  rw[Moved.eq_with hm];refine⟨rfl,hQ s'.heap s'.toks acc' c' (λb o hb e=>hm.heap b o (λhmem=>?_) (hk b o (λz=>?_) e)) hS' hacc⟩
  ·rcases Zi.mp hmem with e'|hmem
   ·have:=Zh e;rw[e',hSS]at this;exact Y4 _ this
   ·exact hb hmem
  ·have:=Zh e;rw[z,hSS]at this;exact Y4 _ this
 refine Ys (λ_=>?_) (λ_=>Ze ⟨Uw We _,key _ _ k1 hS₁⟩);refine Za (Wk ?_);refine Za ?_
 show wpAny _ _ (updateSeq S (·.push .none)>>=λ_=>updateSeq S (·.pop)) _ _ _
 refine Za (X3 hS₁ rfl ?_);have hS₂:=Z3 (Obj.mapSeq (·.push Value.none)) hS₁ rfl;refine X3 (hz:=by seq_fits) hS₂ rfl ?_;have hS₃:=Z3 (Obj.mapSeq (·.pop)) hS₂ rfl;exact Ze ⟨Uw We _,key _ _ (λb o hb e=>(Zz _ _ (Ne.symm hb)).trans ((Zz _ _ (Ne.symm hb)).trans (k1 b o hb e))) hS₃⟩
end
theorem c6t{its:List Value}{acc:Array Value}(h:ItemsOf (λi v=>its.toArray[its.toArray.size-1-i]? =some v) acc its.toArray.size):acc=its.reverse.toArray:=by
 obtain⟨h1,h2⟩:=h
 apply Array.ext'
 rw[List.toList_toArray]
 apply List.ext_getElem?
 intro j;have hs:acc.toList.length=its.length:=by rw[Xl,h1,Zd]
 by_cases hj:j<its.length
 ·have hj':j<acc.size:=by rw[<-Xl];omega
  have e:=h2 j acc[j] (Wz hj');rw[List.getElem?_reverse hj,Wp,Wz hj'];rw[Zd,Su]at e;exact e.symm
 ·rw[X2 qo,X2 (by rw[W0];omega)]
section
variable{X:Cx}
def b9z(K:W.Frag)(ta:TA):TE:=λσ H Q=>ta σ H λvs H1=>∃a xs,vs=[.ref a]/\(SqL K H1 a xs\/SqT K H1 a xs)/\xs.length<=100000/\∀p,H1 p=none->Q (.ref p) (upd H1 p (.lst xs.reverse))
theorem b5m(K:W.Frag)(hK:X.K=K)(hc:X.calm=true){a:Expr}{ta:TA}{p1 p2 pos1 pos2:Pos}(hg:Gl X "list")(hm:X.mg "list"=none)(hg2:Gl X "reversed")(hm2:X.mg "reversed"=none)(ha:PA X [a] ta)
  (hs:starEach [a] X.env=[(false,eval a X.env)]:=by rfl)
  (hs1:starEach [Expr.Call (.Name "reversed" p2) [a] [] pos2] X.env=[(false,eval (.Call (.Name "reversed" p2) [a] [] pos2) X.env)]:=by rfl):
  PE X (.Call (.Name "list" p1) [.Call (.Name "reversed" p2) [a] [] pos2] [] pos1) (b9z K ta):=by
 subst hK;intro pins s σ H Q I h;refine Call_ (a4w I hg hm Tl (Yh ?_ hs1 rfl));rw[hs1]
 show wpAny _ _ (spliced ((false,eval (.Call (.Name "reversed" p2) [a] [] pos2) X.env)::backTo pos1 (starEach [] X.env))) _ _ s
 refine W8 ?_;refine Call_ (a4w I hg2 hm2 boot_reversed (Yh (thn (ha pos2 pins s σ H _ I h) λus s1 ⟨vs,H1,I1,r1,q1⟩=>?_) hs rfl));obtain⟨l,xs,e,hq,hlen,q⟩:=q1;subst e;have fin:∀(its:List Value)(h':Heap)(tk:Nat)(acc':Array Value)(c':Nat),Vals xs its->(∀b o,s1.heap.get? b=some o->h'.get? b=some o)->h'.get? (s1.heap.objs.size+1)=some { cls:=.type "list",dict:=none,data:=.seq acc' c',slots:=#[]}->ItemsOf (λi v=>its.toArray[its.toArray.size-1-i]? =some v) acc' its.toArray.size->EP X pins σ Q (.ref (s1.heap.objs.size+1)) { s1 with heap:=h',toks:=tk}:=by
  intro its h' tk acc' c' rv hk hS hacc;have ea:=c6t hacc;subst ea;have fr:H1 (s1.heap.objs.size+1)=none:=I1.hok.fresh (Yn _ _);refine⟨.ref _,upd H1 (s1.heap.objs.size+1) (.lst xs.reverse),I1.laid (t':=tk) hk (Yn _ _) ⟨by rw[W0,Yg];omega,its.reverse,c',rv.reverse,hS⟩,rfl,q _ fr⟩
 have keepA:∀(o0:Obj)(h':Heap),(∀b o,b∉[s1.heap.objs.size]->(s1.heap.push o0).get? b=some o->h'.get? b=some o)->∀b o,s1.heap.get? b=some o->h'.get? b=some o:=λo0 h' hk b o e=>hk b o (λz=>by
  rw[Zu.mp z]at e
  exact Y4 _ (Zh e)) (Zc _ e)
 cases r1 with
 |cons r rr=>
  cases rr;cases r;rcases hq with hq|hq
  ·obtain⟨its,rv,pl,hz⟩:=I1.list hq;have hlen':=rv.length;have hL:s1.heap.IsList l its.toArray:=pl.isList;have hlt:l<s1.heap.objs.size:=by obtain⟨o,ho,_⟩:=hL;exact Zh ho
   refine call_reversed_list hL ?_;refine Ve ?_;have zz:(s1.heap.push (revObj l ((its.toArray.size:Int)-1))).objs.size=s1.heap.objs.size+1:=Yc ..;have st0:0<=its.toArray.size/\(s1.heap.push (revObj l ((its.toArray.size:Int)-1))).IsRevIter s1.heap.objs.size l ((its.toArray.size:Int)-1-((0:Nat):Int))/\(s1.heap.push (revObj l ((its.toArray.size:Int)-1))).IsList l its.toArray:=by
    refine⟨Yx _,?_,hL.at λo e=>Zc _ e⟩;have e1:(its.toArray.size:Int)-1-((0:Nat):Int)=(its.toArray.size:Int)-1:=by omega
    rw[e1];exact⟨_,Zk _ rfl,rfl,rfl⟩
   have W:=Walks.listRev (prog:=X.prog) (w:=X.w) (A:=X.A.in1.in1) (I1.ok.hd hc) s1.heap.objs.size l (Zv hlt) its.toArray;refine b1q (T:="list_reverseiterator") W (by rw[Zd,<-hlen',Yg];omega) (λs' st=>st.2.1.typeIs) qd qd (λs' Q' st k=>c9u st.2.1.typeIs (k false s'.toks)) st0 (λb hb=>?_) qz (λh' tk acc' c' hk hS hacc=>?_)
   ·rw[zz];simp only[Zi,Zs,Yv]at hb;rcases hb with rfl|rfl
    ·exact V8 _
    ·exact Va hlt
   ·rw[zz]at hS ⊢;exact fin its h' tk acc' c' rv (keepA _ h' hk) hS hacc
  ·obtain⟨its,rv,pl,hz⟩:=I1.tuple hq;have hlen':=rv.length;have hlt:l<s1.heap.objs.size:=pl.lt;refine b3i pl (by rw[Zd,<-hlen'];omega) (λtk0=>?_);refine Ve ?_;have zz:(s1.heap.push (b5l l ((its.toArray.size:Int)-1))).objs.size=s1.heap.objs.size+1:=Yc ..;have st0:0<=its.toArray.size/\IsRv (s1.heap.push (b5l l ((its.toArray.size:Int)-1))) s1.heap.objs.size l ((its.toArray.size:Int)-1-((0:Nat):Int))/\IsTup (s1.heap.push (b5l l ((its.toArray.size:Int)-1))) l its.toArray:=by
    refine⟨Yx _,?_,pl.push _⟩;have e1:(its.toArray.size:Int)-1-((0:Nat):Int)=(its.toArray.size:Int)-1:=by omega
    rw[e1];exact⟨_,Zk _ rfl,rfl,rfl⟩
   have hsz:its.toArray.size<=2^24:=by rw[Zd,<-hlen'];omega
   have W:=c9v (prog:=X.prog) (w:=X.w) (A:=X.A.in1.in1) (I1.ok.hd hc) s1.heap.objs.size l (Zv hlt) its.toArray hsz;refine b1q (T:="reversed") W (by rw[Zd,<-hlen',Yg];omega) (λs' st=>st.2.1.typeIs) qd qd (λs' Q' st k=>hint_rv st.2.1 st.2.2 qo hsz k) st0 (λb hb=>?_) qz (λh' tk acc' c' hk hS hacc=>?_)
   ·rw[zz];simp only[Zi,Zs,Yv]at hb;rcases hb with rfl|rfl
    ·exact V8 _
    ·exact Va hlt
   ·rw[zz]at hS ⊢;exact fin its h' tk acc' c' rv (keepA _ h' hk) hS hacc
theorem c3t{K:W.Frag}{σ:St}{H:Hp}{ta:TA}{Q:VK}(k:ta σ H λvs H1=>∃a xs,vs=[.ref a]/\(SqL K H1 a xs\/SqT K H1 a xs)/\xs.length<=100000/\∀p,H1 p=none->Q (.ref p) (upd H1 p (.lst xs.reverse))):b9z K ta σ H Q:=k
end
section
variable{X:Cx}{pos:Pos}{e e2:Expr}{te te2:TE}
def tF2n(a:Str)(te:TE):TE:=λσ H Q=>te σ H λx H1=>∃i:Int,x=.int i/\i.natAbs.log2<1920/\(ofString (toString i)).length<=1000/\Q (.str (a++ofString (toString i))) H1
theorem pe_f2n{a:Str}{j1 p1 p2}(he:PE X e te)(ha:a.length<=1000:=by decide+kernel):PE X (.JoinedStr [.Constant (.str a) j1 p1,.FormattedValue e (-1) none p2] pos) (tF2n a te):=by
 intro pins s σ H Q I h;have z9:100000<=sizeLine:=by decide
 have ea:∀x:Str,Str.empty++x=x:=λx=>by apply Str.ext';show(#[]:Array Nat)++x.cps=x.cps;simp
 refine JoinedStr_many (joinParts_cons (R0 ?_));have hz:(Str.empty++a).length<=sizeLine:=by rw[ea];omega
 refine⟨hz,joinParts_cons (FormattedValue_plain (thn (he pins _ σ H _ (I.tok _) h) λv s1 z9=>?_))⟩;obtain⟨x,H1,I1,r1,q1⟩:=z9;rw[ea];obtain⟨i,rfl,hl,hy,q⟩:=q1;obtain⟨t,rfl⟩:=r1;refine formatField_int_small hl ?_;generalize ofString (toString i)=y at hy q ⊢;refine⟨by rw[Uv];omega,?_⟩;refine joinParts_nil ?_ (by rw[Uv];omega);exact⟨.str (a++y),H1,(I1.tok _).tok _,⟨_,rfl⟩,q⟩
theorem tF2n_i{a:Str}{σ:St}{H:Hp}{Q:VK}(k:te σ H λx H1=>∃i:Int,x=.int i/\i.natAbs.log2<1920/\(ofString (toString i)).length<=1000/\Q (.str (a++ofString (toString i))) H1):tF2n a te σ H Q:=k
end
section
variable{X:Cx}
def mEq1T(K:Frag):R2:=λx y H Q=>∃(a b:Addr)(u u':V)(t t':Trm),x=.ref a/\y=.ref b/\SqL K H a [u]/\SqL K H b [u']/\Den K H u t.data/\Den K H u' t'.data/\t.size<=70/\Q (.bl (eqb t t')) H
theorem ko_eq1T(K:Frag)(hK:X.K=K)(hu:X.A.units+150<cLine):OpR X (compareOp .Eq) (mEq1T K):=by
 subst hK;intro pins s σ H x y v u Q I rx ry h;obtain⟨a,b,w,w',t,t',rfl,rfl,ha,hb,h,h',hz,k⟩:=h;cases rx;cases ry;obtain⟨its,rv,p1,_⟩:=I.list ha;obtain⟨its',rv',p2,_⟩:=I.list hb;obtain⟨z,rfl,rz⟩:=rv.one;obtain⟨z',rfl,rz'⟩:=rv'.one;refine SeqAt.eq_listAt (e:=λ_=>eqb t t') p1.isList p2.isList rfl qo (λj h1 h2=>?_) ?_
 ·have hj:j=0:=by have:j<1:=h1;omega
  subst hj;exact b4c I 70 X.A.in1 t t' w w' z z' hz (by show X.A.units+1+2*70+4<cLine;omega) h h' rz rz'
 ·have e:(List.range (#[z]:Array Value).size).all (λ_=>eqb t t')=eqb t t':=by simp[List.range,List.range.loop]
  show EP X pins σ Q (.bool ((List.range (#[z]:Array Value).size).all (λ_=>eqb t t'))) s
  rw[e];exact⟨.bl _,H,I,rfl,k⟩
end
section
variable{K:W.Frag}{σ:St}{H:Hp}{Q:VK}{D:Ends}{ta tv:TE}{t:TA}{f m:Str}{C:Addr}{sp:Sp}{dvs:List V}{E:XK}
theorem tFld_i(k:ta σ H λx H1=>∃a C dx fs v,x=.ref a/\H1 a=some (.ins C dx fs)/\Cls K C/\a2g K C f/\fs.lookup f=some v/\Q v H1):tFld K ta f σ H Q:=k
theorem sFld_i(k:tv σ H λy H1=>ta σ H1 λx H2=>∃a C dx fs,x=.ref a/\H2 a=some (.ins C dx fs)/\Cls K C/\a2g K C f/\fs.length<1000/\D.nx σ (upd H2 a (.ins C dx (putF f y fs)))):sFld K ta tv f D σ H:=k
theorem tMeth_i(k:ta σ H λx H1=>∃a dx fs,x=.ref a/\H1 a=some (.ins C dx fs)/\fs.lookup m=none/\t σ H1 λvs H2=>sp (x::(vs++dvs)) H2 Q E):tMeth C m sp dvs E ta t σ H Q:=k
theorem tMake_i(k:t σ H λvs H1=>∀x dx,H1 x=none->H1 dx=none->dx≠x->sp (.ref x::(vs++dvs)) (upd (upd H1 dx (.own x)) x (.ins C dx [])) (λv H2=>v=.non/\Q (.ref x) H2) E):tMake C sp dvs E t σ H Q:=k
end
theorem gSub_i{to ti:TE}{t:TSet}{v:V}{σ:St}{H:Hp}{N:St->Hp->Prop}(k:to σ H λo H1=>ti σ H1 λi H2=>t o i v H2 λH3=>N σ H3):gSub to ti t v σ H N:=k
section
variable{X:Cx}{k:Nat}{f C C':Addr}{fd:FuncData}{ps:List Str}{sp:Sp}{dvs:List V}{ds:List Value}{m nm cx:Str}{pos apos cp hpos tpos xpos:Pos}{e o:Expr}{es:List Expr}{ta:TE}{t:TA}{bm':List Value}{b0:Stmt}{suite:List Stmt}{ts:Addr->TS}{n:Nat}
def tTryM(K:Frag)(C C':Addr)(m:Str)(sp:Sp)(dvs:List V)(ta:TE)(t:TA)(ok:Ends->St->V->Hp->Prop)(hd:Ends->St->Addr->Hp->Prop):TS:=λD σ H=>ta σ H λx H1=>∃a dx fs,x=.ref a/\H1 a=some (.ins C dx fs)/\fs.lookup m=none/\
 t σ H1 λvs H2=>sp (x::(vs++dvs)) H2 (λv H3=>ok D σ v H3) (λc eo H3=>∀ea,eo=some ea->∃C dx bm,c=.ref C/\H3 ea=some (XF ea C dx false)/\XCls K C bm/\(Value.ref C::bm).contains (.ref C')=true/\hd D σ ea H3)
theorem tTryM_i{K:Frag}{ok:Ends->St->V->Hp->Prop}{hd:Ends->St->Addr->Hp->Prop}{D:Ends}{σ:St}{H:Hp}(h:ta σ H λx H1=>∃a dx fs,x=.ref a/\H1 a=some (.ins C dx fs)/\fs.lookup m=none/\
 t σ H1 λvs H2=>sp (x::(vs++dvs)) H2 (λv H3=>ok D σ v H3) (λc eo H3=>∀ea,eo=some ea->∃C dx bm,c=.ref C/\H3 ea=some (XF ea C dx false)/\XCls K C bm/\(Value.ref C::bm).contains (.ref C')=true/\hd D σ ea H3)):tTryM K C C' m sp dvs ta t ok hd D σ H:=h
theorem c9w{pl:Sem Bool}{pins:List (Addr×Obj)}{s:Shared}{σ:St}{H:Hp}{D:Ends}{ok:Ends->St->V->Hp->Prop}{hd:Ends->St->Addr->Hp->Prop}{Eh:Value->Shared->Prop}(F:FnOk X.prog X.w X.K X.mg X.base (CXo X.prog X.w) k f fd ps sp)(hr:Room k X.A)(he:PE X.nox o ta)(c:Cls X.K C)(hm:Meth X.K C m f)(hb:Binds X.K fd ps ds)(hvd:Vals dvs ds)(ha:PA X.nox (e::es) t)
  (hE:∀ea C dx bm H' s',Inv X pins σ H' s'->H' ea=some (XF ea C dx false)->b8h X pins H' ea s'.heap->XCls X.K C bm->(Value.ref C::bm).contains (.ref C')=true->hd D σ ea H'->Eh (.ref ea) s')
  (I:Inv X pins σ H s)(h:tTryM X.K C C' m sp dvs ta t ok hd D σ H)(hst:starEach (e::es) X.env=(false,eval e X.env)::starEach es X.env)(hpl:(backTo pos (starEach es X.env)).any (·.1)=false)
  (ht:eval (.Call (.Attribute o m apos) (e::es) [] pos) X.env=(do
   let ov <-eval o X.env
   standAt apos.atName
   let(f,first) <-holding [ov] (getMethod ov m pl)
   callWith pos f first (backTo pos (starEach (e::es) X.env)) (backToKw pos (keywordEach [] X.env)))):
  wpAny (model X.prog X.w) X.A (eval (.Call (.Attribute o m apos) (e::es) [] pos) X.env) (EP X pins σ (ok D σ)) Eh s:=by
 refine Ui (pl:=pl) (Xw (he pins s σ H _ (I.wish _) h) (λu s1 ⟨x,H1,I1,rx,a,dx,fs,ex,ea,l,q⟩=>?_) λ_ _ z=>z.elim) ht;subst ex;obtain rfl:u=Value.ref a:=rx;have I1:=I1.unwish;refine b4t I1 ea c hm l ?_;refine Vn (first:=[.ref a]) (h₀:=X.base) I.ok.mod.kin hm.kp (Xw (ha pos pins s1 σ H1 _ (I1.wish _) q) (λus s2 ⟨vs,H2,I2,r,q2⟩=>⟨I2.kIn,?_⟩) λ_ _ z=>z.elim) hst hpl;have I2:=I2.unwish;have r2:Vals (.ref a::(vs++dvs)) (.ref a::(us++ds)):=.cons rfl (r.append hvd);have hl:(Value.ref a::us++ds).length=ps.length:=by
  have z:=r2.length;rw[F.len _ _ _ _ q2]at z;exact z.symm
 refine Ub (Vm (F.run X.A X.stack s2 H2 ⟨Value.ref a::us,[]⟩ (.ref a::(us++ds)) (.ref a::(vs++dvs)) _ _ hr I2.env0 (hb s2 (Value.ref a::us) I2.kIn hl) r2 q2) λr s' hq=>?_);cases r with
 |error e=>
  obtain⟨ea',C2,dx2,H',rfl,hx,os,bare,un,hok,tb,hu⟩:=hq;have I3:=I2.call' (ch:=[]) os un hok bare (λ_ z=>absurd z Zs);obtain⟨o',vs',T,b1,b2,b3,b4,b5,b6,b7⟩:=tb;obtain⟨C3,dx3,bm,e1,e2,e3,e4,e5⟩:=hu ea' rfl;exact hE ea' C3 dx3 bm H' s' I3 e2 ⟨o',vs',T,b1,b2,b3,b4,b6g I2 b5 b6,b7⟩ e3 e4 e5
 |ok fl=>
  cases fl with
  |ret u=>exact I2.after hq
  |next=>exact False.elim hq
  |brk=>exact False.elim hq
  |cont=>exact False.elim hq
end
section
variable{X:Cx}
def mAddT(K:W.Frag):R2:=λx y H Q=>∃p q xs ys,x=.ref p/\y=.ref q/\SqT K H p xs/\SqT K H q ys/\xs.length+ys.length<=sizeLine/\(xs=[]->Q (.ref q) H)/\(xs≠[]->ys=[]->Q (.ref p) H)/\(xs≠[]->ys≠[]->∀d,H d=none->Q (.ref d) (upd H d (.tup (xs++ys))))
theorem c9x{prog:Program}{w:World}{A:Around}{E:Value->Shared->Prop}{s:Shared}{t b:Addr}{vs ws:List Value}{Q:Value->Shared->Prop}(ht:IsTup s.heap t vs.toArray)(hb:IsTup s.heap b ws.toArray)(hv:vs=[])(h0:Q (.ref b) s):wpAny (model prog w) A (binaryOp .Add (.ref t) (.ref b)) Q E s:=by
 obtain⟨⟨cls,dd,data,sl⟩,ho,hc,n,hd⟩:=id ht;obtain⟨⟨cls2,dd2,data2,sl2⟩,ho2,hc2,n2,hd2⟩:=id hb;simp only at hc hd hc2 hd2;subst hc hd hc2 hd2;exact Se ⟨_,ho,rfl⟩ ⟨_,ho2,rfl⟩ Tk T3 To Tg (U4 _ _)
  (tuple_addW0 t b vs.toArray ws.toArray n n2 dd dd2 sl sl2 (by simp[hv])) ⟨ho,ho2,h0⟩
theorem ko_addT(K:W.Frag)(h:X.K=K):OpR X (binaryOp .Add) (mAddT K):=by
 subst h;intro pins s σ H x y v u Q I rx ry h;obtain⟨p,q,xs,ys,rfl,rfl,hp,hq,hz,q0,q1,q2⟩:=h
 by_cases hx:xs=[]
 ·cases rx;cases ry;obtain⟨its,r1,p1,_⟩:=I.tuple hp;obtain⟨its2,r2,p2,_⟩:=I.tuple hq;exact c9x p1 p2 (r1.nil_iff.mpr hx) ⟨.ref q,H,I,rfl,q0 hx⟩
 ·exact c1x pins s σ H _ _ v u Q I rx ry ⟨p,q,xs,ys,rfl,rfl,hp,hq,hx,hz,q1 hx,q2 hx⟩
theorem mAddT_i{K:W.Frag}{H:Hp}{Q:VK}{p q:Addr}{xs ys:List V}(hp:SqT K H p xs)(hq:SqT K H q ys)(hz:xs.length+ys.length<=sizeLine)(k:∀r H',Same H H'->SqT K H' r (xs++ys)->Q (.ref r) H'):mAddT K (.ref p) (.ref q) H Q:=by
 refine⟨p,q,xs,ys,rfl,rfl,hp,hq,hz,λe=>?_,λ_ e=>?_,λ_ _ d hd=>k d _ (a0d hd _) (SqT.of a0c)⟩
 ·subst e;exact k q H (Same.refl H) hq
 ·subst e;exact k p H (Same.refl H) (by rw[X7];exact hp)
end
open PySem PySem.Spec PyProof.Rows PySem.W PySem.NumText PySem.Calls
section
variable{X:Cx}
theorem c9y{e:Expr}:PE X e (λ_ _ _=>False):=λ_ _ _ _ _ _ h=>h.elim
def mRepL:R2:=λx y H Q=>∃(a:Addr)(z:V)(k:Int),x=.ref a/\y=.int k/\H a=some (.lst [z])/\0<=k/\k<=1000/\∀p,H p=none->Q (.ref p) (upd H p (.lst (List.replicate k.toNat z)))
theorem fold_one'(v:Value):∀(n:Nat)(a:List Value),(List.replicate n (#[v]:Array Value)).foldl (· ++ ·) a.toArray=(a++List.replicate n v).toArray
 |0,a=>by simp
 |n+1,a=>by
  rw[Y8,Tr,show a.toArray++ #[v]=(a++[v]).toArray by simp,fold_one' v n (a++[v]),Te,Y8];rfl
theorem c0a{z:V}{v:Value}(h:RelV z v):∀n,Vals (List.replicate n z) (List.replicate n v)
 |0=>.nil
 |n+1=>.cons h (c0a h n)
theorem c2j:OpR X (binaryOp .Mult) mRepL:=by
 intro pins s σ H x y v u Q I rx ry h;obtain⟨a,z,k,rfl,rfl,hH,h0,h1,q⟩:=h;cases rx;obtain⟨t',rfl⟩:=ry;obtain⟨hz,its,n,r,hl,e⟩:=I.lstM hH
 match its,r with
 | [w],.cons r1 .nil=>
  refine T0 (T:="list") (U:="int") qd ⟨_,e,rfl⟩ (λs'=>Uy s' k t') noFill_list_mul F.fills_int_mul Um repeat_list F.slot_int_index.lookup
   (W5 Um (Uy s k t') F.entry_int_rmul (F.args_int_rmul_2 _ _) (Sr k t' a [w].toArray n)
    ⟨e,rfl,⟨_,e,rfl⟩,W5 F.slot_list_mul ⟨_,e,rfl⟩ F.entry_list_mul (F.args_list_mul_2 _ _)
     (U5 a [w].toArray n k t' (by simp[Builtin.List.listFitsIndex];omega) (by simp;omega) (by simp[Builtin.List.listTooLong,sizeLine];omega))
     ⟨e,?_⟩⟩)
  refine⟨.ref s.heap.objs.size,_,I.laid (a:=s.heap.objs.size) (o:=.lst (List.replicate k.toNat z)) (t':=s.toks) (λ_ _ q=>Zc _ q) (Zg _) ⟨by rw[Vf];exact ln qo,List.replicate k.toNat w,0,c0a r1 _,?_⟩,rfl,q _ (I.hok.fresh (Zg _))⟩;have:=fold_one' w k.toNat [];rw[Wn]at this;rw[<-this];exact Zk _ rfl
theorem c2k{a:Addr}{z:V}{k:Int}{H:Hp}{Q:VK}(hH:H a=some (.lst [z]))(h0:0<=k)(h1:k<=1000)(q:∀p,H p=none->Q (.ref p) (upd H p (.lst (List.replicate k.toNat z)))):mRepL (.ref a) (.int k) H Q:=⟨a,z,k,rfl,rfl,hH,h0,h1,q⟩
end
theorem su0{us:List Value}{P:List Value->Prop}(hl:us.length=0)(h:P []):P us:=by cases us with|nil=>exact h|cons a r=>cases hl
theorem su1{us:List Value}{P:List Value->Prop}(hl:us.length=1)(h:∀a,P [a]):P us:=by cases us with|nil=>cases hl|cons a r=>exact su0 (P:=λr=>P (a::r)) (Ud hl) (h a)
theorem su2{us:List Value}{P:List Value->Prop}(hl:us.length=2)(h:∀a b,P [a,b]):P us:=by cases us with|nil=>cases hl|cons a r=>exact su1 (P:=λr=>P (a::r)) (Ud hl) (h a)
theorem su3{us:List Value}{P:List Value->Prop}(hl:us.length=3)(h:∀a b c,P [a,b,c]):P us:=by cases us with|nil=>cases hl|cons a r=>exact su2 (P:=λr=>P (a::r)) (Ud hl) (h a)
theorem su4{us:List Value}{P:List Value->Prop}(hl:us.length=4)(h:∀a b c d,P [a,b,c,d]):P us:=by cases us with|nil=>cases hl|cons a r=>exact su3 (P:=λr=>P (a::r)) (Ud hl) (h a)
theorem su5{us:List Value}{P:List Value->Prop}(hl:us.length=5)(h:∀a b c d e,P [a,b,c,d,e]):P us:=by cases us with|nil=>cases hl|cons a r=>exact su4 (P:=λr=>P (a::r)) (Ud hl) (h a)
section
variable{K:Frag}{fd:FuncData}{a b c d e f:Str}
theorem bi1(h:∀x,bindArgs fd ⟨[x],[]⟩=pure [(a,x)]):Binds K fd [a] []:=.all λus hl=>su1 (P:=λus=>bindArgs fd ⟨us,[]⟩=pure (([a]:List Str).zip us)) hl h
theorem bi2(h:∀x y,bindArgs fd ⟨[x,y],[]⟩=pure [(a,x),(b,y)]):Binds K fd [a,b] []:=.all λus hl=>su2 (P:=λus=>bindArgs fd ⟨us,[]⟩=pure (([a,b]:List Str).zip us)) hl h
theorem bi3(h:∀x y z,bindArgs fd ⟨[x,y,z],[]⟩=pure [(a,x),(b,y),(c,z)]):Binds K fd [a,b,c] []:=.all λus hl=>su3 (P:=λus=>bindArgs fd ⟨us,[]⟩=pure (([a,b,c]:List Str).zip us)) hl h
theorem bi4(h:∀x y z u,bindArgs fd ⟨[x,y,z,u],[]⟩=pure [(a,x),(b,y),(c,z),(d,u)]):Binds K fd [a,b,c,d] []:=.all λus hl=>su4 (P:=λus=>bindArgs fd ⟨us,[]⟩=pure (([a,b,c,d]:List Str).zip us)) hl h
theorem bi5(h:∀x y z u v,bindArgs fd ⟨[x,y,z,u,v],[]⟩=pure [(a,x),(b,y),(c,z),(d,u),(e,v)]):Binds K fd [a,b,c,d,e] []:=.all λus hl=>su5 (P:=λus=>bindArgs fd ⟨us,[]⟩=pure (([a,b,c,d,e]:List Str).zip us)) hl h
end
section
variable{K:Frag}
theorem na_of{C:Addr}{x:Str}(h:findIn K (.ref C) x=some none):a2g K C x:=h
theorem xc_of{nm q:Str}{C N:Addr}{bs bm:List Value}{sn:List Str}{sub:List Value}{ab:Bool}{col:Option Bool}{dd:Option Addr}{k0 k1 k2 k3 k5:Option Value}(h:K.lookup C=some (excClassObj nm q C N bs bm true sn sub ab col dd k0 k1 k2 k3 k5 newS))(h1:bm.contains (.type "ValueError")=true)(h2:bm.contains (.type "BaseException")=true)(h3:bm.contains (.type "AttributeError")=false)(h4:bm.contains (.type "NameError")=false):XCls K C bm:=⟨⟨_,_,_,_,_,_,_,_,_,_,_,_,_,_,h⟩,h1,h2,h3,h4⟩
theorem is_fn{f:Addr}(h:typeIn K (.ref f)=some (.type "function")):isFn K (.ref f)=true:=Uc.mpr h
theorem sq_of{c:Addr}{od:Option Addr}{its:List Value}{n:Nat}{sl:Array (Option Value)}{xs:List V}(h:K.lookup c=some ⟨.type "tuple",od,.seq its.toArray n,sl⟩)(hl:its.length<=1000)(r:Vals xs its)(H:Hp):SqT K H c xs:=.inr ⟨_,_,_,h,rfl,rfl,ln (by show its.toArray.size<=100000;rw[Zd];omega),r⟩
end
section
variable{K:Frag}{fd:FuncData}{a b c:Str}{v:Addr}{od:Option Addr}{n:Nat}{sl:Array (Option Value)}{its:Array Value}{d:Value}
theorem bd3(h:K.lookup v=some ⟨.type "tuple",od,.seq its n,sl⟩)(hd:fd.defaults=.ref v)(h1:∀x y z,∃k:Option (Array Value)->Sem (List (Str×Value)),bindArgs fd ⟨[x,y,z],[]⟩=seqItems? fd.defaults>>=k/\k (some its)=pure [(a,x),(b,y),(c,z)]):Binds K fd [a,b,c] []:=λs us KX hl=>by
 rw[X7]at hl ⊢;exact su3 (P:=λus=>BindsTo s fd ⟨us,[]⟩ ([a,b,c].zip us)) hl λx y z=>by
  obtain⟨k,e1,e2⟩:=h1 x y z;exact .of_defaults (T:=v) hd (KX _ _ h) rfl e1 e2
theorem bd2(h:K.lookup v=some ⟨.type "tuple",od,.seq its n,sl⟩)(hd:fd.defaults=.ref v)(h1:∀x y,∃k:Option (Array Value)->Sem (List (Str×Value)),bindArgs fd ⟨[x,y],[]⟩=seqItems? fd.defaults>>=k/\k (some its)=pure [(a,x),(b,y),(c,d)]):Binds K fd [a,b,c] [d]:=λs us KX hl=>by
 exact su2 (P:=λus=>BindsTo s fd ⟨us,[]⟩ ([a,b,c].zip (us++[d]))) (by simpa using hl) λx y=>by
  obtain⟨k,e1,e2⟩:=h1 x y;exact .of_defaults (T:=v) hd (KX _ _ h) rfl e1 e2
end
section
variable{X:Cx}{k:Nat}{f C':Addr}{fd:FuncData}{ps:List Str}{sp:Sp}{dvs:List V}{ds:List Value}{x nm cx:Str}{p pos apos cp hpos tpos:Pos}{e:Expr}{es:List Expr}{t:TA}{bm':List Value}{b0:Stmt}{suite:List Stmt}{ts tb tb2:TS}{n:Nat}
def PTry(X:Cx)(C':Addr)(hd:Ends->St->Addr->Hp->Prop)(sts:List Stmt)(tb:TS):Prop:=∀(pins:List (Addr×Obj))(s:Shared)(σ:St)(H:Hp)(D:Ends)(Eh:Value->Shared->Prop),
 (∀ea C dx bm H' s',Inv X pins σ H' s'->H' ea=some (XF ea C dx false)->b8h X pins H' ea s'.heap->XCls X.K C bm->(Value.ref C::bm).contains (.ref C')=true->hd D σ ea H'->Eh (.ref ea) s')->
 Inv X pins σ H s->tb D σ H->wpAny (model X.prog X.w) X.A (execs sts X.env) (SP X pins D) Eh s
end
section
variable{X:Cx}
theorem c2l{elt iter:Expr}{x y:Str}{N':List Str}{i:Nat}{px py:Pos}{ifs:List Expr}{scope:Scope}{pos spos:Pos}{wi:TI}{tt:TT}{te:TE}(hN:X.N.Nodup)(hiy:X.N[i]? =some y)(hy:Loc X.env.scope y)(hc:X.calm=true)(hi:PI X (.Name x px) iter wi)(S:a9r X scope x N')
  (ht:∀C s H fp pn,PTs (a2j X scope x N' C s H fp pn) ifs tt)(he:∀C s H fp pn,QE (a2j X scope x N' C s H fp pn) elt te)
  (hsw:swapsWith (.ListComp elt [⟨.Name x px,iter,ifs,0⟩] scope pos) (some (.Name y py)) spos.line X.env=pure true)(hs:∀x,foldedSetIterable iter X.env x=pure x)
  (hf:X.fn y=true\/X.env.scope.names.lookup y=some .local):
  QS X (.Assign [.Name y py] (.ListComp elt [⟨.Name x px,iter,ifs,0⟩] scope pos) spos) (tAsg (b8a wi tt te) (a7r i)):=⟨ps_comp hN hiy hy hc hi S ht (λC s H fp pn=>(he C s H fp pn).pe) hsw hs hf⟩
end
def a3g(X:Cx)(scope:Scope)(x x2:Str)(N':List Str)(C:Addr)(s:Shared)(H:Hp)(fp:List Addr)(pn:List (Addr×Obj)):Cx:={ a2j X scope x N' C s H fp pn with N:=x::x2::N'}
section
variable{X:Cx}{pins:List (Addr×Obj)}{σ:St}{H:Hp}{s:Shared}
structure b2z(X:Cx)(scope:Scope)(x x2:Str)(N':List Str):Prop where
 loc:scope.names.lookup x=some .local
 loc2:scope.names.lookup x2=some .local
 ne:x≠x2
 nocell:∀y∈scope.names,y.2≠.cell
 kind:scope.kind=.function
 names:∀y∈scope.names,y.2=.local->scope.names.lookup y.1=some .local
 free:∀y∈scope.names,y.2=.free->X.env.kindOf y.1=some .cell\/X.env.kindOf y.1=some .free
 nin:x∉N'
 nin2:x2∉N'
 nd:N'.Nodup
 len:N'.length=X.N.length
 sub:∀(i:Nat)(y:Str),N'[i]? =some y->X.N[i]? =some y\/scope.names.lookup y=none
 only:∀y∈scope.names,y.2=.local->y.1=x\/y.1=x2\/y.1∉N'
theorem Inv.compIn2{scope:Scope}{x x2:Str}{N':List Str}{fp:List Addr}{h1:Heap}{tk:Nat}{m:Str->Option Value}(S:b2z X scope x x2 N')(I:Inv X pins σ H s)(hf:∀b∈fp,FpOk X pins H b)(hfl:∀b∈fp,b<s.heap.objs.size)
  (hn:h1.Ns s.heap.objs.size m)(hsb:∀b o,s.heap.get? b=some o->h1.get? b=some o):
  Inv (a3g X scope x x2 N' s.heap.objs.size s H fp (X.pn++pins)) [] (none::none::σ) H { s with heap:=h1,toks:=tk}:=by
 have hcells:∀y∈scope.names,y.2=.free->∃c,X.env.cells.lookup y.1=some c:=λy hy hk=>I.ok.has y.1 (S.free y hy hk)
 have sub:∀y c,(clOf X.env scope.names []).lookup y=some c->X.env.cells.lookup y=some c:=λy c e=>b0g _ _ y c hcells (λz d q=>by simp at q) e
 have lk:∀(y:Str)(k:NameKind),(relabel scope X.env).names.lookup y=some k->k=.cell\/k=.free->scope.names.lookup y=some .free:=λy k e hk=>by
  rw[a3e]at e;cases q:scope.names.lookup y with
  |none=>rw[q]at e;cases e
  |some k0=>
   rw[q]at e;have e':(if(k0==NameKind.free&&X.env.scope.kind==.function&&X.env.kindOf y==some .cell)=true then NameKind.cell else k0)=k:=Zl e
   by_cases hc:(k0==NameKind.free&&X.env.scope.kind==.function&&X.env.kindOf y==some .cell)=true
   ·simp only[Xg]at hc;rw[eq_of_beq hc.1.1]
   ·rw[if_neg hc]at e';subst e';rcases hk with hk|hk
    ·exact absurd hk (S.nocell _ (Z6 q))
    ·rw[hk]
 have lt:∀{b:Addr}{o:Obj},s.heap.get? b=some o->b≠s.heap.objs.size:=λe=>Zv (Zh e)
 refine⟨⟨I.ok.mod,by show(relabel scope X.env).kind=_;exact S.kind,I.ok.glob,I.ok.blt,Zg _,λy z c e1 e2=>I.ok.inj y z c (sub y c e1) (sub z c e2),λy hy=>?_,λy c hz=>(by cases hz),I.ok.hd,I.ok.frames,.inl rfl,
  λb hb=>⟨Zv (hfl b hb),λy c e=>(hf b hb).2.2.2.2.1 y c (sub y c e)⟩,I.bs,Yd I.ok.bsz I.sz,λb o e hb=>?_,λb hb hz=>?_,I.stack,I.stkFree⟩,
  rfl,I.bare,Un.kept hsb,⟨m,hn,λi y v h1 h2 h3=>?_⟩,λy c e=>?_,I.hok.fresh (Zg _),λy c e=>I.freeC y c (sub y c e),λp hp=>?_,I.hok.kept hsb,?_⟩
 ·have hy:(relabel scope X.env).names.lookup y=some .cell\/(relabel scope X.env).names.lookup y=some .free:=hy;have q:scope.names.lookup y=some .free:=hy.elim (λz=>lk y _ z (.inl rfl)) λz=>lk y _ z (.inr rfl)
  exact a6j _ _ y (Z6 q)
 ·obtain⟨_,_,_,f3,_,_⟩:=hf b hb;rcases f3 with f3|f3
  ·exact I.ok.noex b o e f3
  ·exact absurd (Z1 (Zh e) (Yd I.ok.bsz f3)) (Y4 _)
 ·have hz:b∈frs X.stack:=hz;obtain⟨_,f1,f2,_⟩:=hf b hb;rcases Zi.mp (I.stkSub b hz)with z|z
  ·exact f1 z
  ·exact f2 z
 ·rcases i with _|_|i
  ·simp at h2
  ·simp at h2
  ·have h1:N'[i]? =some y:=by simpa[a3g]using h1
   have h2:σ[i]? =some (some v):=by simpa using h2
   have hne:N'[i]? ≠some x:=λz=>S.nin (Yy z)
   have hne2:N'[i]? ≠some x2:=λz=>S.nin2 (Yy z)
   have h3:Vis (relabel scope X.env) y:=h3;obtain⟨m',hn',hl'⟩:=I.loc;have q:scope.names.lookup y=some .free:=by
    rcases h3 with z|z|z
    ·exfalso
     rw[a3e]at z;cases q:scope.names.lookup y with
     |none=>rw[q]at z;cases z
     |some k0=>
      rw[q]at z;have e':(if(k0==NameKind.free&&X.env.scope.kind==.function&&X.env.kindOf y==some .cell)=true then NameKind.cell else k0)=.local:=Zl z
      by_cases hc:(k0==NameKind.free&&X.env.scope.kind==.function&&X.env.kindOf y==some .cell)=true
      ·rw[if_pos hc]at e';cases e'
      ·rw[if_neg hc]at e';subst e';rcases S.only _ (Z6 q) rfl with w|w|w
       ·exact hne (by rw[h1];exact Y0 some w)
       ·exact hne2 (by rw[h1];exact Y0 some w)
       ·exact w (Yy h1)
    ·exact lk y _ z (.inl rfl)
    ·exact lk y _ z (.inr rfl)
   obtain⟨c,hc⟩:=a6j (env:=X.env) scope.names [] y (Z6 q);have hk:X.env.kindOf y=some .cell\/X.env.kindOf y=some .free:=S.free _ (Z6 q) rfl;have h1':X.N[i]? =some y:=(S.sub i y h1).resolve_right λz=>by rw[q]at z;cases z
   obtain⟨u,r,l⟩:=hl' i y v h1' h2 (.inr hk);refine⟨u,r,?_⟩;have kd:(compEnvC scope (clOf X.env scope.names []) s.heap.objs.size X.env).kindOf y=some .cell\/(compEnvC scope (clOf X.env scope.names []) s.heap.objs.size X.env).kindOf y=some .free:=by
    rcases h3 with z|z|z
    ·exfalso
     rw[a3e,q]at z;have e':(if(NameKind.free==NameKind.free&&X.env.scope.kind==.function&&X.env.kindOf y==some .cell)=true then NameKind.cell else NameKind.free)=.local:=Zl z
     by_cases hc:(NameKind.free==NameKind.free&&X.env.scope.kind==.function&&X.env.kindOf y==some .cell)=true
     ·rw[if_pos hc]at e';cases e'
     ·rw[if_neg hc]at e';cases e'
    ·exact .inl z
    ·exact .inr z
   rcases l with⟨a,_⟩|⟨_,c',hc',ic⟩
   ·rcases hk with k|k<;>(rw[k]at a;cases a)
   ·have e:X.env.cells.lookup y=some c:=sub y c hc;rw[e]at hc';cases hc';obtain⟨o,ho,hd⟩:=ic;exact .inr ⟨kd,c,hc,⟨o,hsb _ _ ho,hd⟩⟩
 ·obtain⟨v,o,ho,hd⟩:=I.cell y c (sub y c e);exact⟨v,o,hsb _ _ ho,hd⟩
 ·have hp:p∈X.pn++pins:=by
   have hp:p∈(X.pn++pins)++[]:=hp;rwa[X7]at hp
  obtain⟨e,n,ne,nf,d⟩:=I.pin p hp;refine⟨hsb _ _ e,n,lt e,λhz=>?_,d⟩;have hz:p.1∈frs X.stack:=hz;rcases Zi.mp (I.stkSub _ hz)with z|z
  ·exact ne z
  ·exact nf z
 ·show(none::none::σ).length=(x::x2::N').length
  rw[length_cons,length_cons,length_cons,length_cons,I.len,S.len]
def c0b(K:W.Frag)(J:It)(te:TE)(σ:St)(Q:VK)(D:Addr)(H1:Hp):Prop:=∃W:Nat->Nat->List V->Hp->Prop,(∃m,W 0 m [] (upd H1 D (.lst [])))/\
 ∀i m ys H',W i m ys H'->(J.stop i H'/\Q (.ref D) H')\/(J.go i H'/\∀v H2,J.yld i H' v H2->∃a y1 y2,v=.ref a/\SqT K H2 a [y1,y2]/\te (some y1::some y2::σ) H2 λy H4=>H4 D=some (.lst ys)/\ys.length<sizeLine/\∃m',m'<m/\W (i+1) m' (ys++[y]) (upd H4 D (.lst (ys++[y]))))
def c6u(K:W.Frag)(wi:TI)(te:TE):TE:=λσ H Q=>wi σ H λJ H1=>∀D,H1 D=none->c0b K J te σ Q D H1
theorem c3u{elt iter:Expr}{x x2:Str}{N':List Str}{px px2 pt:Pos}{kt:Nat}{scope:Scope}{pos:Pos}{te:TE}(hc:X.calm=true)(S:b2z X scope x x2 N')
  (he:∀C s H fp pn,PE (a3g X scope x x2 N' C s H fp pn) elt te){Q:VK}{itv:Value}{s2:Shared}{RR:Value->Addr->Result->Shared->Prop}
  (h2:PIE X pins σ (.Tuple [.Name x px,.Name x2 px2] kt pt) (λJ H1=>∀D,H1 D=none->c0b X.K J te σ Q D H1) itv s2)
  (hend:∀(D C:Addr)(H6:Hp)(s7:Shared)(m7:Str->Option Value),Inv X pins σ H6 s7->s7.heap.Ns C m7->FpOk X pins H6 C->Q (.ref D) H6->RR (.ref D) C (.ok .next) s7):
  wpAny (model X.prog X.w) X.A (newList []) (λacc s3=>wpAny (model X.prog X.w) X.A (newFunctionEnv scope X.env.globals (clOf X.env scope.names []) [] X.env.qual none .none (some X.env)) (λcenv s4=>
   codeAny (model X.prog X.w) X.A (.compStart (.ListComp elt [⟨.Tuple [.Name x px,.Name x2 px2] kt pt,iter,[],0⟩] scope pos) 0 itv acc { cenv with scope:=relabel scope X.env}) (RR acc cenv.locals) s4) X.xe s3) X.xe s2:=by
 obtain⟨it,fp,tn,J,H2,e,I2,T,st2,f2,hW⟩:=h2;subst e;have hlt:∀b∈fp,b<s2.heap.objs.size:=λb hb=>by
  obtain⟨o,ho,_⟩:=T.obj _ _ st2 b hb;exact Zh ho
 obtain⟨W,⟨m0,w0⟩,hturn⟩:=hW s2.heap.objs.size (I2.hok.fresh (Zg _));refine Yo ?_ (by show 0<=sizeLine;exact Yx _);have I3:Inv X pins σ (upd H2 s2.heap.objs.size (.lst [])) { s2 with heap:=s2.heap.push { cls:=.type "list",data:=.seq ([]:List Value).toArray}}:=I2.lnew (t':=s2.toks) .nil (Yx _);have f3:∀b∈fp,FpOk X pins (upd H2 s2.heap.objs.size (.lst [])) b:=λb hb=>by
  obtain⟨g0,g⟩:=f2 b hb;exact⟨by rw[a0p (Zv (hlt b hb))];exact g0,g⟩
 have st3:tn 0 (s2.heap.push { cls:=.type "list",data:=.seq ([]:List Value).toArray}):=T.keep _ _ _ st2 λb _ o e=>Zc _ e
 have hlt3:∀b∈fp,b<(s2.heap.push { cls:=.type "list",data:=.seq ([]:List Value).toArray}).objs.size:=λb hb=>by rw[Yc];exact Va (hlt b hb)
 generalize hs3:({ s2 with heap:=s2.heap.push { cls:=.type "list",data:=.seq ([]:List Value).toArray}}:Shared)=s3 at I3;have eh:s3.heap=s2.heap.push { cls:=.type "list",data:=.seq ([]:List Value).toArray}:=by rw[<-hs3]
 rw[<-eh]at st3 hlt3
 show wpAny _ _ (newFunctionEnv scope X.env.globals (clOf X.env scope.names []) [] X.env.qual none .none (some X.env)) _ _ _
 refine Sv S.nocell (by intro y hy;simp at hy) (λh4 hns4 hsb4=>?_) S.kind;have hk4:∀b o,s3.heap.get? b=some o->h4.get? b=some o:=λb o e=>(hsb4.2 b (Zv (Zh e))).trans (Zc _ e)
 have I4:=Inv.compIn2 (tk:=s3.toks+([]:List (Str×Value)).length) S I3 f3 hlt3 hns4 hk4;have st4:tn 0 h4:=T.keep _ _ _ st3 λb _ o e=>hk4 b o e
 have fx:∀{H':Hp},(∀b∈fp,H' b=none)->∀b∈fp,FpOk (a3g X scope x x2 N' s3.heap.objs.size s3 (upd H2 s2.heap.objs.size (.lst [])) fp (X.pn++pins)) [] H' b:=λ{H'} hn b hb=>by
  obtain⟨_,g1,g2,g3,g4,g5⟩:=f3 b hb;refine⟨hn b hb,Zv (hlt3 b hb),I4.ok.exfs b hb,.inl hb,λy c e=>(I4.ok.exf b hb).2 y c e,λp hp=>g5 p ?_⟩;have hp:p∈(X.pn++pins)++[]:=hp;rwa[X7]at hp
 have loop:∀s5:Shared,(∃(i n:Nat)(o o2:Option V)(ys:List V)(H5:Hp),Inv (a3g X scope x x2 N' s3.heap.objs.size s3 (upd H2 s2.heap.objs.size (.lst [])) fp (X.pn++pins)) [] (o::o2::σ) H5 s5/\tn i s5.heap/\(∀b∈fp,H5 b=none)/\W i n ys H5)->
   codeAny (model X.prog X.w) X.A (.compLoop (.ListComp elt [⟨.Tuple [.Name x px,.Name x2 px2] kt pt,iter,[],0⟩] scope pos) 0 (.ref it) (.ref s2.heap.objs.size) (compEnvC scope (clOf X.env scope.names []) s3.heap.objs.size X.env))
    (RR (.ref s2.heap.objs.size) s3.heap.objs.size) s5:=by
  rintro s5 ⟨i5,n5,o5,o25,ys5,H5,I5,st5,fr5,w5⟩
  refine b7c (λn s'=>∃(i:Nat)(o o2:Option V)(ys:List V)(H5:Hp),Inv (a3g X scope x x2 N' s3.heap.objs.size s3 (upd H2 s2.heap.objs.size (.lst [])) fp (X.pn++pins)) [] (o::o2::σ) H5 s'/\tn i s'.heap/\(∀b∈fp,H5 b=none)/\W i n ys H5) ?_ n5 ⟨i5,o5,o25,ys5,H5,I5,st5,fr5,w5⟩
  rintro n s6 ⟨i,o,o2,ys,H6,I6,st6,fr6,w6⟩
  rcases hturn i n ys H6 w6 with⟨stop,qn⟩|⟨go,step⟩
  ·refine thn (T.done (a3g X scope x x2 N' s3.heap.objs.size s3 (upd H2 s2.heap.objs.size (.lst [])) fp (X.pn++pins)) rfl rfl rfl hc i [] s6 _ H6 _ I6 (fx fr6) st6 stop) λr s7 ⟨hr,I7⟩=>?_
   subst hr;obtain⟨m7,hn7,_⟩:=id I7.loc;have I8:Inv X pins σ H6 s7:=I3.call' I7.os I7.base I7.hok I7.bare λb hb=>by
    obtain⟨_,g1,g2,g3,g4,g5⟩:=f3 b hb;exact⟨g3,g1,g4,g5⟩
   have f8:FpOk X pins H6 s3.heap.objs.size:=I3.fpOk (Zg _) I7.free;exact hend _ _ H6 s7 m7 I8 hn7 f8 qn
  ·refine thn (T.item (a3g X scope x x2 N' s3.heap.objs.size s3 (upd H2 s2.heap.objs.size (.lst [])) fp (X.pn++pins)) rfl rfl rfl hc i [] s6 _ H6 _ I6 (fx fr6) st6 go) λr s7 ⟨u,hr,h7⟩=>?_
   subst hr;refine thn h7 λ_ s8 z9=>?_
   obtain⟨v,H8,I8,r8,y8,st8,fr8⟩:=z9;have I8':=I8.pinned (fx fr8) (T.obj _ _ st8);obtain⟨aT,y1,y2,ev,hsT,step⟩:=step v H8 y8;have nd2:(x::x2::N').Nodup:=X5.mpr ⟨λz=>(Zi.mp z).elim S.ne S.nin,X5.mpr ⟨S.nin2,S.nd⟩⟩;have g1:PG (a3g X scope x x2 N' s3.heap.objs.size s3 (upd H2 s2.heap.objs.size (.lst [])) fp (X.pn++pins)) (.Name x px) (a7r 0):=a2f nd2 rfl (.inl (X9 S.loc)) (.inr (X9 S.loc));have g2:PG (a3g X scope x x2 N' s3.heap.objs.size s3 (upd H2 s2.heap.objs.size (.lst [])) fp (X.pn++pins)) (.Name x2 px2) (a7r 1):=a2f nd2 rfl (.inl (X9 S.loc2)) (.inr (X9 S.loc2));have g3:=c4z (X:=a3g X scope x x2 N' s3.heap.objs.size s3 (upd H2 s2.heap.objs.size (.lst [])) fp (X.pn++pins)) (k:=kt) (pos:=pt) (n:=2) hc (a3a g1 (a3a g2 a9n));refine thn (g3 _ s8 _ H8 v u (λσ' H'=>σ'=some y1::some y2::σ/\H'=H8) I8' r8 ⟨aT,[y1,y2],ev,hsT,rfl,y1,[y2],rfl,?_⟩) λ_ s9 ⟨σ9,H9,I9,e9,e9'⟩=>?_
   ·show gCons (a7r 1) gNil [y2] (some y1::o2::σ) H8 _
    exact⟨y2,[],rfl,rfl,rfl,rfl⟩
   subst e9 e9';refine wpAny_tests_nil ?_;rw[if_pos rfl];refine thn (he _ _ _ _ _ _ s9 (some y1::some y2::σ) H9 _ I9 step) λy s11 z9=>?_
   obtain⟨yv,H11,I11,r11,hD,hz,m',hm,w'⟩:=z9;have ap:=b1g (X:=a3g X scope x x2 N' s3.heap.objs.size s3 (upd H2 s2.heap.objs.size (.lst [])) fp (X.pn++pins)) _ s11 (some y1::some y2::σ) H11 (.ref s2.heap.objs.size) [yv] (.ref s2.heap.objs.size) [y] (λ_ H'=>W (i+1) m' (ys++[yv]) H') I11 rfl (.cons r11 .nil) ⟨_,ys,yv,rfl,rfl,hD,hz,w'⟩;refine thn ap λ_ s12 ⟨_,H12,I12,_,w12⟩=>⟨m',hm,i+1,some y1,some y2,_,H12,I12.unpinned,T.keep _ _ _ st8 λb hb o e=>(I12.pin (b,o) (Z9 _ (Z9 _ (a5j hb e)))).1,λb hb=>?_,w12⟩
   obtain⟨o,e,d⟩:=T.obj _ _ st8 b hb;exact(I12.pin (b,o) (Z9 _ (Z9 _ (a5j hb e)))).2.1
 have l4:=loop { s3 with heap:=h4,toks:=s3.toks+([]:List (Str×Value)).length} ⟨0,m0,none,none,[],_,I4,st4,λb hb=>(f3 b hb).1,w0⟩;exact Sf l4 (T.self _ _ _ _ _ st4 l4)
end
def c2m(sc scope:Scope)(N N':List Str)(x x2:Str):Bool:=
 decide (scope.names.lookup x=some .local)&&decide (scope.names.lookup x2=some .local)&&decide (x≠x2)&&scope.names.all (λy=>decide (y.2≠.cell))&&decide (scope.kind=.function)&&scope.names.all (λy=>decide (y.2=.local->scope.names.lookup y.1=some .local))&&
 scope.names.all (λy=>decide (y.2=.free->sc.names.lookup y.1=some .cell\/sc.names.lookup y.1=some .free))&&decide (x∉N')&&decide (x2∉N')&&decide N'.Nodup&&decide (N'.length=N.length)&&
 (List.range N'.length).all (λi=>match N'[i]? with|some y=>decide (N[i]? =some y\/scope.names.lookup y=none)|none=>true)&&scope.names.all (λy=>decide (y.2=.local->y.1=x\/y.1=x2\/y.1∉N'))
theorem c9z{X:Cx}{scope:Scope}{x x2:Str}(sc:Scope)(N N':List Str)(hsc:X.env.scope=sc)(hN:X.N=N)(h:c2m sc scope N N' x x2=true):b2z X scope x x2 N':=by
 subst hsc hN;unfold c2m at h;simp only[Xg,Xf,U9]at h;obtain⟨⟨⟨⟨⟨⟨⟨⟨⟨⟨⟨⟨h1,g1⟩,g2⟩,h2⟩,h3⟩,h4⟩,h5⟩,h6⟩,g3⟩,h7⟩,h7'⟩,h8'⟩,h8⟩:=h;refine⟨h1,g1,g2,h2,h3,h4,h5,h6,g3,h7,h7',λi y e=>?_,h8⟩;have hi:i<N'.length:=(Z7.mp e).1;have z:=h8' i (Y2.mpr hi);rw[e]at z;exact Zf z
theorem d0a{K:W.Frag}{wi:TI}{te:TE}{σ:St}{H:Hp}{Q:VK}(k:wi σ H λJ H1=>∀D,H1 D=none->c0b K J te σ Q D H1):c6u K wi te σ H Q:=k
theorem kt_at{H:Hp}{kvs:List (List Key×V)}{xs:List (List Key×Addr×Value)}(h:KT H kvs xs):kvs.length=xs.length:=by
 induction h with
 |nil=>rfl
 |cons _ _ ih=>rw[length_cons,length_cons,ih]
section
variable{prog:Program}{w:World}{K:Type}[DecidableEq K]{knd:HeapKind prog w K}{A:Around}{E:Value->Shared->Prop}{s:Shared}
theorem c6v{d a:Addr}{xs:List (K×Addr×Value)}{k:K}{v:Value}{Q:Value->Shared->Prop}(hu:knd.room A)(hkey:knd.is s.heap k a)(hm:s.heap.DictOfH knd d xs)(hsz:xs.length<=sizeLine)
  (h1:∀p,atKey xs k=some p->Q p.2 { s with toks:=s.toks+knd.draws k})
  (h2:atKey xs k=none->∀h',h'.DictOfH knd d (storedH xs k a v)->Heap.SameBut d s.heap h'->Q v { s with heap:=h',toks:=s.toks+knd.draws k}):
  wpAny (model prog w) A (dictSetDefault d (.ref a) v) Q E s:=by
 obtain⟨o,es,ep,ho,hc,hd,he,his,hn⟩:=hm;unfold dictSetDefault
 try with_reducible refine Xh ?_
 refine Za (knd.pyHash hu hkey ?_);refine Za (wpAny_dictFind_heap (s:={ s with toks:=s.toks+knd.draws k}) hu hkey ho hd he his hn ?_ ?_)
 ·intro hno;have hnot:k∉xs.map (·.1):=not_mem_keys_of_get hno
  refine Za (Wk (Za (wpAny_updateDictKeys (hz:=by have e:=size_of_entries he;omega) (s:={ s with toks:=s.toks+knd.draws k}) ho hd (Ze (h2 (Vw hno) _ ⟨_,_,ep+1,Z3 _ ho (Obj.isFreed_of_dict (S3 hd _)),
   hc.mapDictKeys _,S3 hd _,?_,?_,?_⟩ (Wc ..))))))
  ·rw[Sw (Vw hno)]
   simp[he,entryOfKey]
  ·rw[Sw (Vw hno)];intro x hx;rcases Yt.mp hx with hx|hx
   ·exact knd.keeps (his x hx) ho hd (Wc ..)
   ·simp only[Zu]at hx;subst hx;exact knd.keeps hkey ho hd (Wc ..)
  ·rw[Sw (Vw hno)];rw[Zt,Vb];refine⟨hn,qz,?_⟩;intro x hx y hy;simp only[Z4,Wv,Zu]at hy;subst hy;exactλe=>hnot (e▸hx)
 ·intro j p hj;refine Za (wpAny_dictEntries (s:={ s with toks:=s.toks+knd.draws k}) ho hd ?_);rw[entry_at he j,hj];exact Za (Wk (Ze (h1 p (atKey_of_get hn hj))))
theorem c1e(knd:HeapKind prog w K){k:K}{b:Addr}(d:Addr)(hd:(d==sysModules)=false)(dflt:Value):
  MeetsIn prog w (Builtin.«dict.setdefault» ⟨[.ref d,.ref b,dflt],[]⟩) (λA R s=>knd.room A.in1/\∃xs,knd.is s.heap k b/\s.heap.DictOfH knd d xs/\xs.length<=sizeLine/\
   (∀p,atKey xs k=some p->R (.ok (.ret p.2)) { s with toks:=s.toks+knd.draws k})/\
   (atKey xs k=none->∀h',h'.DictOfH knd d (storedH xs k b dflt)->Heap.SameBut d s.heap h'->R (.ok (.ret dflt)) { s with heap:=h',toks:=s.toks+knd.draws k})):=
 .of_wp λA R s ⟨hu,xs,hk,hm,hz,h1,h2⟩=>by
  unfold Builtin.«dict.setdefault»;refine Za ?_;unfold Builtin.Dict.keyAndDefault;refine Za (wpAny_notOrdered_dict hm.typeIs ?_)
  show wpAny _ _ (pure (d,Value.ref b,some dflt)) _ _ s
  refine Ze ?_
  show wpAny _ _ (if(d==sysModules)=true then _ else(dictSetDefault d (.ref b) dflt>>=_)) _ _ s
  rw[if_neg (by rw[hd];exact Zp)];exact Za (c6v hu hk hm hz (λp hp=>Ze ⟨p.2,rfl,h1 p hp⟩) λhn h' hm' hs'=>Ze ⟨dflt,rfl,h2 hn h' hm' hs'⟩)
end
section
variable{X:Cx}
def c0c:V->List V->Hp->VK->Prop:=λx vs H Q=>∃(a b:Addr)(kvs:List (List Key×V))(k:List Key)(d:V),x=.ref a/\vs=[.ref b,d]/\H a=some (.dT kvs)/\H b=some (.tup (k.map kV))/\kvs.length<sizeLine/\(∀v,valV kvs k=some v->Q v H)/\(valV kvs k=none->Q d (upd H a (.dT (putK kvs k d))))
theorem d0b(hu:X.A.units+150<cLine):MtR X "dict.setdefault" c0c:=by
 intro pins s σ H x vs v us Q I rx rv h;obtain⟨a,b,kvs,k,d,rfl,rfl,ha,hb,hz,q1,q2⟩:=h;cases rx;obtain⟨u,u',rfl,r1,r2⟩:=a6w rv;cases r1;obtain⟨z1,d1,xs,rel,dd⟩:=dt_of I.hok ha;have hl:=kt_at rel;refine Ta Vd dd.typeIs Sa (T6 _ _ _) (c1e (tupleKind (a1q X.prog X.w)) (k:=k) a d1 u')
  ⟨Vp qo,xs,b1h I.hok hb,dd,qo,λp hp=>?_,λhn h' dd' hs=>?_⟩
 ·have hr:=rel.val k;rw[hp]at hr;cases hv:valV kvs k with
  |none=>rw[hv]at hr;cases hr
  |some y=>
   rw[hv]at hr;obtain⟨y',e1,r3⟩:=RelO.some_of hr;cases e1;exact⟨y,H,I.tok _,r3,q1 y hv⟩
 ·have hr:=rel.val k;rw[hn]at hr;cases hv:valV kvs k with
  |some y=>rw[hv]at hr;obtain⟨_,e1,_⟩:=RelO.some_of hr;cases e1
  |none=>
   refine⟨d,_,?_,r2,q2 hv⟩;have hl:(putK kvs k d).length<=sizeLine:=by have:=a6x kvs k d;omega
   obtain⟨o,es,ep,hq,h2,h3,h4,_,h5⟩:=dd';refine b2s I (by rw[ha];exact True.intro) hs ⟨o,hq⟩ ⟨hl,d1,_,(KT.put rel k hb r2).keeps λc ys ec=>?_,o,es,ep,hq,h2,h3,h4,h5⟩;rw[a0p (a6t ec ha (λz=>nomatch z))];exact ec
theorem d0c{a b:Addr}{kvs:List (List Key×V)}{k:List Key}{d:V}{H:Hp}{Q:VK}(ha:H a=some (.dT kvs))(hb:H b=some (.tup (k.map kV)))(hz:kvs.length<sizeLine)(q1:∀v,valV kvs k=some v->Q v H)(q2:valV kvs k=none->Q d (upd H a (.dT (putK kvs k d)))):c0c (.ref a) [.ref b,d] H Q:=⟨a,b,kvs,k,d,rfl,rfl,ha,hb,hz,q1,q2⟩
end
mutual
inductive Dx(K:W.Frag)(H:Hp):V->PyData->Prop
 |non:Dx K H .non .none
 |bl (b:Bool):Dx K H (.bl b) (.bool b)
 |int (i:Int):Dx K H (.int i) (.int i)
 |str (x:Str):Dx K H (.str x) (.str x)
 |tup {a:Addr} {us:List V} {ds:List PyData}:SqT K H a us->DxL K H us ds->Dx K H (.ref a) (.tuple ds)
 |lst {a:Addr} {us:List V} {ds:List PyData}:SqL K H a us->DxL K H us ds->Dx K H (.ref a) (.list ds)
inductive DxL(K:W.Frag)(H:Hp):List V->List PyData->Prop
 |nil:DxL K H [] []
 |cons {u:V} {us:List V} {d:PyData} {ds:List PyData}:Dx K H u d->DxL K H us ds->DxL K H (u::us) (d::ds)
end
mutual
theorem Den.dx{K:W.Frag}{H:Hp}:∀{v:V}{d:PyData},Den K H v d->Dx K H v d
 |_,_,.non=>.non
 |_,_,.bl b=>.bl b
 |_,_,.int i=>.int i
 |_,_,.str x=>.str x
 |_,_,.tup h l=>.tup h (DenL.dx l)
theorem DenL.dx{K:W.Frag}{H:Hp}:∀{v:List V}{d:List PyData},DenL K H v d->DxL K H v d
 |_,_,.nil=>.nil
 |_,_,.cons h l=>.cons (Den.dx h) (DenL.dx l)
end
mutual
theorem Dx.monoT{K:W.Frag}{H H':Hp}(e:∀a xs,SqT K H a xs->SqT K H' a xs)(f:∀a xs,SqL K H a xs->SqL K H' a xs):∀{v:V}{d:PyData},Dx K H v d->Dx K H' v d
 |_,_,.non=>.non
 |_,_,.bl b=>.bl b
 |_,_,.int i=>.int i
 |_,_,.str x=>.str x
 |_,_,.tup h l=>.tup (e _ _ h) (DxL.monoT e f l)
 |_,_,.lst h l=>.lst (f _ _ h) (DxL.monoT e f l)
theorem DxL.monoT{K:W.Frag}{H H':Hp}(e:∀a xs,SqT K H a xs->SqT K H' a xs)(f:∀a xs,SqL K H a xs->SqL K H' a xs):∀{v:List V}{d:List PyData},DxL K H v d->DxL K H' v d
 |_,_,.nil=>.nil
 |_,_,.cons h l=>.cons (Dx.monoT e f h) (DxL.monoT e f l)
end
section
variable{K:W.Frag}{H:Hp}
theorem DxL.length:∀{us:List V}{ds:List PyData},DxL K H us ds->us.length=ds.length
 |_,_,.nil=>rfl
 |_,_,.cons _ l=>by rw[length_cons,length_cons,DxL.length l]
theorem DxL.get:∀{us:List V}{ds:List PyData}{i:Nat}{u:V},DxL K H us ds->us[i]? =some u->∃d,ds[i]? =some d/\Dx K H u d
 |_,_,_,_,.nil,e=>by simp at e
 |_,_,0,_,.cons h _,e=>by simp at e;subst e;exact⟨_,rfl,h⟩
 |_,_,i+1,u,.cons _ l,e=>by
  obtain⟨d,h1,h2⟩:=DxL.get (i:=i) (u:=u) l (by simpa using e);exact⟨d,by simpa using h1,h2⟩
end
section
variable{X:Cx}{pins:List (Addr×Obj)}{σ:St}{H:Hp}{s:Shared}
theorem d0d(I:Inv X pins σ H s):∀(n:Nat)(A:Around)(d:PyData)(v v':V)(u u':Value),d.depth<=n->A.units+n<cLine->Dx X.K H v d->Dx X.K H v' d->RelV v u->RelV v' u'->SeqAt.EqAt A s u u' true:=by
 intro n
 induction n with
 |zero=>
  intro A d v v' u u' hd hu h h' r r';cases h with
  |non=>cases h';cases r;cases r';exact Xx _
  |bl b=>cases h';cases r;cases r';exact Xx _
  |int i=>
   cases h';obtain⟨t,rfl⟩:=r;obtain⟨t',rfl⟩:=r';have:=Vr (A:=A) (s:=s) i t i t'
   simpa using this
  |str x=>
   cases h';obtain⟨t,rfl⟩:=r;obtain⟨t',rfl⟩:=r';have:=Vq (A:=A) (s:=s) x t x t'
   simpa using this
  |tup _ _=>simp[PyData.depth]at hd
  |lst _ _=>simp[PyData.depth]at hd
 |succ n ih=>
  intro A d v v' u u' hd hu h h' r r';cases h with
  |non=>cases h';cases r;cases r';exact Xx _
  |bl b=>cases h';cases r;cases r';exact Xx _
  |int i=>
   cases h';obtain⟨t,rfl⟩:=r;obtain⟨t',rfl⟩:=r';have:=Vr (A:=A) (s:=s) i t i t'
   simpa using this
  |str x=>
   cases h';obtain⟨t,rfl⟩:=r;obtain⟨t',rfl⟩:=r';have:=Vq (A:=A) (s:=s) x t x t'
   simpa using this
  | @tup a us ds hs hl=>
   cases h' with
   | @tup b us' _ hs' hl'=>
    cases r;cases r'
    by_cases e:a=b
    ·subst e;exact Xx _
    ·obtain⟨its,rv,p,_⟩:=I.tuple hs;obtain⟨its',rv',p',_⟩:=I.tuple hs';have l1:=rv.length;have l2:=rv'.length;have l3:=hl.length;have l4:=hl'.length;have hd':PyData.depthAll ds<=n:=by simp only[PyData.depth]at hd;omega
     have key:=SeqAt.RcAt.tuples (A:=A) (e:=λ_=>true) (show s.heap.IsTuple a its.toArray from p) (show s.heap.IsTuple b its'.toArray from p') qo (λj h1 h2=>by
      have h1:j<its.length:=by simpa using h1
      have h2:j<its'.length:=by simpa using h2
      have x1:us[j]? =some us[j]:=Zb qo
      have x2:us'[j]? =some us'[j]:=Zb qo
      obtain⟨d,e1,d1⟩:=hl.get x1;obtain⟨d',e2,d2⟩:=hl'.get x2;rw[e1]at e2;cases e2;obtain⟨w1,y1,z1⟩:=rv.get x1;obtain⟨w2,y2,z2⟩:=rv'.get x2;have q1:its.toArray[j]=w1:=by
       have:=Zb h1;rw[y1]at this
       simpa using(Zl this).symm
      have q2:its'.toArray[j]=w2:=by
       have:=Zb h2;rw[y2]at this
       simpa using(Zl this).symm
      rw[q1,q2]
      exact ih A.in1 d _ _ _ _ (Yd (a5z e1) hd') (by show A.units+1+n<cLine;omega) d1 d2 z1 z2)
     have e3:its.toArray.size=its'.toArray.size:=by simp only[Zd];omega
     rw[e3]at key;have e4:((List.range (min its'.toArray.size its'.toArray.size)).all (λ_=>true)&&its'.toArray.size==its'.toArray.size)=true:=by simp
     rw[e4]at key;exact U1 e key
  | @lst a us ds hs hl=>
   cases h' with
   | @lst b us' _ hs' hl'=>
    cases r;cases r'
    by_cases e:a=b
    ·subst e;exact Xx _
    ·obtain⟨its,rv,p,_⟩:=I.list hs;obtain⟨its',rv',p',_⟩:=I.list hs';have l1:=rv.length;have l2:=rv'.length;have l3:=hl.length;have l4:=hl'.length;have hd':PyData.depthAll ds<=n:=by simp only[PyData.depth]at hd;omega
     have key:=SeqAt.RcAt.lists (A:=A) (e:=λ_=>true) p.isList p'.isList (by simp only[Zd];omega) qo (λj h1 h2=>by
      have h1:j<its.length:=by simpa using h1
      have h2:j<its'.length:=by simpa using h2
      have x1:us[j]? =some us[j]:=Zb qo
      have x2:us'[j]? =some us'[j]:=Zb qo
      obtain⟨d,e1,d1⟩:=hl.get x1;obtain⟨d',e2,d2⟩:=hl'.get x2;rw[e1]at e2;cases e2;obtain⟨w1,y1,z1⟩:=rv.get x1;obtain⟨w2,y2,z2⟩:=rv'.get x2;have q1:its.toArray[j]=w1:=by
       have:=Zb h1;rw[y1]at this
       simpa using(Zl this).symm
      have q2:its'.toArray[j]=w2:=by
       have:=Zb h2;rw[y2]at this
       simpa using(Zl this).symm
      rw[q1,q2]
      exact ih A.in1 d _ _ _ _ (Yd (a5z e1) hd') (by show A.units+1+n<cLine;omega) d1 d2 z1 z2)
     have e4:((List.range its.toArray.size).all (λ_=>true))=true:=by simp
     rw[e4]at key;exact U1 e key
end
section
variable{X:Cx}
def dEqX(K:W.Frag)(n:Bool):R2:=λx y H Q=>∃(p q:Addr)(us us':List V)(ds:List PyData),x=.ref p/\y=.ref q/\((SqT K H p us/\SqT K H q us')\/(SqL K H p us/\SqL K H q us'))/\DxL K H us ds/\DxL K H us' ds/\PyData.depthAll ds<=149/\Q (.bl (!n)) H
theorem b7i{pins:List (Addr×Obj)}{σ:St}{H:Hp}{s:Shared}(I:Inv X pins σ H s){A:Around}{us us':List V}{ds:List PyData}{its its':List Value}(hl:DxL X.K H us ds)(hl':DxL X.K H us' ds)(rv:Vals us its)(rv':Vals us' its')(hd:PyData.depthAll ds<=149)(hu:A.units+150<cLine):
  ∀j (h1:j<its.toArray.size) (h2:j<its'.toArray.size),SeqAt.EqAt A.in1 s its.toArray[j] its'.toArray[j] true:=λj h1 h2=>by
 have l1:=rv.length;have l2:=rv'.length;have l3:=hl.length;have l4:=hl'.length;have h1:j<its.length:=by simpa using h1
 have h2:j<its'.length:=by simpa using h2
 have x1:us[j]? =some us[j]:=Zb qo
 have x2:us'[j]? =some us'[j]:=Zb qo
 obtain⟨d,e1,d1⟩:=hl.get x1;obtain⟨d',e2,d2⟩:=hl'.get x2;rw[e1]at e2;cases e2;obtain⟨w1,y1,z1⟩:=rv.get x1;obtain⟨w2,y2,z2⟩:=rv'.get x2;have q1:its.toArray[j]=w1:=by
  have:=Zb h1;rw[y1]at this
  simpa using(Zl this).symm
 have q2:its'.toArray[j]=w2:=by
  have:=Zb h2;rw[y2]at this
  simpa using(Zl this).symm
 rw[q1,q2];exact d0d I 149 A.in1 d _ _ _ _ (Yd (a5z e1) hd) (by show A.units+1+149<cLine;omega) d1 d2 z1 z2
theorem ko_eqX(K:W.Frag)(hK:X.K=K)(hu:X.A.units+150<cLine):OpR X (compareOp .Eq) (dEqX K false):=by
 subst hK;intro pins s σ H x y v u Q I rx ry h;obtain⟨p,q,us,us',ds,rfl,rfl,h,hl,hl',hd,k⟩:=h;cases rx;cases ry;rcases h with⟨hs,hs'⟩|⟨hs,hs'⟩
 ·obtain⟨its,rv,p1,_⟩:=I.tuple hs;obtain⟨its',rv',p2,_⟩:=I.tuple hs';have e3:its.toArray.size=its'.toArray.size:=by simp only[Zd];rw[<-rv.length,<-rv'.length,hl.length,hl'.length]
  refine SeqAt.eq_tupleAt (e:=λ_=>true) (show s.heap.IsTuple p its.toArray from p1) (show s.heap.IsTuple q its'.toArray from p2) qo (b7i I hl hl' rv rv' hd hu) ?_;rw[e3];exact⟨.bl true,H,I,by simp[RelV],k⟩
 ·obtain⟨its,rv,p1,_⟩:=I.list hs;obtain⟨its',rv',p2,_⟩:=I.list hs';have e3:its.toArray.size=its'.toArray.size:=by simp only[Zd];rw[<-rv.length,<-rv'.length,hl.length,hl'.length]
  refine SeqAt.eq_listAt (e:=λ_=>true) p1.isList p2.isList e3 qo (b7i I hl hl' rv rv' hd hu) ?_;exact⟨.bl true,H,I,by simp[RelV],k⟩
end
end L2
namespace L2.ZL
open PySem PySem.Spec PyProof.Rows PySem.W L2
abbrev ztH1(h:Heap)(l1:Addr):Heap:=h.push { cls:=.type "list_iterator",data:=.fields #[.ref l1,.int 0 0]}
abbrev ztH2(h:Heap)(l1 l2:Addr):Heap:=(ztH1 h l1).push { cls:=.type "list_iterator",data:=.fields #[.ref l2,.int 0 0]}
abbrev ztH3(h:Heap)(l1 l2:Addr):Heap:=(ztH2 h l1 l2).push { cls:=.type "tuple",data:=.seq #[.ref h.objs.size,.ref (ztH1 h l1).objs.size]}
abbrev ztH4(h:Heap)(l1 l2:Addr):Heap:=(ztH3 h l1 l2).push { cls:=.type "tuple",data:=.seq #[.none,.none]}
abbrev ztH5(h:Heap)(l1 l2:Addr):Heap:=(ztH4 h l1 l2).push { cls:=.type "zip",data:=.fields #[.none,.bool false,.bool false,.ref (ztH2 h l1 l2).objs.size,.ref (ztH3 h l1 l2).objs.size]}
section
variable{prog:Program}{w:World}{A:Around}{E:Value->Shared->Prop}{s:Shared}
def ZS(h:Heap)(z TI TO i1 i2 t1 t2 S:Addr)(i:Nat):Prop:=
 ((IsZip h z TI TO .none/\∃a b,IsPair h TO a b)\/∃(T:Addr)(f1:Bool)(o:Obj),a5r h z TI TO (rawInt T) f1/\h.get? T=some o/\T≠z/\T≠TO/\T≠i1/\T≠i2/\T≠S)/\IsPair h TI (.ref i1) (.ref i2)/\h.IsListIter i1 t1 i/\h.IsListIter i2 t2 i
end
end L2.ZL
namespace L2
open PySem PySem.Spec PyProof.Rows PySem.W
theorem c6w{K:W.Frag}{a:Addr}{xs:List V}{g:TG}{tb:TS}{D:Ends}{σ:St}{H:Hp}(Pv:Nat->St->Hp->Prop)(h0:Pv 0 σ H)(hok:∀i σ H,Pv i σ H->SqL K H a xs)
  (hs:∀i σ H T,i<xs.length->Pv i σ H->H T=none->g (.ref T) σ (upd H T (.tup [.int i,xs.getD i .non])) λσ2 H2=>tb { D with nx:=Pv (i+1),ct:=Pv (i+1),bk:=D.nx} σ2 H2)(hd:∀σ H,Pv xs.length σ H->D.nx σ H):
  ForW (Ite K a xs.length) g tb D σ H:=by
 refine⟨λi m σ H=>m=xs.length-i/\i<=xs.length/\Pv i σ H,⟨xs.length,qz,Yx _,h0⟩,?_⟩
 rintro i m σ H ⟨rfl,hi,p⟩
 have q1:=hok i σ H p
 by_cases hlt:i<xs.length
 ·refine .inr ⟨⟨hlt,xs,q1,rfl⟩,Pv (i+1),λσ' H' p'=>⟨xs.length-(i+1),qo,rfl,hlt,p'⟩,λx H' y=>?_⟩;obtain⟨T,u,hT,rfl,rfl,e1⟩:=y;have e1:=e1 xs q1;have f1:xs.getD i .non=u:=by rw[Zr,e1];rfl
  have:=hs i σ H T hlt p hT;rw[f1]at this;exact this
 ·have e:i=xs.length:=by omega
  subst e;exact .inl ⟨⟨rfl,xs,q1,rfl⟩,hd σ H p⟩
open PySem PySem.Spec PyProof.Rows
section
variable{X:Cx}
theorem d0e{elt iter:Expr}{x x2:Str}{N':List Str}{kt:Nat}{px px2 pt:Pos}{scope:Scope}{pos:Pos}{wi:TI}{te:TE}(K:W.Frag)(hK:X.K=K)(hc:X.calm=true)(hi:PI X (.Tuple [.Name x px,.Name x2 px2] kt pt) iter wi)(S:b2z X scope x x2 N')
  (he:∀C s H fp pn,PE (a3g X scope x x2 N' C s H fp pn) elt te)(hs:∀x,foldedSetIterable iter X.env x=pure x:=by intro _;rfl):
  PE X (.ListComp elt [⟨.Tuple [.Name x px,.Name x2 px2] kt pt,iter,[],0⟩] scope pos) (c6u K wi te):=by
 subst hK;intro pins s σ H Q I h;have hcells:∀y∈scope.names,y.2=.free->∃c,X.env.cells.lookup y.1=some c:=λy hy hk=>I.ok.has y.1 (S.free y hy hk)
 rw[eval_ListComp];refine V3 (use:=none) rfl hs (b0f hcells) S.kind S.names (thn (hi pins s σ H _ I h) λxv s1 h1=>thn h1 λitv s2 h2=>?_);refine c3u (RR:=λacc C=>compPost (model X.prog X.w) X.A X.xe none (EP X pins σ Q) acc C) hc S he h2 λD C H6 s7 m7 I8 hn7 f8 qn=>?_
 refine⟨m7,hn7,λh' hs'=>?_⟩;obtain⟨g0,g1,g2,g3,g4,g5⟩:=f8;exact⟨.ref D,H6,I8.turned (t':=s7.toks) (λb o hb e=>(hs'.2 b hb).trans e) g0 g1 g3 g4 g5,rfl,qn⟩
end
open PySem.AutoSeq1 (wpAny_loadPart')
section
variable{prog:Program}{w:World}{A:Around}{E:Value->Shared->Prop}{s:Shared}
theorem c6x{z TI TO i1 i2 l1 l2:Addr}{k1 k2:Nat}{xs ys:Array Value}{x y a b:Value}{Q:Value->Shared->Prop}(D:ZipApart z TI TO i1 i2 l1 l2)
  (hz:IsZip s.heap z TI TO .none)(hTI:IsPair s.heap TI (.ref i1) (.ref i2))(hTO:IsPair s.heap TO a b)
  (h1:s.heap.IsTupleIter i1 l1 k1)(h2:s.heap.IsListIter i2 l2 k2)(hl1:s.heap.IsTuple l1 xs)(hl2:s.heap.IsList l2 ys)(hx:xs[k1]? =some x)(hy:ys[k2]? =some y)
  (hQ:∀h',a5r h' z TI TO (rawInt s.heap.objs.size) false->IsPair h' TO x y->h'.IsTupleIter i1 l1 (k1+1)->h'.IsListIter i2 l2 (k2+1)->IsPair h' s.heap.objs.size x y->h'.objs.size=s.heap.objs.size+1->
   (∀c o,c≠z->c≠TO->c≠i1->c≠i2->s.heap.get? c=some o->h'.get? c=some o)->Q (.ref s.heap.objs.size) { s with heap:=h'}):
  wpAny (model prog w) A (Builtin.«zip.__next__» ⟨[.ref z],[]⟩) (λfin s'=>∃v,fin=.done (.ret v)/\Q v s') E s:=by
 show wpAny _ _ (field (.ref z) 2>>=_) _ _ _
 refine Za (Z0 hz rfl (x:=.bool false) rfl ?_)
 show wpAny _ _ (field (.ref z) 3>>=_) _ _ _
 refine Za (Z0 hz rfl (x:=.ref TI) rfl ?_);refine Za (Yu hTI rfl ?_)
 show wpAny _ _ (Builtin.SmallTypes.ownedTupleIsFree (.ref z)>>=_) _ _ _
 refine Za ?_;unfold Builtin.SmallTypes.ownedTupleIsFree;refine Za (Z0 hz rfl (x:=.none) rfl (Ze ?_));simp only[if_true];refine Za (Wk ?_);refine Za (Z0 hz rfl (x:=.ref TO) rfl ?_);refine Za (Xe hz qz λh₁ hz₁ hs₁=>?_)
 replace hz₁:IsZip h₁ z TI TO .ellipsis:=hz₁
 refine Za ?_;simp only[Tn,Tq,W3,Vc];refine Za (Za (V2 ?_))
 show wpAny _ _ (Builtin.SmallTypes.nextOf (.ref i1)>>=_) _ _ _
 refine Za (a6a (h1.extBut hs₁.extBut D.i1z) (hl1.extBut hs₁.extBut D.l1z) hx λh₂ h1₂ hs₂=>Ze ?_);have hTO₂:IsPair h₂ TO a b:=hs₂.extBut _ _ D.TOi1 (hs₁.extBut _ _ D.TOz hTO);refine Za (Yu hTO₂ rfl ?_);refine Za (Vi hTO₂ λh₃ hTO₃ hs₃=>?_)
 replace hTO₃:IsPair h₃ TO x b:=hTO₃
 refine Za (Vj (Ze ?_));refine Za (Za (V2 ?_))
 show wpAny _ _ (Builtin.SmallTypes.nextOf (.ref i2)>>=_) _ _ _
 refine Za (wpAny_nextOf_list_item (((h2.extBut hs₁.extBut D.i2z).extBut hs₂.extBut D.i12.symm).extBut hs₃.extBut D.TOi2.symm)
  (((hl2.extBut hs₁.extBut D.l2z).extBut hs₂.extBut D.l2i1).extBut hs₃.extBut D.l2TO) hy λh₄ h2₄ hs₄=>Ze ?_)
 have hTO₄:IsPair h₄ TO x b:=hs₄.extBut _ _ D.TOi2 hTO₃;refine Za (Yu hTO₄ rfl ?_);refine Za (Vi hTO₄ λh₅ hTO₅ hs₅=>?_)
 replace hTO₅:IsPair h₅ TO x y:=hTO₅
 refine Za (Vj (Ze (Ze ?_)));refine Za (Yu hTO₅ rfl ?_);refine Za (Tw ?_);have hsz:h₅.objs.size=s.heap.objs.size:=by rw[hs₅.1,hs₄.1,hs₃.1,hs₂.1,hs₁.1]
 have hz₅:IsZip h₅ z TI TO .ellipsis:=hs₅.extBut _ _ D.TOz.symm (hs₄.extBut _ _ D.i2z.symm (hs₃.extBut _ _ D.TOz.symm (hs₂.extBut _ _ D.i1z.symm hz₁)));have hk₅:∀c o,c≠z->c≠TO->c≠i1->c≠i2->s.heap.get? c=some o->h₅.get? c=some o:=λc o c1 c2 c3 c4 e=>
  hs₅.extBut _ _ c2 (hs₄.extBut _ _ c4 (hs₃.extBut _ _ c2 (hs₂.extBut _ _ c3 (hs₁.extBut _ _ c1 e))))
 have h1₅:h₅.IsTupleIter i1 l1 (k1+1):=((h1₂.extBut hs₃.extBut D.TOi1.symm).extBut hs₄.extBut D.i12).extBut hs₅.extBut D.TOi1.symm;have h2₅:h₅.IsListIter i2 l2 (k2+1):=h2₄.extBut hs₅.extBut D.TOi2.symm;have hzlt:z<h₅.objs.size:=Zh hz₅
 show wpAny _ _ (Builtin.SmallTypes.ownedTupleHandOut (.ref z) (.ref h₅.objs.size)>>=_) _ _ _
 refine Za ?_;unfold Builtin.SmallTypes.ownedTupleHandOut;have hz₆:IsZip (h₅.push { cls:=.type "tuple",data:=.seq #[x,y]}) z TI TO .ellipsis:=Zc _ hz₅;refine Za (Xe hz₆ qz λh₇ hz₇ hs₇=>?_)
 replace hz₇:IsZip h₇ z TI TO (rawInt h₅.objs.size):=hz₇
 refine Xe hz₇ qz λh₈ hz₈ hs₈=>?_
 replace hz₈:IsZip h₈ z TI TO (rawInt h₅.objs.size):=hz₈
 have up:∀c o,c≠z->h₅.get? c=some o->h₈.get? c=some o:=λc o c1 e=>hs₈.extBut _ _ c1 (hs₇.extBut _ _ c1 (Zc _ e))
 have hT₈:IsPair h₈ h₅.objs.size x y:=hs₈.extBut _ _ (Y6 hzlt) (hs₇.extBut _ _ (Y6 hzlt) (Zk _ rfl));have hz8:h₈.objs.size=h₅.objs.size+1:=by rw[hs₈.1,hs₇.1,Yc]
 rw[hsz]at hz₈ hT₈ hz8;refine Ze ⟨_,rfl,?_⟩
 show Q (.ref h₅.objs.size) _
 rw[hsz];exact hQ h₈ hz₈ (up _ _ D.TOz hTO₅) (h1₅.at λo e=>up _ o D.i1z e) (h2₅.at λo e=>up _ o D.i2z e) hT₈ hz8 λc o c1 c2 c3 c4 e=>up c o c1 (hk₅ c o c1 c2 c3 c4 e)
end
abbrev zmH1(h:Heap)(l1:Addr):Heap:=h.push { cls:=.type "tuple_iterator",data:=.fields #[.ref l1,.int 0 0]}
abbrev zmH2(h:Heap)(l1 l2:Addr):Heap:=(zmH1 h l1).push { cls:=.type "list_iterator",data:=.fields #[.ref l2,.int 0 0]}
abbrev zmH3(h:Heap)(l1 l2:Addr):Heap:=(zmH2 h l1 l2).push { cls:=.type "tuple",data:=.seq #[.ref h.objs.size,.ref (zmH1 h l1).objs.size]}
abbrev zmH4(h:Heap)(l1 l2:Addr):Heap:=(zmH3 h l1 l2).push { cls:=.type "tuple",data:=.seq #[.none,.none]}
abbrev zmH5(h:Heap)(l1 l2:Addr):Heap:=(zmH4 h l1 l2).push { cls:=.type "zip",data:=.fields #[.none,.bool false,.bool false,.ref (zmH2 h l1 l2).objs.size,.ref (zmH3 h l1 l2).objs.size]}
theorem c3v(l1 l2:Addr)(xs ys:Array Value):
  Meets (Builtin.«zip.__new__» ⟨[.type "zip",.ref l1,.ref l2],[]⟩) (λ_ R s=>s.heap.IsTuple l1 xs/\s.heap.IsList l2 ys/\
   R (.ok (.ret (.ref (zmH4 s.heap l1 l2).objs.size))) { s with heap:=zmH5 s.heap l1 l2}):=
 .of_wp λprog w A R s h=>by
  obtain⟨hp,g,d,tk,os⟩:=s;obtain⟨hl1,hl2,h⟩:=h;have hsub:=sub_zip;have hL1:Heap.IsTuple (Shared.heap ⟨hp,g,d,tk,os⟩) l1 xs:=hl1;have hL2:Heap.IsList (Shared.heap ⟨hp.push { cls:=.type "tuple_iterator",data:=.fields #[.ref l1,.int 0 0]},g,d,tk,os⟩) l2 ys:=Heap.IsList.push hl2 _
  wp_walk using Vo hL1,U6 hL2
  exact⟨_,rfl,h⟩
section
variable{prog:Program}{w:World}{A:Around}{E:Value->Shared->Prop}{s:Shared}
theorem c6y{l1 l2:Addr}{xs ys:Array Value}{Q:Value->Shared->Prop}(hl1:s.heap.IsTuple l1 xs)(hl2:s.heap.IsList l2 ys)
  (h:∀h',IsZip h' (s.heap.objs.size+4) (s.heap.objs.size+2) (s.heap.objs.size+3) .none->IsPair h' (s.heap.objs.size+2) (.ref s.heap.objs.size) (.ref (s.heap.objs.size+1))->
   IsPair h' (s.heap.objs.size+3) .none .none->h'.IsTupleIter s.heap.objs.size l1 0->h'.IsListIter (s.heap.objs.size+1) l2 0->h'.objs.size=s.heap.objs.size+5->
   (∀c o,s.heap.get? c=some o->h'.get? c=some o)->Q (.ref (s.heap.objs.size+4)) { s with heap:=h'}):
  wpAny (model prog w) A (call (.type "zip") [.ref l1,.ref l2]) Q E s:=by
 refine Sg F.called_zip qd (F.typeCall_zip_2 _ _) (F.newCall_zip_2 _ _) (λobj=>S8 obj _ _) F.entry_zip_new
  (c3v l1 l2 xs ys) ⟨hl1,hl2,?_⟩
 have z1:(zmH1 s.heap l1).objs.size=s.heap.objs.size+1:=Yc ..;have z2:(zmH2 s.heap l1 l2).objs.size=s.heap.objs.size+2:=by rw[Yc,z1]
 have z3:(zmH3 s.heap l1 l2).objs.size=s.heap.objs.size+3:=by rw[Yc,z2]
 have z4:(zmH4 s.heap l1 l2).objs.size=s.heap.objs.size+4:=by rw[Yc,z3]
 have z5:(zmH5 s.heap l1 l2).objs.size=s.heap.objs.size+5:=by rw[Yc,z4]
 have g5:(zmH5 s.heap l1 l2).get? (zmH4 s.heap l1 l2).objs.size=some _:=Zk _ rfl;have g4:(zmH5 s.heap l1 l2).get? (zmH3 s.heap l1 l2).objs.size=some _:=Zc _ (Zk _ rfl);have g3:(zmH5 s.heap l1 l2).get? (zmH2 s.heap l1 l2).objs.size=some _:=Zc _ (Zc _ (Zk _ rfl));have g2:(zmH5 s.heap l1 l2).get? (zmH1 s.heap l1).objs.size=some _:=Zc _ (Zc _ (Zc _ (Zk _ rfl)));have g1:(zmH5 s.heap l1 l2).get? s.heap.objs.size=some _:=Zc _ (Zc _ (Zc _ (Zc _ (Zk _ rfl))))
 show _/\_
 rw[z2,z3,z4]at g5;rw[z1,z2]at g3;rw[z3]at g4;rw[z1]at g2;rw[z4]
 exact⟨⟨_,g5,rfl⟩,h _ g5 g3 g4 ⟨_,g1,rfl,rfl⟩ ⟨_,g2,rfl,rfl⟩ z5 λc o x=>
  Zc _ (Zc _ (Zc _ (Zc _ (Zc _ x))))⟩
end
def Izm(K:W.Frag)(a b:Addr)(n:Nat):It:=⟨λi H=>i<n/\∃xs ys,SqT K H a xs/\SqL K H b ys/\xs.length=n/\ys.length=n,λi H v H'=>∃T x y,H T=none/\v=.ref T/\H'=upd H T (.tup [x,y])/\(∀xs,SqT K H a xs->xs[i]? =some x)/\(∀ys,SqL K H b ys->ys[i]? =some y),λi H=>i=n/\∃xs ys,SqT K H a xs/\SqL K H b ys/\xs.length=n/\ys.length=n⟩
theorem c6z{P:Program}{w:World}{K:W.Frag}{elts:List Expr}{k:Nat}{pos:Pos}(z TI TO i1 i2 a b:Addr)(n:Nat)(D:ZipApart z TI TO i1 i2 a b):
  Turn P w K (.Tuple elts k pos) (Izm K a b n) [z,TI,TO,i1,i2] z (λi h=>IsZip h z TI TO .none/\IsPair h TI (.ref i1) (.ref i2)/\(∃a b,IsPair h TO a b)/\h.IsTupleIter i1 a i/\h.IsListIter i2 b i) where
 mem:=by simp
 obj:=λi h st c hc=>by
  obtain⟨hz,hTI,⟨x,y,hTO⟩,⟨o1,h1,h1b,h1c⟩,⟨o2,h2,h2b,h2c⟩⟩:=st;simp only[Zi,Zs,Yv]at hc;rcases hc with rfl|rfl|rfl|rfl|rfl
  ·exact⟨_,hz,λv q=>by have q':Data.fields _=Data.cell v:=q;cases q'⟩
  ·exact⟨_,hTI,λv q=>by have q':Data.seq _=Data.cell v:=q;cases q'⟩
  ·exact⟨_,hTO,λv q=>by have q':Data.seq _=Data.cell v:=q;cases q'⟩
  ·exact⟨o1,h1,λv q=>by rw[h1c]at q;cases q⟩
  ·exact⟨o2,h2,λv q=>by rw[h2c]at q;cases q⟩
 keep:=λi h h' st hk=>by
  obtain⟨hz,hTI,⟨x,y,hTO⟩,h1,h2⟩:=st;exact⟨hk z qz _ hz,hk TI qz _ hTI,⟨x,y,hk TO qz _ hTO⟩,h1.at λo q=>hk i1 qz o q,h2.at λo q=>hk i2 qz o q⟩
 item:=by
  intro X hP hw hK hc i pins s σ H E I hf st hg;subst hP hw hK;obtain⟨hi,xs,ys,hq1,hq2,hl1,hl2⟩:=hg;obtain⟨its,rv,p,hz⟩:=I.tuple hq1;obtain⟨its',rv',p',hz'⟩:=I.list hq2;have hlen:=rv.length;have hlen':=rv'.length;obtain⟨sz,sTI,⟨x0,y0,sTO⟩,s1,s2⟩:=st;have hix:i<xs.length:=by omega
  have hiy:i<ys.length:=by omega
  obtain⟨x,hx2,ru⟩:=rv.get (Zb hix);obtain⟨y,hy2,ru'⟩:=rv'.get (Zb hiy);have hTy:s.TypeIs (.ref z) "zip":=⟨_,sz,rfl⟩;have lt:∀{c o},s.heap.get? c=some o->s.heap.objs.size≠c:=λe=>Y6 (Zh e)
  have n1:s.heap.objs.size≠i1:=by obtain⟨_,e,_⟩:=s1;exact lt e
  have n2:s.heap.objs.size≠i2:=by obtain⟨_,e,_⟩:=s2;exact lt e
  unfold pyNext;refine Za (Xy (wpAny_callSpecial?_slot (name:=ofString "__next__") hTy Y5 (Ym Y5 hTy Wx (c6x D sz sTI sTO s1 s2 (show s.heap.IsTuple a its.toArray from p) p'.isList (by simpa using hx2) (by simpa using hy2) λh1 a1 a2 a3 a4 a5 a6 a7=>Ze ?_) (Wq _))));refine⟨.ref s.heap.objs.size,rfl,wpAny_letOwnedTupleGo_zip a1 λh2 hz2 hs2=>?_⟩;have k2:∀c o,c≠z->h1.get? c=some o->h2.get? c=some o:=λc o hc e=>hs2.extBut _ _ hc e
  have hk':∀b u,b∉[z,TI,TO,i1,i2]->s.heap.get? b=some u->h2.get? b=some u:=λc u hb q=>k2 c u (λe=>hb (by simp[e])) (a7 c u (λe=>hb (by simp[e])) (λe=>hb (by simp[e])) (λe=>hb (by simp[e])) (λe=>hb (by simp[e])) q)
  have hTup:IsTup h2 s.heap.objs.size #[x,y]:=⟨_,k2 _ _ (lt sz) a5,rfl,_,rfl⟩;refine⟨.ref s.heap.objs.size,upd H s.heap.objs.size (.tup [xs[i],ys[i]]),I.turnedLaid (t':=s.toks) (ch:=[z,TI,TO,i1,i2]) hf hk' (Zg _) ⟨by simp[Yg],[x,y],.cons ru (.cons ru' .nil),hTup⟩,rfl,?_,?_,λb hb=>?_⟩
  ·exact⟨s.heap.objs.size,xs[i],ys[i],I.hok.fresh (Zg _),rfl,rfl,λzs hy=>by rw[I.tuple_inj hy hq1];exact Zb hix,λzs hy=>by rw[I.list_inj hy hq2];exact Zb hiy⟩
  ·exact⟨hz2,k2 _ _ D.TIz (a7 _ _ D.TIz D.TITO D.TIi1 D.TIi2 sTI),⟨_,_,k2 _ _ D.TOz a2⟩,a3.at λo e=>k2 _ o D.i1z e,a4.at λo e=>k2 _ o D.i2z e⟩
  ·have nb:b≠s.heap.objs.size:=λq=>by
    simp only[Zi,Zs,Yv]at hb;rcases hb with e|e|e|e|e
    ·exact lt sz (q.symm.trans e)
    ·exact lt sTI (q.symm.trans e)
    ·exact lt sTO (q.symm.trans e)
    ·exact n1 (q.symm.trans e)
    ·exact n2 (q.symm.trans e)
   rw[a0p nb];exact(hf b hb).1
 done:=by
  intro X hP hw hK hc i pins s σ H E I hf st hg;subst hP hw hK;obtain⟨hi,xs,ys,hq1,hq2,hl1,hl2⟩:=hg;subst hi;obtain⟨its,rv,p,hz⟩:=I.tuple hq1;obtain⟨its',rv',p',hz'⟩:=I.list hq2;have hlen:=rv.length;have hlen':=rv'.length;obtain⟨sz,sTI,⟨x,y,sTO⟩,s1,s2⟩:=st;have hTy:s.TypeIs (.ref z) "zip":=⟨_,sz,rfl⟩;unfold pyNext;refine Za (Xy (wpAny_callSpecial?_slot (name:=ofString "__next__") hTy Y5 (Ym Y5 hTy Wx (b1o (I.ok.hd hc) D sz sTI s1 (show s.heap.IsTuple a its.toArray from p) (by simp;omega) λh' e hk he=>?_) (Wq _))));obtain⟨oe,ho,hce⟩:=he;refine Za (Wf (T:="StopIteration") (b:=true) ⟨oe,ho,hce⟩ Up ?_);exact Ze ⟨rfl,I.turnedMany (t':=s.toks) (ch:=[z,TI,TO,i1,i2]) hf λc u hc q=>hk c u (λe=>hc (by simp[e])) (λe=>hc (by simp[e])) (λe=>hc (by simp[e])) (λe=>hc (by simp[e])) q⟩
 self:=λ_ _ _ _ _ st h=>Vg st.1 h
section
variable{X:Cx}
def iZipM(K:W.Frag)(ta:TA):TI:=λσ H R=>ta σ H λvs H1=>∃a b xs ys,vs=[.ref a,.ref b]/\SqT K H1 a xs/\SqL K H1 b ys/\ys.length=xs.length/\R (Izm K a b xs.length) H1
theorem d0f(K:W.Frag)(hK:X.K=K){elts:List Expr}{k:Nat}{tpos:Pos}{a b:Expr}{ta:TA}{p pos:Pos}(hg:Gl X "zip")(hm:X.mg "zip"=none)(ha:PA X [a,b] ta)(hs:starEach (a::[b]) X.env=(false,eval a X.env)::starEach [b] X.env:=by rfl)(hpl:(backTo pos (starEach [b] X.env)).any (·.1)=false:=by rfl):PI X (.Tuple elts k tpos) (.Call (.Name "zip" p) [a,b] [] pos) (iZipM K ta):=by
 subst hK;intro pins s σ H R I h;refine Call_ (a4w I hg hm (by decide+kernel:bootBuiltins "zip"=some (.type "zip")) (Yh (thn (ha pos pins s σ H _ I h) λus s1 ⟨vs,H1,I1,r1,q1⟩=>?_) hs hpl));obtain⟨l,l',xs,ys,e,hq,hq',hlen,q⟩:=q1;subst e;obtain⟨u,u',rfl,r1,r2⟩:=a6w r1;cases r1;cases r2;obtain⟨its,rv,pl,hz⟩:=I1.tuple hq;obtain⟨its',rv',pl',hz'⟩:=I1.list hq';have hlt:l<s1.heap.objs.size:=by obtain⟨o,ho,_⟩:=(show s1.heap.IsTuple l its.toArray from pl);exact Zh ho
 have hlt':l'<s1.heap.objs.size:=by obtain⟨o,ho,_⟩:=pl'.isList;exact Zh ho
 refine c6y (show s1.heap.IsTuple l its.toArray from pl) pl'.isList λh' he hTI hTO hi1 hi2 hsz hk=>Vg he ?_
 have D:ZipApart (s1.heap.objs.size+4) (s1.heap.objs.size+2) (s1.heap.objs.size+3) s1.heap.objs.size (s1.heap.objs.size+1) l l':=b1n _ _ _ hlt hlt';refine⟨_,[s1.heap.objs.size+4,s1.heap.objs.size+2,s1.heap.objs.size+3,s1.heap.objs.size,s1.heap.objs.size+1],_,_,H1,rfl,I1.kept (t':=s1.toks) hk,c6z _ _ _ _ _ l l' xs.length D,⟨he,hTI,⟨_,_,hTO⟩,hi1,hi2⟩,λb hb=>?_,q⟩;have hb:s1.heap.objs.size<=b:=by
  simp only[Zi,Zs,Yv]at hb;rcases hb with rfl|rfl|rfl|rfl|rfl
  ·exact Yn _ _
  ·exact Yn _ _
  ·exact Yn _ _
  ·exact Zg _
  ·exact Yn _ _
 exact I1.fpOk hb (I1.hok.fresh hb)
end
theorem iZipM_i{K:W.Frag}{σ:St}{H:Hp}{ta:TA}{R:It->Hp->Prop}(k:ta σ H λvs H1=>∃a b xs ys,vs=[.ref a,.ref b]/\SqT K H1 a xs/\SqL K H1 b ys/\ys.length=xs.length/\R (Izm K a b xs.length) H1):iZipM K ta σ H R:=k
theorem d0g{K:W.Frag}{a b:Addr}{xs ys:List V}{g:TG}{tb:TS}{D:Ends}{σ:St}{H:Hp}(hl:ys.length=xs.length)(Pv:Nat->St->Hp->Prop)(h0:Pv 0 σ H)(hok:∀i σ H,Pv i σ H->SqT K H a xs/\SqL K H b ys)
  (hs:∀i σ H T,i<xs.length->Pv i σ H->H T=none->g (.ref T) σ (upd H T (.tup [xs.getD i .non,ys.getD i .non])) λσ2 H2=>tb { D with nx:=Pv (i+1),ct:=Pv (i+1),bk:=D.nx} σ2 H2)(hd:∀σ H,Pv xs.length σ H->D.nx σ H):
  ForW (Izm K a b xs.length) g tb D σ H:=by
 refine⟨λi m σ H=>m=xs.length-i/\i<=xs.length/\Pv i σ H,⟨xs.length,qz,Yx _,h0⟩,?_⟩
 rintro i m σ H ⟨rfl,hi,p⟩
 obtain⟨q1,q2⟩:=hok i σ H p
 by_cases hlt:i<xs.length
 ·refine .inr ⟨⟨hlt,xs,ys,q1,q2,rfl,hl⟩,Pv (i+1),λσ' H' p'=>⟨xs.length-(i+1),qo,rfl,hlt,p'⟩,λx H' y=>?_⟩;obtain⟨T,u,u',hT,rfl,rfl,e1,e2⟩:=y;have e1:=e1 xs q1;have e2:=e2 ys q2;have f1:xs.getD i .non=u:=by rw[Zr,e1];rfl
  have f2:ys.getD i .non=u':=by rw[Zr,e2];rfl
  have:=hs i σ H T hlt p hT;rw[f1,f2]at this;exact this
 ·have e:i=xs.length:=by omega
  subst e;exact .inl ⟨⟨rfl,xs,ys,q1,q2,rfl,hl⟩,hd σ H p⟩
section
variable{X:Cx}
def mEqE(K:Frag):R2:=λx y H Q=>∃(a b:Addr)(xs:List V),x=.ref a/\y=.ref b/\SqL K H a xs/\SqL K H b []/\Q (.bl xs.isEmpty) H
theorem c7a(K:Frag)(hK:X.K=K)(hu:X.A.units+150<cLine):OpR X (compareOp .Eq) (mEqE K):=by
 subst hK;intro pins s σ H x y v u Q I rx ry h;obtain⟨a,b,xs,rfl,rfl,ha,hb,k⟩:=h;cases rx;cases ry;obtain⟨its,rv,p1,_⟩:=I.list ha;obtain⟨its',rv',p2,_⟩:=I.list hb;cases rv';cases rv with
 |nil=>exact SeqAt.RcAt.lists (e:=λ_=>true) p1.isList p2.isList rfl qo (λj h _=>absurd h (Nat.not_lt_zero j)) X.prog X.w _ _ ⟨.bl true,H,I,rfl,k⟩
 |cons _ _=>exact V4 p1.isList p2.isList rfl qo X.prog X.w _ _ ⟨.bl false,H,I,rfl,k⟩
theorem c7b{K:Frag}{H:Hp}{Q:VK}{a b:Addr}{xs:List V}(h:SqL K H a xs)(h2:SqL K H b [])(k:Q (.bl xs.isEmpty) H):mEqE K (.ref a) (.ref b) H Q:=⟨a,b,xs,rfl,rfl,h,h2,k⟩
end
section
variable{X:Cx}{pins:List (Addr×Obj)}{σ:St}{H:Hp}{s:Shared}{ea:Addr}
theorem c0d{C C':Addr}{dx:Option Addr}{bm bm':List Value}{cx:Str}{cp hpos:Pos}{b0:Stmt}{suite:List Stmt}{hs0:List ExceptHandler}{ts:TS}{D:Ends}(hst:X.stack=X.env::X.outer)(hfr:X.env.frame=some X.env.locals)(I:Inv X pins σ H s)(hx:H ea=some (XF ea C dx false))(tb:b8h X pins H ea s.heap)
  (Xc:XCls X.K C bm)(Xd:XCls X.K C' bm')(hm:(Value.ref C::bm).contains (.ref C')=true)(hg:Gl X cx)(hmc:X.mg cx=some (.ref C'))(hdb:(cx==("__debug__":Str))=false)
  (hs:PSs (X.inX ea) (b0::suite) ts)(h:ts D σ H):
  wpAny (model X.prog X.w) X.A (noteFrame (.ref ea) X.env) (λ_ s2=>wpAny (model X.prog X.w) X.A (setFlight (.ref ea) none) (λ_ s3=>wpAny (model X.prog X.w) X.A (handleBy (.ref ea) X.env (.ExceptHandler (some (.Name cx cp)) none (b0::suite) hpos::hs0)) (SP X pins D) X.xe s3) X.xe s2) X.xe s:=by
 obtain⟨o,vs,T,a1,a2,a3,a4,a5,a6⟩:=tb;have frs':X.A.frames=some (X.env::X.outer):=by rw[<-hst];exact I.ok.frames
 have ff:s.heap.FunFrames X.base (X.env::X.outer):=by rw[<-hst];exact I.stack
 refine b1m (ok:=λb=>b=T) frs' ff hfr a1 a2 (.inr ⟨T,a3,a4,rfl,a6⟩) λh' l=>?_
 rw[<-hst]at l;have I2:=b9m I hx a1 l (ch:=[T]) (λ_ z=>Zu.mpr z) (λb z=>by rw[Zu.mp z];exact a5) rfl;obtain⟨o2,vs2,T2,c1,c2,c3,c4,c5,c6,c7⟩:=c2f I a1 a2 (Yk.mp a3).1 l;have c8:TOk X pins H T2:=b6g I c5 c6;generalize hs3:({ s with heap:=h'}:Shared)=s3 at I2;have c1:s3.heap.get? ea=some o2:=by rw[<-hs3];exact c1
 have c7:TbIs s3.heap T2:=by rw[<-hs3];exact c7
 refine wpAny_handleBy_cons (codeAny_handlers_test (a9k (X:=X.inX ea) (I2.inX ea) hg hmc ?_ hdb)) (by intro q;cases q);obtain⟨ob,ws,t0,z,d1,d2,d3,d4,d5,d6,d7⟩:=b0h I2.hok hx;obtain⟨hp,g,d,tk,os⟩:=s3;refine x_match I2.kIn Xc d1 d2 Xd ?_;rw[hm];refine codeAny_handlers_suite ?_;refine fly_ok I2 c1 c2 c3 c8 c7 λs5 I5=>?_
 refine Xw (hs pins s5 _ H D (I5.inX ea) h) (λf s7 q7=>?_) λ_ _ z=>z.elim
 exact q7.outX I.ok
end
section
variable{X:Cx}{k:Nat}{f C C':Addr}{fd:FuncData}{ps:List Str}{sp:Sp}{dvs:List V}{ds:List Value}{m cx:Str}{pos apos cp hpos tpos xpos:Pos}{e o:Expr}{es:List Expr}{ta te:TE}{t:TA}{bm':List Value}{b0:Stmt}{suite:List Stmt}{hs0:List ExceptHandler}{ts tb tb2:TS}{hd:Ends->St->Addr->Hp->Prop}
theorem pt_ret(he:PE X.nox e te):PTry X C' hd [.Return (some e) xpos] (tRet te):=by
 intro pins s σ H D Eh hE I h;refine Vh (U8 (Xw (he pins s σ H _ (I.wish _) h) (λv s1 z9=>?_) λ_ _ z=>z.elim));obtain⟨z,H1,I1,r1,q1⟩:=z9;exact⟨z,σ,H1,I1.unwish,r1,q1⟩
def PTryR(X:Cx)(C':Addr)(hd:Ends->St->Addr->Hp->Prop)(sts:List Stmt)(tb:TS):Prop:=∀(pins:List (Addr×Obj))(s:Shared)(σ:St)(H:Hp)(D:Ends)(Eh:Value->Shared->Prop),
 (∀ea C dx bm H' s',Inv X pins σ H' s'->H' ea=some (XF ea C dx false)->b8h X pins H' ea s'.heap->XCls X.K C bm->(Value.ref C::bm).contains (.ref C')=true->hd D σ ea H'->Eh (.ref ea) s')->
 Inv X pins σ H s->tb D σ H->wpAny (model X.prog X.w) X.A (execs sts X.env) (λf s1=>match f with| .next=>False|f=>SP X pins D f s1) Eh s
theorem d0h{pl:Sem Bool}(F:FnOk X.prog X.w X.K X.mg X.base (CXo X.prog X.w) k f fd ps sp)(hr:Room k X.A)(he:PE X.nox o ta)(c:Cls X.K C)(hm:Meth X.K C m f)(hb:Binds X.K fd ps ds)(hvd:Vals dvs ds)(ha:PA X.nox (e::es) t)
  (hse:starEach (e::es) X.env=(false,eval e X.env)::starEach es X.env:=by rfl)(hpl:(backTo pos (starEach es X.env)).any (·.1)=false:=by rfl)
  (ht:eval (.Call (.Attribute o m apos) (e::es) [] pos) X.env=(do
   let ov <-eval o X.env
   standAt apos.atName
   let(f,first) <-holding [ov] (getMethod ov m pl)
   callWith pos f first (backTo pos (starEach (e::es) X.env)) (backToKw pos (keywordEach [] X.env))):=by rfl):
  PTryR X C' hd [.Return (some (.Call (.Attribute o m apos) (e::es) [] pos)) xpos] (tTryM X.K C C' m sp dvs ta t (λD σ v H2=>D.rt v H2) hd):=by
 intro pins s σ H D Eh hE I h;refine Vh (U8 (thn (c9w (D:=D) F hr he c hm hb hvd ha hE I h hse hpl ht) λv s1 z9=>?_));obtain⟨z,H1,I1,r1,q1⟩:=z9;exact⟨z,σ,H1,I1,r1,q1⟩
theorem pt_ifr{c:Expr}{a rest:List Stmt}{tc:TT}(hc:PT X.nox c tc)(ha:PTryR X C' hd a tb)(hr:PTry X C' hd rest tb2):PTry X C' hd (.If c a [] pos::rest) (tIfS tc tb tb2):=by
 intro pins s σ H D Eh hE I h;refine Vh (wpAny_If (Xw (hc pins s σ H _ (I.wish _) h) (λd s1 ⟨H1,I1,q1⟩=>?_) λ_ _ z=>z.elim));have I1:=I1.unwish;cases d with
 |true=>
  refine thn (ha pins s1 σ H1 D Eh hE I1 q1) λf s2 q=>?_
  cases f with
  |next=>exact q.elim
  |brk=>exact q
  |cont=>exact q
  |ret _=>exact q
 |false=>exact W2 (hr pins s1 σ H1 D Eh hE I1 q1)
theorem c7c{body:List Stmt}(hst:X.stack=X.env::X.outer)(hfr:X.env.frame=some X.env.locals)(hgc:Gl X cx)(hmc:X.mg cx=some (.ref C'))(Xd:XCls X.K C' bm')(hs:∀ea,PSs (X.inX ea) (b0::suite) ts)
  (hb:PTry X C' (λD σ ea H2=>ts D σ H2) body tb)(hdc:(cx==("__debug__":Str))=false:=by decide):
  PS X (.Try body (.ExceptHandler (some (.Name cx cp)) none (b0::suite) hpos::hs0) [] [] tpos) tb:=by
 intro pins s σ H D I h;refine wpAny_Try_except (thn (hb pins s σ H D _ (λea C dx bm H' s' I' hx tb Xc hc hh=>c0d hst hfr I' hx tb Xc Xd hc hgc hmc hdc (hs ea) hh) I h) λf s1 q=>?_);cases f with
 |next=>exact W2 q
 |brk=>exact q
 |cont=>exact q
 |ret _=>exact q
end
section
variable{X:Cx}
def eqT1:List Trm->Trm->Bool
 | [t],t'=>eqb t t'
 |_,_=>false
def mEqT1(K:Frag):R2:=λx y H Q=>∃(a b:Addr)(us:List V)(u':V)(ts:List Trm)(t':Trm),x=.ref a/\y=.ref b/\SqL K H a us/\SqL K H b [u']/\DenL K H us (Trm.dataL ts)/\Den K H u' t'.data/\(∀t∈ts,t.size<=70)/\Q (.bl (eqT1 ts t')) H
theorem ko_eqT1(K:Frag)(hK:X.K=K)(hu:X.A.units+150<cLine):OpR X (compareOp .Eq) (mEqT1 K):=by
 subst hK;intro pins s σ H x y v u Q I rx ry h;obtain⟨a,b,us,u',ts,t',rfl,rfl,ha,hb,h,h',hz,k⟩:=h;have hl:=h.length;rw[Trm.dataL_map,length_map]at hl
 match ts,us,hl with
 | [t],[w],_=>
  simp only[Trm.dataL]at h;cases h with
  |cons h1 _=>exact ko_eq1T X.K rfl hu pins s σ H _ _ v u Q I rx ry ⟨a,b,w,u',t,t',rfl,rfl,ha,hb,h1,h',hz t qz,k⟩
 | [],[],_=>
  cases rx;cases ry;obtain⟨its,rv,p1,_⟩:=I.list ha;obtain⟨its',rv',p2,_⟩:=I.list hb;cases rv;obtain⟨z',rfl,rz'⟩:=rv'.one;exact V4 p1.isList p2.isList rfl qo X.prog X.w _ _ ⟨.bl false,H,I,rfl,k⟩
 |_::_::_,_::_::_,_=>
  cases rx;cases ry;obtain⟨its,rv,p1,_⟩:=I.list ha;obtain⟨its',rv',p2,_⟩:=I.list hb;obtain⟨z',rfl,rz'⟩:=rv'.one;have e:=rv.length;have e2:(its.toArray.size !=(#[z']:Array Value).size)=true:=by
   rw[Zd,<-e]
   simp
  exact V4 p1.isList p2.isList e2 qo X.prog X.w _ _ ⟨.bl false,H,I,rfl,k⟩
theorem mEqT1_i{K:Frag}{H:Hp}{Q:VK}{a b:Addr}{us:List V}{u':V}{ts:List Trm}{t':Trm}(ha:SqL K H a us)(hb:SqL K H b [u'])(h:DenL K H us (Trm.dataL ts))(h':Den K H u' t'.data)(hz:∀t∈ts,t.size<=70)(k:Q (.bl (eqT1 ts t')) H):mEqT1 K (.ref a) (.ref b) H Q:=⟨a,b,us,u',ts,t',rfl,rfl,ha,hb,h,h',hz,k⟩
end
end L2
namespace My
open PySem PySem.Spec PyProof.Rows L2
mutual
def ord:Trm->List Str->List Str
 | .any x,a=>if x∈a then a else a++[x]
 | .num _,a=>a
 | .app _ ks,a=>ordL ks a
def ordL:List Trm->List Str->List Str
 | [],a=>a
 |k::ks,a=>ordL ks (ord k a)
end
mutual
def ren(f:Str->Str):Trm->Trm
 | .any x=>.any (f x)
 | .num m=>.num m
 | .app s ks=>.app s (renL f ks)
def renL(f:Str->Str):List Trm->List Trm
 | []=>[]
 |k::ks=>ren f k::renL f ks
end
mutual
def vars:Trm->List Str
 | .any x=>[x]
 | .num _=>[]
 | .app _ ks=>a6b ks
def a6b:List Trm->List Str
 | []=>[]
 |k::ks=>vars k++a6b ks
end
theorem c0e:∀(a b:List Trm)(acc:List Str),ordL (a++b) acc=ordL b (ordL a acc)
 | [],b,acc=>by rw[Wn,ordL]
 |k::a,b,acc=>by rw[X0,ordL,ordL,c0e a b]
mutual
theorem ord_mem:∀(t:Trm)(a:List Str)(x:Str),x∈ord t a↔x∈a\/x∈vars t
 | .any y,a,x=>by
  rw[ord,vars]
  split
  ·rename_i h
   constructor
   ·exact .inl
   ·rintro(z|z)
    ·exact z
    ·rw[Zu.mp z];exact h
  ·rw[Yt]
 | .num _,a,x=>by rw[ord,vars];simp
 | .app _ ks,a,x=>by rw[ord,vars];exact b4e ks a x
theorem b4e:∀(ts:List Trm)(a:List Str)(x:Str),x∈ordL ts a↔x∈a\/x∈a6b ts
 | [],a,x=>by rw[ordL,a6b];simp
 |k::ks,a,x=>by rw[ordL,a6b,b4e ks,ord_mem k,Yt,or_assoc]
end
mutual
theorem ord_nod:∀(t:Trm)(a:List Str),a.Nodup->(ord t a).Nodup
 | .any y,a,h=>by
  rw[ord]
  split
  ·exact h
  ·rename_i hy;exact Vb.mpr ⟨h,qz,λu hu v hv e=>hy (by rw[<-Zu.mp hv,<-e];exact hu)⟩
 | .num _,a,h=>by rw[ord];exact h
 | .app _ ks,a,h=>by rw[ord];exact b4f ks a h
theorem b4f:∀(ts:List Trm)(a:List Str),a.Nodup->(ordL ts a).Nodup
 | [],a,h=>by rw[ordL];exact h
 |k::ks,a,h=>by rw[ordL];exact b4f ks _ (ord_nod k a h)
end
mutual
theorem c2n:∀(t:Trm)(a:List Str),(ord t a).length<=a.length+t.size
 | .any y,a=>by
  rw[ord]
  split
  ·omega
  ·rw[Zj];simp[Trm.size]
 | .num _,a=>by rw[ord];omega
 | .app _ ks,a=>by rw[ord];have:=b4g ks a;simp only[Trm.size];omega
theorem b4g:∀(ts:List Trm)(a:List Str),(ordL ts a).length<=a.length+Trm.sizeL ts
 | [],a=>by rw[ordL];omega
 |k::ks,a=>by
  rw[ordL];have h1:=c2n k a;have h2:=b4g ks (ord k a);simp only[Trm.sizeL];omega
end
theorem a5s(f:Str->Str):∀ts:List Trm,renL f ts=ts.map (ren f)
 | []=>by rw[renL];rfl
 |k::ks=>by rw[renL,a5s f ks];rfl
abbrev As:=List (Str×Str)
def encS(as:As):List (Key×V):=as.map λr=>(Sum.inr r.1,V.str r.2)
def sub(as:As)(x:Str):Str:=((as.find? λr=>decide (r.1=x)).map (·.2)).getD x
theorem c2o(as:As):(encS as).length=as.length:=by simp[encS]
theorem b6l:∀(as:As)(x:Str),valV (encS as) (Sum.inr x)=((as.find? λr=>decide (r.1=x)).map (·.2)).map V.str
 | [],x=>rfl
 |r::as,x=>by
  by_cases e:r.1=x
  ·rw[show encS (r::as)=(Sum.inr r.1,V.str r.2)::encS as from rfl,b0d (by show Sum.inr r.1=Sum.inr x;rw[e]),X6,Zx e];rfl
  ·rw[show encS (r::as)=(Sum.inr r.1,V.str r.2)::encS as from rfl,b0e (λz=>e (Uq z)),X6,Zo e,b6l as x]
theorem c7d{as:As}{x:Str}(h:x∉as.map (·.1)):(as.find? λr=>decide (r.1=x))=none:=by
 rw[U3];intro r hr e;exact h (Yb.mpr ⟨r,hr,Zf e⟩)
theorem c7e{as:As}{x:Str}(h:x∈as.map (·.1)):∃y,(as.find? λr=>decide (r.1=x))=some (x,y):=by
 cases e:as.find? λr=>decide (r.1=x)with
 |none=>
  obtain⟨r,hr,z⟩:=Yb.mp h;exact absurd (Zx z) (U3.mp e r hr)
 |some r=>
  have h2:decide (r.1=x)=true:=List.find?_some (p:=λr:Str×Str=>decide (r.1=x)) e;have:=Zf h2;exact⟨r.2,by rw[<-this]⟩
theorem val_sub{as:As}{x:Str}(h:x∈as.map (·.1)):valV (encS as) (Sum.inr x)=some (.str (sub as x)):=by
 obtain⟨y,e⟩:=c7e h;rw[b6l,sub,e];rfl
theorem val_new{as:As}{x:Str}(h:x∉as.map (·.1)):valV (encS as) (Sum.inr x)=none:=by rw[b6l,c7d h];rfl
theorem put_enc{as:As}{x y:Str}(h:x∉as.map (·.1)):putK (encS as) (Sum.inr x) (.str y)=encS (as++[(x,y)]):=by
 rw[c8v _ (val_new h),encS,encS,Zt];rfl
def mkA(f:Nat->Str->Str):Nat->List Str->As
 |_,[]=>[]
 |i,x::u=>(x,f i x)::mkA f (i+1) u
theorem b0n(f:Nat->Str->Str):∀(i:Nat)(u:List Str),(mkA f i u).map (·.1)=u
 |_,[]=>rfl
 |i,x::u=>by rw[mkA,Z4,b0n f (i+1) u]
theorem c2p(f:Nat->Str->Str)(i:Nat)(u:List Str):(mkA f i u).length=u.length:=by
 rw[<-length_map (f:=λr:Str×Str=>r.1),b0n]
theorem c0f(f:Nat->Str->Str):∀(i:Nat)(u:List Str)(x:Str),mkA f i (u++[x])=mkA f i u++[(x,f (i+u.length) x)]
 |i,[],x=>rfl
 |i,y::u,x=>by
  rw[X0,mkA,mkA,c0f f (i+1) u x,X0,length_cons];rw[show i+1+u.length=i+(u.length+1) by omega]
theorem mem_idx{u:List Str}{x:Str}(h:x∈u):∃j:Nat,u[j]? =some x:=List.mem_iff_getElem?.mp h
def tn(n:Nat):Str:=⟨(a5a n).toArray⟩
theorem c7f{a x y:Str}(h:x++a=y++a):x=y:=by
 have:x.cps++a.cps=y.cps++a.cps:=Y0 Str.cps h;have:=Y0 Array.toList this;rw[Rm,Rm]at this;exact Str.ext' (Array.ext' (List.append_cancel_right this))
def canon(f:Nat->Nat->Str)(t:Trm):Trm:=ren (sub (mkA (λj _=>f (ord t []).length j) 0 (ord t []))) t
def uS:Str:=ofString "U"
def anew(ts:List Trm):List Trm:=renL (sub (mkA (λj _=>uS++tn (j+1)) 0 (ordL ts []))) ts
theorem d0i{u:List Str}(hn:u.Nodup){i:Nat}(hi:i<u.length):u[i]∉u.take i:=λh=>by
 obtain⟨j,hj⟩:=mem_idx h;have hl:=(Z7.mp hj).1;rw[Yi]at hl;rw[T5 qo]at hj;have hj':=Z7.mp hj;have hp:=T1.mp (List.nodup_iff_pairwise_ne.mp hn) j i hj'.1 hi qo;exact hp hj'.2
theorem put_mkA(f:Nat->Str->Str){u:List Str}(hn:u.Nodup){i:Nat}(hi:i<u.length){y:Str}(hy:y=f i u[i]):putK (encS (mkA f 0 (u.take i))) (Sum.inr u[i]) (.str y)=encS (mkA f 0 (u.take (i+1))):=by
 rw[put_enc (by rw[b0n];exact d0i hn hi),Tc,Zb hi]
 show _=encS (mkA f 0 (u.take i++[u[i]]))
 rw[c0f,Yi,Uj qo,Nat.zero_add,hy]
theorem c7g{u:List Str}{i:Nat}(hi:i<u.length):(u.map V.str).getD i .non=.str u[i]:=by rw[Zr,Z5,Zb hi];rfl
theorem nodL(ts:List Trm):(ordL ts []).Nodup:=b4f ts [] qz
theorem d0j{ts:List Trm}{x:Str}(h:x∈a6b ts):x∈ordL ts []:=(b4e ts [] x).mpr (.inr h)
theorem vars_in{ts:List Trm}{t:Trm}(h:t∈ts):∀x∈vars t,x∈a6b ts:=λx hx=>by
 induction ts with
 |nil=>simp at h
 |cons a r ih=>
  rw[a6b,Yt];rcases Zi.mp h with z|z
  ·subst z;exact .inl hx
  ·exact .inr (ih z)
local macro_rules | `(tactic| walk_at "r") => `(tactic| first | decide | exact Zg _ | exact Nat.le_add_left_of_le qd | omega)
local macro_rules | `(tactic| walk_at "or1") => `(tactic| first | exact Or.inl rfl | exact Or.inr rfl)
local macro_rules | `(tactic| walk_at "q") => `(tactic| first | refine tAsg_i ?_ | refine a2l ?_ | refine tRet_i ?_ | refine tIfS_i ?_ | refine tNext_i ?_ | refine tDrop_i ?_ | refine mTest_i ?_ | refine mTrue_i ?_ | refine mTru_b ?_ | refine mB_i ?_ | refine tOp_i ?_ | refine tUn_i ?_ | refine mUn_i ?_ | refine m20_i ?_ | refine mAdd_i ?_ | refine mEq_i ?_ | refine mEq_s ?_ | refine mEq_b ?_ | refine mInS_i ?_ | (refine' mVar_i ?hv ?_; (case hv => with_unfolding_all rfl)) | refine tC_i ?_ | refine c9d ?_ | refine mAndV_i ?_ | refine mOrV_i ?_ | refine mNotV_i ?_ | refine tIf_i ?_ | refine tAnd_i ?_ | refine tOr_i ?_ | refine tNot_i ?_ | refine tCB_i ?_ | refine c9e ?_ | refine tCons_i ?_ | refine tNil_i ?_ | refine tBM_i ?_ | refine tBM0_i ?_ | refine tTup_i ?_ | refine tLst_i ?_ | refine tSl_i ?_ | refine c6a ?_ | refine mPart_i ?_ | refine mI_i ?_ | refine is_str ?_ | refine mMin_i ?_ | refine isN_non ?_ | refine mInt_b ?_ | refine mMax_i ?_ | refine tDGet_i ?_ | refine c9h ?_ | refine sDPut_i ?_ | refine iEnum_i ?_ | refine mAbs_i ?_ | refine gCons_i ?_ | refine gNil_i ?_ | refine c9f ?_ | (refine' mAug_i ?hw ?_; (case hw => with_unfolding_all rfl)) | refine tFor_i ?_ | refine tFld_i ?_ | refine sFld_i ?_ | refine tMeth_i ?_ | refine tMake_i ?_ | refine gSub_i ?_ | refine iZipM_i ?_ | refine c3t ?_ | refine tF2n_i ?_ | refine c9n ?_ | refine c9o ?_ | refine c9p ?_ | refine tXSet_i ?_ | refine iZip_i ?_ | refine iStr_i ?_ | refine iList_i ?_ | refine iTup_i ?_ | refine iRng1_i ?_ | refine tComp_i ?_ | (refine m2_i ?hc ?_; (case hc => first | (show (0 : Int) < _; decide) | exact c5z qd qd)))
local macro_rules | `(tactic| walk_at "s") => `(tactic| repeat (with_reducible first | refine tSeq_i ?_ | walk_at "q"))
local macro_rules | `(tactic| walk_at "m") => `(tactic| repeat (with_reducible walk_at "q"))
local macro_rules | `(tactic| ext) => `(tactic| walk_at "s")
local macro_rules | `(tactic| nofun) => `(tactic| walk_at "or1")
local macro_rules | `(tactic| ac_rfl) => `(tactic| walk_at "r")
noncomputable def top(i:Nat):Stmt:=PySem.Challenge.pw_goaltrail_k71_good_rows_of_deeds.main.body.getD i (.Pass ⟨0,0,0,0⟩)
abbrev a3c:Stmt:=inClass (top 1) 0
abbrev a5e:Stmt:=inClass (top 3) 0
abbrev a7n:Stmt:=inClass (top 52) 0
abbrev a6l:Stmt:=inClass (top 52) 1
abbrev a5t:Stmt:=inClass (top 52) 2
abbrev a4g:Stmt:=inClass (top 52) 3
abbrev a3j:Stmt:=inClass (top 52) 4
abbrev a5o:Stmt:=inClass (top 52) 5
abbrev a2r:Stmt:=inClass (top 52) 7
abbrev s_num:Stmt:=top 10
abbrev b1r:Stmt:=top 11
abbrev s_a7:Stmt:=top 12
abbrev b0o:Stmt:=top 13
abbrev a6y:Stmt:=top 14
abbrev b1s:Stmt:=top 15
abbrev b4h:Stmt:=top 22
abbrev b1t:Stmt:=top 28
abbrev b0p:Stmt:=top 31
abbrev b1u:Stmt:=top 32
abbrev a6m:Stmt:=top 33
abbrev b6m:Stmt:=top 34
abbrev a7o:Stmt:=top 38
abbrev a8v:Stmt:=top 39
abbrev a6z:Stmt:=top 40
abbrev b0q:Stmt:=top 45
abbrev b1v:Stmt:=top 46
abbrev b1w:Stmt:=top 47
abbrev b0r:Stmt:=top 50
abbrev b6n:Stmt:=top 53
abbrev a8w:Stmt:=top 54
abbrev b4i:Stmt:=top 56
abbrev a7j:Stmt:=top 57
abbrev a8x:Stmt:=top 58
abbrev b0s:Stmt:=top 59
abbrev b4j:Stmt:=top 60
abbrev b4k:Stmt:=top 61
abbrev b0t:Stmt:=top 62
abbrev b6o:Stmt:=top 63
abbrev a6n:Stmt:=top 64
abbrev a7p:Stmt:=top 65
abbrev b6p:Stmt:=top 66
abbrev b3a:Stmt:=top 67
theorem b1x:a0z ["self","words","row"] ["self","words","row"] (a0n a3c):=qn
theorem b7t:a0z ["self","word","row"] ["self","word","row"] (a0n a5e):=qn
theorem b6q:a0z ["self","rules","rows"] ["self","rules","rows"] (a0n a7n):=qn
theorem b5n:a0z ["self","place","number","kind"] ["self","place","number","kind"] (a0n a6l):=qn
theorem a7q:a0z ["self","place","row"] ["self","place"] (a0n a5t):=qn
theorem a9y:a0z ["self","place","goal","number","kids"] ["self","place","goal","number","kids"] (a0n a4g):=qn
theorem a2d:a0z ["self","place","goal","number","kids","told","puts","asked","kid"] ["self","place","goal","number","kids"] (a0n a3j):=qn
theorem b1y:a0z ["self","place","number","goal"] ["self","place","number","goal"] (a0n a5o):=qn
theorem a6c:a0z ["self","place","goals","falls","asked"] ["self","place","goals","falls"] (a0n a2r):=qn
theorem sc_c3:a0z ["n"] ["n"] (a0n s_num):=qn
theorem c3w:a0z ["name"] ["name"] (a0n b1r):=qn
theorem sc_a7:a0z ["sign","kids"] ["sign","kids"] (a0n s_a7):=qn
theorem c1f:a0z ["sign"] ["sign"] (a0n b0o):=qn
theorem c0g:a0z ["text","firsts"] ["text","firsts"] (a0n a6y):=qn
theorem c3x:a0z ["text"] ["text"] (a0n b1s):=qn
theorem c7h:a0z ["term"] ["term"] (a0n b4h):=qn
theorem a6d:a0z ["one","other","puts","new","todo","pair","kids"] ["one","other","puts"] (a0n b1t):=qn
theorem a9g:a0z ["term","left","right"] ["term"] (a0n b0p):=qn
theorem c3y:a0z ["mark","left","right"] ["mark","left","right"] (a0n b1u):=qn
theorem b5o:a0z ["n"] ["n"] (a0n a6m):=qn
theorem b4l:a0z ["goal","left","right"] ["goal"] (a0n b6m):=qn
theorem a5n:a0z ["terms","found","todo","part"] ["terms"] (a0n a7o):=qn
theorem c3z:a0z ["term","names"] ["term","names"] (a0n a8v):=qn
theorem a6e:a0z ["terms","names","name","number"] ["terms"] (a0n a6z):=qn
theorem c1g:a0z ["term"] ["term"] (a0n b0q):=qn
theorem c4a:a0z ["goal"] ["goal"] (a0n b1v):=qn
theorem a6f:a0z ["rules","found","place","told","terms"] ["rules"] (a0n b1w):=qn
theorem a7a:a0z ["rules","goals","asked","found","rule","told"] ["rules","goals"] (a0n b0r):=qn
theorem d0k:a0z ["goal"] ["goal"] (a0n b6n):=qn
theorem b5p:a0z ["rules","rows","looker"] ["rules","rows"] (a0n a8w):=qn
theorem b1z:a0z ["_law_script","_law_k","_law_number_here"] ["_law_script","_law_k"] (a0n b4i):=qn
theorem a2w:a0z ["_law_cell_here","_law_many","_law_first","_law_signs","_law_size","_law_at","_law_names_here","_law_j","_law_name","_law_k","_law_place"] ["_law_cell_here","_law_many","_law_first"] (a0n a7j):=qn
theorem b5q:a0z ["_law_cell_here","_law_many","_law_words_here"] ["_law_cell_here","_law_many"] (a0n a8x):=qn
theorem c1h:a0z ["_law_cell_here"] ["_law_cell_here"] (a0n b0s):=qn
theorem c7i:a0z ["_law_cell_here","_law_many","_law_words_here"] ["_law_cell_here","_law_many","_law_words_here"] (a0n b4j):=qn
theorem a4b:a0z ["_law_cells","_law_names_here","_law_words_here","_law_left","_law_cell_here","_law_many","_law_kids"] ["_law_cells","_law_names_here","_law_words_here"] (a0n b4k):=qn
theorem a4q:a0z ["_law_cells","_law_leaf","_law_left","_law_cell_here","_law_kids"] ["_law_cells","_law_leaf"] (a0n b0t):=qn
theorem a5f:a0z ["_law_term_here","_law_one","_law_other","_law_found"] ["_law_term_here"] (a0n b6o):=qn
theorem a2x:a0z ["_law_script","_law_mark","_law_names_here","_law_words_here","_law_leaf","_law_other","_law_way","_law_come","_law_one"] ["_law_script","_law_mark","_law_names_here","_law_words_here"] (a0n a6n):=qn
theorem a3y:a0z ["_law_goal","_law_one","_law_other","_law_come","_law_first"] ["_law_goal"] (a0n a7p):=qn
theorem a4h:a0z ["_law_script","_law_held","_law_words_here","_law_goal","_law_kids","_law_rows","_law_other"] ["_law_script","_law_held","_law_words_here"] (a0n b6p):=qn
theorem a1w:a0z ["_law_script","_law_names_here","_law_words_here","_law_way","_law_number_here","_law_kids","_law_held","_law_rules","_law_rows","_law_goal","_law_due","_law_kept","_law_found"] ["_law_script"] (a0n b3a):=qn
set_option genInjectivity false in
structure Ad where
 k_d0:Addr
 k_g0:Addr
 k_a2:Addr
 k_a1:Addr
 a_c1:Addr
 d_c1:FuncData
 v_c1:Addr
 w_c1_0:Tok
 a_a4:Addr
 d_a4:FuncData
 v_a4:Addr
 w_a4_0:Tok
 a_e4:Addr
 d_e4:FuncData
 a_b4:Addr
 d_b4:FuncData
 a_e1:Addr
 d_e1:FuncData
 a_e2:Addr
 d_e2:FuncData
 a_d9:Addr
 d_d9:FuncData
 a_e3:Addr
 d_e3:FuncData
 a_e0:Addr
 d_e0:FuncData
 a_c3:Addr
 d_c3:FuncData
 a_b8:Addr
 d_b8:FuncData
 a_a7:Addr
 d_a7:FuncData
 a_c5:Addr
 d_c5:FuncData
 a_d2:Addr
 d_d2:FuncData
 a_d6:Addr
 d_d6:FuncData
 a_b9:Addr
 d_b9:FuncData
 a_b6:Addr
 d_b6:FuncData
 a_a3:Addr
 d_a3:FuncData
 a_c0:Addr
 d_c0:FuncData
 a_b5:Addr
 d_b5:FuncData
 a_c7:Addr
 d_c7:FuncData
 a_c4:Addr
 d_c4:FuncData
 a_a9:Addr
 d_a9:FuncData
 a_b1:Addr
 d_b1:FuncData
 a_b0:Addr
 d_b0:FuncData
 a_b3:Addr
 d_b3:FuncData
 a_d4:Addr
 d_d4:FuncData
 a_c6:Addr
 d_c6:FuncData
 a_d8:Addr
 d_d8:FuncData
 a_b7:Addr
 d_b7:FuncData
 a_a0:Addr
 d_a0:FuncData
 a_b2:Addr
 d_b2:FuncData
 a_c8:Addr
 d_c8:FuncData
 a_a6:Addr
 d_a6:FuncData
 a_c9:Addr
 d_c9:FuncData
 a_d3:Addr
 d_d3:FuncData
 a_c2:Addr
 d_c2:FuncData
 a_a5:Addr
 d_a5:FuncData
 a_d7:Addr
 d_d7:FuncData
 a_d1:Addr
 d_d1:FuncData
 a_d5:Addr
 d_d5:FuncData
 a_law:Addr
 d_law:FuncData
 t_e8:Tok
 t_e9:Tok
 t_f0:Tok
 t_f6:Tok
 t_f7:Tok
 t_f8:Tok
 c_e6:Addr
structure Txt(K:W.Frag)(mg:Str->Option Value)(t:Ad):Prop where
 m_d0:mg "TrailError"=some (.ref t.k_d0)
 x_d0:XCls K t.k_d0 [.type "ValueError",.type "Exception",.type "BaseException",.type "object"]
 u_d0:XUp [.type "ValueError",.type "Exception",.type "BaseException",.type "object"]
 at_d0:b0i K t.k_d0
 no_d0_row:a2g K t.k_d0 "row"
 no_d0_word:a2g K t.k_d0 "word"
 mk_d0:XMk K t.k_d0 [.type "ValueError",.type "Exception",.type "BaseException",.type "object"] t.a_c1
 cm_d0:XClsM K t.k_d0 "__init__" t.a_c1
 m_g0:mg "Big"=some (.ref t.k_g0)
 m_a2:mg "Fault"=some (.ref t.k_a2)
 x_a2:XCls K t.k_a2 [.ref t.k_d0,.type "ValueError",.type "Exception",.type "BaseException",.type "object"]
 u_a2:XUp [.ref t.k_d0,.type "ValueError",.type "Exception",.type "BaseException",.type "object"]
 at_a2:b0i K t.k_a2
 no_a2_row:a2g K t.k_a2 "row"
 no_a2_word:a2g K t.k_a2 "word"
 mk_a2:XMk K t.k_a2 [.ref t.k_d0,.type "ValueError",.type "Exception",.type "BaseException",.type "object"] t.a_a4
 m_a1:mg "Looker"=some (.ref t.k_a1)
 cl_a1:Cls K t.k_a1
 no_a1_rules:a2g K t.k_a1 "rules"
 no_a1_worded:a2g K t.k_a1 "worded"
 no_a1_rows:a2g K t.k_a1 "rows"
 mk_a1:Mk K t.k_a1 t.a_e4
 me_b4:Meth K t.k_a1 "leads" t.a_b4
 me_e1:Meth K t.k_a1 "is_good" t.a_e1
 me_e2:Meth K t.k_a1 "is_good_yes" t.a_e2
 me_d9:Meth K t.k_a1 "is_by_rule" t.a_d9
 me_e3:Meth K t.k_a1 "is_no_of" t.a_e3
 me_e0:Meth K t.k_a1 "is_good_no" t.a_e0
 F_c1:FunD K "__init__" "TrailError.__init__" a3c t.a_c1 t.d_c1 (.ref t.v_c1)
 b_c1:Binds K t.d_c1 ["self","words","row"] []
 bd_c1:Binds K t.d_c1 ["self","words","row"] [.int 0 t.w_c1_0]
 F_a4:FunD K "__init__" "Fault.__init__" a5e t.a_a4 t.d_a4 (.ref t.v_a4)
 b_a4:Binds K t.d_a4 ["self","word","row"] []
 bd_a4:Binds K t.d_a4 ["self","word","row"] [.int 0 t.w_a4_0]
 F_e4:Fun K "__init__" "Looker.__init__" a7n t.a_e4 t.d_e4
 b_e4:Binds K t.d_e4 ["self","rules","rows"] []
 F_b4:Fun K "leads" "Looker.leads" a6l t.a_b4 t.d_b4
 b_b4:Binds K t.d_b4 ["self","place","number","kind"] []
 F_e1:Fun K "is_good" "Looker.is_good" a5t t.a_e1 t.d_e1
 b_e1:Binds K t.d_e1 ["self","place"] []
 F_e2:Fun K "is_good_yes" "Looker.is_good_yes" a4g t.a_e2 t.d_e2
 b_e2:Binds K t.d_e2 ["self","place","goal","number","kids"] []
 F_d9:Fun K "is_by_rule" "Looker.is_by_rule" a3j t.a_d9 t.d_d9
 b_d9:Binds K t.d_d9 ["self","place","goal","number","kids"] []
 F_e3:Fun K "is_no_of" "Looker.is_no_of" a5o t.a_e3 t.d_e3
 b_e3:Binds K t.d_e3 ["self","place","number","goal"] []
 F_e0:Fun K "is_good_no" "Looker.is_good_no" a2r t.a_e0 t.d_e0
 b_e0:Binds K t.d_e0 ["self","place","goals","falls"] []
 F_c3:Fun K "num" "num" s_num t.a_c3 t.d_c3
 b_c3:Binds K t.d_c3 ["n"] []
 m_c3:mg "num"=some (.ref t.a_c3)
 F_b8:Fun K "unknown" "unknown" b1r t.a_b8 t.d_b8
 b_b8:Binds K t.d_b8 ["name"] []
 m_b8:mg "unknown"=some (.ref t.a_b8)
 F_a7:Fun K "app" "app" s_a7 t.a_a7 t.d_a7
 b_a7:Binds K t.d_a7 ["sign","kids"] []
 m_a7:mg "app"=some (.ref t.a_a7)
 F_c5:Fun K "is_inner" "is_inner" b0o t.a_c5 t.d_c5
 b_c5:Binds K t.d_c5 ["sign"] []
 m_c5:mg "is_inner"=some (.ref t.a_c5)
 F_d2:Fun K "is_called" "is_called" a6y t.a_d2 t.d_d2
 b_d2:Binds K t.d_d2 ["text","firsts"] []
 m_d2:mg "is_called"=some (.ref t.a_d2)
 F_d6:Fun K "is_word" "is_word" b1s t.a_d6 t.d_d6
 b_d6:Binds K t.d_d6 ["text"] []
 m_d6:mg "is_word"=some (.ref t.a_d6)
 F_b9:Fun K "key_of" "key_of" b4h t.a_b9 t.d_b9
 b_b9:Binds K t.d_b9 ["term"] []
 m_b9:mg "key_of"=some (.ref t.a_b9)
 F_b6:Fun K "matched" "matched" b1t t.a_b6 t.d_b6
 b_b6:Binds K t.d_b6 ["one","other","puts"] []
 m_b6:mg "matched"=some (.ref t.a_b6)
 F_a3:Fun K "reckoned" "reckoned" b0p t.a_a3 t.d_a3
 b_a3:Binds K t.d_a3 ["term"] []
 m_a3:mg "reckoned"=some (.ref t.a_a3)
 F_c0:Fun K "by_mark" "by_mark" b1u t.a_c0 t.d_c0
 b_c0:Binds K t.d_c0 ["mark","left","right"] []
 m_c0:mg "by_mark"=some (.ref t.a_c0)
 F_b5:Fun K "checked_near" "checked_near" a6m t.a_b5 t.d_b5
 b_b5:Binds K t.d_b5 ["n"] []
 m_b5:mg "checked_near"=some (.ref t.a_b5)
 F_c7:Fun K "is_so" "is_so" b6m t.a_c7 t.d_c7
 b_c7:Binds K t.d_c7 ["goal"] []
 m_c7:mg "is_so"=some (.ref t.a_c7)
 F_c4:Fun K "unknowns_of" "unknowns_of" a7o t.a_c4 t.d_c4
 b_c4:Binds K t.d_c4 ["terms"] []
 m_c4:mg "unknowns_of"=some (.ref t.a_c4)
 F_a9:Fun K "renamed" "renamed" a8v t.a_a9 t.d_a9
 b_a9:Binds K t.d_a9 ["term","names"] []
 m_a9:mg "renamed"=some (.ref t.a_a9)
 F_b1:Fun K "told_anew" "told_anew" a6z t.a_b1 t.d_b1
 b_b1:Binds K t.d_b1 ["terms"] []
 m_b1:mg "told_anew"=some (.ref t.a_b1)
 F_b0:Fun K "is_named" "is_named" b0q t.a_b0 t.d_b0
 b_b0:Binds K t.d_b0 ["term"] []
 m_b0:mg "is_named"=some (.ref t.a_b0)
 F_b3:Fun K "word_of" "word_of" b1v t.a_b3 t.d_b3
 b_b3:Binds K t.d_b3 ["goal"] []
 m_b3:mg "word_of"=some (.ref t.a_b3)
 F_d4:Fun K "by_word" "by_word" b1w t.a_d4 t.d_d4
 b_d4:Binds K t.d_d4 ["rules"] []
 m_d4:mg "by_word"=some (.ref t.a_d4)
 F_c6:Fun K "falls_of" "falls_of" b0r t.a_c6 t.d_c6
 b_c6:Binds K t.d_c6 ["rules","goals"] []
 m_c6:mg "falls_of"=some (.ref t.a_c6)
 F_d8:Fun K "holds" "holds" b6n t.a_d8 t.d_d8
 b_d8:Binds K t.d_d8 ["goal"] []
 m_d8:mg "holds"=some (.ref t.a_d8)
 F_b7:Fun K "lets_by" "lets_by" a8w t.a_b7 t.d_b7
 b_b7:Binds K t.d_b7 ["rules","rows"] []
 m_b7:mg "lets_by"=some (.ref t.a_b7)
 F_a0:Fun K "_law_cell" "_law_cell" b4i t.a_a0 t.d_a0
 b_a0:Binds K t.d_a0 ["_law_script","_law_k"] []
 m_a0:mg "_law_cell"=some (.ref t.a_a0)
 F_b2:Fun K "_law_names" "_law_names" a7j t.a_b2 t.d_b2
 b_b2:Binds K t.d_b2 ["_law_cell_here","_law_many","_law_first"] []
 m_b2:mg "_law_names"=some (.ref t.a_b2)
 F_c8:Fun K "_law_words" "_law_words" a8x t.a_c8 t.d_c8
 b_c8:Binds K t.d_c8 ["_law_cell_here","_law_many"] []
 m_c8:mg "_law_words"=some (.ref t.a_c8)
 F_a6:Fun K "_law_number" "_law_number" b0s t.a_a6 t.d_a6
 b_a6:Binds K t.d_a6 ["_law_cell_here"] []
 m_a6:mg "_law_number"=some (.ref t.a_a6)
 F_c9:Fun K "_law_sign" "_law_sign" b4j t.a_c9 t.d_c9
 b_c9:Binds K t.d_c9 ["_law_cell_here","_law_many","_law_words_here"] []
 m_c9:mg "_law_sign"=some (.ref t.a_c9)
 F_d3:Fun K "_law_term" "_law_term" b4k t.a_d3 t.d_d3
 b_d3:Binds K t.d_d3 ["_law_cells","_law_names_here","_law_words_here"] []
 m_d3:mg "_law_term"=some (.ref t.a_d3)
 F_c2:Fun K "_law_sum_of" "_law_sum_of" b0t t.a_c2 t.d_c2
 b_c2:Binds K t.d_c2 ["_law_cells","_law_leaf"] []
 m_c2:mg "_law_sum_of"=some (.ref t.a_c2)
 F_a5:Fun K "_law_sum" "_law_sum" b6o t.a_a5 t.d_a5
 b_a5:Binds K t.d_a5 ["_law_term_here"] []
 m_a5:mg "_law_sum"=some (.ref t.a_a5)
 F_d7:Fun K "_law_deed" "_law_deed" a6n t.a_d7 t.d_d7
 b_d7:Binds K t.d_d7 ["_law_script","_law_mark","_law_names_here","_law_words_here"] []
 m_d7:mg "_law_deed"=some (.ref t.a_d7)
 F_d1:Fun K "_law_deed_good" "_law_deed_good" a7p t.a_d1 t.d_d1
 b_d1:Binds K t.d_d1 ["_law_goal"] []
 m_d1:mg "_law_deed_good"=some (.ref t.a_d1)
 F_d5:Fun K "_law_not" "_law_not" b6p t.a_d5 t.d_d5
 b_d5:Binds K t.d_d5 ["_law_script","_law_held","_law_words_here"] []
 m_d5:mg "_law_not"=some (.ref t.a_d5)
 F_law:Fun K "law" "law" b3a t.a_law t.d_law
 b_law:Binds K t.d_law ["_law_script"] []
 m_law:mg "law"=some (.ref t.a_law)
 n_g5:mg "ValueError"=none
 n_g2:mg "abs"=none
 n_f2:mg "all"=none
 n_g6:mg "bool"=none
 n_g8:mg "dict"=none
 n_g7:mg "enumerate"=none
 n_f1:mg "int"=none
 n_g1:mg "isinstance"=none
 n_a8:mg "len"=none
 n_e7:mg "list"=none
 n_g4:mg "max"=none
 n_f4:mg "min"=none
 n_e5:mg "range"=none
 n_g3:mg "reversed"=none
 n_f9:mg "str"=none
 n_f3:mg "tuple"=none
 n_f5:mg "zip"=none
 m_e8:mg "NOT"=some (.str "not" t.t_e8)
 m_e9:mg "KEEP"=some (.str "keep" t.t_e9)
 m_f0:mg "SMALL"=some (.str "abcdefghijklmnopqrstuvwxyz" t.t_f0)
 m_f6:mg "GREAT"=some (.str "ABCDEFGHIJKLMNOPQRSTUVWXYZ" t.t_f6)
 m_f7:mg "FIGURES"=some (.str "0123456789" t.t_f7)
 m_f8:mg "MOST_LETTERS"=some (.int 12 t.t_f8)
 m_e6:mg "SUM_MARKS"=some (.ref t.c_e6)
 q_e6:∀H:Hp,SqT K H t.c_e6 [.str "+",.str "-",.str "*",.str "/",.str "/:"]
local macro_rules | `(tactic| exists $e:ident) => `(tactic| refine iteB (fun $e => ?_) (fun $e => ?_))
local macro_rules | `(tactic| exists $f:ident $a*) => `(tactic| (refine $f $a* ?_; walk_at "s"))
local macro_rules | `(tactic| exists $f:ident $a*, $sp:ident, $D, $H:ident, $Q:ident, $E:ident, $hr:ident, $h:ident) => `(tactic| (refine $f $a* (fun vs H Q E h => by unfold $sp at h; split at h <;> first | rfl | exact h.elim) (fun cdv A outer s $H vs $Q $E $hr $h => ?_); unfold $sp at $h:ident; split at $h:ident; rotate_left; exact ($h).elim; refine ⟨_, $D, ?_⟩))
theorem em_eq:ofString ""=⟨([]:List Nat).toArray⟩:=by decide+kernel
theorem c7j{B:Nat}{x c:Int}(h:x.natAbs<2^B)(g:c.natAbs<8388608):(c+31337*x).natAbs<2^(B+24):=by
 have h1:=Int.natAbs_add_le c (31337*x);have h2:(31337*x).natAbs=31337*x.natAbs:=Int.natAbs_mul 31337 x;rw[Nat.pow_add];have h3:=Nat.two_pow_pos B;generalize 2^B=M at*;rw[h2]at h1;have h4:M*2^24=16777216*M:=by rw[Nat.mul_comm]
 omega
abbrev a7k(K:W.Frag):Sp:=λvs H Q _=>match vs with| [.ref a,.int k]=>∃ns:List Int,SqL K H a (ns.map V.int)/\(∀n∈ns,Builtin.Int.intBits n<=1048576)/\0<=k/\k<=1000/\∀v,Q (.int v) H|_=>False
mutual
def vin(xs:List Str):Trm->Prop
 | .num _=>True
 | .any x=>x∈xs
 | .app _ ks=>vinL xs ks
def vinL(xs:List Str):List Trm->Prop
 | []=>True
 |t::r=>vin xs t/\vinL xs r
end
theorem a4r{f:Nat->Str}:∀(m:Nat),(∀i j,i<m->j<m->f i=f j->i=j)->((List.range m).map f).Nodup
 |0,_=>by simp
 |m+1,h=>by
  rw[X4,Zt];refine Vb.mpr ⟨a4r m λi j hi hj e=>h i j qo qo e,qz,λa ha b hb e=>?_⟩;obtain⟨i,hi,rfl⟩:=Yb.mp ha;have hb:b=f m:=by simpa using hb
  have:=h i m (by have:=Y2.mp hi;omega) qo (e.trans hb);have:=Y2.mp hi;omega
theorem c4b:a4f.cps.toList.Nodup:=by decide+kernel
theorem c0h{l:List Nat}(h:l.Nodup){i j:Nat}(hi:i<l.length)(hj:j<l.length)(e:l.getD i 0=l.getD j 0):i=j:=by
 rw[Zr,Zr,Zb hi,Zb hj]at e;have e:l[i]=l[j]:=e;have hp:=T1.mp h;rcases Nat.lt_trichotomy i j with z|z|z
 ·exact absurd e (hp i j hi hj z)
 ·exact z
 ·exact absurd e.symm (hp j i hj hi z)
def plc(c:Int)(at_ k j:Nat):Int:=c/(7*(k:Int)+11)+k+(j:Int)*(if k=at_ then 1 else 0)
def chN(c:Int)(first:List Nat)(at_:Nat)(j k:Nat):Nat:=if k=0 then first.getD (plc c at_ k j%26).toNat 0 else a4f.cps.toList.getD (plc c at_ k j%62).toNat 0
def nm3(c:Int)(first:List Nat)(at_ size:Nat)(j:Nat):Str:=⟨((List.range size).map (chN c first at_ j)).toArray⟩
theorem st_inj'{x y:List Nat}(h:(⟨x.toArray⟩:Str)=⟨y.toArray⟩):x=y:=by
 have h:=Y0 (λs:Str=>s.cps.toList) h
 simpa using h
theorem nm3_inj{c:Int}{first:List Nat}{at_ size i j:Nat}(hf:first.Nodup)(hl:first.length=26)(ha:at_<size)(hi:i<9)(hj:j<9)(e:nm3 c first at_ size i=nm3 c first at_ size j):i=j:=by
 have e:=Y0 (λl=>l[at_]?) (st_inj' e);simp only[Z5,List.getElem?_range ha,Option.map_some,Z2]at e;have l62:a4f.cps.toList.length=62:=by decide+kernel
 unfold chN plc at e;rw[if_pos rfl]at e
 by_cases h0:at_=0
 ·rw[if_pos h0,if_pos h0]at e;have:=c0h hf qo qo e;omega
 ·rw[if_neg h0,if_neg h0]at e;have:=c0h c4b qo qo e;omega
theorem c0i{l:List Nat}{i:Int}(h0:0<=i)(h1:i<(l.length:Int)):atI l i=some (l.getD i.toNat 0):=by
 obtain⟨v,e1,e2⟩:=a3t h0 h1;rw[e1,Zr,e2];rfl
theorem a8h{xs:List Str}{i:Int}{v:V}(h:atI (xs.map V.str) i=some v):∃x,v=.str x/\x∈xs:=by
 have:=a8f h;obtain⟨x,hx,rfl⟩:=Yb.mp this;exact⟨x,rfl,hx⟩
theorem c7k(n:Nat)(m:Int)(h:0<=m):HT.sIx n 0 (some m)=min m.toNat n:=by rw[<-c6g n m h];rfl
theorem c7l(us:List V)(m:Int)(h:0<=m):cutV us none (some m)=us.take m.toNat:=by
 unfold cutV;rw[b3w,c6g _ _ h,List.drop_zero,Nat.sub_zero]
 by_cases hm:m.toNat<=us.length
 ·rw[Uj hm]
 ·rw[Nat.min_eq_right qo,List.take_length,Y7 qo]
theorem a8p(us:List V)(m:Int)(h:0<=m):cutV us (some m) none=us.drop m.toNat:=by
 unfold cutV;rw[b3w,c7k _ _ h]
 by_cases hm:m.toNat<=us.length
 ·rw[Uj hm,Y7 (by rw[Ww];omega)]
 ·rw[Nat.min_eq_right qo,List.drop_length,Sn qo]
  simp
theorem c4c(ts:List Trm)(n:Nat):(Trm.dataL ts).take n=Trm.dataL (ts.take n):=by rw[Trm.dataL_map,Trm.dataL_map,List.map_take]
theorem b5r(ts:List Trm)(n:Nat):(Trm.dataL ts).drop n=Trm.dataL (ts.drop n):=by rw[Trm.dataL_map,Trm.dataL_map,List.map_drop]
theorem a7l(a b:List Trm):Trm.dataL (a++b)=Trm.dataL a++Trm.dataL b:=by rw[Trm.dataL_map,Trm.dataL_map,Trm.dataL_map,Zt]
theorem b2a(ts:List Trm)(n:Nat):Trm.sizeL (ts.take n)+Trm.sizeL (ts.drop n)=Trm.sizeL ts:=by rw[<-Trm.sizeL_app,Uo]
theorem a4c{H H':Hp}{p:Addr}(s:Same H H')(h:H' p=none):H p=none:=by
 cases e:H p with
 |none=>rfl
 |some o=>rw[s _ _ e]at h;cases h
theorem c0j{K:W.Frag}{p:Addr}{H H':Hp}{kv:List (Key×V)}(e:But p H H')(hp:H p=some (.dK kv)):∀a xs,SqT K H a xs->SqT K H' a xs:=λa xs h=>by
 rcases h with(h|⟨o,h⟩)|h
 ·exact .inl (.inl (e _ _ (λz=>by rw[z,hp]at h;cases h) h))
 ·exact .inl (.inr ⟨o,e _ _ (λz=>by rw[z,hp]at h;cases h) h⟩)
 ·exact .inr h
mutual
inductive Full(rows:Rws):Trm->Trm->Prop
 |num (n:Int):Full rows (.num n) (.num n)
 |no {x:Str}:a3i rows x=none->Full rows (.any x) (.any x)
 |yes {x:Str} {u t:Trm}:a3i rows x=some u->Full rows u t->Full rows (.any x) t
 |app {s:Str} {ks ls:List Trm}:b8j rows ks ls->Full rows (.app s ks) (.app s ls)
inductive b8j(rows:Rws):List Trm->List Trm->Prop
 |nil:b8j rows [] []
 |cons {t t':Trm} {r r':List Trm}:Full rows t t'->b8j rows r r'->b8j rows (t::r) (t'::r')
end
inductive Wlk(rows:Rws):Nat->Trm->Trm->Prop
 |stop {t:Trm}:(∀x,t=.any x->a3i rows x=none)->Wlk rows 0 t t
 |step {n:Nat} {x:Str} {u t:Trm}:a3i rows x=some u->Wlk rows n u t->Wlk rows (n+1) (.any x) t
theorem nil_or_snoc'{α:Type}(l:List α):l=[]\/∃r x,l=r++[x]:=by
 cases l.eq_nil_or_concat with
 |inl h=>exact .inl h
 |inr h=>obtain⟨r,x,h⟩:=h;exact .inr ⟨r,x,by simpa using h⟩
theorem q1:decide (numS=anyS)=false:=by decide+kernel
theorem q2:decide (appS=anyS)=false:=by decide+kernel
theorem q3:decide (anyS=anyS)=true:=by decide+kernel
theorem q7:decide (numS=numS)=true:=by decide+kernel
structure a4s(K:W.Frag)(H:Hp)(a:Addr)(rows:Rws):Prop where
 ex:∃kvs,H a=some (.dK kvs)/\a2q K H kvs rows
theorem a4s.mono{K:W.Frag}{H H':Hp}{a:Addr}{rows:Rws}(h:a4s K H a rows)(s:Same H H'):a4s K H' a rows:=by
 obtain⟨kvs,h1,h2⟩:=h.ex;exact⟨kvs,s _ _ h1,h2.mono s⟩
theorem a4s.lst{K:W.Frag}{H:Hp}{a p:Addr}{rows:Rws}{ys:List V}{o:HO}(h:a4s K H a rows)(hp:H p=some (.lst ys)):a4s K (upd H p o) a rows:=by
 obtain⟨kvs,h1,h2⟩:=h.ex;refine⟨kvs,?_,h2.monoT (b6f hp)⟩;rw[a0p (λz=>by rw[z,hp]at h1;cases h1)];exact h1
def keyK:Trm->Option (List Key)
 | .num m=>some [Sum.inr numS,Sum.inl m]
 | .any _=>none
 | .app s ks=>some [Sum.inr appS,Sum.inr s,Sum.inl (ks.length:Int)]
theorem d0l{b:Trm}{m:Int}(h:keyK b=some [Sum.inr numS,Sum.inl m]):b=.num m:=by
 cases b with
 |any _=>cases h
 |num m'=>
  simp only[keyK,Z2,Ul,Sum.inl.injEq,and_true,true_and]at h;rw[h]
 |app s ls=>
  simp[keyK]at h
theorem d0m{b:Trm}{s:Str}{n:Nat}(h:keyK b=some [Sum.inr appS,Sum.inr s,Sum.inl (n:Int)]):∃ls,b=.app s ls/\ls.length=n:=by
 cases b with
 |any _=>cases h
 |num m'=>simp[keyK]at h
 |app s' ls=>
  simp only[keyK,Z2,Ul,Sum.inl.injEq,Sum.inr.injEq,and_true,true_and]at h;exact⟨ls,by rw[h.1],by have:=h.2;omega⟩
def onK(H:Hp)(Q:VK):Option (List Key)->Prop
 |none=>Q .non H
 |some ks=>∀p H',Same H H'->H' p=some (.tup (ks.map kV))->Q (.ref p) H'
abbrev b2b(K:W.Frag):Sp:=λvs H Q _=>match vs with| [v]=>∃t:Trm,Den K H v t.data/\onK H Q (keyK t)|_=>False
theorem d0n{ls:List Trm}{i:Nat}{l:Trm}(h:ls[i]? =some l):l.size<=Trm.sizeL ls:=by
 have hi:=(Z7.mp h).1;have e:=Trm.sizeL_app (ls.take i) (ls.drop i);have hl:ls[i]=l:=(Z7.mp h).2;rw[Uo,Vv hi,Trm.sizeL,hl]at e;omega
abbrev a7y(K:W.Frag):Sp:=λvs H Q _=>match vs with| [.str x]=>∀(v:V)(H':Hp),Same H H'->Den K H' v (Trm.any x).data->Q v H'|_=>False
abbrev a6o(K:W.Frag):Sp:=λvs H Q _=>match vs with| [.ref a]=>∃(us:List V)(ts:List Trm),SqL K H a us/\DenL K H us (Trm.dataL ts)/\Trm.sizeL ts<=1000/\∀(p:Addr)(H':Hp),Same H H'->H p=none->H' p=some (.lst ((ordL ts []).map V.str))->Q (.ref p) H'|_=>False
abbrev a4i(K:W.Frag)(n:Nat):Sp:=λvs H Q _=>match vs with| [v,.ref d]=>∃(t:Trm)(as:As),Den K H v t.data/\H d=some (.dK (encS as))/\(∀x∈vars t,x∈as.map (·.1))/\t.size<=n/\n<=70/\∀(x:V)(H':Hp),Same H H'->Den K H' x (ren (sub as) t).data->Q x H'|_=>False
theorem c4d{K:W.Frag}{H:Hp}{v:V}{d:Addr}{R:Trm->As->Prop}(h:∃(t:Trm)(as:As),Den K H v t.data/\H d=some (.dK (encS as))/\(∀x∈vars t,x∈as.map (·.1))/\t.size<=0/\0<=70/\R t as):False:=by
 obtain⟨t,_,_,_,_,z,_⟩:=h;have:=Trm.size_pos t;omega
abbrev a6g(K:W.Frag):Sp:=λvs H Q _=>match vs with| [.ref a]=>∃(us:List V)(ts:List Trm),SqL K H a us/\DenL K H us (Trm.dataL ts)/\Trm.sizeL ts<=1000/\(∀t∈ts,t.size<=70)/\∀(p:Addr)(us':List V)(H':Hp),Same H H'->H p=none->H' p=some (.lst us')->DenL K H' us' (Trm.dataL (anew ts))->Q (.ref p) H'|_=>False
theorem tn_len{n:Nat}(h:n<10^30):(tn n).length<=30:=c9g qd h
theorem fs_int{i:Int}(h0:0<=i)(h1:i<10^30):i.natAbs.log2<1920/\(ofString (toString i)).length<=1000/\ofString (toString i)=tn i.toNat:=by
 obtain⟨n,rfl⟩:=T9 h0;have e:ofString (toString (n:Int))=tn n:=b9h n;have hn:n<10^30:=by omega
 refine⟨?_,by rw[e];have:=tn_len hn;omega,e⟩
 show n.log2<1920
 rcases Nat.eq_zero_or_pos n with z|z
 ·subst z;decide
 ·rw[Ur qo];exact Z1 hn qk
theorem DenL.rev{K:W.Frag}{H:Hp}:∀{us:List V}{ds:List PyData},DenL K H us ds->DenL K H us.reverse ds.reverse
 |_,_,.nil=>.nil
 |_,_,.cons a r=>by
  rw[Xv,Xv];exact(DenL.rev r).append (.cons a .nil)
theorem b7j(ts:List Trm):(Trm.dataL ts).reverse=Trm.dataL ts.reverse:=by rw[Trm.dataL_map,Trm.dataL_map,List.map_reverse]
theorem b2c:∀ts:List Trm,Trm.sizeL ts.reverse=Trm.sizeL ts
 | []=>rfl
 |k::ks=>by
  rw[Xv,Trm.sizeL_app,b2c ks];simp only[Trm.sizeL];omega
def encB(acc:List Str):List (Key×V):=acc.map λx=>(Sum.inr x,V.bl true)
theorem d0o(acc:List Str):(encB acc).length=acc.length:=by simp[encB]
theorem d0p(acc:List Str)(x:Str):((encB acc).any λkv=>decide (kv.1=Sum.inr x))=decide (x∈acc):=by
 by_cases h:x∈acc
 ·rw[Zx h,List.any_eq_true];exact⟨(Sum.inr x,V.bl true),Yb.mpr ⟨x,h,rfl⟩,qz⟩
 ·rw[Zo h,List.any_eq_false];intro kv hk e;obtain⟨y,hy,rfl⟩:=Yb.mp hk;exact h (by rw[<-Uq (Zf e)];exact hy)
theorem d0q(acc:List Str)(x:Str):putK (encB acc) (Sum.inr x) (.bl true)=encB (ord (.any x) acc):=by
 rw[ord];unfold putK;rw[d0p]
 by_cases h:x∈acc
 ·rw[if_pos (Zx h),if_pos h];unfold encB;rw[Uf];refine List.map_congr_left λy hy=>?_
  show(if(Sum.inr y:Key)=Sum.inr x then((Sum.inr y:Key),V.bl true)else(Sum.inr y,V.bl true))=(Sum.inr y,V.bl true)
  split<;>rfl
 ·rw[if_neg (by rw[Zo h];decide),if_neg h];unfold encB;rw[Zt];rfl
theorem c7m(acc:List Str):((encB acc).map λkv=>kV kv.1)=acc.map V.str:=by
 unfold encB;rw[Uf];rfl
theorem c2q{K:W.Frag}{H:Hp}{us:List V}{ts:List Trm}{i:Nat}(h:DenL K H us (Trm.dataL ts))(hi:i<ts.length):∃hu:i<us.length,Den K H us[i] ts[i].data:=by
 have hl:=h.length;rw[Trm.dataL_map,length_map]at hl;have hu:i<us.length:=by omega
 refine⟨hu,?_⟩;obtain⟨d,e1,e2⟩:=h.get (Zb hu);rw[Trm.dataL_map,Z5,Zb hi]at e1;obtain rfl:ts[i].data=d:=Zl e1;exact e2
theorem getD_at{us:List V}{i:Nat}(h:i<us.length):us.getD i .non=us[i]:=by rw[Zr,Zb h];rfl
theorem take_succ'{α:Type}{l:List α}{i:Nat}(h:i<l.length):l.take (i+1)=l.take i++[l[i]]:=by rw[Tc,Zb h];rfl
theorem a3z{K:W.Frag}{H:Hp}{us:List V}{ts:List Trm}(h:DenL K H us (Trm.dataL ts)):us.length=ts.length:=by
 have hl:=h.length;rwa[Trm.dataL_map,length_map]at hl
theorem c2r{p:Addr}{H0 H H':Hp}(s:Same H0 H)(b:But p H H')(n:H0 p=none):Same H0 H':=λa o e=>b a o (λz=>by rw[z,n]at e;cases e) (s a o e)
theorem a9z{p:Addr}{H:Hp}{o:HO}:But p H (upd H p o):=λb u hb e=>by rw[a0p hb];exact e
abbrev b5s(K:W.Frag):Sp:=λvs H Q _=>match vs with| [.str sg,.ref p]=>∃us ks,SqL K H p us/\DenL K H us (Trm.dataL ks)/\∀r H',Same H H'->Den K H' (.ref r) (Trm.app sg ks).data->Q (.ref r) H'|_=>False
abbrev a4z:Str:=ofString "abcdefghijklmnopqrstuvwxyz"
abbrev c6e:Str:=ofString "ABCDEFGHIJKLMNOPQRSTUVWXYZ"
abbrev figS:Str:=ofString "0123456789"
abbrev one(c:Nat):Str:=⟨#[c]⟩
def inner(c:Str):Bool:=inS c a4z|| (inS c c6e||inS c figS)
def fst(z:Str):Str:=one (z.cps.getD 0 0)
def called(z firsts:Str):Bool:=(decide ((1:Int)<=z.length)&&decide ((z.length:Int)<=12))&&(inS (fst z) firsts&&z.cps.toList.all λc=>inner (one c))
abbrev a9h:Sp:=λvs H Q _=>match vs with| [.str c]=>Q (.bl (inner c)) H|_=>False
abbrev a8q:Sp:=λvs H Q _=>match vs with| [.str z,.str f]=>z.length<=1000/\∀H',Same H H'->Q (.bl (called z f)) H'|_=>False
abbrev b0u:Sp:=λvs H Q _=>match vs with| [.str z]=>z.length<=1000/\∀H',Same H H'->Q (.bl (called z a4z)) H'|_=>False
theorem len_fst{z:Str}(h:0<z.length):atI z.cps.toList 0=some (z.cps.getD 0 0):=by
 obtain⟨v,h1,h2⟩:=a3t (xs:=z.cps.toList) (i:=0) qo (by simp only[Xl];unfold Str.length at h;omega);rw[h1];have h2:z.cps.toList[0]? =some v:=h2
 rw[Wp]at h2;rw[Wr,h2];rfl
theorem all_get(z:Str)(f:Nat->Bool):((List.range z.cps.size).map λk=>f (z.cps.getD k 0)).all id=z.cps.toList.all f:=by
 rw[X8,Xf,Xf]
 constructor
 ·intro h c hc;obtain⟨i,hi,e⟩:=Rg hc;have hi':i<z.cps.size:=by simpa using hi
  have:=h (f (z.cps.getD i 0)) (Yb.mpr ⟨i,Y2.mpr hi',rfl⟩);rw[Wr,<-Wp,Zb hi]at this
  simpa[e]using this
 ·intro h b hb;obtain⟨i,hi,rfl⟩:=Yb.mp hb;have hi:=Y2.mp hi;rw[Wr,Wz hi];exact h _ qz
abbrev keepS:Str:=ofString "keep"
abbrev notS:Str:=ofString "not"
abbrev eqS:Str:=ofString "="
structure Wd(s:Str):Prop where
 cl:called s a4z=true
 kp:s≠keepS
 nt:s≠notS
 eq:s≠eqS
 ln:s.length<=1000
abbrev nd(s:Str)(n:Nat):List Key:=[.inr s,.inl (n:Int)]
def nmd(s:Str):Bool:=called s a4z&& !decide (s∈[keepS,notS])
abbrev a7b(K:W.Frag):Sp:=λvs H Q _=>match vs with| [v]=>∃(s:Str)(ks:List Trm),Den K H v (Trm.app s ks).data/\s.length<=1000/\∀H',Same H H'->Q (.bl (nmd s)) H'|_=>False
abbrev a7z(K:W.Frag):Sp:=λvs H Q _=>match vs with| [v]=>∃(s:Str)(ks:List Trm),Den K H v (Trm.app s ks).data/\∀p H',Same H H'->H' p=some (.tup ((nd s ks.length).map kV))->Q (.ref p) H'|_=>False
def Nmd(first x:Str):Prop:=∃(a:Nat)(r:List Nat),x=⟨(a::r).toArray⟩/\a∈first.cps.toList/\(∀y∈r,y∈a4f.cps.toList)/\r.length<=11
theorem Nmd.len{f x:Str}(h:Nmd f x):x.length<=12:=by
 obtain⟨a,r,rfl,_,_,h⟩:=h;rw[str_len,length_cons];omega
theorem c0k{l:List Nat}{i:Nat}(h:i<l.length):l.getD i 0∈l:=by
 rw[Zr,Zb h];exact Xp h
theorem d0r:∀n:Fin 10,(48+n.val)∈a4f.cps.toList:=by decide+kernel
theorem nmd3{c:Int}{f:Str}{at_ size j:Nat}(hf:f.cps.toList.length=26)(h1:1<=size)(h2:size<=12):Nmd f (nm3 c f.cps.toList at_ size j):=by
 obtain⟨n,rfl⟩:∃n,size=n+1:=⟨size-1,qo⟩;refine⟨chN c f.cps.toList at_ j 0,(List.range n).map λk=>chN c f.cps.toList at_ j (k+1),?_,?_,λy hy=>?_,by simp;omega⟩
 ·unfold nm3;rw[Sj,Z4,Uf];rfl
 ·unfold chN;rw[if_pos rfl];exact c0k qo
 ·obtain⟨k,_,rfl⟩:=Yb.mp hy;unfold chN;rw[if_neg (Nat.succ_ne_zero k)];have l62:a4f.cps.toList.length=62:=by decide+kernel
  exact c0k qo
theorem c4e:(a4f.cps.toList.all λc=>inner (one c))=true:=by decide+kernel
theorem c7n{r:List Nat}(h1:1<=r.length)(h2:r.length<=12)(ha:∀c∈r,inner (one c)=true)(hf:∀c,r.head? =some c->inS (one c) a4z=true):called ⟨r.toArray⟩ a4z=true:=by
 cases r with
 |nil=>simp at h1
 |cons c r=>
  have e1:(⟨(c::r).toArray⟩:Str).length=(c::r).length:=str_len _;unfold called;rw[e1,Zx qo,Zx qo];have e2:fst (⟨(c::r).toArray⟩:Str)=one c:=by simp[fst,one]
  rw[e2,hf c rfl];simp only[Ye,Xf];exactλx hx=>ha x (by simpa using hx)
theorem Nmd.called{x:Str}(h:Nmd a4z x):called x a4z=true:=by
 obtain⟨a,r,rfl,ha,hr,hl⟩:=h;have ti:=Xf.mp c4e;have hs:inS (one a) a4z=true:=by rw[inS_one];exact Zx ha
 refine c7n qz (by simp;omega) (λc hc=>?_) λc hc=>?_
 ·rcases Zi.mp hc with z|z
  ·rw[z];unfold inner;rw[hs];rfl
  ·exact ti c (hr c z)
 ·have hc:a=c:=by simpa using hc
  rw[<-hc];exact hs
theorem wd_mk{x:Str}(h:Nmd a4z x)(h1:x≠keepS)(h2:x≠notS):Wd x:=⟨h.called,h1,h2,λe=>by
 have:=h.called;rw[e]at this
 exact absurd this qk,by have:=h.len;omega⟩
theorem wd_s{z:Str}(h:z∈[keepS,notS]):Wd (z++ofString "s"):=by
 simp only[Zi,Zs,Yv]at h;rcases h with rfl|rfl
 ·exact⟨qk,qk,qk,qk,qk⟩
 ·exact⟨qk,qk,qk,qk,qk⟩
def KW(xs:List Str):Prop:=(keepS∉xs/\notS∉xs)\/∃n,∀x∈xs,x.length=n
def fW(x:Str):Str:=if x∈[keepS,notS]then x++ofString "s" else x
theorem d0s{xs:List Str}(h:xs.Nodup)(k:KW xs):(xs.map fW).Nodup:=by
 have l1:(ofString "s").length=1:=by decide+kernel
 have key:∀x∈xs,∀y∈xs,x∈[keepS,notS]->y∉[keepS,notS]->x++ofString "s"≠y:=λx hx y hy h1 h2 e=>by
  rcases k with k|⟨n,k⟩
  ·simp only[Zi,Zs,Yv]at h1;rcases h1 with z|z
   ·exact k.1 (z▸hx)
   ·exact k.2 (z▸hx)
  ·have e2:=Y0 Str.length e;rw[Uv,l1,k x hx,k y hy]at e2;omega
 refine List.pairwise_map.mpr (h.imp_of_mem λ{x y} hx hy ne e=>?_);unfold fW at e
 by_cases h1:x∈[keepS,notS]
 ·by_cases h2:y∈[keepS,notS]
  ·rw[if_pos h1,if_pos h2]at e;exact ne (c7f e)
  ·rw[if_pos h1,if_neg h2]at e;exact key x hx y hy h1 h2 e
 ·by_cases h2:y∈[keepS,notS]
  ·rw[if_neg h1,if_pos h2]at e;exact key y hy x hx h2 h1 e.symm
  ·rw[if_neg h1,if_neg h2]at e;exact ne e
theorem kw_rep{m:Nat}{a0 b0:Nat}:KW ((List.range m).map λk:Nat=>(⟨(a0::List.replicate k b0).toArray⟩:Str)):=by
 refine .inl ⟨λh=>?_,λh=>?_⟩
 ·obtain⟨k,_,e⟩:=Yb.mp h;have e:a0::List.replicate k b0=[107,101,101,112]:=st_inj' (e.trans qk);have e:=(Xi e).2;have h1:(101:Nat)∈List.replicate k b0:=by rw[e];simp
  have h2:(112:Nat)∈List.replicate k b0:=by rw[e];simp
  have h1:=(W6.mp h1).2;have h2:=(W6.mp h2).2;omega
 ·obtain⟨k,_,e⟩:=Yb.mp h;have e:a0::List.replicate k b0=[110,111,116]:=st_inj' (e.trans qk);have e:=(Xi e).2;have h1:(111:Nat)∈List.replicate k b0:=by rw[e];simp
  have h2:(116:Nat)∈List.replicate k b0:=by rw[e];simp
  have h1:=(W6.mp h1).2;have h2:=(W6.mp h2).2;omega
abbrev a8a(K:W.Frag):Sp:=λvs H Q _=>match vs with| [.int c,.int m,.str first]=>1<=m/\m<=9/\first.length=26/\first.cps.toList.Nodup/\∀(p:Addr)(xs:List Str)(H':Hp),xs.length=m.toNat->xs.Nodup->(∀x∈xs,Nmd first x)->KW xs->Same H H'->H' p=some (.lst (xs.map V.str))->Q (.ref p) H'|_=>False
noncomputable def cO(n q:Str)(a b c:Tok)(l m f:Int)(r:Addr)(x:Int)(s:Addr)(v w:Value)(u:Addr)(y:Int)(d:Tok):Obj:=.mk (.type "code") none (.fields (List.toArray ((.str n a)::(.str q b)::(.str "/claim/cut.py" c)::(.int l 0)::(.int m 0)::(.int 0 0)::(.int 0 0)::(.int f 0)::(.ref r)::(.bool true)::(.int x 0)::(.ref s)::.none::v::w::(.ref u)::(.int y 0)::(.int l 0)::(.str "/claim/cut.py" d)::[]))) #[]
noncomputable def fO(n q:Str)(s:Stmt)(m:Value)(c:Addr):Obj:=.mk (.type "function") none (.func (W.fnOf n q (a5l s) (a3k s) (a0n s) .none .none .none m none (.ref c) .none)) #[]
noncomputable def kb2(P:Params):Obj:=.mk .none none (.dict #[] 0) #[]
noncomputable def kb3(P:Params):Obj:=.mk (.type "dict") none (.dict (List.toArray ((.mk (keyHash P "__name__") (.str "__name__" 165) (.str "law_goaltrail_k71_good_rows_of_deeds" 768))::(.mk (keyHash P "__doc__") (.str "__doc__" 166) .none)::(.mk (keyHash P "__package__") (.str "__package__" 167) .none)::(.mk (keyHash P "__loader__") (.str "__loader__" 168) (.builtin "__main__.__loader__#opaque"))::(.mk (keyHash P "__spec__") (.str "__spec__" 169) .none)::(.mk (keyHash P "__annotations__") (.str "__annotations__" 170) (.ref 6))::(.mk (keyHash P "__builtins__") (.str "__builtins__" 171) (.ref 4))::(.mk (keyHash P "__file__") (.str "__file__" 173) (.str "/claim/cut.py" 172))::(.mk (keyHash P "__cached__") (.str "__cached__" 174) .none)::(.mk (keyHash P "TrailError") (.str "TrailError" 217) (.ref 32))::(.mk (keyHash P "Big") (.str "Big" 233) (.ref 45))::(.mk (keyHash P "Fault") (.str "Fault" 260) (.ref 65))::(.mk (keyHash P "SMALL") (.str "SMALL" 264) (.str "abcdefghijklmnopqrstuvwxyz" 263))::(.mk (keyHash P "GREAT") (.str "GREAT" 266) (.str "ABCDEFGHIJKLMNOPQRSTUVWXYZ" 265))::(.mk (keyHash P "FIGURES") (.str "FIGURES" 268) (.str "0123456789" 267))::(.mk (keyHash P "MOST_LETTERS") (.str "MOST_LETTERS" 270) (.int 12 269))::(.mk (keyHash P "MOST_PARTS") (.str "MOST_PARTS" 272) (.int 40 271))::(.mk (keyHash P "num") (.str "num" 279) (.ref 74))::(.mk (keyHash P "unknown") (.str "unknown" 286) (.ref 81))::(.mk (keyHash P "app") (.str "app" 294) (.ref 88))::(.mk (keyHash P "is_inner") (.str "is_inner" 301) (.ref 95))::(.mk (keyHash P "is_called") (.str "is_called" 307) (.ref 100))::(.mk (keyHash P "is_word") (.str "is_word" 314) (.ref 107))::(.mk (keyHash P "walked") (.str "walked" 325) (.ref 114))::(.mk (keyHash P "parts_up_to") (.str "parts_up_to" 337) (.ref 121))::(.mk (keyHash P "written_out") (.str "written_out" 345) (.ref 128))::(.mk (keyHash P "put_in") (.str "put_in" 351) (.ref 133))::(.mk (keyHash P "key_of") (.str "key_of" 360) (.ref 140))::(.mk (keyHash P "Row") (.str "Row" 394) (.ref 157))::(.mk (keyHash P "Joining") (.str "Joining" 473) (.ref 211))::(.mk (keyHash P "stands_within") (.str "stands_within" 485) (.ref 222))::(.mk (keyHash P "made_one") (.str "made_one" 496) (.ref 229))::(.mk (keyHash P "matched") (.str "matched" 509) (.ref 236))::(.mk (keyHash P "SUM_MARKS") (.str "SUM_MARKS" 517) (.ref 237))::(.mk (keyHash P "reckoned") (.str "reckoned" 526) (.ref 244))::(.mk (keyHash P "by_mark") (.str "by_mark" 535) (.ref 251))::(.mk (keyHash P "checked_near") (.str "checked_near" 542) (.ref 258))::(.mk (keyHash P "is_so") (.str "is_so" 551) (.ref 265))::(.mk (keyHash P "done_by_mark") (.str "done_by_mark" 563) (.ref 272))::(.mk (keyHash P "unknowns_of") (.str "unknowns_of" 575) (.ref 279))::(.mk (keyHash P "renamed") (.str "renamed" 581) (.ref 284))::(.mk (keyHash P "told_anew") (.str "told_anew" 587) (.ref 289))::(.mk (keyHash P "marked") (.str "marked" 597) (.ref 296))::(.mk (keyHash P "KEEP") (.str "KEEP" 601) (.str "keep" 600))::(.mk (keyHash P "NOT") (.str "NOT" 603) (.str "not" 602))::(.mk (keyHash P "is_named") (.str "is_named" 610) (.ref 303))::(.mk (keyHash P "word_of") (.str "word_of" 617) (.ref 310))::(.mk (keyHash P "by_word") (.str "by_word" 628) (.ref 317))::(.mk (keyHash P "fall_of") (.str "fall_of" 636) (.ref 322))::(.mk (keyHash P "falls_of") (.str "falls_of" 642) (.ref 327))::(.mk (keyHash P "Looker") (.str "Looker" 754) (.ref 401))::(.mk (keyHash P "holds") (.str "holds" 761) (.ref 412))::(.mk (keyHash P "lets_by") (.str "lets_by" 767) (.ref 417))::(.mk (keyHash P "_law_cell") (.str "_law_cell" 778) (.ref 424))::(.mk (keyHash P "_law_names") (.str "_law_names" 784) (.ref 429))::(.mk (keyHash P "_law_words") (.str "_law_words" 790) (.ref 434))::(.mk (keyHash P "_law_number") (.str "_law_number" 797) (.ref 441))::(.mk (keyHash P "_law_sign") (.str "_law_sign" 806) (.ref 448))::(.mk (keyHash P "_law_term") (.str "_law_term" 819) (.ref 455))::(.mk (keyHash P "_law_sum_of") (.str "_law_sum_of" 830) (.ref 462))::(.mk (keyHash P "_law_sum") (.str "_law_sum" 840) (.ref 469))::(.mk (keyHash P "_law_deed") (.str "_law_deed" 846) (.ref 474))::(.mk (keyHash P "_law_deed_good") (.str "_law_deed_good" 857) (.ref 481))::(.mk (keyHash P "_law_not") (.str "_law_not" 870) (.ref 488))::(.mk (keyHash P "law") (.str "law" 876) (.ref 493))::[])) 65) #[]
noncomputable def kb22(P:Params):Obj:=.mk (.type "tuple") none (.seq #[(.int 0 201)] 0) #[]
noncomputable def kb29(P:Params):Obj:=.mk (.type "function") none (.func (W.fnOf "__init__" "TrailError.__init__" (a5l a3c) (a3k a3c) (a0n a3c) (.ref 22) .none .none (.str "goaltrail.errors" 187) none (.ref 28) .none)) #[]
noncomputable def kb31(P:Params):Obj:=.mk (.type "dict") none (.dict (List.toArray ((.mk (keyHash P "__module__") (.str "__module__" 196) (.str "goaltrail.errors" 187))::(.mk (keyHash P "__firstlineno__") (.str "__firstlineno__" 200) (.int 2 199))::(.mk (keyHash P "__init__") (.str "__init__" 210) (.ref 29))::(.mk (keyHash P "__static_attributes__") (.str "__static_attributes__" 212) (.ref 30))::(.mk (keyHash P "__weakref__") (.str "__weakref__" 214) (.ref 33))::(.mk (keyHash P "__doc__") (.str "__doc__" 215) .none)::[])) 3) #[]
noncomputable def kb32(P:Params):Obj:=.mk (.type "type") none (.cls (.mk "TrailError" [(.type "ValueError")] [(.ref 32),(.type "ValueError"),(.type "Exception"),(.type "BaseException"),(.type "object")] 31 "TrailError" Bool.true [] [(.ref 45),(.ref 65)] Bool.false none Bool.false)) (List.toArray ((some (.ref 15))::none::(some (.str "TrailError" 189))::(some (.str "TrailError" 197))::(some (.builtin "ValueError.__new__"))::(some (.bool true))::[]))
noncomputable def kb44(P:Params):Obj:=.mk (.type "dict") none (.dict #[(.mk (keyHash P "__module__") (.str "__module__" 225) (.str "goaltrail.errors" 187)),(.mk (keyHash P "__firstlineno__") (.str "__firstlineno__" 229) (.int 7 228)),(.mk (keyHash P "__static_attributes__") (.str "__static_attributes__" 230) (.ref 43)),(.mk (keyHash P "__doc__") (.str "__doc__" 231) .none)] 2) #[]
noncomputable def kb45(P:Params):Obj:=.mk (.type "type") none (.cls (.mk "Big" [(.ref 32)] [(.ref 45),(.ref 32),(.type "ValueError"),(.type "Exception"),(.type "BaseException"),(.type "object")] 44 "Big" Bool.true [] [] Bool.false none Bool.false)) (List.toArray ((some (.ref 36))::none::(some (.str "Big" 218))::(some (.str "Big" 226))::(some (.builtin "ValueError.__new__"))::(some (.bool true))::[]))
noncomputable def kb55(P:Params):Obj:=.mk (.type "tuple") none (.seq #[(.int 0 246)] 0) #[]
noncomputable def kb62(P:Params):Obj:=.mk (.type "function") none (.func (W.fnOf "__init__" "Fault.__init__" (a5l a5e) (a3k a5e) (a0n a5e) (.ref 55) .none .none (.str "goaltrail.errors" 187) none (.ref 61) .none)) #[]
noncomputable def kb64(P:Params):Obj:=.mk (.type "dict") none (.dict (List.toArray ((.mk (keyHash P "__module__") (.str "__module__" 241) (.str "goaltrail.errors" 187))::(.mk (keyHash P "__firstlineno__") (.str "__firstlineno__" 245) (.int 9 244))::(.mk (keyHash P "__init__") (.str "__init__" 255) (.ref 62))::(.mk (keyHash P "__static_attributes__") (.str "__static_attributes__" 257) (.ref 63))::(.mk (keyHash P "__doc__") (.str "__doc__" 258) .none)::[])) 2) #[]
noncomputable def kb65(P:Params):Obj:=.mk (.type "type") none (.cls (.mk "Fault" [(.ref 32)] [(.ref 65),(.ref 32),(.type "ValueError"),(.type "Exception"),(.type "BaseException"),(.type "object")] 64 "Fault" Bool.true [] [] Bool.false none Bool.false)) (List.toArray ((some (.ref 48))::none::(some (.str "Fault" 234))::(some (.str "Fault" 242))::(some (.builtin "ValueError.__new__"))::(some (.bool true))::[]))
noncomputable def kb156(P:Params):Obj:=.mk (.type "dict") none (.dict (List.toArray ((.mk (keyHash P "__module__") (.str "__module__" 370) (.str "goaltrail.ones" 361))::(.mk (keyHash P "__firstlineno__") (.str "__firstlineno__" 374) (.int 68 373))::(.mk (keyHash P "__init__") (.str "__init__" 383) (.ref 154))::(.mk (keyHash P "__static_attributes__") (.str "__static_attributes__" 387) (.ref 155))::(.mk (keyHash P "__dict__") (.str "__dict__" 389) (.ref 158))::(.mk (keyHash P "__weakref__") (.str "__weakref__" 391) (.ref 159))::(.mk (keyHash P "__doc__") (.str "__doc__" 392) .none)::[])) 4) #[]
noncomputable def kb157(P:Params):Obj:=.mk (.type "type") none (.cls (.mk "Row" [(.type "object")] [(.ref 157),(.type "object")] 156 "Row" Bool.true [] [] Bool.false none Bool.false)) (List.toArray (none::none::(some (.str "Row" 363))::(some (.str "Row" 371))::(some (.builtin "object.__new__"))::(some (.bool true))::[]))
noncomputable def kb210(P:Params):Obj:=.mk (.type "dict") none (.dict (List.toArray ((.mk (keyHash P "__module__") (.str "__module__" 402) (.str "goaltrail.ones" 361))::(.mk (keyHash P "__firstlineno__") (.str "__firstlineno__" 406) (.int 74 405))::(.mk (keyHash P "__init__") (.str "__init__" 415) (.ref 175))::(.mk (keyHash P "join_terms") (.str "join_terms" 426) (.ref 182))::(.mk (keyHash P "join_place") (.str "join_place" 437) (.ref 189))::(.mk (keyHash P "put_for") (.str "put_for" 446) (.ref 196))::(.mk (keyHash P "begin_kids") (.str "begin_kids" 455) (.ref 203))::(.mk (keyHash P "path") (.str "path" 461) (.ref 208))::(.mk (keyHash P "__static_attributes__") (.str "__static_attributes__" 466) (.ref 209))::(.mk (keyHash P "__dict__") (.str "__dict__" 468) (.ref 212))::(.mk (keyHash P "__weakref__") (.str "__weakref__" 470) (.ref 213))::(.mk (keyHash P "__doc__") (.str "__doc__" 471) .none)::[])) 4) #[]
noncomputable def kb211(P:Params):Obj:=.mk (.type "type") none (.cls (.mk "Joining" [(.type "object")] [(.ref 211),(.type "object")] 210 "Joining" Bool.true [] [] Bool.false none Bool.false)) (List.toArray (none::none::(some (.str "Joining" 395))::(some (.str "Joining" 403))::(some (.builtin "object.__new__"))::(some (.bool true))::[]))
noncomputable def kb237(P:Params):Obj:=.mk (.type "tuple") none (.seq (List.toArray ((.str "+" 512)::(.str "-" 513)::(.str "*" 514)::(.str "/" 515)::(.str "/:" 516)::[])) 0) #[]
noncomputable def kb400(P:Params):Obj:=.mk (.type "dict") none (.dict (List.toArray ((.mk (keyHash P "__module__") (.str "__module__" 652) (.str "goaltrail.looker" 643))::(.mk (keyHash P "__firstlineno__") (.str "__firstlineno__" 656) (.int 249 655))::(.mk (keyHash P "__init__") (.str "__init__" 665) (.ref 341))::(.mk (keyHash P "leads") (.str "leads" 675) (.ref 348))::(.mk (keyHash P "is_good") (.str "is_good" 684) (.ref 355))::(.mk (keyHash P "is_good_yes") (.str "is_good_yes" 695) (.ref 362))::(.mk (keyHash P "is_by_rule") (.str "is_by_rule" 701) (.ref 367))::(.mk (keyHash P "is_no_of") (.str "is_no_of" 711) (.ref 374))::(.mk (keyHash P "is_yes_of") (.str "is_yes_of" 721) (.ref 381))::(.mk (keyHash P "is_good_no") (.str "is_good_no" 727) (.ref 386))::(.mk (keyHash P "is_good_not") (.str "is_good_not" 733) (.ref 391))::(.mk (keyHash P "is_fall") (.str "is_fall" 743) (.ref 398))::(.mk (keyHash P "__static_attributes__") (.str "__static_attributes__" 747) (.ref 399))::(.mk (keyHash P "__dict__") (.str "__dict__" 749) (.ref 402))::(.mk (keyHash P "__weakref__") (.str "__weakref__" 751) (.ref 403))::(.mk (keyHash P "__doc__") (.str "__doc__" 752) .none)::[])) 4) #[]
noncomputable def kb401(P:Params):Obj:=.mk (.type "type") none (.cls (.mk "Looker" [(.type "object")] [(.ref 401),(.type "object")] 400 "Looker" Bool.true [] [] Bool.false none Bool.false)) (List.toArray (none::none::(some (.str "Looker" 645))::(some (.str "Looker" 653))::(some (.builtin "object.__new__"))::(some (.bool true))::[]))
noncomputable def KK:Params->W.Frag:=λP=>(nat_lit 2,kb2 P)::(nat_lit 3,kb3 P)::(nat_lit 22,kb22 P)::(nat_lit 28,cO "__init__" "TrailError.__init__" 202 203 204 4 3 3 23 181 24 (.ref 25) (.ref 26) 27 208 209)::(nat_lit 29,kb29 P)::(nat_lit 31,kb31 P)::(nat_lit 32,kb32 P)::(nat_lit 44,kb44 P)::(nat_lit 45,kb45 P)::(nat_lit 55,kb55 P)::(nat_lit 61,cO "__init__" "Fault.__init__" 247 248 249 11 3 3 56 181 57 (.ref 58) (.ref 59) 60 253 254)::(nat_lit 62,kb62 P)::(nat_lit 64,kb64 P)::(nat_lit 65,kb65 P)::(nat_lit 73,cO "num" "num" 273 274 275 20 1 3 68 181 69 (.ref 70) (.ref 71) 72 277 278)::(nat_lit 74,fO "num" "num" s_num (.str "goaltrail.terms" 261) 73)::(nat_lit 80,cO "unknown" "unknown" 280 281 282 22 1 3 75 181 76 (.ref 77) (.ref 78) 79 284 285)::(nat_lit 81,fO "unknown" "unknown" b1r (.str "goaltrail.terms" 261) 80)::(nat_lit 87,cO "app" "app" 287 288 289 24 2 3 82 181 83 (.ref 84) (.ref 85) 86 292 293)::(nat_lit 88,fO "app" "app" s_a7 (.str "goaltrail.terms" 261) 87)::(nat_lit 94,cO "is_inner" "is_inner" 295 296 297 26 1 3 89 181 90 (.ref 91) (.ref 92) 93 299 300)::(nat_lit 95,fO "is_inner" "is_inner" b0o (.str "goaltrail.terms" 261) 94)::(nat_lit 99,cO "is_called" "is_called" 302 303 304 28 2 3 96 181 97 .none .none 98 305 306)::(nat_lit 100,fO "is_called" "is_called" a6y (.str "goaltrail.terms" 261) 99)::(nat_lit 106,cO "is_word" "is_word" 308 309 310 32 1 3 101 181 102 (.ref 103) (.ref 104) 105 312 313)::(nat_lit 107,fO "is_word" "is_word" b1s (.str "goaltrail.terms" 261) 106)::(nat_lit 139,cO "key_of" "key_of" 354 355 356 61 1 3 134 181 135 (.ref 136) (.ref 137) 138 358 359)::(nat_lit 140,fO "key_of" "key_of" b4h (.str "goaltrail.switches" 352) 139)::(nat_lit 156,kb156 P)::(nat_lit 157,kb157 P)::(nat_lit 210,kb210 P)::(nat_lit 211,kb211 P)::(nat_lit 235,cO "matched" "matched" 497 498 499 139 3 3 230 181 231 (.ref 232) (.ref 233) 234 507 508)::(nat_lit 236,fO "matched" "matched" b1t (.str "goaltrail.ones" 361) 235)::(nat_lit 237,kb237 P)::(nat_lit 243,cO "reckoned" "reckoned" 518 519 520 156 1 3 238 181 239 (.ref 240) (.ref 241) 242 524 525)::(nat_lit 244,fO "reckoned" "reckoned" b0p (.str "goaltrail.sums" 510) 243)::(nat_lit 250,cO "by_mark" "by_mark" 527 528 529 166 3 3 245 181 246 (.ref 247) (.ref 248) 249 533 534)::(nat_lit 251,fO "by_mark" "by_mark" b1u (.str "goaltrail.sums" 510) 250)::(nat_lit 257,cO "checked_near" "checked_near" 536 537 538 176 1 3 252 181 253 (.ref 254) (.ref 255) 256 540 541)::(nat_lit 258,fO "checked_near" "checked_near" a6m (.str "goaltrail.sums" 510) 257)::(nat_lit 264,cO "is_so" "is_so" 543 544 545 180 1 3 259 181 260 (.ref 261) (.ref 262) 263 549 550)::(nat_lit 265,fO "is_so" "is_so" b6m (.str "goaltrail.sums" 510) 264)::(nat_lit 278,cO "unknowns_of" "unknowns_of" 566 567 568 194 1 3 273 181 274 (.ref 275) (.ref 276) 277 573 574)::(nat_lit 279,fO "unknowns_of" "unknowns_of" a7o (.str "goaltrail.names" 564) 278)::(nat_lit 283,cO "renamed" "renamed" 576 577 578 204 2 3 280 181 281 .none .none 282 579 580)::(nat_lit 284,fO "renamed" "renamed" a8v (.str "goaltrail.names" 564) 283)::(nat_lit 288,cO "told_anew" "told_anew" 582 583 584 210 1 3 285 181 286 .none .none 287 585 586)::(nat_lit 289,fO "told_anew" "told_anew" a6z (.str "goaltrail.names" 564) 288)::(nat_lit 302,cO "is_named" "is_named" 604 605 606 224 1 3 297 181 298 (.ref 299) (.ref 300) 301 608 609)::(nat_lit 303,fO "is_named" "is_named" b0q (.str "goaltrail.rules" 598) 302)::(nat_lit 309,cO "word_of" "word_of" 611 612 613 226 1 3 304 181 305 (.ref 306) (.ref 307) 308 615 616)::(nat_lit 310,fO "word_of" "word_of" b1v (.str "goaltrail.rules" 598) 309)::(nat_lit 316,cO "by_word" "by_word" 618 619 620 228 1 3 311 181 312 (.ref 313) (.ref 314) 315 626 627)::(nat_lit 317,fO "by_word" "by_word" b1w (.str "goaltrail.rules" 598) 316)::(nat_lit 326,cO "falls_of" "falls_of" 637 638 639 239 2 3 323 181 324 .none .none 325 640 641)::(nat_lit 327,fO "falls_of" "falls_of" b0r (.str "goaltrail.falls" 629) 326)::(nat_lit 340,cO "__init__" "Looker.__init__" 657 658 659 251 3 3 335 181 336 (.ref 337) (.ref 338) 339 663 664)::(nat_lit 341,fO "__init__" "Looker.__init__" a7n (.str "goaltrail.looker" 643) 340)::(nat_lit 347,cO "leads" "Looker.leads" 666 667 668 256 4 3 342 181 343 (.ref 344) (.ref 345) 346 673 674)::(nat_lit 348,fO "leads" "Looker.leads" a6l (.str "goaltrail.looker" 643) 347)::(nat_lit 354,cO "is_good" "Looker.is_good" 676 677 678 259 2 3 349 181 350 (.ref 351) (.ref 352) 353 682 683)::(nat_lit 355,fO "is_good" "Looker.is_good" a5t (.str "goaltrail.looker" 643) 354)::(nat_lit 361,cO "is_good_yes" "Looker.is_good_yes" 685 686 687 270 5 3 356 181 357 (.ref 358) (.ref 359) 360 693 694)::(nat_lit 362,fO "is_good_yes" "Looker.is_good_yes" a4g (.str "goaltrail.looker" 643) 361)::(nat_lit 366,cO "is_by_rule" "Looker.is_by_rule" 696 697 698 279 5 3 363 181 364 .none .none 365 699 700)::(nat_lit 367,fO "is_by_rule" "Looker.is_by_rule" a3j (.str "goaltrail.looker" 643) 366)::(nat_lit 373,cO "is_no_of" "Looker.is_no_of" 702 703 704 291 4 3 368 181 369 (.ref 370) (.ref 371) 372 709 710)::(nat_lit 374,fO "is_no_of" "Looker.is_no_of" a5o (.str "goaltrail.looker" 643) 373)::(nat_lit 385,cO "is_good_no" "Looker.is_good_no" 722 723 724 297 4 3 382 181 383 .none .none 384 725 726)::(nat_lit 386,fO "is_good_no" "Looker.is_good_no" a2r (.str "goaltrail.looker" 643) 385)::(nat_lit 400,kb400 P)::(nat_lit 401,kb401 P)::(nat_lit 411,cO "holds" "holds" 755 756 757 322 1 3 406 181 407 (.ref 408) (.ref 409) 410 759 760)::(nat_lit 412,fO "holds" "holds" b6n (.str "goaltrail.looker" 643) 411)::(nat_lit 416,cO "lets_by" "lets_by" 762 763 764 328 2 3 413 181 414 .none .none 415 765 766)::(nat_lit 417,fO "lets_by" "lets_by" a8w (.str "goaltrail.looker" 643) 416)::(nat_lit 423,cO "_law_cell" "_law_cell" 770 771 772 332 2 3 418 181 419 (.ref 420) (.ref 421) 422 776 777)::(nat_lit 424,fO "_law_cell" "_law_cell" b4i (.str "law_goaltrail_k71_good_rows_of_deeds" 768) 423)::(nat_lit 428,cO "_law_names" "_law_names" 779 780 781 339 3 3 425 181 426 .none .none 427 782 783)::(nat_lit 429,fO "_law_names" "_law_names" a7j (.str "law_goaltrail_k71_good_rows_of_deeds" 768) 428)::(nat_lit 433,cO "_law_words" "_law_words" 785 786 787 355 2 3 430 181 431 .none .none 432 788 789)::(nat_lit 434,fO "_law_words" "_law_words" a8x (.str "law_goaltrail_k71_good_rows_of_deeds" 768) 433)::(nat_lit 440,cO "_law_number" "_law_number" 791 792 793 358 1 3 435 181 436 (.ref 437) (.ref 438) 439 795 796)::(nat_lit 441,fO "_law_number" "_law_number" b0s (.str "law_goaltrail_k71_good_rows_of_deeds" 768) 440)::(nat_lit 447,cO "_law_sign" "_law_sign" 798 799 800 362 3 3 442 181 443 (.ref 444) (.ref 445) 446 804 805)::(nat_lit 448,fO "_law_sign" "_law_sign" b4j (.str "law_goaltrail_k71_good_rows_of_deeds" 768) 447)::(nat_lit 454,cO "_law_term" "_law_term" 807 808 809 370 3 3 449 181 450 (.ref 451) (.ref 452) 453 817 818)::(nat_lit 455,fO "_law_term" "_law_term" b4k (.str "law_goaltrail_k71_good_rows_of_deeds" 768) 454)::(nat_lit 461,cO "_law_sum_of" "_law_sum_of" 820 821 822 387 2 3 456 181 457 (.ref 458) (.ref 459) 460 828 829)::(nat_lit 462,fO "_law_sum_of" "_law_sum_of" b0t (.str "law_goaltrail_k71_good_rows_of_deeds" 768) 461)::(nat_lit 468,cO "_law_sum" "_law_sum" 831 832 833 400 1 3 463 181 464 (.ref 465) (.ref 466) 467 838 839)::(nat_lit 469,fO "_law_sum" "_law_sum" b6o (.str "law_goaltrail_k71_good_rows_of_deeds" 768) 468)::(nat_lit 473,cO "_law_deed" "_law_deed" 841 842 843 419 4 3 470 181 471 .none .none 472 844 845)::(nat_lit 474,fO "_law_deed" "_law_deed" a6n (.str "law_goaltrail_k71_good_rows_of_deeds" 768) 473)::(nat_lit 480,cO "_law_deed_good" "_law_deed_good" 847 848 849 436 1 3 475 181 476 (.ref 477) (.ref 478) 479 855 856)::(nat_lit 481,fO "_law_deed_good" "_law_deed_good" a7p (.str "law_goaltrail_k71_good_rows_of_deeds" 768) 480)::(nat_lit 487,cO "_law_not" "_law_not" 858 859 860 447 3 3 482 181 483 (.ref 484) (.ref 485) 486 868 869)::(nat_lit 488,fO "_law_not" "_law_not" b6p (.str "law_goaltrail_k71_good_rows_of_deeds" 768) 487)::(nat_lit 492,cO "law" "law" 871 872 873 461 1 3 489 181 490 .none .none 491 874 875)::(nat_lit 493,fO "law" "law" b3a (.str "law_goaltrail_k71_good_rows_of_deeds" 768) 492)::[]
noncomputable def prog:Program:=PySem.Challenge.pw_goaltrail_k71_good_rows_of_deeds
noncomputable def Q:Program:=W.view prog [1,2,3,5,6,7,8,9,10,11,12,13,14,15,17,18,19,20,22,24,25,26,27,28,30,31,32,33,34,36,38,39,40,41,43,44,45,46,47,49,50,52,53,54,56,57,58,59,60,61,62,63,64,65,66,67]
noncomputable def loose:List Str:=["TrailError","Fault"]
noncomputable def Xt(s:Shared):Bool:=W.xlAt Q [] s&&W.recOk [] s
noncomputable def ads:List Addr:=[2,3,22,28,29,31,32,44,45,55,61,62,64,65,73,74,80,81,87,88,94,95,99,100,106,107,139,140,156,157,210,211,235,236,237,243,244,250,251,257,258,264,265,278,279,283,284,288,289,302,303,309,310,316,317,326,327,340,341,347,348,354,355,361,362,366,367,373,374,385,386,400,401,411,412,416,417,423,424,428,429,433,434,440,441,447,448,454,455,461,462,468,469,473,474,480,481,487,488,492,493]
theorem run1:∀w:World,(λos=>(W.segRunT treeTable prog w 11 (some (.ref 6)) 0 3284 (bootS w os) (W.topStub prog)).map λr=>looks prog Q loose Xt (λs=>ads.map s.heap.get?) true (W.boot_heap w.params) r.2.1.abs)=λ_=>some (true,W.openGood Q loose,(KK w.params).map λp=>some p.2):=by
 intro w
 delta Xt Q loose
 rw[W.Fast.te10110043849684766642,W.Fast.te14364793385576792824,W.Fast.te2530740449226627131,W.Fast.te3486900944545009338,W.Fast.te10845986317416049621,W.Fast.te5655336392911312201,W.Fast.te4757257242682413121,W.Fast.te6483871617321286689,W.Fast.te15055690906229335287]
 kernel_rfl
theorem left1:W.LeftO prog Q loose Xt (λs=>ads.map s.heap.get?) (λw=>(KK w.params).map λp=>some p.2) 3284:=left_of (by kernel_rfl) qd (λ_=>by kernel_rfl) c5v qd run1
theorem said1:PySem.Challenge.rw_goaltrail_k71_good_rows_of_deeds.wellSaid=true:=by
 w_on
 rw[W.Fast.te9446332074065402090]
 kernel_rfl
def nany:Trm->Bool
 | .any _=>false
 |_=>true
def keyL(t:Trm):List Key:=(keyK t).getD []
structure clean(x:Str)(rows:Rws)(t:Trm):Prop where
 sz:t.size<=60
 no:x∉vars t
 fr:∀y∈vars t,a3i rows y=none
def kD:Key->PyData
 | .inl i=>.int i
 | .inr x=>.str x
abbrev leftsN:Str:=ofString "lefts"
abbrev rightsN:Str:=ofString "rights"
abbrev takenN:Str:=ofString "taken"
structure RwO where
 r:Addr
 dr:Addr
 a:V
 b:V
 k:Int
def RwO.ob(CR:Addr)(q:RwO):HO:=.ins CR q.dr [(leftsN,q.a),(rightsN,q.b),(takenN,.int q.k)]
def KT(K:W.Frag)(H H':Hp):Prop:=∀a xs,SqT K H a xs->SqT K H' a xs
theorem KT.trans{K:W.Frag}{H H1 H2:Hp}(a:KT K H H1)(b:KT K H1 H2):KT K H H2:=λc xs h=>b _ _ (a _ _ h)
theorem KT.same{K:W.Frag}{H H':Hp}(s:Same H H'):KT K H H':=λ_ _ h=>s.tup h
theorem KT.upd{K:W.Frag}{H:Hp}{p:Addr}{o o0:HO}(h:H p=some o0)(h1:∀xs,o0≠.tup xs)(h2:∀o' xs,o0≠.frz o' (.tup xs)):KT K H (upd H p o):=λa xs q=>by
 rcases q with(q|⟨o',q⟩)|q
 ·exact .inl (.inl (by rw[a0p (a6t q h (λz=>h1 _ z.symm))];exact q))
 ·exact .inl (.inr ⟨o',by rw[a0p (a6t q h (λz=>h2 _ _ z.symm))];exact q⟩)
 ·exact .inr q
inductive Pl where
 |go(rows:Rws)
 |part(a b:List Key)
 |kids(s:Str)(ks ls:List Trm)
def pl4(l r:Trm):Pl:=match l,r with
 | .app s ks,.app s' ls=>if s=s'/\ks.length=ls.length then .kids s ks ls else .part (keyL (.app s ks)) (keyL (.app s' ls))
 |l,r=>.part (keyL l) (keyL r)
def pl3(rows:Rws)(l:Trm):Trm->Pl
 | .any y=>.go (putR rows y l)
 |r=>pl4 l r
def pl2a(rows:Rws)(r:Trm):Trm->Pl
 | .any x=>.go (putR rows x r)
 |l=>pl3 rows l r
def pl2(rows:Rws)(l r:Trm):Pl:=if eqb l r=true then .go rows else pl2a rows r l
structure Okp(p:Rws)(l r:Trm):Prop where
 zl:l.size<=60
 zr:r.size<=60
 len:p.length<=900
 cl:∀x,l=.any x->¬eqb l r=true->clean x p r
 cr:∀y,r=.any y->nany l=true->clean y p l
inductive Un:Bool->Rws->List (Trm×Trm)->Bool->Rws->Nat->Prop
 |done {me:Bool} {p:Rws}:Un me p [] true p 0
 |go {me ok:Bool} {p p' q:Rws} {a b l r:Trm} {rest:List (Trm×Trm)} {n m c:Nat}:Wlk p n a l->Wlk p m b r->Okp p l r->pl2 p l r=.go p'->Un me p' rest ok q c->Un me p ((a,b)::rest) ok q (c+1)
 |part {me:Bool} {p:Rws} {a b l r:Trm} {rest:List (Trm×Trm)} {n m:Nat} {ka kb:List Key}:Wlk p n a l->Wlk p m b r->Okp p l r->pl2 p l r=.part ka kb->Un me p ((a,b)::rest) false p 1
 |kids {ok:Bool} {p q:Rws} {a b l r:Trm} {rest:List (Trm×Trm)} {n m c:Nat} {s:Str} {ks ls:List Trm}:Wlk p n a l->Wlk p m b r->Okp p l r->pl2 p l r=.kids s ks ls->Un false p (ks.zip ls++rest) ok q c->Un true p ((a,b)::rest) ok q (c+1)
theorem b5t:∀{fs:List (Str×V)}{f:Str}{i:Nat}{v:V},(fs.map (·.1)).findIdx? (· ==f)=some i->(fs[i]?).map (·.2)=some v->fs.lookup f=some v
 | [],f,i,v,h,_=>by simp at h
 | (g,x)::fs,f,i,v,h,e=>by
  rw[Z4,List.findIdx?_cons]at h;rw[Xz]
  by_cases c:(g==f)=true
  ·rw[if_pos c]at h;cases h;have c':(f==g)=true:=by rw[eq_of_beq c];exact Tmq _
   rw[c'];exact e
  ·rw[if_neg c]at h;cases hq:(fs.map (·.1)).findIdx? (· ==f)with
   |none=>rw[hq]at h;cases h
   |some k=>
    rw[hq]at h;cases h;have c':(f==g)=false:=Bool.eq_false_iff.mpr λz=>c (by rw[eq_of_beq z];exact Tmq _)
    rw[c'];exact b5t hq (by simpa using e)
theorem c7o:∀{fs:List (Str×V)}{f:Str},(fs.map (·.1)).all (λg=>!(f==g))=true->fs.lookup f=none
 | [],f,_=>rfl
 | (g,x)::fs,f,h=>by
  rw[Z4,Ux,Xg]at h;have e:(f==g)=false:=by
   have:=h.1;cases q:(f==g)with
   |false=>rfl
   |true=>rw[q]at this;cases this
  rw[Xz,e];exact c7o h.2
mutual
inductive Dm(K:W.Frag)(H:Hp)(M:List Addr):V->PyData->Prop
 |non:Dm K H M .non .none
 |bl (b:Bool):Dm K H M (.bl b) (.bool b)
 |int (i:Int):Dm K H M (.int i) (.int i)
 |str (x:Str):Dm K H M (.str x) (.str x)
 |tup {a:Addr} {us:List V} {ds:List PyData}:SqT K H a us->DmL K H M us ds->Dm K H M (.ref a) (.tuple ds)
 |lst {a:Addr} {us:List V} {ds:List PyData}:H a=some (.lst us)->a∉M->DmL K H M us ds->Dm K H M (.ref a) (.list ds)
inductive DmL(K:W.Frag)(H:Hp)(M:List Addr):List V->List PyData->Prop
 |nil:DmL K H M [] []
 |cons {u:V} {us:List V} {d:PyData} {ds:List PyData}:Dm K H M u d->DmL K H M us ds->DmL K H M (u::us) (d::ds)
end
structure Pr(K:W.Frag)(M:List Addr)(H H':Hp):Prop where
 kp:∀a o,a∉M->H a=some o->H' a=some o
 kt:KT K H H'
theorem Pr.same{K:W.Frag}{M:List Addr}{H H1:Hp}(s:Same H H1):Pr K M H H1:=⟨λc o _ h=>s c o h,KT.same s⟩
theorem Pr.upd{K:W.Frag}{M:List Addr}{H:Hp}{m:Addr}{o o0:HO}(hm:m∈M)(h:H m=some o0)(h1:∀xs,o0≠.tup xs)(h2:∀o' xs,o0≠.frz o' (.tup xs)):Pr K M H (upd H m o):=⟨λc o n e=>by rw[a0p (λz=>n (by rw[z];exact hm))];exact e,KT.upd h h1 h2⟩
mutual
theorem Dm.pr{K:W.Frag}{M:List Addr}{H H':Hp}(p:Pr K M H H'):∀{v:V}{d:PyData},Dm K H M v d->Dm K H' M v d
 |_,_,.non=>.non
 |_,_,.bl b=>.bl b
 |_,_,.int i=>.int i
 |_,_,.str x=>.str x
 |_,_,.tup h l=>.tup (p.kt _ _ h) (DmL.pr p l)
 |_,_,.lst h n l=>.lst (p.kp _ _ n h) n (DmL.pr p l)
theorem DmL.pr{K:W.Frag}{M:List Addr}{H H':Hp}(p:Pr K M H H'):∀{v:List V}{d:List PyData},DmL K H M v d->DmL K H' M v d
 |_,_,.nil=>.nil
 |_,_,.cons h l=>.cons (Dm.pr p h) (DmL.pr p l)
end
mutual
theorem Dm.dx{K:W.Frag}{M:List Addr}{H:Hp}:∀{v:V}{d:PyData},Dm K H M v d->Dx K H v d
 |_,_,.non=>.non
 |_,_,.bl b=>.bl b
 |_,_,.int i=>.int i
 |_,_,.str x=>.str x
 |_,_,.tup h l=>.tup h (DmL.dx l)
 |_,_,.lst h _ l=>.lst (SqL.of h) (DmL.dx l)
theorem DmL.dx{K:W.Frag}{M:List Addr}{H:Hp}:∀{v:List V}{d:List PyData},DmL K H M v d->DxL K H v d
 |_,_,.nil=>.nil
 |_,_,.cons h l=>.cons (Dm.dx h) (DmL.dx l)
end
mutual
theorem Den.dm{K:W.Frag}{M:List Addr}{H:Hp}:∀{v:V}{d:PyData},Den K H v d->Dm K H M v d
 |_,_,.non=>.non
 |_,_,.bl b=>.bl b
 |_,_,.int i=>.int i
 |_,_,.str x=>.str x
 |_,_,.tup h l=>.tup h (DenL.dm l)
theorem DenL.dm{K:W.Frag}{M:List Addr}{H:Hp}:∀{v:List V}{d:List PyData},DenL K H v d->DmL K H M v d
 |_,_,.nil=>.nil
 |_,_,.cons h l=>.cons (Den.dm h) (DenL.dm l)
end
theorem DmL.append{K:W.Frag}{M:List Addr}{H:Hp}:∀{us vs:List V}{ds es:List PyData},DmL K H M us ds->DmL K H M vs es->DmL K H M (us++vs) (ds++es)
 |_,_,_,_,.nil,l=>l
 |_,_,_,_,.cons h t,l=>.cons h (DmL.append t l)
theorem DmL.length{K:W.Frag}{M:List Addr}{H:Hp}:∀{us:List V}{ds:List PyData},DmL K H M us ds->us.length=ds.length
 |_,_,.nil=>rfl
 |_,_,.cons _ l=>by rw[length_cons,length_cons,DmL.length l]
mutual
theorem b2d{K:W.Frag}{M:List Addr}{H:Hp}:∀(t:Trm){v:V},Dm K H M v t.data↔Den K H v t.data
 | .num n,v=>⟨λh=>by cases h with|tup a b=>exact .tup a (by cases b with|cons c d=>cases c;cases d with|cons e f=>cases e;cases f;exact .cons (.str _) (.cons (.int _) .nil)),λh=>by cases h with|tup a b=>exact .tup a (by cases b with|cons c d=>cases c;cases d with|cons e f=>cases e;cases f;exact .cons (.str _) (.cons (.int _) .nil))⟩
 | .any n,v=>⟨λh=>by cases h with|tup a b=>exact .tup a (by cases b with|cons c d=>cases c;cases d with|cons e f=>cases e;cases f;exact .cons (.str _) (.cons (.str _) .nil)),λh=>by cases h with|tup a b=>exact .tup a (by cases b with|cons c d=>cases c;cases d with|cons e f=>cases e;cases f;exact .cons (.str _) (.cons (.str _) .nil))⟩
 | .app s ks,v=>⟨λh=>by
   cases h with
   |tup a b=>
    refine .tup a ?_;cases b with
    |cons c d=>
     cases c;cases d with
     |cons e f=>
      cases e;cases f with
      |cons g i=>
       cases i;cases g with
       |tup p q=>exact .cons (.str _) (.cons (.str _) (.cons (.tup p ((a6p ks).mp q)) .nil)),λh=>by
   cases h with
   |tup a b=>
    refine .tup a ?_;cases b with
    |cons c d=>
     cases c;cases d with
     |cons e f=>
      cases e;cases f with
      |cons g i=>
       cases i;cases g with
       |tup p q=>exact .cons (.str _) (.cons (.str _) (.cons (.tup p ((a6p ks).mpr q)) .nil))⟩
theorem a6p{K:W.Frag}{M:List Addr}{H:Hp}:∀(ts:List Trm){us:List V},DmL K H M us (Trm.dataL ts)↔DenL K H us (Trm.dataL ts)
 | [],us=>⟨λh=>by cases h;exact .nil,λh=>by cases h;exact .nil⟩
 |t::r,us=>⟨λh=>by cases h with|cons a b=>exact .cons ((b2d t).mp a) ((a6p r).mp b),λh=>by cases h with|cons a b=>exact .cons ((b2d t).mpr a) ((a6p r).mpr b)⟩
end
theorem b3b{K:W.Frag}{M:List Addr}{H:Hp}:∀(l:List Int){us:List V},DmL K H M us (l.map PyData.int)↔us=l.map V.int
 | [],us=>⟨λh=>by cases h;rfl,λh=>by rw[h];exact .nil⟩
 |i::r,us=>⟨λh=>by cases h with|cons a b=>cases a;rw[(b3b r).mp b];rfl,λh=>by rw[h];exact .cons (.int i) ((b3b r).mpr rfl)⟩
structure Rl where
 n:Nat
 head:Trm
 goals:List Trm
def Rl.data(x:Rl):PyData:=.tuple [.int (x.n:Int),x.head.data,.list (Trm.dataL x.goals)]
structure Wy where
 goal:Trm
 rules:List Rl
 todo:List (Trm×Nat)
 nums:List Int
 nt:Nat
abbrev Ans:=List (Str×Trm)×List Int
structure St where
 todo:List (Trm×Nat)
 nums:List Int
 rows:Rws
 left:List Wy
 us:Nat
 ct:Nat
 ans:List Ans
 en:Option PyData
def rlD(l:List Rl):PyData:=.list (l.map Rl.data)
def nbD(l:List Int):PyData:=.list (l.map PyData.int)
structure Cfg where
 tab:List (List Key×List Rl)
 bound:Int
 most:Int
 names:List Str
 asked:List Trm
structure RO where
 rl:Addr
 bd:Int
 ms:Int
 nm:Addr
 sk:Addr
 td:Addr
 nb:Addr
 pd:Addr
 nl:Addr
 lf:Addr
 nt:Addr
 us:Int
 ct:Int
 an:Addr
 en:V
def roN:List Str:=[ofString "rules",ofString "bound",ofString "most",ofString "names",ofString "asked",ofString "todo",ofString "numbers",ofString "puts",ofString "noted",ofString "left",ofString "nots",ofString "uses",ofString "count",ofString "answers",ofString "end"]
def RO.vs(o:RO):List V:=[.ref o.rl,.int o.bd,.int o.ms,.ref o.nm,.ref o.sk,.ref o.td,.ref o.nb,.ref o.pd,.ref o.nl,.ref o.lf,.ref o.nt,.int o.us,.int o.ct,.ref o.an,o.en]
def RO.fs(o:RO):List (Str×V):=roN.zip o.vs
def Tab(K:W.Frag)(H:Hp)(M:List Addr)(kvs:List (List Key×V))(tab:List (List Key×List Rl)):Prop:=Paired (λ(p:List Key×V) (q:List Key×List Rl)=>p.1=q.1/\Dm K H M p.2 (rlD q.2)) kvs tab
def a4t:List (List Key×List Rl)->List Key->List Rl
 | [],_=>[]
 | (k',r)::rest,k=>if k'=k then r else a4t rest k
abbrev RO.M(o:RO)(r:Addr):List Addr:=[r,o.pd,o.nl,o.lf,o.an]
theorem Tab.pr{K:W.Frag}{M:List Addr}{H H':Hp}(p:Pr K M H H'){kvs:List (List Key×V)}{tab:List (List Key×List Rl)}(h:Tab K H M kvs tab):Tab K H' M kvs tab:=Paired.mapP h λ_ _ z=>⟨z.1,z.2.pr p⟩
mutual
theorem Dm.onto{K:W.Frag}{M M':List Addr}{H:Hp}(n:∀m∈M',m∈M\/H m=none):∀{v:V}{d:PyData},Dm K H M v d->Dm K H M' v d
 |_,_,.non=>.non
 |_,_,.bl b=>.bl b
 |_,_,.int i=>.int i
 |_,_,.str x=>.str x
 |_,_,.tup h l=>.tup h (DmL.onto n l)
 |_,_,.lst h a l=>.lst h (λz=>(n _ z).elim a (λe=>by rw[e]at h;cases h)) (DmL.onto n l)
theorem DmL.onto{K:W.Frag}{M M':List Addr}{H:Hp}(n:∀m∈M',m∈M\/H m=none):∀{v:List V}{d:List PyData},DmL K H M v d->DmL K H M' v d
 |_,_,.nil=>.nil
 |_,_,.cons h l=>.cons (Dm.onto n h) (DmL.onto n l)
end
theorem c2s{K:W.Frag}{H:Hp}{M:List Addr}:∀{kvs:List (List Key×V)}{tab:List (List Key×List Rl)},Tab K H M kvs tab->∀k,(valV kvs k=none/\a4t tab k=[])\/∃v,valV kvs k=some v/\Dm K H M v (rlD (a4t tab k))
 |_,_,.nil,k=>.inl ⟨rfl,rfl⟩
 | (k1,v1)::kvs,(k2,r2)::tab,.cons ⟨e,d⟩ h,k=>by
  have e:k1=k2:=e;subst e
  by_cases c:k1=k
  ·refine .inr ⟨v1,?_,?_⟩
   ·unfold valV;rw[Sl (by exact Zx c)];rfl
   ·rw[a4t,if_pos c];exact d
  ·have e1:valV ((k1,v1)::kvs) k=valV kvs k:=by
    unfold valV;rw[Sm (by simpa using c)]
   rw[e1,a4t,if_neg c];exact c2s h k
theorem rl_list{K:W.Frag}{H:Hp}{M:List Addr}{v:V}{l:List Rl}(h:Dm K H M v (rlD l)):∃a us,v=.ref a/\H a=some (.lst us)/\a∉M/\DmL K H M us (l.map Rl.data):=by
 cases h with
 |lst h1 h2 h3=>exact⟨_,_,rfl,h1,h2,h3⟩
theorem nb_list{K:W.Frag}{H:Hp}{M:List Addr}{a:Addr}{l:List Int}(h:Dm K H M (.ref a) (nbD l)):H a=some (.lst (l.map V.int))/\a∉M:=by
 cases h with
 |lst h1 h2 h3=>rw[(b3b l).mp h3]at h1;exact⟨h1,h2⟩
theorem nb_mk{K:W.Frag}{H:Hp}{M:List Addr}{a:Addr}{l:List Int}(h:H a=some (.lst (l.map V.int)))(n:a∉M):Dm K H M (.ref a) (nbD l):=.lst h n ((b3b l).mpr rfl)
theorem nb_ref{K:W.Frag}{H:Hp}{M:List Addr}{v:V}{l:List Int}(h:Dm K H M v (nbD l)):∃a,v=.ref a:=by
 cases h with
 |lst h1 h2 h3=>exact⟨_,rfl⟩
theorem c2t(v:V)(us:List V):atI (v::us) 0=some v:=by
 obtain⟨w1,w2,w3⟩:=a3t (xs:=v::us) (i:=0) qd (by rw[length_cons];omega);rw[w2,<-w3];rfl
theorem b5u{w:Str}(h:Wd w):nmd w=true:=by
 rw[nmd,h.cl,Zo (λz=>by
  rcases Zi.mp z with z|z
  ·exact h.kp z
  ·exact h.nt (Zu.mp z))]
 rfl
def ruE(x:Trm×List Trm):PyData:=.tuple [x.1.data,.tuple (Trm.dataL x.2)]
def fAn(x:Trm×List Trm):Str->Str:=sub (mkA (λj _=>uS++tn (j+1)) 0 (ordL (x.1::x.2) []))
def mkRl(n:Nat)(x:Trm×List Trm):Rl:=⟨n,ren (fAn x) x.1,renL (fAn x) x.2⟩
theorem c7p(x:Trm×List Trm):anew (x.1::x.2)=ren (fAn x) x.1::renL (fAn x) x.2:=by
 unfold anew fAn;rw[renL]
def keyT:Trm->List Key
 | .app w ks=>nd w ks.length
 |_=>[]
def addT:List (List Key×List Rl)->List Key->Rl->List (List Key×List Rl)
 | [],k,x=>[(k,[x])]
 | (k',l)::r,k,x=>if k'=k then(k',l++[x])::r else(k',l)::addT r k x
def tabF:List (Trm×List Trm)->Nat->List (List Key×List Rl)->List (List Key×List Rl)
 | [],_,tb=>tb
 |x::r,n,tb=>tabF r (n+1) (addT tb (keyT x.1) (mkRl (n+1) x))
def b5v(l:List (Trm×List Trm)):List (List Key×List Rl):=tabF l 0 []
theorem b7k:∀(l:List (Trm×List Trm))(x:Trm×List Trm)(n:Nat)(tb:List (List Key×List Rl)),tabF (l++[x]) n tb=addT (tabF l n tb) (keyT x.1) (mkRl (n+l.length+1) x)
 | [],x,n,tb=>rfl
 |y::l,x,n,tb=>by
  rw[X0,tabF,b7k l x,tabF,length_cons,show n+1+l.length+1=n+(l.length+1)+1 by omega]
structure RuOk(x:Trm×List Trm):Prop where
 ap:∃w ks,x.1=.app w ks
 z1:x.1.size<=60
 z2:∀g∈x.2,g.size<=60
 l:x.2.length<=10
theorem c0l{ts:List Trm}{B:Nat}(h:∀t∈ts,t.size<=B):Trm.sizeL ts<=ts.length*B:=by
 induction ts with
 |nil=>simp[Trm.sizeL]
 |cons t r ih=>
  rw[Trm.sizeL,length_cons,Nat.add_mul];have:=h t (Yp ..);have:=ih λt ht=>h t (Z8 _ ht)
  omega
mutual
theorem Dm.more{K:W.Frag}{M:List Addr}{H:Hp}{m:Addr}(n:H m=none):∀{v:V}{d:PyData},Dm K H M v d->Dm K H (m::M) v d
 |_,_,.non=>.non
 |_,_,.bl b=>.bl b
 |_,_,.int i=>.int i
 |_,_,.str x=>.str x
 |_,_,.tup h l=>.tup h (DmL.more n l)
 |_,_,.lst h e l=>.lst h (λz=>by
   rcases Zi.mp z with z|z
   ·rw[z,n]at h;cases h
   ·exact e z) (DmL.more n l)
theorem DmL.more{K:W.Frag}{M:List Addr}{H:Hp}{m:Addr}(n:H m=none):∀{v:List V}{d:List PyData},DmL K H M v d->DmL K H (m::M) v d
 |_,_,.nil=>.nil
 |_,_,.cons h l=>.cons (Dm.more n h) (DmL.more n l)
end
mutual
theorem Dm.weak{K:W.Frag}{M:List Addr}{H:Hp}:∀{v:V}{d:PyData},Dm K H M v d->Dm K H [] v d
 |_,_,.non=>.non
 |_,_,.bl b=>.bl b
 |_,_,.int i=>.int i
 |_,_,.str x=>.str x
 |_,_,.tup h l=>.tup h (DmL.weak l)
 |_,_,.lst h e l=>.lst h qz (DmL.weak l)
theorem DmL.weak{K:W.Frag}{M:List Addr}{H:Hp}:∀{v:List V}{d:List PyData},DmL K H M v d->DmL K H [] v d
 |_,_,.nil=>.nil
 |_,_,.cons h l=>.cons (Dm.weak h) (DmL.weak l)
end
structure TabM(K:W.Frag)(H0 H:Hp)(p:Addr)(M:List Addr)(kvs:List (List Key×V))(tab:List (List Key×List Rl)):Prop where
 sm:Same H0 H
 top:H p=some (.dT kvs)
 f:H0 p=none
 fm:∀m∈M,H0 m=none
 row:Paired (λ(a:List Key×V) (b:List Key×List Rl)=>a.1=b.1/\∃m us,a.2=.ref m/\m∈M/\H m=some (.lst us)/\DmL K H M us (b.2.map Rl.data)) kvs tab
 nd:(kvs.map (·.2)).Nodup
 ex:∀m∈M,∃us,H m=some (.lst us)
abbrev b0v(K:W.Frag):Sp:=λvs H Q _=>match vs with| [.ref a]=>∃(us:List V)(rs:List (Trm×List Trm)),SqL K H a us/\DenL K H us (rs.map ruE)/\(∀x∈rs,RuOk x)/\rs.length<=100/\∀p kvs H',Same H H'->H p=none->H' p=some (.dT kvs)->Tab K H' [] kvs (b5v rs)->Q (.ref p) H'|_=>False
theorem TabM.same{K:W.Frag}{H0 H H':Hp}{p:Addr}{M:List Addr}{kvs:List (List Key×V)}{tab:List (List Key×List Rl)}(h:TabM K H0 H p M kvs tab)(s:Same H H'):TabM K H0 H' p M kvs tab:=
 ⟨h.sm.trans s,s _ _ h.top,h.f,h.fm,Paired.mapP h.row λ_ _ ⟨e,m,us,e1,e2,e3,e4⟩=>⟨e,m,us,e1,e2,s _ _ e3,e4.pr (.same s)⟩,h.nd,λm hm=>let⟨us,e⟩:=h.ex m hm;⟨us,s _ _ e⟩⟩
theorem TabM.get{K:W.Frag}{H:Hp}{M:List Addr}{kvs:List (List Key×V)}{tab:List (List Key×List Rl)}(h:Paired (λ(a:List Key×V) (b:List Key×List Rl)=>a.1=b.1/\∃m us,a.2=.ref m/\m∈M/\H m=some (.lst us)/\DmL K H M us (b.2.map Rl.data)) kvs tab)(k:List Key)(x:Rl):(valV kvs k=none/\addT tab k x=tab++[(k,[x])]/\putK kvs k=λv=>kvs++[(k,v)])\/∃k1 k2 m l1 l2 us l,kvs=k1++(k,.ref m)::k2/\valV kvs k=some (.ref m)/\m∈M/\H m=some (.lst us)/\DmL K H M us (l.map Rl.data)/\tab=l1++(k,l)::l2/\addT tab k x=l1++(k,l++[x])::l2/\Paired (λ(a:List Key×V) (b:List Key×List Rl)=>a.1=b.1/\∃m us,a.2=.ref m/\m∈M/\H m=some (.lst us)/\DmL K H M us (b.2.map Rl.data)) k1 l1/\Paired (λ(a:List Key×V) (b:List Key×List Rl)=>a.1=b.1/\∃m us,a.2=.ref m/\m∈M/\H m=some (.lst us)/\DmL K H M us (b.2.map Rl.data)) k2 l2:=by
 induction h with
 |nil=>exact .inl ⟨rfl,rfl,rfl⟩
 | @cons a b kvs tab h t ih=>
  obtain⟨ka,va⟩:=a;obtain⟨kb,lb⟩:=b;obtain⟨e,m,us,e1,e2,e3,e4⟩:=h;have e:ka=kb:=e;have e1:va=.ref m:=e1;subst e;subst e1
  by_cases c:ka=k
  ·subst c;refine .inr ⟨[],kvs,m,[],tab,us,lb,rfl,?_,e2,e3,e4,rfl,?_,.nil,t⟩
   ·unfold valV;rw[Sl (by exact Zx rfl)];rfl
   ·rw[addT,if_pos rfl];rfl
  ·have ev:valV ((ka,V.ref m)::kvs) k=valV kvs k:=by
    unfold valV;rw[Sm (by simpa using c)]
   rcases ih with⟨g1,g2,g3⟩|⟨k1,k2,m',l1,l2,us',l,g1,g2,g3,g4,g5,g6,g7,g8,g9⟩
   ·refine .inl ⟨ev.trans g1,by rw[addT,if_neg c,g2];rfl,?_⟩
    funext v
    have g3:=congrFun g3 v;unfold putK at g3 ⊢;have hn:(kvs.any λkv=>decide (kv.1=k))=false:=by
     cases hh:(kvs.any λkv=>decide (kv.1=k))with
     |false=>rfl
     |true=>
      rw[List.any_eq_true]at hh;obtain⟨kv,z1,z2⟩:=hh;unfold valV at g1;have:=U3.mp (Sh.mp g1) kv z1;exact absurd z2 this
    rw[Wa,hn,Zo c];rfl
   ·refine .inr ⟨(ka,.ref m)::k1,k2,m',(ka,lb)::l1,l2,us',l,by rw[g1];rfl,ev.trans g2,g3,g4,g5,by rw[g6];rfl,by rw[addT,if_neg c,g7];rfl,.cons ⟨rfl,m,us,rfl,e2,e3,e4⟩ g8,g9⟩
mutual
theorem Dm.kl{K:W.Frag}{M:List Addr}{H H':Hp}(k:∀a us,a∉M->H a=some (.lst us)->H' a=some (.lst us))(kt:KT K H H'):∀{v:V}{d:PyData},Dm K H M v d->Dm K H' M v d
 |_,_,.non=>.non
 |_,_,.bl b=>.bl b
 |_,_,.int i=>.int i
 |_,_,.str x=>.str x
 |_,_,.tup h l=>.tup (kt _ _ h) (DmL.kl k kt l)
 |_,_,.lst h n l=>.lst (k _ _ n h) n (DmL.kl k kt l)
theorem DmL.kl{K:W.Frag}{M:List Addr}{H H':Hp}(k:∀a us,a∉M->H a=some (.lst us)->H' a=some (.lst us))(kt:KT K H H'):∀{v:List V}{d:List PyData},DmL K H M v d->DmL K H' M v d
 |_,_,.nil=>.nil
 |_,_,.cons h l=>.cons (Dm.kl k kt h) (DmL.kl k kt l)
end
abbrev TR(K:W.Frag)(H:Hp)(M:List Addr):List Key×V->List Key×List Rl->Prop:=λa b=>a.1=b.1/\∃m us,a.2=.ref m/\m∈M/\H m=some (.lst us)/\DmL K H M us (b.2.map Rl.data)
theorem TR.apart{K:W.Frag}{H:Hp}{M:List Addr}{m:Addr}{o:HO}(p:Pr K M H (upd H m o)){k1:List (List Key×V)}{l1:List (List Key×List Rl)}(h:Paired (TR K H M) k1 l1)(n:V.ref m∉k1.map (·.2)):Paired (TR K (upd H m o) M) k1 l1:=by
 induction h with
 |nil=>exact .nil
 |cons z _ ih=>
  obtain⟨e,m',us,e1,e2,e3,e4⟩:=z;rw[Z4]at n;have hne:m'≠m:=λz=>n (by rw[e1,z];exact Yp ..)
  exact .cons ⟨e,m',us,e1,e2,by rw[a0p hne];exact e3,e4.pr p⟩ (ih λz=>n (Z8 _ z))
theorem b5w{α β:Type}{F:α->β->Prop}:∀{a1:List α}{b1:List β}{a2:List α}{b2:List β},Paired F a1 b1->Paired F a2 b2->Paired F (a1++a2) (b1++b2)
 |_,_,_,_,.nil,h=>h
 |_,_,_,_,.cons a t,h=>.cons a (b5w t h)
section
variable{K:W.Frag}{H0 H H1:Hp}{p:Addr}{M:List Addr}{kvs:List (List Key×V)}{tab:List (List Key×List Rl)}
theorem TabM.notM(h:TabM K H0 H p M kvs tab){a:Addr}(e:H a=none):a∉M:=λz=>by
 obtain⟨us,e2⟩:=h.ex a z;rw[e]at e2;cases e2
theorem TabM.app(h:TabM K H0 H p M kvs tab){k:List Key}{m:Addr}{v:V}{x:Rl}(hv:valV kvs k=some (.ref m))(d:Dm K H M v x.data):∃us,H m=some (.lst us)/\(∃b∈addT tab k x,b.2.length=us.length+1)/\TabM K H0 (upd H m (.lst (us++[v]))) p M kvs (addT tab k x)/\Pr K M H (upd H m (.lst (us++[v]))):=by
 rcases TabM.get h.row k x with⟨g1,_,_⟩|⟨k1,k2,m',l1,l2,us,l,g1,g2,g3,g4,g5,g6,g7,g8,g9⟩
 ·rw[hv]at g1;cases g1
 ·rw[hv]at g2;cases g2;have pr:Pr K M H (upd H m (.lst (us++[v]))):=.upd g3 g4 (λ_ z=>by cases z) (λ_ _ z=>by cases z);have nd:=h.nd;rw[g1,Zt,Vb,Z4]at nd;have n1:V.ref m∉k1.map (·.2):=λz=>nd.2.2 _ z _ (Yp ..) rfl
  have n2:V.ref m∉k2.map (·.2):=(X5.mp nd.2.1).1;have hl:=g5.length;rw[length_map]at hl;refine⟨us,g4,⟨(k,l++[x]),by rw[g7];simp,by simp[hl]⟩,⟨a1f h.sm (h.fm m g3),?_,h.f,h.fm,?_,h.nd,λa ha=>?_⟩,pr⟩
  ·rw[a0p (a6t h.top g4 (λz=>by cases z))];exact h.top
  ·rw[g7,g1];refine b5w (TR.apart pr g8 n1) (.cons ⟨rfl,m,_,rfl,g3,a0c,?_⟩ (TR.apart pr g9 n2));rw[Zt];exact(g5.pr pr).append (.cons (d.pr pr) .nil)
  ·by_cases c:a=m
   ·rw[c];exact⟨_,a0c⟩
   ·obtain⟨us2,e2⟩:=h.ex a ha;exact⟨us2,by rw[a0p c];exact e2⟩
theorem TabM.at(h:TabM K H0 H p M kvs tab){k:List Key}{m:Addr}(hv:valV kvs k=some (.ref m)):∃us,H m=some (.lst us):=by
 rcases TabM.get h.row k ⟨0,.num 0,[]⟩with⟨g1,_,_⟩|⟨k1,k2,m',l1,l2,us,l,g1,g2,g3,g4,_⟩
 ·rw[hv]at g1;cases g1
 ·rw[hv]at g2;cases g2;exact⟨us,g4⟩
theorem TabM.setd(h:TabM K H0 H1 p M kvs tab){k:List Key}{px pe:Addr}(hx:H1 px=some (.tup (k.map kV)))(he:H1 pe=none)(hz:kvs.length<=1000){Q:VK}
  (kq:∀H2 m M' kvs' tab',TabM K H0 H2 p M' kvs' tab'->valV kvs' k=some (.ref m)->(∀x,addT tab' k x=addT tab k x)->kvs'.length<=kvs.length+1->KT K H1 H2->(∀a us,a∉M->H1 a=some (.lst us)->H2 a=some (.lst us)/\a∉M')->Q (.ref m) H2):c0c (.ref p) [.ref px,.ref pe] (upd H1 pe (.lst [])) Q:=by
 have s1:=a0d he (.lst []);have h1:=h.same s1;refine d0c h1.top (s1 _ _ hx) (ln qo) (λv hv=>?_) λhv=>?_
 ·rcases TabM.get h.row k ⟨0,.num 0,[]⟩with⟨g1,_,_⟩|⟨k1,k2,m',l1,l2,us,l,g1,g2,g3,g4,g5,g6,g7,g8,g9⟩
  ·rw[hv]at g1;cases g1
  ·rw[hv]at g2;cases g2;exact kq _ m' M kvs tab h1 hv (λ_=>rfl) (Vy _) (KT.same s1) λa us n e=>⟨s1 _ _ e,n⟩
 ·have hpe0:H0 pe=none:=by
   cases e:H0 pe with
   |none=>rfl
   |some o=>rw[h.sm _ _ e]at he;cases he
  have npe:pe≠p:=λz=>by rw[z,h.top]at he;cases he
  have hM:pe∉M:=h.notM he;rcases TabM.get h.row k ⟨0,.num 0,[]⟩with⟨g1,_,g3⟩|⟨_,_,_,_,_,_,_,_,g2,_⟩
  rotate_left
  ·rw[hv]at g2;cases g2
  have g3:=congrFun g3 (.ref pe);rw[g3];have kt:KT K (upd H1 pe (.lst [])) (upd (upd H1 pe (.lst [])) p (.dT (kvs++[(k,.ref pe)]))):=.upd h1.top (λ_ z=>by cases z) (λ_ _ z=>by cases z);have kl:∀a us,(upd H1 pe (.lst [])) a=some (.lst us)->(upd (upd H1 pe (.lst [])) p (.dT (kvs++[(k,.ref pe)]))) a=some (.lst us):=λa us e=>by rw[a0p (a6t e h1.top (λz=>by cases z))];exact e
  have hnew:∀x,addT (tab++[(k,[])]) k x=addT tab k x:=λx=>by
   rcases TabM.get h.row k x with⟨_,g2,_⟩|⟨_,_,_,_,_,_,_,_,g2,_⟩
   ·rw[g2];have:∀(tb:List (List Key×List Rl)),addT tb k x=tb++[(k,[x])]->addT (tb++[(k,[])]) k x=tb++[(k,[x])]:=λtb=>by
     induction tb with
     |nil=>intro _;show addT [(k,[])] k x=_;rw[addT,if_pos rfl];rfl
     |cons y r ih=>
      intro e;obtain⟨ky,ly⟩:=y;rw[addT]at e;rw[X0,addT]
      by_cases c:ky=k
      ·rw[if_pos c]at e
       exfalso
       have:=Y0 List.length e
       simp at this
      ·rw[if_neg c]at e ⊢;rw[ih (Xi e).2];rfl
    exact this tab g2
   ·rw[hv]at g2;cases g2
  refine kq _ pe (pe::M) (kvs++[(k,.ref pe)]) (tab++[(k,[])]) ⟨a1f h1.sm h.f,a0c,h.f,λm hm=>?_,?_,?_,λm hm=>?_⟩ ?_ hnew qz ((KT.same s1).trans kt) (λa us n e=>⟨kl _ _ (s1 _ _ e),λz=>?_⟩)
  ·rcases Zi.mp hm with z|z
   ·rw[z];exact hpe0
   ·exact h.fm m z
  ·refine S2 (Paired.mapP h.row λ_ _ ⟨e,m,us,e1,e2,e3,e4⟩=>⟨e,m,us,e1,Z8 _ e2,kl _ _ (s1 _ _ e3),((e4.more he).pr (.same s1)).kl (λa us _ e=>kl _ _ e) kt⟩) ⟨rfl,pe,[],rfl,Yp ..,kl _ _ a0c,.nil⟩
  ·rw[Zt,Vb];refine⟨h.nd,qz,λa ha b hb z=>?_⟩;have hb:b=.ref pe:=by simpa using hb
   obtain⟨kv,hkv,e1⟩:=Yb.mp ha;have:∀{k1:List (List Key×V)}{l1:List (List Key×List Rl)},Paired (TR K H1 M) k1 l1->∀y∈k1,∃m us,y.2=.ref m/\H1 m=some (.lst us):=λ{k1 l1} q=>by
    induction q with
    |nil=>intro y hy;simp at hy
    |cons a t ih=>
     intro y hy;obtain⟨_,m,us,c1,_,c3,_⟩:=a;rcases Zi.mp hy with z|z
     ·rw[z];exact⟨m,us,c1,c3⟩
     ·exact ih y z
   obtain⟨m,us,c1,c2⟩:=this h.row kv hkv;rw[<-e1,c1,hb]at z;cases z;rw[he]at c2;cases c2
  ·rcases Zi.mp hm with z|z
   ·rw[z];exact⟨_,kl _ _ a0c⟩
   ·obtain⟨us,e⟩:=h.ex m z;exact⟨us,kl _ _ (s1 _ _ e)⟩
  ·unfold valV at hv ⊢;rw[List.find?_append,Sh.mp hv]
   simp
  ·rcases Zi.mp z with z|z
   ·rw[z,he]at e;cases e
   ·exact n z
end
theorem b4m{k:List Key}{x:Rl}{n:Nat}:∀{tb:List (List Key×List Rl)},(∀b∈tb,b.2.length<=n)->∀b∈addT tb k x,b.2.length<=n+1
 | [],_,b,hb=>by
  rw[addT]at hb;rw[Zu.mp hb]
  show 1<=n+1
  omega
 | (k',l)::r,h,b,hb=>by
  rw[addT]at hb;have h1:l.length<=n:=h (k',l) (Yp ..)
  by_cases c:k'=k
  ·rw[if_pos c]at hb;rcases Zi.mp hb with z|z
   ·rw[z];simp;exact h1
   ·have:=h b (Z8 _ z);omega
  ·rw[if_neg c]at hb;rcases Zi.mp hb with z|z
   ·rw[z];show l.length<=n+1;omega
   ·exact b4m (λb hb=>h b (Z8 _ hb)) b z
theorem c0m:∀{rs:List (Trm×List Trm)}{k n:Nat}{tb:List (List Key×List Rl)},(∀b∈tb,b.2.length<=n)->∀b∈tabF rs k tb,b.2.length<=n+rs.length
 | [],k,n,tb,h,b,hb=>h b hb
 |x::r,k,n,tb,h,b,hb=>by
  rw[tabF]at hb;have:=c0m (b4m h) b hb;rw[length_cons];omega
mutual
def mt:Trm->Trm->Rws->Option Rws
 | .any x,u,r=>match a3i r x with|some v=>if eqb v u=true then some r else none|none=>some (putR r x u)
 | .num a,.num b,r=>if a=b then some r else none
 | .app s ks,.app s' ls,r=>if s=s'/\ks.length=ls.length then mtL ks ls r else none
 | .num _,.any _,_=>none
 | .num _,.app _ _,_=>none
 | .app _ _,.any _,_=>none
 | .app _ _,.num _,_=>none
def mtL:List Trm->List Trm->Rws->Option Rws
 |k::ks,l::ls,r=>(mt k l r).bind (mtL ks ls)
 | [],_,r=>some r
 |_::_,[],r=>some r
end
theorem mt_none{r:Rws}{x:Str}{u:Trm}(h:a3i r x=none):mt (.any x) u r=some (putR r x u):=by rw[mt,h]
theorem mt_some{r:Rws}{x:Str}{u v:Trm}(h:a3i r x=some v):mt (.any x) u r=if eqb v u=true then some r else none:=by rw[mt,h]
theorem b5x{a b:Trm}{r:Rws}{ks:List Key}(h:keyK a=some ks)(hn:keyK b≠some ks):mt a b r=none:=by
 cases a with
 |any _=>cases h
 |num m=>
  cases h;cases b with
  |any _=>rw[mt]
  |app _ _=>rw[mt]
  |num m'=>
   rw[mt,if_neg (λe=>hn (by rw[e];rfl))]
 |app s ks=>
  cases h;cases b with
  |any _=>rw[mt]
  |num _=>rw[mt]
  |app s' ls=>
   rw[mt,if_neg (λe=>hn (by rw[e.1,e.2];rfl))]
def mtP:List (Trm×Trm)->Rws->Option Rws
 | [],r=>some r
 |p::ps,r=>(mt p.1 p.2 r).bind (mtP ps)
theorem c2u:∀(ks ls:List Trm)(ps:List (Trm×Trm))(r:Rws),ks.length=ls.length->mtP (ks.zip ls++ps) r=(mtL ks ls r).bind (mtP ps)
 | [],[],ps,r,_=>by simp[mtL]
 |k::ks,l::ls,ps,r,h=>by
  simp only[Rt,X0,mtP,mtL,Option.bind_assoc];cases mt k l r with
  |none=>rfl
  |some r'=>exact c2u ks ls ps r' (by simpa using h)
 | [],_::_,_,_,h=>by simp at h
 |_::_,[],_,_,h=>by simp at h
def b0w(p:Trm×Trm):PyData:=.tuple [p.1.data,p.2.data]
theorem d0t{K:W.Frag}{H:Hp}{v:V}{p:Trm×Trm}(h:Den K H v (b0w p)):∃q x y,v=.ref q/\SqT K H q [x,y]/\Den K H x p.1.data/\Den K H y p.2.data:=by
 cases h with
 |tup hs hl=>
  cases hl with
  |cons a r=>
   cases r with
   |cons b z=>
    cases z;exact⟨_,_,_,rfl,hs,a,b⟩
theorem b5y{K:W.Frag}{H:Hp}:∀(qs:List Addr)(xs ys:List V)(ks ls:List Trm),qs.length=xs.length->ys.length=xs.length->a8g H qs xs ys->DenL K H xs (Trm.dataL ks)->DenL K H ys (Trm.dataL ls)->DenL K H (qs.map V.ref) ((ks.zip ls).map b0w)
 | [],[],[],[],[],_,_,_,_,_=>.nil
 |q::qs,x::xs,y::ys,k::ks,l::ls,h1,h2,pr,d1,d2=>by
  simp only[Trm.dataL]at d1 d2;cases d1 with
  |cons a1 r1=>
   cases d2 with
   |cons a2 r2=>
    refine .cons (.tup (SqT.of (pr 0 q x y rfl rfl rfl)) (.cons a1 (.cons a2 .nil))) (b5y qs xs ys ks ls (by simpa using h1) (by simpa using h2) (λj q' x' y' g1 g2 g3=>pr (j+1) q' x' y' (by simpa using g1) (by simpa using g2) (by simpa using g3)) r1 r2)
 | [],_::_,_,_,_,h1,_,_,_,_=>by simp at h1
 |_::_,[],_,_,_,h1,_,_,_,_=>by simp at h1
 |_,[],_::_,_,_,_,h2,_,_,_=>by simp at h2
 |_,_::_,[],_,_,_,h2,_,_,_=>by simp at h2
 |_,[],_,_::_,_,_,_,_,d1,_=>by simp only[Trm.dataL]at d1;cases d1
 |_,_::_,_,[],_,_,_,_,d1,_=>by simp only[Trm.dataL]at d1;cases d1
 |_,_,[],_,_::_,_,_,_,_,d2=>by simp only[Trm.dataL]at d2;cases d2
 |_,_,_::_,_,[],_,_,_,_,d2=>by simp only[Trm.dataL]at d2;cases d2
def a2z(ps:List (Trm×Trm)):Nat:=Trm.sizeL (ps.map (·.1))
theorem a7m(a b:List (Trm×Trm)):a2z (a++b)=a2z a+a2z b:=by
 unfold a2z;rw[Zt,Trm.sizeL_app]
theorem b7l:∀(ks ls:List Trm),ks.length=ls.length->a2z (ks.zip ls).reverse=Trm.sizeL ks
 | [],[],_=>rfl
 |k::ks,l::ls,h=>by
  rw[Rt,Xv,a7m,b7l ks ls (by simpa using h)];simp only[a2z,Z4,Wv,Trm.sizeL];omega
 | [],_::_,h=>by simp at h
 |_::_,[],h=>by simp at h
theorem c7q(ps:List (Trm×Trm)):ps.length<=a2z ps:=by
 have:=Trm.len_le (ps.map (·.1));rw[length_map]at this;exact this
structure RwOk(rows:Rws)(n:Nat):Prop where
 len:rows.length<=n
 small:∀r∈rows,r.2.size<=70
theorem RwOk.put{rows:Rws}{n:Nat}(h:RwOk rows n){x:Str}{t:Trm}(ht:t.size<=70):RwOk (putR rows x t) (n+1):=by
 unfold putR
 split
 ·refine⟨by rw[length_map];have:=h.len;omega,λr hr=>?_⟩;obtain⟨q,hq,rfl⟩:=Yb.mp hr
  split
  ·exact ht
  ·exact h.small q hq
 ·refine⟨by rw[Zj,Zm];have:=h.len;omega,λr hr=>?_⟩;rcases Yt.mp hr with z|z
  ·exact h.small r z
  ·rw[Zu.mp z];exact ht
def onM(K:W.Frag)(H:Hp)(Q:VK):Option Rws->Prop
 |none=>∀H',Same H H'->Q .non H'
 |some rows=>∀p H',Same H H'->H p=none->a4s K H' p rows->Q (.ref p) H'
abbrev b0x(K:W.Frag):Sp:=λvs H Q _=>match vs with| [v,v',.ref pd]=>∃(t t':Trm)(rows:Rws),Den K H v t.data/\Den K H v' t'.data/\a4s K H pd rows/\RwOk rows 1000/\t.size<=70/\t'.size<=70/\onM K H Q (mt t t' rows)|_=>False
theorem c1i:(ofString "ABCDEFGHIJKLMNOPQRSTUVWXYZ").cps.toList.Nodup:=by decide+kernel
abbrev b2e(K:W.Frag):Sp:=λvs H Q _=>match vs with| [.ref a]=>∃ns:List Int,SqL K H a (ns.map V.int)/\ns.length<=63/\(∀n∈ns,Builtin.Int.intBits n<=1048576)/\∀H',Q (.bl true) H'|_=>False
abbrev a3q:Str:=ofString "+"
abbrev a1i:Str:=ofString "-"
abbrev a1r:Str:=ofString "*"
abbrev a1n:Str:=ofString "/"
abbrev a1t:Str:=ofString "/:"
abbrev openS:Str:=ofString "open"
abbrev b8k:Str:=ofString "kind"
abbrev b3c:Str:=ofString "nought"
abbrev farS:Str:=ofString "far"
def five:List Str:=[a3q,a1i,a1r,a1n,a1t]
abbrev Res:=Int ⊕ Str
def near(n:Int):Res:=if 10^30<=(if n<0 then -n else n)then .inr farS else .inl n
def a2a(m:Str)(l r:Int):Res:=if m=a3q then .inl (l+r)else if m=a1i then .inl (l-r)else if m=a1r then .inl (l*r)else if r=0 then .inr b3c else if m=a1n then .inl (l.fdiv r)else .inl (l.fmod r)
def a6h(m:Str)(a b:Res):Res:=match a with
 | .inr w=>.inr w
 | .inl l=>match b with
  | .inr w=>.inr w
  | .inl r=>match a2a m l r with
   | .inr w=>.inr w
   | .inl n=>near n
mutual
def ev:Trm->Res
 | .num n=>.inl n
 | .any _=>.inr openS
 | .app sg ks=>if sg∈five then(match evL ks with| [a,b]=>a6h sg a b|_=>.inr b8k)else .inr b8k
def evL:List Trm->List Res
 | []=>[]
 |t::r=>ev t::evL r
end
theorem c7r{sg:Str}{a b:Trm}(h:sg∈five):ev (.app sg [a,b])=a6h sg (ev a) (ev b):=by simp only[ev,if_pos h,evL]
theorem c2v{sg:Str}{ks:List Trm}(h:sg∉five):ev (.app sg ks)=.inr b8k:=by simp only[ev,if_neg h]
def small(n:Int):Prop:=-(10^30)<n/\n<10^30
mutual
def wfT:Trm->Prop
 | .num n=>small n
 | .any _=>True
 | .app sg ks=>(sg∈five->ks.length=2)/\wfTL ks
def wfTL:List Trm->Prop
 | []=>True
 |t::r=>wfT t/\wfTL r
end
theorem c4f{n m:Int}(h:near n=.inl m):m=n/\small n:=by
 unfold near at h
 by_cases hn:10^30<=(if n<0 then -n else n)
 ·rw[if_pos hn]at h;cases h
 ·rw[if_neg hn]at h
  injection h with h
  refine⟨h.symm,?_⟩;unfold small
  by_cases h0:n<0
  ·rw[if_pos h0]at hn;omega
  ·rw[if_neg h0]at hn;omega
theorem c4g{m:Str}{a b:Res}{n:Int}(h:a6h m a b=.inl n):small n:=by
 unfold a6h at h;split at h
 ·cases h
 ·split at h
  ·cases h
  ·split at h
   ·cases h
   ·obtain⟨rfl,hs⟩:=c4f h;exact hs
theorem b4n{t:Trm}(hw:wfT t){n:Int}(h:ev t=.inl n):small n:=by
 cases t with
 |num k=>simp only[ev]at h;cases h;exact hw
 |any x=>simp only[ev]at h;cases h
 |app sg ks=>
  simp only[ev]at h;split at h
  ·split at h
   ·exact c4g h
   ·cases h
  ·cases h
theorem b7m{n:Int}(h:small n):n.natAbs<10^30:=by
 obtain⟨a,b⟩:=h;omega
theorem b5z{n:Int}(h:small n):Builtin.Int.intBits n<=100:=c2h n 100 (Ue (b7m h) qd)
theorem b2f{a b:Int}(h:small a)(g:small b):IntMulOk a b:=b5h (by have:=b5z h;have:=b5z g;omega)
theorem b2g{a b:Int}(h:small b)(h0:b≠0):b8i a b:=⟨h0,Ue (b7m h) qk⟩
def a8y(H:Hp)(C:Addr)(Q:VK)(E:XK):Res->Prop
 | .inl n=>∀H',Same H H'->Q (.int n) H'
 | .inr w=>∀ea H',Same H H'->IsX H' ea C [(rowS,.int 0),(b5i,.str w)]->E (.ref C) (some ea) H'
abbrev a3d(K:W.Frag)(C:Addr)(n:Nat):Sp:=λvs H Q E=>match vs with| [v]=>∃t:Trm,Den K H v t.data/\wfT t/\t.size<=n/\a8y H C Q E (ev t)|_=>False
abbrev a8b(C:Addr):Sp:=λvs H Q E=>match vs with| [.str m,.int l,.int r]=>m∈five/\small l/\small r/\a8y H C Q E (a2a m l r)|_=>False
abbrev a4u(C:Addr):Sp:=λvs H Q E=>match vs with| [.int n]=>a8y H C Q E (near n)|_=>False
theorem two_dat{K:W.Frag}{H:Hp}{us:List V}{a b:Trm}(h:DenL K H us (Trm.dataL [a,b])):∃x y,us=[x,y]/\Den K H x a.data/\Den K H y b.data:=by
 simp only[Trm.dataL]at h;cases h with
 |cons h1 h=>
  cases h with
  |cons h2 h=>cases h;exact⟨_,_,rfl,h1,h2⟩
theorem c0n{l r:Int}(h:0<r):0<=l.fmod r/\l.fmod r<r:=⟨Int.fmod_nonneg_of_pos l h,Int.fmod_lt_of_pos l h⟩
theorem d0u{l r:Int}(h:r<0):r<l.fmod r/\l.fmod r<=0:=by
 have e:l.fmod r= -((-l).fmod (-r)):=by
  have:=Int.neg_fmod_neg l r;omega
 have:=c0n (l:=-l) (r:=-r) qo;omega
theorem c7s(l r:Int):l.fdiv r*r+l.fmod r=l:=by
 have:=Int.mul_fdiv_add_fmod l r;rw[Int.mul_comm]at this;exact this
theorem c7t{l r:Int}(h:small l)(h0:r≠0):small (l.fdiv r):=by
 have e:=c7s l r;generalize l.fdiv r=q at e;unfold small at*;have key:q.natAbs<=l.natAbs:=by
  rcases Int.lt_or_gt_of_ne h0 with z|z
  ·have hm:=d0u (l:=l) z;generalize l.fmod r=m at e hm;rcases(show q<=-1\/q=0\/1<=q by omega)with c|c|c
   ·have h1:(q+1)*(-1)<=(q+1)*r:=Tp qo qo;rw[Int.add_mul q 1 r,Int.one_mul]at h1;omega
   ·omega
   ·have h1:q*r<=q*(-1):=Wj qo qo;omega
  ·have hm:=c0n (l:=l) z;generalize l.fmod r=m at e hm;rcases(show q<=-1\/q=0\/1<=q by omega)with c|c|c
   ·have h1:(q+1)*r<=(q+1)*1:=Tp qo qo;rw[Int.add_mul q 1 r,Int.one_mul]at h1;omega
   ·omega
   ·have h1:q*1<=q*r:=Wj qo qo;omega
 omega
theorem d0v{m:Str}{l r n:Int}(h:a2a m l r=.inl n):a6h m (.inl l) (.inl r)=near n:=by simp only[a6h,h]
theorem c7u{m:Str}{l:Int}(h:m=a1n\/m=a1t):a6h m (.inl l) (.inl 0)=.inr b3c:=by
 have hb:a2a m l 0=.inr b3c:=by rcases h with rfl|rfl<;>(unfold a2a;rw[if_neg qk,if_neg qk,if_neg qk,if_pos rfl])
 simp only[a6h,hb]
abbrev yesS:Str:=ofString "yes"
theorem DmL.get{K:W.Frag}{M:List Addr}{H:Hp}:∀{us:List V}{ds:List PyData}{i:Nat}{u:V},DmL K H M us ds->us[i]? =some u->∃d,ds[i]? =some d/\Dm K H M u d
 |_,_,0,u,.cons a _,e=>⟨_,rfl,by cases e;exact a⟩
 |_,_,i+1,u,.cons _ l,e=>DmL.get (i:=i) l (by simpa using e)
 |_,_,i,u,.nil,e=>by simp at e
theorem ru_pair{K:W.Frag}{H:Hp}{u:V}{x:Trm×List Trm}(h:Den K H u (ruE x)):∃a hv gp ug,u=.ref a/\SqT K H a [hv,.ref gp]/\Den K H hv x.1.data/\SqT K H gp ug/\DenL K H ug (Trm.dataL x.2):=by
 cases h with
 |tup c d=>
  cases d with
  |cons e f=>
   cases f with
   |cons g h=>
    cases h;cases g with
    |tup i j=>exact⟨_,_,_,_,rfl,c,e,i,j⟩
theorem ru_mk{K:W.Frag}{H:Hp}{a gp:Addr}{hv:V}{ug:List V}{x:Trm×List Trm}(h1:SqT K H a [hv,.ref gp])(h2:Den K H hv x.1.data)(h3:SqT K H gp ug)(h4:DenL K H ug (Trm.dataL x.2)):Den K H (.ref a) (ruE x):=
 .tup h1 (.cons h2 (.cons (.tup h3 h4) .nil))
structure b0y(ws:List Str):Prop where
 l:ws.length=4
 w:∀x∈ws,Wd x
 s:∀x∈ws,x.length<=30
structure RuG(x:Trm×List Trm):Prop where
 ap:∃s ks,x.1=.app s ks
 z1:x.1.size<=25
 z2:∀g∈x.2,g.size<=25
 l:x.2.length<=2
theorem a2h{α:Type}{xs:List α}{i:Int}{v:α}(h0:0<=i)(h:xs[i.toNat]? =some v):atI xs i=some v:=by
 have hl:=(Z7.mp h).1;obtain⟨u,e1,e2⟩:=a3t (xs:=xs) h0 qo;rw[e1];rw[h]at e2;exact e2.symm
theorem c7v{α:Type}{ks:List α}(h:ks.length=2):∃a b,ks=[a,b]:=by
 match ks,h with
 | [a,b],_=>exact⟨a,b,rfl⟩
theorem a8r{K:W.Frag}{H:Hp}{us:List V}{k1 k2:Trm}(h:DenL K H us (Trm.dataL [k1,k2])):∃u1 u2,us=[u1,u2]/\Den K H u1 k1.data/\Den K H u2 k2.data:=by
 simp only[Trm.dataL]at h;cases h with
 |cons a r=>
  cases r with
  |cons b z=>
   cases z;exact⟨_,_,rfl,a,b⟩
theorem d0w{l:List Int}{i:Nat}(h:i<l.length):(l.map V.int).getD i .non=.int l[i]:=by
 rw[Zr,Z5,Zb h];rfl
def pIs(K:W.Frag)(H:Hp):V->Option Rws->Prop
 |v,none=>v=.non
 |v,some rows=>∃p,v=.ref p/\a4s K H p rows
theorem on_m{K:W.Frag}{H:Hp}{Q:VK}{r:Option Rws}(k:∀w H1,Same H H1->pIs K H1 w r->Q w H1):onM K H Q r:=by
 cases r with
 |none=>exactλH' s=>k _ _ s rfl
 |some rows=>exactλp H' s _ h=>k _ _ s ⟨p,rfl,h⟩
theorem tru_eq{K:W.Frag}{f:Bool->Hp->Prop}{b b':Bool}{H:Hp}(e:b=b')(h:mTru K f (.bl b') H):mTru K f (.bl b) H:=by
 subst e;exact h
theorem b6r{c:Bool}{σ:L2.St}{H:Hp}{T:L2.St->Hp->(Bool->Hp->Prop)->Prop}{K:Bool->Hp->Prop}(hF:K false H)(h:K false H->c=true->T σ H K):if c=true then T σ H K else K false H:=by
 cases c with
 |true=>exact h hF rfl
 |false=>exact hF
theorem c0o{c:Bool}{σ:L2.St}{H:Hp}{T:L2.St->Hp->(Bool->Hp->Prop)->Prop}{K:Bool->Hp->Prop}(hT:K true H)(h:K true H->c=false->T σ H K):if c=true then K true H else T σ H K:=by
 cases c with
 |true=>exact hT
 |false=>exact h hT rfl
theorem c2w{K:W.Frag}{H:Hp}{us:List V}{ts:List Trm}{u:V}{t:Trm}(h:DenL K H us (Trm.dataL ts))(d:Den K H u t.data):DenL K H (us++[u]) (Trm.dataL (ts++[t])):=by
 rw[a7l];exact h.append (.cons d .nil)
theorem a8z(ts:List Trm)(t:Trm):Trm.sizeL (ts++[t])=Trm.sizeL ts+t.size:=by
 rw[Trm.sizeL_app]
 simp[Trm.sizeL]
theorem rule_at{K:W.Frag}{H:Hp}{us:List V}{rs:List (Trm×List Trm)}(d:DenL K H us (rs.map ruE)){k:Nat}(hk:k<rs.length):∃u a hv gp ug,us[k]? =some u/\u=.ref a/\SqT K H a [hv,.ref gp]/\Den K H hv (rs[k]).1.data/\SqT K H gp ug/\DenL K H ug (Trm.dataL (rs[k]).2):=by
 have hl:=d.length;rw[length_map]at hl;have hu:us[k]? =some us[k]:=Zb qo
 obtain⟨d,e1,e2⟩:=d.get hu;rw[Z5,Zb hk]at e1;obtain rfl:ruE rs[k]=d:=Zl e1;obtain⟨a,hv,gp,ug,e3,h1,h2,h3,h4⟩:=ru_pair e2;exact⟨_,a,hv,gp,ug,hu,e3,h1,h2,h3,h4⟩
theorem b6a{n:Nat}:∀{ds:List PyData},(∀d∈ds,d.depth<=n)->PyData.depthAll ds<=n
 | [],_=>by simp[PyData.depthAll]
 |d::ds,h=>by
  have h1:=h d qz;have h2:=b6a (ds:=ds) λx hx=>h x (by simp[hx])
  unfold PyData.depthAll;omega
theorem dp_ints(l:List Int):PyData.depthAll (l.map PyData.int)<=1:=b6a λd hd=>by
 obtain⟨t,_,rfl⟩:=Yb.mp hd
 simp[PyData.depth]
theorem RuG.ok{x:Trm×List Trm}(h:RuG x):RuOk x:=⟨h.ap,by have:=h.z1;omega,λg hg=>by have:=h.z2 g hg;omega,by have:=h.l;omega⟩
theorem c7w{K:W.Frag}{H:Hp}{us:List V}{ts:List Trm}(h:DenL K H us (Trm.dataL ts)){i:Nat}(hi:i<ts.length):∃u,us[i]? =some u/\us.getD i .non=u/\Den K H u (ts[i]).data:=by
 have hl:=a3z h;have hu:us[i]? =some us[i]:=Zb qo
 obtain⟨d,e1,e2⟩:=h.get hu;rw[Trm.dataL_map,Z5,Zb hi]at e1;obtain rfl:(ts[i]).data=d:=Zl e1;exact⟨_,hu,by rw[Zr,hu];rfl,e2⟩
abbrev lkF(a b c:Addr):List (Str×V):=[(ofString "rules",.ref a),(ofString "worded",.ref b),(ofString "rows",.ref c)]
section
variable{a b c:Addr}
theorem c0p:(lkF a b c).lookup (ofString "rules")=some (.ref a):=b5t (i:=0) (by show[ofString "rules",ofString "worded",ofString "rows"].findIdx? _=_;decide+kernel) rfl
theorem b3d:(lkF a b c).lookup (ofString "rows")=some (.ref c):=b5t (i:=2) (by show[ofString "rules",ofString "worded",ofString "rows"].findIdx? _=_;decide+kernel) rfl
theorem b3e{f:Str}(h:[ofString "rules",ofString "worded",ofString "rows"].all (λg=>!(f==g))=true):(lkF a b c).lookup f=none:=c7o (by show[ofString "rules",ofString "worded",ofString "rows"].all _=_;exact h)
end
section
variable{a b c:Addr}
theorem c7x:(lkF a b c).lookup (ofString "worded")=some (.ref b):=b5t (i:=1) (by show[ofString "rules",ofString "worded",ofString "rows"].findIdx? _=_;decide+kernel) rfl
end
abbrev noS:Str:=ofString "no"
abbrev asS:Str:=ofString ":="
abbrev ltS:Str:=ofString "<"
abbrev leS:Str:=ofString "<="
inductive Rx
 |yes(goal:Trm)(n:Int)(kids:List Int)
 |no(goals:List Trm)
def Rx.data:Rx->PyData
 | .yes g n ks=>.tuple [.str yesS,g.data,.int n,nbD ks]
 | .no gs=>.tuple [.str noS,.list (Trm.dataL gs),.list []]
theorem c0q{K:W.Frag}{M:List Addr}{H:Hp}{v:V}{g:Trm}{n:Int}{ks:List Int}(h:Dm K H M v (Rx.yes g n ks).data):∃a gv kp,v=.ref a/\SqT K H a [.str yesS,gv,.int n,.ref kp]/\Den K H gv g.data/\H kp=some (.lst (ks.map V.int)):=by
 cases h with
 |tup h1 h2=>
  cases h2 with
  |cons a b=>
   cases a;cases b with
   |cons c d=>
    cases d with
    |cons e f=>
     cases e;cases f with
     |cons g i=>
      cases i;obtain⟨kp,rfl⟩:=nb_ref g;obtain⟨g1,_⟩:=nb_list g;exact⟨_,_,kp,rfl,h1,(b2d _).mp c,g1⟩
theorem b8l{K:W.Frag}{M:List Addr}{H:Hp}{v:V}{gs:List Trm}(h:Dm K H M v (Rx.no gs).data):∃a gp fp us,v=.ref a/\SqT K H a [.str noS,.ref gp,.ref fp]/\H gp=some (.lst us)/\DenL K H us (Trm.dataL gs)/\H fp=some (.lst []):=by
 cases h with
 |tup h1 h2=>
  cases h2 with
  |cons a b=>
   cases a;cases b with
   |cons c d=>
    cases d with
    |cons e f=>
     cases f;cases c with
     |lst q1 _ q2=>
      cases e with
      |lst q3 _ q4=>
       cases q4;exact⟨_,_,_,_,rfl,h1,q1,(a6p _).mp q2,q3⟩
theorem b6b{K:W.Frag}{M:List Addr}{H:Hp}{a kp:Addr}{gv:V}{g:Trm}{n:Int}{ks:List Int}(h:SqT K H a [.str yesS,gv,.int n,.ref kp])(hg:Den K H gv g.data)(hk:H kp=some (.lst (ks.map V.int)))(nn:kp∉M):Dm K H M (.ref a) (Rx.yes g n ks).data:=
 .tup h (.cons (.str _) (.cons ((b2d _).mpr hg) (.cons (.int _) (.cons (nb_mk hk nn) .nil))))
theorem no_mk{K:W.Frag}{M:List Addr}{H:Hp}{a gp fp:Addr}{us:List V}{gs:List Trm}(h:SqT K H a [.str noS,.ref gp,.ref fp])(hg:H gp=some (.lst us))(hd:DenL K H us (Trm.dataL gs))(hf:H fp=some (.lst []))(n1:gp∉M)(n2:fp∉M):Dm K H M (.ref a) (Rx.no gs).data:=
 .tup h (.cons (.str _) (.cons (.lst hg n1 ((a6p _).mpr hd)) (.cons (.lst hf n2 .nil) .nil)))
inductive GlX(wd:List Str):Trm->Prop
 |named {s:Str} {ks:List Trm}:s∈wd->GlX wd (.app s ks)
 |not {s:Str} {ks:List Trm}:GlX wd (.app notS [.app s ks])
 |keep:GlX wd (.app keepS [])
 |mark {s:Str} {a b:Trm}:s∈[eqS,asS,ltS,leS]->wfT a->wfT b->GlX wd (.app s [a,b])
structure GlY(wd:List Str)(g:Trm):Prop where
 k:GlX wd g
 z:g.size<=60
def NoRu(rs:List (Trm×List Trm))(g:Trm):Prop:=∀x∈rs,keyT x.1≠keyT g
def RxG(rs:List (Trm×List Trm))(wd:List Str):Rx->Prop
 | .yes g n ks=>GlY wd g/\ks.length<=10/\((∃s ks',g=.app s ks'/\s∈wd)->ks=[])
 | .no gs=>gs≠[]/\gs.length<=3/\∀g∈gs,NoRu rs g/\g.size<=20/\∃s ks,g=.app s ks/\s∈wd
def numO(t:Trm):Option Int:=match ev t with| .inl n=>some n| .inr _=>none
def a5g:Trm->Option Bool
 | .app s [a,b]=>if s=eqS then some (eqb a b)else if s=asS then(numO b).map λn=>eqb a (.num n)else if s=keepS then some false else
  match numO a with
  |none=>none
  |some l=>(numO b).map λr=>decide (l<r)|| (decide (s=leS)&&decide (l=r))
 |_=>some false
def noAt(ws:List Rx)(k:Int):Option (List Trm):=match ws[k.toNat]? with|some (.no gs)=>some gs|_=>none
def noOf(ws:List Rx)(at_:Nat)(k:Int)(g:Trm):Bool:=decide ((at_:Int)<k)&&(decide (k<(ws.length:Int))&&match noAt ws k with|some hs=>eqT1 hs g|none=>false)
def byR(rs:List (Trm×List Trm))(n:Int)(g:Trm):Bool:=decide (1<=n)&&match rs[(n-1).toNat]? with|none=>false|some x=>(mt x.1 g []).isSome
def kid1:Trm->Trm
 | .app _ (k::_)=>k
 |t=>t
def notB(ws:List Rx)(at_:Nat)(g:Trm):List Int->Bool
 | [k]=>noOf ws at_ k (kid1 g)
 |_=>false
def yesO(rs:List (Trm×List Trm))(ws:List Rx)(at_:Nat):Trm->Int->List Int->Option Bool
 | .app s ks,n,kids=>if nmd s=true then some (byR rs n (.app s ks))else if n≠0 then some false else if s=notS then some (notB ws at_ (.app s ks) kids)else if kids.isEmpty=true then a5g (.app s ks)else some false
 |_,_,_=>some false
theorem b3f{rs:List (Trm×List Trm)}{ws:List Rx}{at_:Nat}{s:Str}{ks:List Trm}{n:Int}{kids:List Int}:yesO rs ws at_ (.app s ks) n kids=if nmd s=true then some (byR rs n (.app s ks))else if n≠0 then some false else if s=notS then some (notB ws at_ (.app s ks) kids)else if kids.isEmpty=true then a5g (.app s ks)else some false:=rfl
def a6i(rs:List (Trm×List Trm))(ws:List Rx)(at_:Nat):Rx->Bool
 | .yes g n ks=>(yesO rs ws at_ g n ks).getD false
 | .no _=>true
def b2h(rs:List (Trm×List Trm))(ws:List Rx)(i:Nat):Bool:=((ws[i]?).map (a6i rs ws i)).getD false
def a5x(rs:List (Trm×List Trm))(ws:List Rx):Bool:=(List.range ws.length).all (b2h rs ws)
structure RD(K:W.Frag)(H:Hp)(ru rq:Addr)(rs:List (Trm×List Trm))(ws:List Rx)(wd:List Str):Prop where
 r:∃us,H ru=some (.lst us)/\DenL K H us (rs.map ruE)
 w:∃us,H rq=some (.lst us)/\DmL K H [] us (ws.map Rx.data)
 ro:∀x∈rs,RuG x/\x.2=[]
 wo:∀x∈ws,RxG rs wd x
 wd':b0y wd
 l1:rs.length<=80
 l2:ws.length<=80
theorem RD.same{K:W.Frag}{H H':Hp}{ru rq:Addr}{rs:List (Trm×List Trm)}{ws:List Rx}{wd:List Str}(h:RD K H ru rq rs ws wd)(s:Same H H'):RD K H' ru rq rs ws wd:=by
 obtain⟨ur,r1,r2⟩:=h.r;obtain⟨uw,w1,w2⟩:=h.w;exact⟨⟨ur,s _ _ r1,r2.mono s⟩,⟨uw,s _ _ w1,w2.pr (.same s)⟩,h.ro,h.wo,h.wd',h.l1,h.l2⟩
theorem RD.ins{K:W.Frag}{H:Hp}{l C dx ru rq:Addr}{fs:List (Str×V)}{o:HO}{rs:List (Trm×List Trm)}{ws:List Rx}{wd:List Str}(h:RD K H ru rq rs ws wd)(e:H l=some (.ins C dx fs)):RD K (upd H l o) ru rq rs ws wd:=by
 have k:∀a us,H a=some (.lst us)->(upd H l o) a=some (.lst us):=λa us g=>by rw[a0p (a6t g e (λz=>by cases z))];exact g
 have kt:KT K H (upd H l o):=KT.upd e (λ_ z=>by cases z) (λ_ _ z=>by cases z);obtain⟨ur,r1,r2⟩:=h.r;obtain⟨uw,w1,w2⟩:=h.w;exact⟨⟨ur,k _ _ r1,r2.monoT kt⟩,⟨uw,k _ _ w1,w2.kl (λa us _ e=>k a us e) kt⟩,h.ro,h.wo,h.wd',h.l1,h.l2⟩
theorem c2x{K:W.Frag}{H:Hp}{l C dx:Addr}{fs:List (Str×V)}{o:HO}{kvs:List (List Key×V)}{tab:List (List Key×List Rl)}(h:Tab K H [] kvs tab)(e:H l=some (.ins C dx fs)):Tab K (upd H l o) [] kvs tab:=
 Paired.mapP h λ_ _ z=>⟨z.1,z.2.kl (λa us _ g=>by rw[a0p (a6t g e (λz=>by cases z))];exact g) (KT.upd e (λ_ z=>by cases z) (λ_ _ z=>by cases z))⟩
structure LkAt(K:W.Frag)(C:Addr)(H:Hp)(l:Addr)(rs:List (Trm×List Trm))(ws:List Rx)(wd:List Str):Prop where
 ex:∃dx ru rq wo kvs,H l=some (.ins C dx (lkF ru wo rq))/\RD K H ru rq rs ws wd/\H wo=some (.dT kvs)/\Tab K H [] kvs (b5v rs)
theorem LkAt.same{K:W.Frag}{C:Addr}{H H':Hp}{l:Addr}{rs:List (Trm×List Trm)}{ws:List Rx}{wd:List Str}(h:LkAt K C H l rs ws wd)(s:Same H H'):LkAt K C H' l rs ws wd:=by
 obtain⟨dx,ru,rq,wo,kvs,e,d,e2,t⟩:=h.ex;exact⟨dx,ru,rq,wo,kvs,s _ _ e,d.same s,s _ _ e2,t.pr (.same s)⟩
def onB(H:Hp)(C:Addr)(Q:VK)(E:XK):Option Bool->Prop
 |some b=>∀H',Same H H'->Q (.bl b) H'
 |none=>∀w ea H',Same H H'->IsX H' ea C [(rowS,.int 0),(b5i,.str w)]->E (.ref C) (some ea) H'
theorem onB.same{H H1:Hp}{C:Addr}{Q:VK}{E:XK}(s:Same H H1):∀{o:Option Bool},onB H C Q E o->onB H1 C Q E o
 |some _,h=>λH' z=>h H' (s.trans z)
 |none,h=>λw ea H' z=>h w ea H' (s.trans z)
abbrev b0z(K:W.Frag):Sp:=λvs H Q _=>match vs with| [.int c,.int m]=>m=4/\∀(p:Addr)(ws:List Str)(H':Hp),Same H H'->H' p=some (.lst (ws.map V.str))->b0y ws->ws.Nodup->Q (.ref p) H'|_=>False
abbrev c0r(K:W.Frag):Sp:=λvs H Q _=>match vs with| [.int n]=>∀(v:V)(H':Hp),Same H H'->Den K H' v (Trm.num n).data->Q v H'|_=>False
abbrev b4o(K:W.Frag)(C:Addr):Sp:=λvs H Q E=>match vs with| [v]=>∃s a b,Den K H v (Trm.app s [a,b]).data/\s∈[ltS,leS]/\wfT a/\wfT b/\(Trm.app s [a,b]).size<=60/\onB H C Q E (a5g (.app s [a,b]))|_=>False
abbrev b4p(K:W.Frag)(C:Addr):Sp:=λvs H Q E=>match vs with| [v]=>∃g,Den K H v g.data/\((∃s a b,g=.app s [a,b]/\s∈[eqS,asS,ltS,leS]/\wfT a/\wfT b)\/g=.app keepS [])/\g.size<=60/\onB H C Q E (a5g g)|_=>False
abbrev a9i(K:W.Frag):Sp:=λvs H Q _=>match vs with| [.ref d,.ref gl]=>∃kvs rs us ts s ks,H d=some (.dT kvs)/\Tab K H [] kvs (b5v rs)/\SqL K H gl us/\DenL K H us (Trm.dataL (.app s ks::ts))/\Wd s/\NoRu rs (.app s ks)/\(∀t∈Trm.app s ks::ts,t.size<=20)/\ts.length<=3/\∀p H',Same H H'->H' p=some (.lst [])->Q (.ref p) H'|_=>False
abbrev a6q(K:W.Frag)(C:Addr):Sp:=λvs H Q _=>match vs with| [.ref l,.ref ru,.ref rq]=>∃dx rs ws wd,H l=some (.ins C dx [])/\RD K H ru rq rs ws wd/\∀H',But l H H'->LkAt K C H' l rs ws wd->Q .non H'|_=>False
abbrev a4v(K:W.Frag)(C:Addr):Sp:=λvs H Q _=>match vs with| [.ref l,.int i,.int k,.str z]=>∃rs ws wd,LkAt K C H l rs ws wd/\0<=i/\z=noS/\Q (.bl (decide (i<k)&&(decide (k<(ws.length:Int))&&(noAt ws k).isSome))) H|_=>False
abbrev a5h(K:W.Frag)(C:Addr):Sp:=λvs H Q _=>match vs with| [.ref l,.int i,.int k,g]=>∃rs ws wd goal,LkAt K C H l rs ws wd/\0<=i/\Den K H g goal.data/\goal.size<=60/\∀H',Same H H'->Q (.bl (noOf ws i.toNat k goal)) H'|_=>False
abbrev a4j(K:W.Frag)(C:Addr):Sp:=λvs H Q _=>match vs with| [.ref l,.int i,g,.int n,.ref kp]=>∃rs ws wd goal,LkAt K C H l rs ws wd/\0<=i/\Den K H g goal.data/\goal.size<=60/\H kp=some (.lst [])/\∀H',Same H H'->Q (.bl (byR rs n goal)) H'|_=>False
abbrev a4a(K:W.Frag)(C CF:Addr):Sp:=λvs H Q E=>match vs with| [.ref l,.int i,g,.int n,.ref kp]=>∃rs ws wd goal kids,LkAt K C H l rs ws wd/\0<=i/\Den K H g goal.data/\RxG rs wd (.yes goal n kids)/\H kp=some (.lst (kids.map V.int))/\onB H CF Q E (yesO rs ws i.toNat goal n kids)|_=>False
abbrev a4k(K:W.Frag)(C:Addr):Sp:=λvs H Q _=>match vs with| [.ref l,.int i,.ref gp,.ref fp]=>∃rs ws wd gs us,LkAt K C H l rs ws wd/\0<=i/\H gp=some (.lst us)/\DenL K H us (Trm.dataL gs)/\RxG rs wd (.no gs)/\H fp=some (.lst [])/\∀H',Same H H'->Q (.bl true) H'|_=>False
abbrev a5p(K:W.Frag)(C:Addr):Sp:=λvs H Q _=>match vs with| [.ref l,.int i]=>∃rs ws wd,LkAt K C H l rs ws wd/\0<=i/\i<(ws.length:Int)/\∀H',Same H H'->Q (.bl (b2h rs ws i.toNat)) H'|_=>False
abbrev b1a(K:W.Frag):Sp:=λvs H Q _=>match vs with| [.ref ru,.ref rq]=>∃rs ws wd,RD K H ru rq rs ws wd/\∀H',Same H H'->Q (.bl (decide (0<ws.length)&&a5x rs ws)) H'|_=>False
theorem RD.row{K:W.Frag}{H:Hp}{ru rq:Addr}{rs:List (Trm×List Trm)}{ws:List Rx}{wd:List Str}(h:RD K H ru rq rs ws wd){k:Nat}(hk:k<ws.length):∃us u,H rq=some (.lst us)/\us.length=ws.length/\us[k]? =some u/\Dm K H [] u (ws[k]).data:=by
 obtain⟨us,w1,w2⟩:=h.w;have hl:=w2.length;rw[length_map]at hl;have hu:us[k]? =some us[k]:=Zb qo
 obtain⟨d,e1,e2⟩:=w2.get hu;rw[Z5,Zb hk]at e1;obtain rfl:(ws[k]).data=d:=Zl e1;exact⟨us,_,w1,hl,hu,e2⟩
theorem c0s{k k':List Key}{x:Rl}(h:k'≠k):∀tb:List (List Key×List Rl),a4t (addT tb k' x) k=a4t tb k
 | []=>by simp[addT,a4t,h]
 | (q,l)::r=>by
  have ih:=c0s (x:=x) h r;unfold addT
  split
  ·rename_i e;subst e
   simp[a4t,h]
  ·simp only[a4t];rw[ih]
theorem b7n{k:List Key}:∀(rs:List (Trm×List Trm))(n:Nat)(tb:List (List Key×List Rl)),(∀x∈rs,keyT x.1≠k)->a4t (tabF rs n tb) k=a4t tb k
 | [],_,_,_=>rfl
 |x::rs,n,tb,h=>by
  rw[tabF,b7n rs (n+1) _ λy hy=>h y (by simp[hy]),c0s (h x qz)]
theorem c7y{rs:List (Trm×List Trm)}{g:Trm}(h:NoRu rs g):a4t (b5v rs) (keyT g)=[]:=b7n rs 0 [] h
section
variable{P:Program}{w:World}{K:W.Frag}{mg:Str->Option Value}{base:Heap}{t:Ad}
theorem c7z(T:Txt K mg t)  :FnOk P w K mg base CX0 1 t.a_b9 t.d_b9 ["term"] (b2b K):=by
 exists T.F_b9.ok c7h,b2b,(a0g (a1a (a0q a0x (a0i (a0f K rfl) (mv 0) a0b (λ_ _=>rfl)) a0j (a0m _)) (a0h (a0t (a1j (a0a a0j (a0a (a0i (a0f K rfl) (mv 0) a0b (λ_ _=>rfl)) a0e))))) a0u) (a0g (a1a (a0q a0x (a0i (a0f K rfl) (mv 0) a0b (λ_ _=>rfl)) a0j (a0m _)) (a0h (a0t (a1j (a0a a0j (a0a (a0i (a0f K rfl) (mv 0) a0b (λ_ _=>rfl)) (a0a (a0w (a1o K rfl) rfl T.n_a8 Zy (a0a (a0i (a0f K rfl) (mv 0) a0b (λ_ _=>rfl)) a0e)) a0e)))))) a0u) (a0h (a0t a3n)))),H,Q,E,hr,h
 rename_i v;obtain⟨t0,hd,q⟩:=h;cases t0 with
 |num m=>
  obtain⟨a,rfl,hs⟩:=a3v hd;ext
  exists a0k hs (v:=.str numS) rfl
  rw[Zn,q7];refine iteT ?_;ext
  exists a0k hs (v:=.int m) rfl
  exact⟨ln (by show 2<=100000;decide),λp hp=>q p _ (a0d hp _) a0c⟩
 |any y=>
  obtain⟨a,rfl,hs⟩:=a3w hd;ext
  exists a0k hs (v:=.str anyS) rfl
  refine iteB (λe=>absurd e qk) (λe=>?_);ext
  exists a0k hs (v:=.str anyS) rfl
  refine iteB (λe=>absurd e qk) (λe=>?_);ext;exact q
 |app sg ks=>
  obtain⟨a,b,us,rfl,hs,hb,hk⟩:=a1x hd;have hl:=hk.length;rw[Trm.dataL_map,length_map]at hl;ext
  exists a0k hs (v:=.str appS) rfl
  refine iteB (λe=>absurd e qk) (λe=>?_);ext
  exists a0k hs (v:=.str appS) rfl
  refine iteB (λe=>?_) (λe=>absurd e qk);ext
  exists a0k hs (v:=.str sg) rfl
  exists a0k hs (v:=.ref b) rfl
  exists a9t hb
  refine⟨ln (by show 3<=100000;decide),λp hp=>q p _ (a0d hp _) ?_⟩;rw[hl];exact a0c
end
abbrev a4o:Sp:=λvs H Q _=>match vs with| [.int c]=>∀v,small v->Q (.int v) H|_=>False
abbrev b2i(K:W.Frag):Sp:=λvs H Q _=>match vs with| [.int c,.int m,.ref wp]=>∃ws:List Str,SqL K H wp (ws.map V.str)/\1<=ws.length/\ws.length<=10/\(∀x∈ws,x.length<=30/\x∉five)/\∀(x:Str)(H':Hp),x.length<=30->(x∈five->m=2)->Same H H'->Q (.str x) H'|_=>False
structure a2o(K:W.Frag)(H:Hp)(us:List V)(ts:List Trm):Prop where
 den:DenL K H us (Trm.dataL ts)
 vs:∀t∈ts,wfT t
theorem a2o.len{K:W.Frag}{H:Hp}{us:List V}{ts:List Trm}(h:a2o K H us ts):us.length=ts.length:=by
 have:=h.den.length;rw[Trm.dataL_map,length_map]at this;exact this
theorem a2o.mono{K:W.Frag}{H H':Hp}{us:List V}{ts:List Trm}(h:a2o K H us ts)(s:Same H H'):a2o K H' us ts:=⟨h.den.mono s,h.vs⟩
theorem a2o.snoc{K:W.Frag}{H:Hp}{us:List V}{ts:List Trm}{u:V}{t:Trm}(h:a2o K H us ts)(d:Den K H u t.data)(v:wfT t):a2o K H (us++[u]) (ts++[t]):=by
 refine⟨c2w h.den d,λy hy=>?_⟩;rcases Yt.mp hy with z|z
 ·exact h.vs y z
 ·rw[Zu.mp z];exact v
theorem a2o.take{K:W.Frag}{H:Hp}{us:List V}{ts:List Trm}(h:a2o K H us ts)(n:Nat):a2o K H (us.take n) (ts.take n):=⟨by rw[<-c4c];exact h.den.take n,λt ht=>h.vs t (List.mem_of_mem_take ht)⟩
theorem a2o.drop{K:W.Frag}{H:Hp}{us:List V}{ts:List Trm}(h:a2o K H us ts)(n:Nat):a2o K H (us.drop n) (ts.drop n):=⟨by rw[<-b5r];exact h.den.drop n,λt ht=>h.vs t (S5 ht)⟩
theorem b3g:∀{ts:List Trm},(∀t∈ts,wfT t)->wfTL ts
 | [],_=>trivial
 |t::r,h=>⟨h t qz,b3g λt ht=>h t (by simp[ht])⟩
theorem c0t:∀{ts:List Trm},wfTL ts->∀t∈ts,wfT t
 | [],_,t,ht=>by simp at ht
 |u::r,h,t,ht=>by
  rcases Zi.mp ht with z|z
  ·rw[z];exact h.1
  ·exact c0t h.2 t z
abbrev b2j(K:W.Frag):Sp:=λvs H Q _=>match vs with| [.ref cp,.ref np,.ref wp]=>∃(cs:List Int)(xs ws:List Str),SqL K H cp (cs.map V.int)/\cs.length<=40/\SqL K H np (xs.map V.str)/\1<=xs.length/\xs.length<=20/\SqL K H wp (ws.map V.str)/\1<=ws.length/\ws.length<=10/\(∀x∈ws,x.length<=30/\x∉five)/\∀(x:V)(t:Trm)(H':Hp),Same H H'->Den K H' x t.data->wfT t->t.size<=2*cs.length+1->Q x H'|_=>False
abbrev a9j(K:W.Frag):Sp:=λvs H Q _=>match vs with| [.ref cp,lf]=>∃(cs:List Int)(t0:Trm),SqL K H cp (cs.map V.int)/\1<=cs.length/\cs.length<=40/\Den K H lf t0.data/\wfT t0/\t0.size=1/\∀(x:V)(t:Trm)(H':Hp),Same H H'->Den K H' x t.data->wfT t->t.size<=2*cs.length->Q x H'|_=>False
def oI:Option Int->V
 |none=>.non
 |some n=>.int n
abbrev a5i(K:W.Frag)(n:Nat):Sp:=λvs H Q _=>match vs with| [v]=>∃t:Trm,Den K H v t.data/\wfT t/\t.size<=n/\n<=100/\∀H',Same H H'->Q (oI (numO t)) H'|_=>False
theorem d0x{K:W.Frag}{H:Hp}{v:V}{R:Trm->Prop}(h:∃t:Trm,Den K H v t.data/\wfT t/\t.size<=0/\0<=100/\R t):False:=by
 obtain⟨t,_,_,z,_⟩:=h;have:=Trm.size_pos t;omega
theorem last2{α:Type}{l:List α}(h:2<=l.length):∃l0 a b,l=l0++[a,b]:=by
 refine⟨l.take (l.length-2),l[l.length-2],l[l.length-1],?_⟩;have e:l.drop (l.length-2)=[l[l.length-2],l[l.length-1]]:=by
  rw[Vv qo,Vv qo,Sn qo]
  congr 3
  omega
 rw[<-e,Uo]
theorem c8a(us0:List V)(x y:V):cutV (us0++[x,y]) none (some (-2))=us0:=by
 unfold cutV;have hl:(us0++[x,y]).length=us0.length+2:=by simp
 rw[b3w,hl];have e:HT.sIx (us0.length+2) (us0.length+2) (some (-2))=us0.length:=by
  show(if(-2:Int)<0 then((-2:Int)+((us0.length+2:Nat):Int)).toNat else min (-2:Int).toNat (us0.length+2))=us0.length
  rw[if_pos qd];omega
 rw[e]
 simp
theorem c0u{K:W.Frag}{H:Hp}{us0:List V}{x y:V}{ts:List Trm}(h:a2o K H (us0++[x,y]) ts):∃ts0 tx ty,ts=ts0++[tx,ty]/\a2o K H us0 ts0/\Den K H x tx.data/\Den K H y ty.data/\wfT tx/\wfT ty:=by
 have hl:=h.len;obtain⟨ts0,tx,ty,rfl⟩:=last2 (l:=ts) (by rw[<-hl];simp);have hl0:us0.length=ts0.length:=by simpa using hl
 have h1:=h.take us0.length;have h2:=(h.drop us0.length).den;rw[List.take_left' rfl,List.take_left' hl0.symm]at h1;rw[List.drop_left' rfl,List.drop_left' hl0.symm]at h2;simp only[Trm.dataL]at h2;cases h2 with
 |cons a b=>
  cases b with
  |cons c d=>exact⟨ts0,tx,ty,rfl,h1,a,c,h.vs _ qz,h.vs _ qz⟩
theorem at_m2(us0:List V)(x y:V):atI (us0++[x,y]) (-2)=some x:=by
 have e:ixN (us0++[x,y]).length (-2)=some us0.length:=by
  unfold ixN;rw[if_neg qo,Zj,if_pos (by simp only[length_cons,length_nil];omega)]
  congr 1
  simp only[length_cons,length_nil];omega
 unfold atI;rw[e]
 simp
theorem at_m1(us0:List V)(x y:V):atI (us0++[x,y]) (-1)=some y:=by
 have e:ixN (us0++[x,y]).length (-1)=some (us0.length+1):=by
  unfold ixN;rw[if_neg qo,Zj,if_pos (by simp only[length_cons,length_nil];omega)]
  congr 1
  simp only[length_cons,length_nil];omega
 unfold atI;rw[e]
 simp
theorem d0y(us:List V)(x y:V):(us++[x]).set us.length y=us++[y]:=by
 induction us with
 |nil=>rfl
 |cons a us ih=>rw[X0,length_cons,List.set_cons_succ,ih];rfl
theorem ix_m1(us:List V)(x:V):ixN (us++[x]).length (-1)=some us.length:=by
 unfold ixN;rw[if_neg qo,Zj,Zm,if_pos qo]
 congr 1
 omega
theorem five_at(i:Int):∃sg,atI [V.str a3q,V.str a1i,V.str a1r,V.str a1n,V.str a1t] (i%5)=some (.str sg)/\sg∈five:=by
 rcases(show i%5=0\/i%5=1\/i%5=2\/i%5=3\/i%5=4 by omega)with e|e|e|e|e<;>(rw[e];exact⟨_,rfl,by simp[five]⟩)
theorem c8b{ws:List Rx}{k:Int}{gs:List Trm}(h:noAt ws k=some gs):∃hk:k.toNat<ws.length,ws[k.toNat]=.no gs:=by
 unfold noAt at h;split at h
 ·rename_i gs' e;cases h;obtain⟨hk,e2⟩:=Z7.mp e;exact⟨hk,e2⟩
 ·cases h
theorem len1{ks:List Int}(h:ks.length=1):∃k,ks=[k]:=by
 match ks,h with
 | [k],_=>exact⟨k,rfl⟩
def ltO(s:Str)(a b:Trm):Option Bool:=match numO a with|none=>none|some l=>(numO b).map λr=>decide (l<r)|| (decide (s=leS)&&decide (l=r))
theorem a9a{s:Str}{a b:Trm}:a5g (.app s [a,b])=if s=eqS then some (eqb a b)else if s=asS then(numO b).map (λn=>eqb a (.num n))else if s=keepS then some false else ltO s a b:=rfl
def fnd(sg:Str)(l r:Int):Int:=if sg=a1t then l-l.fdiv r*r else if sg=a1n then l.fdiv r else if sg=a1r then l*r else if sg=a1i then l-r else l+r
def a9b(n:Int):Option Int:=if(if n<0 then -n else n)<10^30 then some n else none
theorem near_o(n:Int):(match near n with| .inl m=>some m| .inr _=>none)=a9b n:=by
 unfold near a9b
 by_cases h:10^30<=(if n<0 then -n else n)
 ·rw[if_pos h,if_neg qo]
 ·rw[if_neg h,if_pos qo]
theorem d1a{sg:Str}{ks:List Trm}(h:sg∉five):numO (.app sg ks)=none:=by
 unfold numO;rw[c2v h]
theorem num_num(k:Int):numO (.num k)=some k:=by
 unfold numO;simp only[ev]
theorem num_any(x:Str):numO (.any x)=none:=by
 unfold numO;simp only[ev]
theorem num_two{sg:Str}{a b:Trm}(h:sg∈five):numO (.app sg [a,b])=match numO a with
  |none=>none
  |some l=>match numO b with
   |none=>none
   |some r=>if(sg=a1n\/sg=a1t)/\r=0 then none else a9b (fnd sg l r):=by
 unfold numO;rw[c7r h];cases ev a with
 |inr w=>rfl
 |inl l=>
  cases ev b with
  |inr w=>rfl
  |inl r=>
   have hj:∀n,a2a sg l r=.inl n->(match a6h sg (.inl l) (.inl r)with| .inl m=>some m| .inr _=>none)=a9b n:=λn e=>by
    rw[d0v e];exact near_o n
   show(match a6h sg (.inl l) (.inl r)with| .inl m=>some m| .inr _=>none)=if(sg=a1n\/sg=a1t)/\r=0 then none else a9b (fnd sg l r)
   have h1:sg=a3q\/sg=a1i\/sg=a1r\/sg=a1n\/sg=a1t:=by simpa[five]using h
   by_cases hz:(sg=a1n\/sg=a1t)/\r=0
   ·rw[if_pos hz,hz.2,c7u hz.1]
   ·rw[if_neg hz];rcases h1 with rfl|rfl|rfl|rfl|rfl
    ·rw[hj (l+r) rfl];congr 1
    ·rw[hj (l-r) (by unfold a2a;rw[if_neg qk,if_pos rfl])];congr 1
    ·rw[hj (l*r) (by unfold a2a;rw[if_neg qk,if_neg qk,if_pos rfl])];congr 1
    ·have h0:¬r=0:=λz=>hz ⟨.inl rfl,z⟩
     rw[hj (l.fdiv r) (by unfold a2a;rw[if_neg qk,if_neg qk,if_neg qk,if_neg h0,if_pos rfl])];congr 1
    ·have h0:¬r=0:=λz=>hz ⟨.inr rfl,z⟩
     rw[hj (l.fmod r) (by unfold a2a;rw[if_neg qk,if_neg qk,if_neg qk,if_neg h0,if_neg qk])]
     congr 1
     have:=c7s l r
     show l.fmod r=l-l.fdiv r*r
     omega
theorem b2k{t:Trm}(hw:wfT t){n:Int}(h:numO t=some n):small n:=by
 unfold numO at h;split at h
 ·rename_i m e;cases h;exact b4n hw e
 ·cases h
def notFive(ws:List Str):Prop:=∀x∈ws,x.length<=30/\x∉five
theorem c0v{ws:List Str}(h:b0y ws):notFive ws:=λx hx=>⟨h.s x hx,λz=>by
 have hc:=(h.w x hx).cl;simp only[five,Zi,Zs,Yv]at z
 rcases z with rfl|rfl|rfl|rfl|rfl<;>exact absurd hc qk⟩
abbrev a6r(K:W.Frag):Sp:=λvs H Q _=>match vs with| [v]=>∃s a b,Den K H v (Trm.app s [a,b]).data/\s∈[eqS,asS,ltS,leS]/\wfT a/\wfT b/\(Trm.app s [a,b]).size<=60/\∀H',Same H H'->Q (.bl ((a5g (.app s [a,b])).getD false)) H'|_=>False
abbrev b2l(K:W.Frag):Sp:=λvs H Q _=>match vs with| [.ref a,.str mk,.ref np,.ref wp]=>∃(ns:List Int)(xs ws:List Str),SqL K H a (ns.map V.int)/\(∀n∈ns,Builtin.Int.intBits n<=1048576)/\SqL K H np (xs.map V.str)/\xs.length=5/\SqL K H wp (ws.map V.str)/\b0y ws/\∀(x:V)(t1 t2:Trm)(H':Hp),Same H H'->Den K H' x (Trm.app mk [t1,t2]).data->wfT t1->wfT t2->(Trm.app mk [t1,t2]).size<=60->Q x H'|_=>False
inductive PNot(h0 h1:Trm)(w2:Str):Trm->List Int->List Rx->Bool->Prop
 |c0:PNot h0 h1 w2 (.app notS [h1]) [1] [.no [h0]] false
 |c1:PNot h0 h1 w2 (.app notS [h0]) [1] [.no [h0,h0]] false
 |c2:PNot h0 h1 w2 (.app notS [h0]) [1] [.yes (.app w2 []) 3 []] false
 |c3 {ks:List Int}:ks∈[[1,1],[],[0],[-1],[2]]->PNot h0 h1 w2 (.app notS [h0]) ks [.no [h0]] false
 |c4:PNot h0 h1 w2 (.app notS [h0]) [1] [.no [h0]] true
abbrev b4q(K:W.Frag):Sp:=λvs H Q _=>match vs with| [.ref a,.ref hp,.ref wp]=>∃(ns:List Int)(ws:List Str)(v0 v1:V)(h0 h1:Trm)(w2:Str),SqL K H a (ns.map V.int)/\(∀n∈ns,Builtin.Int.intBits n<=1048576)/\SqL K H wp (ws.map V.str)/\ws[2]? =some w2/\H hp=some (.lst [v0,v1])/\Den K H v0 h0.data/\Den K H v1 h1.data/\∀(p kp rp:Addr)(gv:V)(us:List V)(gl:Trm)(kids:List Int)(rows:List Rx)(b:Bool)(H':Hp),Same H H'->SqT K H' p [gv,.ref kp,.ref rp,.bl b]->Den K H' gv gl.data->H' kp=some (.lst (kids.map V.int))->H' rp=some (.lst us)->DmL K H' [] us (rows.map Rx.data)->PNot h0 h1 w2 gl kids rows b->Q (.ref p) H'|_=>False
def rs3(w0 w1 w2:Str):List (Trm×List Trm):=[(.app w1 [.num 1,.num 1],[]),(.app w0 [.num 1],[]),(.app w2 [],[])]
theorem rs3_ok{w0 w1 w2:Str}:∀x∈rs3 w0 w1 w2,RuG x/\x.2=[]:=λx hx=>by
 simp only[rs3,Zi,Zs,Yv]at hx;rcases hx with rfl|rfl|rfl
 ·exact⟨⟨⟨_,_,rfl⟩,by simp[Trm.size,Trm.sizeL],qz,qz⟩,rfl⟩
 ·exact⟨⟨⟨_,_,rfl⟩,by simp[Trm.size,Trm.sizeL],qz,qz⟩,rfl⟩
 ·exact⟨⟨⟨_,_,rfl⟩,by simp[Trm.size,Trm.sizeL],qz,qz⟩,rfl⟩
theorem c8c{w0 w1 w2:Str}(h:w1≠w0){x y:Trm}:NoRu (rs3 w0 w1 w2) (.app w0 [x,y]):=λr hr=>by
 simp only[rs3,Zi,Zs,Yv]at hr;rcases hr with rfl|rfl|rfl
 ·intro e;have e:nd w1 2=nd w0 2:=e;exact h (by have:=(Xi e).1;injection this)
 ·intro e;have e:nd w0 1=nd w0 2:=e;have:=(Xi (Xi e).2).1
  injection this with this
  omega
 ·intro e;have e:nd w2 0=nd w0 2:=e;have:=(Xi (Xi e).2).1
  injection this with this
  omega
theorem all1{rs:List (Trm×List Trm)}{a:Rx}:a5x rs [a]=a6i rs [a] 0 a:=by
 show(a6i rs [a] 0 a&&true)=_
 rw[V7]
theorem all2{rs:List (Trm×List Trm)}{a b:Rx}:a5x rs [a,b]=(a6i rs [a,b] 0 a&&a6i rs [a,b] 1 b):=by
 show(a6i rs [a,b] 0 a&&(a6i rs [a,b] 1 b&&true))=_
 rw[V7]
theorem a9c{rs:List (Trm×List Trm)}{ws:List Rx}{i:Nat}{mk:Str}{a b:Trm}{n:Int}{kids:List Int}(h:mk∈[eqS,asS,ltS,leS]):a6i rs ws i (.yes (.app mk [a,b]) n kids)=((a5g (.app mk [a,b])).getD false&&(decide (n=0)&&kids.isEmpty)):=by
 have n1:nmd mk=false:=by
  simp only[Zi,Zs,Yv]at h;rcases h with rfl|rfl|rfl|rfl<;>decide+kernel
 have n2:mk≠notS:=λz=>by rw[z]at h;exact absurd h qk
 show(yesO rs ws i (.app mk [a,b]) n kids).getD false=_
 rw[b3f,n1,if_neg qd]
 by_cases hn:n=0
 ·rw[if_neg (by simp[hn]),if_neg n2,Zx hn];cases kids with
  |nil=>simp
  |cons _ _=>simp
 ·rw[if_pos hn,Zo hn]
  simp
theorem b7o{rs:List (Trm×List Trm)}{ws:List Rx}{i:Nat}{n:Int}{kids:List Int}:a6i rs ws i (.yes (.app keepS []) n kids)=false:=by
 have n1:nmd keepS=false:=by decide+kernel
 show(yesO rs ws i (.app keepS []) n kids).getD false=_
 rw[b3f,n1,if_neg qd]
 by_cases hn:n=0
 ·rw[if_neg (by simp[hn]),if_neg qk];cases kids with
  |nil=>rfl
  |cons _ _=>rfl
 ·rw[if_pos hn];rfl
theorem a6s{rs:List (Trm×List Trm)}{ws:List Rx}{i:Nat}{h:Trm}{n:Int}{kids:List Int}:a6i rs ws i (.yes (.app notS [h]) n kids)=(decide (n=0)&&notB ws i (.app notS [h]) kids):=by
 have n1:nmd notS=false:=by decide+kernel
 show(yesO rs ws i (.app notS [h]) n kids).getD false=_
 rw[b3f,n1,if_neg qd]
 by_cases hn:n=0
 ·rw[if_neg (by simp[hn]),if_pos rfl,Zx hn];rfl
 ·rw[if_pos hn,Zo hn];rfl
structure PG(rs:List (Trm×List Trm))(wd:List Str)(g:Trm)(n:Int)(kids:List Int)(L:List Rx)(b:Bool):Prop where
 x:∀x∈L,RxG rs wd x
 y:∀ks:List Int,ks.length<=10->RxG rs wd (.yes g n ks)
 l:kids.length<=2/\L.length<=1
 e1:a5x rs (.yes g n kids::L)=b
 e2:a5x rs (L++[.yes g n (kids.map λk=>((L.length+1:Nat):Int)-1-k)])=(b&&kids.isEmpty)
theorem c8d{w0 w1 w2:Str}{wd:List Str}(h:w1≠w0)(hw:w0∈wd){x y:Trm}(hz:(Trm.app w0 [x,y]).size<=20):RxG (rs3 w0 w1 w2) wd (.no [.app w0 [x,y]]):=⟨qz,qz,λg hg=>by rw[Zu.mp hg];exact⟨c8c h,hz,_,_,rfl,hw⟩⟩
theorem rxg_no2{w0 w1 w2:Str}{wd:List Str}(h:w1≠w0)(hw:w0∈wd){x y:Trm}(hz:(Trm.app w0 [x,y]).size<=20):RxG (rs3 w0 w1 w2) wd (.no [.app w0 [x,y],.app w0 [x,y]]):=⟨qz,qz,λg hg=>by
 have:g=.app w0 [x,y]:=by simpa using hg
 rw[this]
 exact⟨c8c h,hz,_,_,rfl,hw⟩⟩
theorem pg_deed{rs:List (Trm×List Trm)}{wd:List Str}(hwd:b0y wd){mk:Str}{a b:Trm}(hm:mk∈[eqS,asS,ltS,leS])(wa:wfT a)(wb:wfT b)(hz:(Trm.app mk [a,b]).size<=60){n:Int}{kids:List Int}(hk:kids.length<=2){L:List Rx}(hL:L=[]\/∃gs,L=[.no gs]/\RxG rs wd (.no gs)):PG rs wd (.app mk [a,b]) n kids L ((a5g (.app mk [a,b])).getD false&&(decide (n=0)&&kids.isEmpty)):=by
 have hy:∀ks:List Int,ks.length<=10->RxG rs wd (.yes (.app mk [a,b]) n ks):=λks hks=>⟨⟨.mark hm wa wb,hz⟩,hks,λ⟨s,k,e,h⟩=>by
  cases e
  exfalso
  have:=b5u (hwd.w _ h);simp only[Zi,Zs,Yv]at hm
  rcases hm with rfl|rfl|rfl|rfl<;>exact absurd this qk⟩
 have hmap:∀m:Int,(kids.map λk=>m-1-k).isEmpty=kids.isEmpty:=λm=>by cases kids<;>rfl
 rcases hL with rfl|⟨gs,rfl,hg⟩
 ·refine⟨λx hx=>by simp at hx,hy,⟨hk,Yx _⟩,?_,?_⟩
  ·rw[all1,a9c hm]
  ·rw[Wn,all1,a9c hm,hmap];cases kids.isEmpty<;>simp
 ·refine⟨λx hx=>by rw[Zu.mp hx];exact hg,hy,⟨hk,Zg _⟩,?_,?_⟩
  ·rw[all2,a9c hm]
   show(_&&true)=_
   rw[V7]
  ·rw[Wo,all2,a9c hm,hmap]
   show(true&&_)=_
   rw[Ye];cases kids.isEmpty<;>simp
theorem pg_keep{rs:List (Trm×List Trm)}{wd:List Str}(hwd:b0y wd){n:Int}{kids:List Int}(hk:kids.length<=2){gs:List Trm}(hg:RxG rs wd (.no gs)):PG rs wd (.app keepS []) n kids [.no gs] false:=by
 refine⟨λx hx=>by rw[Zu.mp hx];exact hg,λks hks=>⟨⟨.keep,by simp[Trm.size,Trm.sizeL]⟩,hks,λ⟨s,k,e,h⟩=>?_⟩,⟨hk,Zg _⟩,?_,?_⟩
 ·cases e;exact absurd rfl (hwd.w _ h).kp
 ·rw[all2,b7o];rfl
 ·rw[Wo,all2,b7o];rfl
theorem d1b{ws:List Rx}(h:ws.length=2){g:Trm}:∀ks:List Int,notB ws 1 g ks=false
 | []=>rfl
 | [k]=>by
  show noOf ws 1 k (kid1 g)=false
  unfold noOf;rw[h]
  by_cases h1:((1:Nat):Int)<k
  ·rw[Zo (p:=k<((2:Nat):Int)) qo,Yw,Xj]
  ·rw[Zo h1,Yw]
 |_::_::_=>rfl
theorem pg_not{w0 w1 w2:Str}{wd:List Str}(hwd:b0y wd)(hne:w1≠w0)(hw0:w0∈wd)(hw2:w2∈wd){x0 y0 x1 y1:Trm}(z0:(Trm.app w0 [x0,y0]).size<=20)(z1:(Trm.app w0 [x1,y1]).size<=20)(hn:Trm.app w0 [x0,y0]≠.app w0 [x1,y1]){gl:Trm}{n:Int}{kids:List Int}{L:List Rx}{b:Bool}(h:PNot (.app w0 [x0,y0]) (.app w0 [x1,y1]) w2 gl kids L b):PG (rs3 w0 w1 w2) wd gl n kids L (b&&decide (n=0)):=by
 have hy:∀(t:Trm)(s:Str)(k:List Trm),t=.app s k->t.size<=20->∀ks:List Int,ks.length<=10->RxG (rs3 w0 w1 w2) wd (.yes (.app notS [t]) n ks):=λt s k e hz ks hks=>⟨⟨by rw[e];exact .not,by simp only[Trm.size,Trm.sizeL];omega⟩,hks,λ⟨s',k',e',h'⟩=>by
  cases e'
  exact absurd rfl (hwd.w _ h').nt⟩
 have one:∀x∈[Rx.no [Trm.app w0 [x0,y0]]],RxG (rs3 w0 w1 w2) wd x:=λx hx=>by rw[Zu.mp hx];exact c8d hne hw0 z0
 have e2:∀(r:Rx)(t:Trm)(ks:List Int)(c:Bool),(∀R ws,a6i (rs3 w0 w1 w2) ws 1 R=true\/True)->c=false->a5x (rs3 w0 w1 w2) ([r]++[.yes (.app notS [t]) n ks])=c:=λr t ks c _ hc=>by
  rw[Wo,all2,a6s,d1b rfl,hc,Xj,Xj]
 cases h with
 |c0=>
  refine⟨one,hy _ _ _ rfl z1,⟨qz,qz⟩,?_,e2 _ _ _ _ (λ_ _=>.inr trivial) qz⟩;rw[all2,a6s];have:notB [.yes (.app notS [.app w0 [x1,y1]]) n [1],.no [.app w0 [x0,y0]]] 0 (.app notS [.app w0 [x1,y1]]) [1]=eqb (.app w0 [x0,y0]) (.app w0 [x1,y1]):=rfl;have e:eqb (.app w0 [x0,y0]) (.app w0 [x1,y1])=false:=by
   cases e:eqb (.app w0 [x0,y0]) (.app w0 [x1,y1])with
   |false=>rfl
   |true=>exact absurd ((b2y _ _).mp e) hn
  rw[this,e]
  simp
 |c1=>
  refine⟨λx hx=>by rw[Zu.mp hx];exact rxg_no2 hne hw0 z0,hy _ _ _ rfl z0,⟨qz,qz⟩,?_,e2 _ _ _ _ (λ_ _=>.inr trivial) qz⟩;rw[all2,a6s];have:notB [.yes (.app notS [.app w0 [x0,y0]]) n [1],.no [.app w0 [x0,y0],.app w0 [x0,y0]]] 0 (.app notS [.app w0 [x0,y0]]) [1]=false:=rfl;rw[this]
  simp
 |c2=>
  refine⟨λx hx=>?_,hy _ _ _ rfl z0,⟨qz,qz⟩,?_,e2 _ _ _ _ (λ_ _=>.inr trivial) qz⟩
  ·rw[Zu.mp hx];exact⟨⟨.named hw2,by simp[Trm.size,Trm.sizeL]⟩,qz,λ_=>rfl⟩
  rw[all2,a6s];have:notB [.yes (.app notS [.app w0 [x0,y0]]) n [1],.yes (.app w2 []) 3 []] 0 (.app notS [.app w0 [x0,y0]]) [1]=false:=rfl;rw[this]
  simp
 |c3 hk=>
  refine⟨one,hy _ _ _ rfl z0,⟨?_,qz⟩,?_,e2 _ _ _ _ (λ_ _=>.inr trivial) qz⟩
  ·simp only[Zi,Zs,Yv]at hk;rcases hk with rfl|rfl|rfl|rfl|rfl<;>simp
  rw[all2,a6s];have:notB [.yes (.app notS [.app w0 [x0,y0]]) n kids,.no [.app w0 [x0,y0]]] 0 (.app notS [.app w0 [x0,y0]]) kids=false:=by
   simp only[Zi,Zs,Yv]at hk;rcases hk with rfl|rfl|rfl|rfl|rfl<;>rfl
  rw[this]
  simp
 |c4=>
  refine⟨one,hy _ _ _ rfl z0,⟨qz,qz⟩,?_,e2 _ _ _ _ (λ_ _=>.inr trivial) qz⟩;rw[all2,a6s];have:notB [.yes (.app notS [.app w0 [x0,y0]]) n [1],.no [.app w0 [x0,y0]]] 0 (.app notS [.app w0 [x0,y0]]) [1]=eqb (.app w0 [x0,y0]) (.app w0 [x0,y0]):=rfl;rw[this,b3z]
  show((decide (n=0)&&true)&&true)=(true&&decide (n=0))
  simp
theorem c8e{t:Trm}{n:Nat}(h:t.size<=n):t.data.depth<=2*n:=Yd (Trm.depth_le t) (Nat.mul_le_mul_left 2 h)
theorem dp_rx{rs:List (Trm×List Trm)}{wd:List Str}{x:Rx}(h:RxG rs wd x):x.data.depth<=130:=by
 cases x with
 |yes g n ks=>
  have h1:=c8e h.1.z;have h2:=dp_ints ks;unfold Rx.data nbD;simp only[PyData.depth,PyData.depthAll];omega
 |no gs=>
  have h1:PyData.depthAll (Trm.dataL gs)<=40:=b6a λd hd=>by
   rw[Trm.dataL_map]at hd;obtain⟨t,ht,rfl⟩:=Yb.mp hd;exact c8e (h.2.2 t ht).2.1
  unfold Rx.data;simp only[PyData.depth,PyData.depthAll];omega
theorem dp_rows{rs:List (Trm×List Trm)}{wd:List Str}{ws:List Rx}(h:∀x∈ws,RxG rs wd x):PyData.depthAll (ws.map Rx.data)<=149:=b6a λd hd=>by
 obtain⟨x,hx,rfl⟩:=Yb.mp hd;have:=dp_rx (h x hx);omega
theorem pr_lst'{K:W.Frag}{a:Addr}{us zs:List V}{H:Hp}(h:H a=some (.lst us)):Pr K [a] H (upd H a (.lst zs)):=Pr.upd qz h (λ_ z=>by cases z) (λ_ _ z=>by cases z)
section
variable{P:Program}{w:World}{K:W.Frag}{mg:Str->Option Value}{base:Heap}{t:Ad}
theorem c8f(T:Txt K mg t)  :FnOk P w K mg base CX0 1 t.a_a0 t.d_a0 ["_law_script","_law_k"] (a7k K):=by
 exists T.F_a0.ok b1z,a7k,(a0g (a1a (a0q a7u (mv 1) (a0w (a1o K rfl) rfl T.n_a8 Zy (a0a (mv 0) a0e)) (a0m _)) (a0h (a0t (a0i (a0f K rfl) (mv 0) (mv 1) (λ_ _=>rfl)))) a0u) (a0g (a0s (i:=2) (hs:=a1y) b1z.nd rfl (by nofun) (a0l (a1m K rfl) (a0l a4y a0b (mv 1)) a0b)) (a0g (a1a (a0q a8t (a0w (a1o K rfl) rfl T.n_a8 Zy (a0a (mv 0) a0e)) a0b (a0m _)) (a0h (a0s (i:=2) (hs:=a1y) b1z.nd rfl (by nofun) (a0l (a1m K rfl) (mv 2) (a0l a4y a0b (a0i (a0f K rfl) (mv 0) (a0l a1e (a0l a4y a0b (mv 1)) (a0w (a1o K rfl) rfl T.n_a8 Zy (a0a (mv 0) a0e))) (λ_ _=>rfl)))))) a0u) (a0h (a0t (a0l a1e (a0l a4y (mv 2) (mv 2)) a0b)))))),H,Q,E,hr,h
 rename_i a k;obtain⟨ns,hS,hb,h0,h1,q⟩:=h;ext
 exists a1v hS
 rw[length_map]
 exists e
 ·have hk:=Zf e;ext;obtain⟨v,hv,hv2⟩:=a3t (xs:=ns.map V.int) h0 (by rw[length_map];exact hk);obtain⟨x,rfl⟩:=ints_at hv;refine a1h hS hv ?_;exact q _
 ext
 exists a4l (a4e qd)
 exists a1v hS
 rw[length_map]
 exists e
 ·have hl:=Zf e;ext
  exists a4l (a4e qd)
  exists a1v hS
  rw[length_map]
  exists m2_i (show(0:Int)<(ns.length:Int)from hl)
  have b1:=Xb (5*k) (show(ns.length:Int)≠0 by omega);have b2:=Yz (5*k) hl;obtain⟨v,hv,hv2⟩:=a3t (xs:=ns.map V.int) b1 (by rw[length_map];exact b2);obtain⟨x,hx,rfl⟩:=Yb.mp (a8f hv)
  exists a1h hS hv
  exists a4l (a4e qd)
  have hbx:=c2h _ _ (c7j (c:=7919*k+17) (lt_bits x _ (hb x hx)) qo)
  exists a4l (b5h qo)
  exact q _
 ·ext
  exists a4l (a4e qo)
  exact q _
theorem c4h(T:Txt K mg t)  :FnOk P w K mg base CX0 1 t.a_b2 t.d_b2 ["_law_cell_here","_law_many","_law_first"] (a8a K):=by
 exists T.F_b2.ok a2w,a8a,(a0g (a0s (i:=3) a2w.nd rfl (by nofun) a0j) (a0g (a1a (a0q a0x (a0l a1e (mv 0) a0b) a0b (a0m _)) (a0h (a0t (a3f rfl (a3o rfl T.n_e5 (a0a (mv 1) a0e)) (a2t (a0n a7j) ["_law_cell_here","_law_many","_law_first","_law_signs","_law_size","_law_at","_law_names_here","_law_j","_law_name","_law_k","_law_place"] ["_law_cell_here","_law_many","_law_first","_law_signs","_law_size","_law_at","_law_names_here","_law_j","_law_name","%_law_k","_law_place"] rfl rfl qk) (λ_ _ _ _ _=>a2s) (λ_ _ _ _ _=>(a0l (a1m K rfl) (a0i (a0f K rfl) (mv 3) a0b (λ_ _=>rfl)) (a2n mc_str rfl T.n_f9 boot_str (a0a (a0l (a1m K rfl) a0b (a0l a1e (a0l (a1m K rfl) (mv 0) (a0l a1z (mv 1) a0b)) (mv 2))) a0e))))))) a0u) (a0g (a1a (a0q a0x (a0l a1e (mv 0) a0b) a0b (a0m _)) (a0h (a0t (a3f rfl (a3o rfl T.n_e5 (a0a (mv 1) a0e)) (a2t (a0n a7j) ["_law_cell_here","_law_many","_law_first","_law_signs","_law_size","_law_at","_law_names_here","_law_j","_law_name","_law_k","_law_place"] ["_law_cell_here","_law_many","_law_first","_law_signs","_law_size","_law_at","_law_names_here","_law_j","_law_name","%_law_k","_law_place"] rfl rfl qk) (λ_ _ _ _ _=>a2s) (λ_ _ _ _ _=>(a0l (a1m K rfl) (a0i (a0f K rfl) (mv 3) (a0l a1e (a0l a1z (mv 1) a0b) a0b) (λ_ _=>rfl)) (a0l ko_repS (a0i (a0f K rfl) (mv 4) (a0l a1e (a0l a1z (mv 1) a0b) a0b) (λ_ _=>rfl)) (mv 0))))))) a0u) (a0g (a0s (i:=4) (hs:=a1y) a2w.nd rfl (by nofun) (a0l (a1m K rfl) a0b (a0l a1e (a0l a1z (mv 0) a0b) a0b))) (a0g (a0s (i:=5) (hs:=a1y) a2w.nd rfl (by nofun) (a0l a1e (a0l a1z (mv 0) a0b) (mv 4))) (a0g (a0s (i:=6) (hs:=a5c) a2w.nd rfl (by nofun) (a1u a0e)) (a0g (a7d Y3 rfl (a3o rfl T.n_e5 (a0a (mv 1) a0e)) (a2f (i:=7) a2w.nd rfl (by nofun)) (a0g (a0s (i:=8) a2w.nd rfl (by nofun) a0j) (a0g (a7d Y3 rfl (a3o rfl T.n_e5 (a0a (mv 4) a0e)) (a2f (i:=9) a2w.nd rfl (by nofun)) (a0g (a0s (i:=10) (hs:=a1y) a2w.nd rfl (by nofun) (a0l (a1m K rfl) (a0l (a1m K rfl) (a0l a1z (mv 0) (a0l (a1m K rfl) (a0l a4y a0b (mv 9)) a0b)) (mv 9)) (a0l a4y (mv 7) (a2n b5e rfl T.n_f1 Sz (a0a (a1c a0x (mv 9) (mv 5) (a0m _)) a0e))))) (a0h (a0s (i:=8) (hs:=a1y) a2w.nd rfl (by nofun) (a0l (a1m K rfl) (mv 8) (a8i (a0q a0x (mv 9) a0b (a0m _)) (a0i (a0f K rfl) (mv 2) (a0l a1e (mv 10) a0b) (λ_ _=>rfl)) (a0i (a0f K rfl) (mv 3) (a0l a1e (mv 10) a0b) (λ_ _=>rfl)))))))) (a0h (a4m (a7v K rfl Y9 Wl W7 a7f (mv 6) (a0a (mv 8) a0e))))))) (a0h (a0t (mv 6)))))))))),H,Q,E,hr,h
 rename_i c m first
 obtain⟨h1,h2,hf,hn,q⟩:=h;have fl:first.length<=sizeLine:=ln qo
 have fl':first.cps.toList.length=26:=by rw[<-hf];simp[Str.length]
 have l62:a4f.cps.toList.length=62:=by decide+kernel
 have tl:a4f.length<=sizeLine:=ln (by rw[tl62];decide);ext
 exists e
 ·obtain⟨a0,ha0⟩:=b1l (z:=first) (i:=20) qd qo;ext;refine⟨m,rfl,qo,qo,λD hD=>?_⟩;refine a2i (a3p 0 m.toNat) (λi ys H'=>Same H H'/\ys=(List.range i).map (λk=>V.str ((λk:Nat=>(⟨(a0::a5a (1+(0+(k:Int)+c/4)%m).toNat).toArray⟩:Str)) k))/\H' D=some (.lst ys)) (ln qo) ⟨a0d hD _,rfl,a0c⟩ (λ_ _ _ _=>trivial) (λi ys H' Q' hi hl' hP k=>?_) (λys H' hl' hP=>?_)
  ·obtain⟨g1,g2,g3⟩:=hP;ext
   exists b2t fl ha0
   exists m2_i (show(0:Int)<m by omega)
   have b1:=Xb (0+(i:Int)+c/4) (show m≠0 by omega);have b2:=Yz (0+(i:Int)+c/4) (show 0<m by omega);refine mStr_i qo qo ?_;have fg:=a9u (n:=(1+(0+(i:Int)+c/4)%m).toNat) qo;refine b1k (ln (by rw[fg];show 1+1<=100000;decide)) ?_;rw[show(⟨#[a0]⟩:Str)++⟨(a5a (1+(0+(i:Int)+c/4)%m).toNat).toArray⟩=⟨(a0::a5a (1+(0+(i:Int)+c/4)%m).toNat).toArray⟩from b2u [a0] _];refine k _ _ g3 ⟨a1f g1 hD,?_,a0c⟩;rw[g2,X4,Zt];rfl
  ·obtain⟨g1,g2,g3⟩:=hP;refine q D ((List.range m.toNat).map (λk:Nat=>(⟨(a0::a5a (1+(0+(k:Int)+c/4)%m).toNat).toArray⟩:Str))) H' qz (a4r _ λi j hi hj e=>?_) (λx hx=>?_) (.inr ⟨2,λx hx=>?_⟩) g1 (by rw[Uf];exact g2▸g3)
   ·have e:=(Xi (st_inj' e)).2;have c1:=Xb (0+(i:Int)+c/4) (show m≠0 by omega);have c2:=Yz (0+(i:Int)+c/4) (show 0<m by omega);have c3:=Xb (0+(j:Int)+c/4) (show m≠0 by omega);have c4:=Yz (0+(j:Int)+c/4) (show 0<m by omega);rw[a9u qo,a9u qo]at e;have e:(0+(i:Int)+c/4)%m=(0+(j:Int)+c/4)%m:=by
     have:=(Xi e).1;omega
    have d:=Int.emod_eq_emod_iff_emod_sub_eq_zero.mp e;obtain⟨w1,hw⟩:=Int.dvd_of_emod_eq_zero d;have hw:(i:Int)-j=m*w1:=by omega
    rcases Int.lt_trichotomy w1 0 with z|z|z
    ·have:m*w1<=m*(-1):=Wj qo qo;omega
    ·subst z;omega
    ·have:m*1<=m*w1:=Wj qo qo;omega
   ·obtain⟨i,hi,rfl⟩:=Yb.mp hx;have hi:=Y2.mp hi;have c1:=Xb (0+(i:Int)+c/4) (show m≠0 by omega);have c2:=Yz (0+(i:Int)+c/4) (show 0<m by omega);rw[a9u qo];refine⟨_,_,rfl,a8f ha0,λy hy=>?_,qz⟩;rw[Zu.mp hy];exact d0r ⟨(1+(0+(i:Int)+c/4)%m).toNat,qo⟩
   ·obtain⟨i,hi,rfl⟩:=Yb.mp hx;have hi:=Y2.mp hi;have c1:=Xb (0+(i:Int)+c/4) (show m≠0 by omega);have c2:=Yz (0+(i:Int)+c/4) (show 0<m by omega);rw[str_len,a9u qo];rfl
 ext
 exists e
 ·obtain⟨a0,ha0⟩:=b1l (z:=first) (i:=c/4%26) qo qo;obtain⟨b0,hb0⟩:=b1l (z:=a4f) (i:=c/104%62) qo (by rw[tl62];omega);ext;refine⟨m,rfl,qo,qo,λD hD=>?_⟩;refine a2i (a3p 0 m.toNat) (λi ys H'=>Same H H'/\ys=(List.range i).map (λk=>V.str ((λk:Nat=>(⟨(a0::List.replicate k b0).toArray⟩:Str)) k))/\H' D=some (.lst ys)) (ln qo) ⟨a0d hD _,rfl,a0c⟩ (λ_ _ _ _=>trivial) (λi ys H' Q' hi hl' hP k=>?_) (λys H' hl' hP=>?_)
  ·obtain⟨g1,g2,g3⟩:=hP;ext
   exists b2t fl ha0
   exists b2t tl hb0
   refine mRepS_i qo qo ?_;rw[show(0+(i:Int)).toNat=i by omega];refine b1k (ln (by have e9:=str_len (List.replicate i b0);rw[Vf]at e9;rw[e9];show 1+i<=100000;omega)) ?_;rw[show(⟨#[a0]⟩:Str)++⟨(List.replicate i b0).toArray⟩=⟨(a0::List.replicate i b0).toArray⟩from b2u [a0] _];refine k _ _ g3 ⟨a1f g1 hD,?_,a0c⟩;rw[g2,X4,Zt];rfl
  ·obtain⟨g1,g2,g3⟩:=hP;refine q D ((List.range m.toNat).map (λk:Nat=>(⟨(a0::List.replicate k b0).toArray⟩:Str))) H' qz (a4r _ λi j hi hj e=>?_) (λx hx=>?_) kw_rep g1 (by rw[Uf];exact g2▸g3)
   ·have e:=Y0 List.length (st_inj' e)
    simpa using e
   ·obtain⟨i,hi,rfl⟩:=Yb.mp hx;have hi:=Y2.mp hi;refine⟨_,_,rfl,a8f ha0,λy hy=>?_,by rw[Vf];omega⟩;rw[(W6.mp hy).2];exact a8f hb0
 ext;have z0:0<=c/4%12/\c/4%12<12:=by omega
 generalize c/4%12=sz at z0 ⊢
 exists m2_i (show(0:Int)<1+sz by omega)
 have a1:=Xb (c/48) (show 1+sz≠0 by omega);have a2:=Yz (c/48) (show 0<1+sz by omega);generalize c/48%(1+sz)=ac at a1 a2 ⊢;obtain⟨at_,rfl⟩:∃n:Nat,ac=(n:Int):=⟨ac.toNat,qo⟩;obtain⟨size,hsz⟩:∃n:Nat,1+sz=(n:Int):=⟨(1+sz).toNat,qo⟩;rw[hsz]at a2 ⊢;have hs12:1<=size/\size<=12:=by omega
 refine⟨ln (by show 0<=100000;decide),λp1 hp1=>?_⟩;have sp1:Same H (upd H p1 (.lst [])):=a0d hp1 _;have kp1:(upd H p1 (.lst [])) p1=some (.lst []):=a0c;generalize upd H p1 (.lst [])=H1 at sp1 kp1 ⊢;ext;refine⟨m,rfl,qo,qo,?_⟩;refine a8e (a3p 0 m.toNat) (λi σ' H'=>∃(o7 o8 o9 o10:Option V),σ'=[some (.int c),some (.int m),some (.str first),some (.str a4f),some (.int size),some (.int at_),some (.ref p1),o7,o8,o9,o10]/\Same H H'/\H' p1=some (.lst (((List.range i).map (nm3 c first.cps.toList at_ size)).map V.str))) ⟨none,none,none,none,rfl,sp1,kp1⟩ (λ_ _ _ _=>trivial) (λi σ' H' hi hP=>?_) (λσ' H' hP=>?_)
 ·obtain⟨o7,o8,o9,o10,rfl,s1,k1⟩:=hP;have hi9:i<9:=by omega
  ext;refine⟨size,rfl,qo,qo,?_⟩;refine a8e (a3p 0 (size:Int).toNat) (λn σ2 H2=>∃(o9 o10:Option V),σ2=[some (.int c),some (.int m),some (.str first),some (.str a4f),some (.int size),some (.int at_),some (.ref p1),some (.int (0+(i:Int))),some (.str ⟨((List.range n).map (chN c first.cps.toList at_ i)).toArray⟩),o9,o10]/\H2=H') ⟨_,_,by rw[show(⟨((List.range 0).map (chN c first.cps.toList at_ i)).toArray⟩:Str)=ofString "" by rw[em_eq];rfl];rfl,rfl⟩ (λ_ _ _ _=>trivial) (λn σ2 H2 hn2 hP=>?_) (λσ2 H2 hP=>?_)
  ·obtain⟨o9,o10,rfl,rfl⟩:=hP;have hn12:n<12:=by omega
   ext
   exists a4l (a4e qd)
   exists m2_i (C:=CDiv) (c5z qo qo)
   have eb:(if(false^^decide ((0+(n:Int))=(at_:Int)))=true then(1:Int)else 0)=if n=at_ then 1 else 0:=by
    by_cases h:n=at_
    ·rw[if_pos h,if_pos (by rw[Zn];exact Zx qo)]
    ·rw[if_neg h,if_neg (by rw[Zn,Zo qo];exact Zp)]
   rw[eb]
   exists a4l (a4e qo)
   have ep:c/(7*(0+(n:Int))+11)+(0+(n:Int))+(0+(i:Int))*(if n=at_ then 1 else 0)=plc c at_ n i:=by
    unfold plc;simp only[Int.zero_add]
   rw[ep];have hadd:∀d:Nat,(⟨((List.range n).map (chN c first.cps.toList at_ i)).toArray⟩:Str).length+(⟨#[d]⟩:Str).length<=sizeLine:=λd=>ln (by rw[str_len,length_map,Td];show n+1<=100000;omega)
   exists e
   ·have hn0:n=0:=by have:=Zf (a3h e);omega
    ext;refine b2t fl (c0i (l:=first.cps.toList) qo (by rw[fl'];omega)) ?_;refine b1k (hadd _) ?_
    rw[show(⟨((List.range n).map (chN c first.cps.toList at_ i)).toArray⟩:Str)++⟨#[first.cps.toList.getD (plc c at_ n i%26).toNat 0]⟩=⟨((List.range (n+1)).map (chN c first.cps.toList at_ i)).toArray⟩ by
     rw[X4,Zt,<-b2u]
     congr 1
     simp only[Z4,Wv,chN,if_pos hn0]]
    ext;exact⟨_,_,rfl,rfl⟩
   ·have hn0:n≠0:=by have:=Zq (a3h e);omega
    ext;refine b2t tl (c0i (l:=a4f.cps.toList) qo (by rw[l62];omega)) ?_;refine b1k (hadd _) ?_
    rw[show(⟨((List.range n).map (chN c first.cps.toList at_ i)).toArray⟩:Str)++⟨#[a4f.cps.toList.getD (plc c at_ n i%62).toNat 0]⟩=⟨((List.range (n+1)).map (chN c first.cps.toList at_ i)).toArray⟩ by
     rw[X4,Zt,<-b2u]
     congr 1
     simp only[Z4,Wv,chN,if_neg hn0]]
    ext;exact⟨_,_,rfl,rfl⟩
  ·obtain⟨o9,o10,rfl,rfl⟩:=hP;ext;refine⟨.inl ⟨rfl,_,SqL.of k1⟩,?_⟩;ext;refine a7g k1 (ln1 (by rw[length_map,length_map,Td];omega)) ?_;refine⟨_,_,_,_,rfl,a1f s1 hp1,?_⟩;rw[a0c,X4,Zt,Zt];rfl
 ·obtain⟨o7,o8,o9,o10,rfl,s1,k1⟩:=hP;ext;refine q p1 _ H' qz (a4r _ λi j hi hj e=>nm3_inj hn fl' qo qo qo e) (λx hx=>?_) (.inr ⟨size,λx hx=>?_⟩) s1 k1;obtain⟨i,hi,rfl⟩:=Yb.mp hx;exact nmd3 fl' hs12.1 hs12.2;obtain⟨i,hi,rfl⟩:=Yb.mp hx
  show(⟨((List.range size).map _).toArray⟩:Str).length=size
  rw[str_len,length_map,Td]
theorem c4i(T:Txt K mg t)(G_b2:FnOk P w K mg base CX0 1 t.a_b2 t.d_b2 ["_law_cell_here","_law_many","_law_first"] (a8a K)):FnOk P w K mg base CX0 2 t.a_c8 t.d_c8 ["_law_cell_here","_law_many"] (b0z K):=by
 exists T.F_c8.ok b5q,b0z,(a0g (a0s (i:=2) (hs:=a1g) b5q.nd rfl (by nofun) (a0r G_b2 hr.o rfl T.m_b2 T.F_b2.kp T.b_b2 .nil a0v (a0a (mv 0) (a0a (mv 1) (a0a a0j a0e))))) (a0h (a0t (a3f rfl (a3s K rfl (mv 2)) (a2t (a0n a8x) ["_law_cell_here","_law_many","_law_words_here"] ["_law_cell_here","_law_many","_law_words_here"] rfl rfl qk) (λ_ _ _ _ _=>a2s) (λ_ _ _ _ _=>(a8i (a0q (b9j K rfl) (mv 0) (a1j (a0a a0j (a0a a0j a0e))) (by with_unfolding_all rfl)) (a0l (a1m K rfl) (mv 0) a0j) (mv 0))))))),H,Q,E,hr,h
 rename_i c m;obtain⟨rfl,q⟩:=h;ext;refine⟨qd,qd,qk,qk,λp xs H1 hl hn hx hkw s1 k1=>?_⟩;ext;refine⟨p,rfl,⟨_,SqL.of k1⟩,λD hD=>?_⟩;have hl:xs.length=4:=hl;refine a2i (a3r (xs:=xs.map V.str)) (λi ys J=>∃zs:List Str,ys=zs.map V.str/\Same H1 J/\J D=some (.lst ys)/\zs.length=i/\(∀z∈zs,Wd z)/\(∀z∈zs,z.length<=30)/\zs=(xs.take i).map fW) (ln (by rw[length_map];omega)) ⟨[],rfl,a0d hD _,a0c,rfl,λz hz=>by simp at hz,λz hz=>by simp at hz,by rw[Vs];rfl⟩ (λi ys J hP=>by obtain⟨_,_,s,_⟩:=hP;exact s.seq (SqL.of k1)) (λi ys J Q' hi hl' hP k=>?_) (λys J hl' hP=>?_)
 ·obtain⟨zs,rfl,s2,kD,hz,hw,hs,hq⟩:=hP;obtain⟨v,hv⟩:∃v,(xs.map V.str)[i]? =some v:=⟨_,Zb hi⟩
  obtain⟨x,hxm,rfl⟩:∃x,x∈xs/\V.str x=v:=Yb.mp (Yy hv);have hxi:xs[i]? =some x:=by rw[Z5]at hv;obtain⟨y,e1,e2⟩:=W9.mp hv;cases e2;exact e1
  have hg:(xs.map V.str).getD i .non=.str x:=by rw[Zr,hv];rfl
  rw[hg];ext;refine⟨ln (by show 2<=100000;decide),λp2 hp2=>?_⟩;have s3:=a0d hp2 (.tup [.str keepS,.str notS]);have k3:(upd J p2 (.tup [.str keepS,.str notS])) p2=some (.tup ([keepS,notS].map V.str)):=a0c;generalize upd J p2 (.tup [.str keepS,.str notS])=J3 at s3 k3 ⊢;refine b6i [keepS,notS] (.inr (SqT.of k3)) ?_
  have fin:∀w:Str,Wd w->w.length<=30->w=fW x->∀Z,Same J Z->Q' (.str w) Z:=λw h1 h2 h3 Z sZ=>k _ _ (sZ _ _ kD) ⟨zs++[w],qz,a1f (s2.trans sZ) hD,a0c,by rw[Zj,hz];rfl,λz hz=>by
   rcases Yt.mp hz with y|y
   ·exact hw z y
   ·rw[Zu.mp y];exact h1,λz hz=>by
   rcases Yt.mp hz with y|y
   ·exact hs z y
   ·rw[Zu.mp y];exact h2,by rw[hq,h3,Tc,hxi,Zt];rfl⟩
  exists e
  ·ext;have hm:x∈[keepS,notS]:=Zf e;have hk:=(wd_s hm).ln;have l12:=(hx x hxm).len;have l1:(ofString "s").length=1:=by decide+kernel
   refine b1k (ln (by rw[l1];omega)) ?_;exact fin _ (wd_s hm) (by rw[Uv,l1];omega) (if_pos hm).symm _ s3
  ·ext;have hm:¬x∈[keepS,notS]:=Zq e;have l12:=(hx x hxm).len;exact fin x (wd_mk (hx x hxm) (λz=>hm (by rw[z];simp)) λz=>hm (by rw[z];simp)) qo (if_neg hm).symm _ s3
 ·obtain⟨zs,rfl,s2,kD,hz,hw,hs,hq⟩:=hP;have hl4:zs.length=4:=by
   have h:(zs.map V.str).length=(xs.map V.str).length:=hl';rw[length_map,length_map]at h;omega
  exact q D zs J (s1.trans s2) kD ⟨hl4,hw,hs⟩ (by rw[hq,Y7 (by rw[length_map];omega)];exact d0s hn hkw)
end
section
variable{P:Program}{w:World}{K:W.Frag}{mg:Str->Option Value}{base:Heap}{t:Ad}
theorem ok_law(T:Txt K mg t)(G_b2:FnOk P w K mg base CX0 1 t.a_b2 t.d_b2 ["_law_cell_here","_law_many","_law_first"] (a8a K))(G_c8:FnOk P w K mg base CX0 2 t.a_c8 t.d_c8 ["_law_cell_here","_law_many"] (b0z K))(G_b7:FnOk P w K mg base CX0 110 t.a_b7 t.d_b7 ["rules","rows"] (b1a K))(G_a0:FnOk P w K mg base CX0 1 t.a_a0 t.d_a0 ["_law_script","_law_k"] (a7k K))(G_d7:FnOk P w K mg base CX0 103 t.a_d7 t.d_d7 ["_law_script","_law_mark","_law_names_here","_law_words_here"] (b2l K))(G_d1:FnOk P w K mg base CX0 103 t.a_d1 t.d_d1 ["_law_goal"] (a6r K))(G_d5:FnOk P w K mg base CX0 2 t.a_d5 t.d_d5 ["_law_script","_law_held","_law_words_here"] (b4q K))(G_a6:FnOk P w K mg base CX0 1 t.a_a6 t.d_a6 ["_law_cell_here"] (a4o)):FnOk P w K mg base CX0 111 t.a_law t.d_law ["_law_script"] (b2e K):=by
 exists T.F_law.ok a1w,b2e,(@QSs.pss _ _ _ (a1d (a2y (a0s (i:=1) (hs:=a1g) a1w.nd rfl (by nofun) (a0r G_b2 hr.o rfl T.m_b2 T.F_b2.kp T.b_b2 .nil a0v (a0a (a0r G_a0 hr.o rfl T.m_a0 T.F_a0.kp T.b_a0 .nil a0v (a0a (mv 0) (a0a a0b a0e))) (a0a a0b (a0a a0j a0e)))))) (a1d (a2y (a0s (i:=2) (hs:=a1g) a1w.nd rfl (by nofun) (a0r G_c8 hr.o rfl T.m_c8 T.F_c8.kp T.b_c8 .nil a0v (a0a (a0r G_a0 hr.o rfl T.m_a0 T.F_a0.kp T.b_a0 .nil a0v (a0a (mv 0) (a0a a0b a0e))) (a0a a0b a0e))))) (a1d (a2y (a0s (i:=3) (hs:=a1y) a1w.nd rfl (by nofun) (a0l a1e (a0r G_a0 hr.o rfl T.m_a0 T.F_a0.kp T.b_a0 .nil a0v (a0a (mv 0) (a0a a0b a0e))) a0b))) (a1d (a2y (a0s (i:=4) (hs:=a1g) a1w.nd rfl (by nofun) (a2n b5e rfl T.n_f1 Sz (a0a (a1c a0x (a0l a1e (a0r G_a0 hr.o rfl T.m_a0 T.F_a0.kp T.b_a0 .nil a0v (a0a (mv 0) (a0a a0b a0e))) a0b) a0b (a0m _)) a0e)))) (a1d (a2y (a0s (i:=5) (hs:=a1y) a1w.nd rfl (by nofun) (a0l c2j (a1u (a0a a0b a0e)) (a2n b5e rfl T.n_f1 Sz (a0a (a1c a0x (a0l a1e (a0r G_a0 hr.o rfl T.m_a0 T.F_a0.kp T.b_a0 .nil a0v (a0a (mv 0) (a0a a0b a0e))) a0b) a0b (a0m _)) a0e))))) (a1d (c2l (i:=6) a1w.nd rfl (by nofun) rfl (a3o rfl T.n_e5 (a0a a0b a0e)) (a2t (a0n b3a) ["_law_script","_law_names_here","_law_words_here","_law_way","_law_number_here","_law_kids","_law_held","_law_rules","_law_rows","_law_goal","_law_due","_law_kept","_law_found"] ["_law_script","_law_names_here","_law_words_here","_law_way","_law_number_here","_law_kids","_law_held","_law_rules","_law_rows","_law_goal","_law_due","_law_kept","_law_found"] rfl rfl qk) (λ_ _ _ _ _=>a2s) (λ_ _ _ _ _=>(a1k (a0o (a1b a0j) (a0o (a1b (a0i (a0f K rfl) (mv 3) a0b (λ_ _=>rfl))) (a0o (a1k (a0o (a1k (a0o (a1b a0j) (a0o (a1b (a0r G_a6 hr.o rfl T.m_a6 T.F_a6.kp T.b_a6 .nil a0v (a0a (a0r G_a0 hr.o rfl T.m_a0 T.F_a0.kp T.b_a0 .nil a0v (a0a (mv 1) (a0a a0b a0e))) a0e))) a0y rfl) rfl)) (a0o (a1k (a0o (a1b a0j) (a0o (a1b (a0i (a0f K rfl) (mv 2) (mv 0) (λ_ _=>rfl))) a0y rfl) rfl)) a0y rfl) rfl)) a0y rfl) rfl) rfl))) rfl (λ_=>rfl) (by nofun)) (a1d (a3x (i:=7) a1w.nd rfl (by nofun) (a2e (a0o (a1k (a0o (a1k (a0o (a1b a0j) (a0o (a1b (a0i (a0f K rfl) (mv 2) a0b (λ_ _=>rfl))) (a0o (a1k (a0o (a1k (a0o (a1b a0j) (a0o (a1b a0b) a0y rfl) rfl)) (a0o (a1k (a0o (a1b a0j) (a0o (a1b a0b) a0y rfl) rfl)) a0y rfl) rfl)) a0y rfl) rfl) rfl)) (a0o (a1k a0y) a0y rfl) rfl)) (a0o (a1k (a0o (a1k (a0o (a1b a0j) (a0o (a1b (a0i (a0f K rfl) (mv 2) a0b (λ_ _=>rfl))) (a0o (a1k (a0o (a1k (a0o (a1b a0j) (a0o (a1b a0b) a0y rfl) rfl)) a0y rfl)) a0y rfl) rfl) rfl)) (a0o (a1k a0y) a0y rfl) rfl)) a0y rfl) rfl)) a5c (by nofun)) (a1d (a3x (i:=7) a1w.nd rfl (by nofun) (qe_op (a1m K rfl) (a1b (mv 7)) (a2e (a0o (a1k (a0o (a1k (a0o (a1b a0j) (a0o (a1b (a0i (a0f K rfl) (mv 2) a0b (λ_ _=>rfl))) (a0o (a1k a0y) a0y rfl) rfl) rfl)) (a0o (a1k a0y) a0y rfl) rfl)) a0y rfl))) a1y (by nofun)) (a1d (a3x (i:=8) a1w.nd rfl (by nofun) (a2e (a0o (a1k (a0o (a1b a0j) (a0o (a2e (a0o (a1b (a0i (a0f K rfl) (mv 6) a0b (λ_ _=>rfl))) a0y rfl)) (a0o (a2e a0y) a0y rfl) rfl) rfl)) a0y rfl)) a5c (by nofun)) (a1d (b0m (a0q a7u (mv 3) a0b (a0m _)) (a1d (a2y (a0s (i:=9) (hs:=a1g) a1w.nd rfl (by nofun) (a0r G_d7 hr.o rfl T.m_d7 T.F_d7.kp T.b_d7 .nil a0v (a0a (mv 0) (a0a (a0i (a0f K rfl) (a1u (a0a a0j (a0a a0j (a0a a0j (a0a a0j (a0a a0j a0e)))))) (mv 3) (λ_ _=>rfl)) (a0a (mv 1) (a0a (mv 2) a0e))))))) (a1d (a2y (a0s (i:=10) a1w.nd rfl (by nofun) (a2k (a0r G_d1 hr.o rfl T.m_d1 T.F_d1.kp T.b_d1 .nil a0v (a0a (mv 9) a0e)) (a2k (a1c a0x (mv 4) a0b (a0m _)) (a2p (a1c (c7a K rfl (a3u hr)) (mv 5) (a1u a0e) (a0m _))))))) (a3l (a2y (a0s (i:=8) (hs:=a1y) a1w.nd rfl (by nofun) (a0l c2j (mv 8) (a2n b5e rfl T.n_f1 Sz (a0a (a1c a0x (a0l a1e (a0r G_a0 hr.o rfl T.m_a0 T.F_a0.kp T.b_a0 .nil a0v (a0a (mv 0) (a0a a0b a0e))) a0b) a0b (a0m _)) a0e)))))))) (a3l (b0m (a0q a0x (mv 3) a0b (a0m _)) (a1d (a2y (b8n (a0r G_d5 hr.o rfl T.m_d5 T.F_d5.kp T.b_d5 .nil a0v (a0a (mv 0) (a0a (mv 6) (a0a (mv 2) a0e)))) (b2w K rfl rfl (a3a (a2f (i:=9) a1w.nd rfl (by nofun)) (a3a (a2f (i:=5) a1w.nd rfl (by nofun)) (a3a (a2f (i:=8) a1w.nd rfl (by nofun)) (a3a (a2f (i:=10) a1w.nd rfl (by nofun)) a9n))))))) (a3l (a2y (a0s (i:=10) a1w.nd rfl (by nofun) (a2k (mv 10) (a2p (a1c a0x (mv 4) a0b (a0m _)))))))) (a1d (a3x (i:=9) a1w.nd rfl (by nofun) (a1k (a0o (a1b a0j) (a0o (a1b a0j) (a0o (a1k a0y) a0y rfl) rfl) rfl)) a8m (by nofun)) (a3l (a2y (a0s (i:=10) a1w.nd rfl (by nofun) a6u))))))) (a1d (a3x (i:=8) a1w.nd rfl (by nofun) (qe_op (a1m K rfl) (a2e (a0o (a1k (a0o (a1b a0j) (a0o (a1b (mv 9)) (a0o (a1b (mv 4)) (a0o (a1b (mv 5)) a0y rfl) rfl) rfl) rfl)) a0y rfl)) (a1b (mv 8))) a1y (by nofun)) (a1d (b0m (a0q a0x (a0l a1e (a0l a1z (a0r G_a0 hr.o rfl T.m_a0 T.F_a0.kp T.b_a0 .nil a0v (a0a (mv 0) (a0a a0b a0e))) a0b) a0b) a0b (a0m _)) (a1d (a3x (i:=8) a1w.nd rfl (by nofun) (qe_op (a1m K rfl) (a1b (a4d (a5u K rfl) (mv 8) (a5m a0b) a5k)) (a2e (a0o (a1k (a0o (a1b a0j) (a0o (a1b (mv 9)) (a0o (a1b (mv 4)) (a0o (a1b (a3f rfl (a3s K rfl (mv 5)) (a2t (a0n b3a) ["_law_script","_law_names_here","_law_words_here","_law_way","_law_number_here","_law_kids","_law_held","_law_rules","_law_rows","_law_goal","_law_due","_law_kept","_law_found"] ["_law_script","_law_names_here","_law_words_here","_law_way","_law_number_here","_law_kids","_law_held","_law_rules","_law_rows","_law_goal","_law_due","_law_kept","_law_found"] rfl rfl qk) (λ_ _ _ _ _=>a2s) (λ_ _ _ _ _=>(a0l a3b (a0l a3b (a0w (a1o K rfl) rfl T.n_a8 Zy (a0a (mv 9) a0e)) a0b) (mv 0))))) a0y rfl) rfl) rfl) rfl)) a0y rfl))) a1y (by nofun)) (a3l (a2y (a0s (i:=10) a1w.nd rfl (by nofun) (a2k (mv 10) (a2p (a1c (c7a K rfl (a3u hr)) (mv 5) (a1u a0e) (a0m _)))))))) a9v) (a1d (c2l (i:=11) a1w.nd rfl (by nofun) rfl (a3s K rfl (mv 8)) (a2t (a0n b3a) ["_law_script","_law_names_here","_law_words_here","_law_way","_law_number_here","_law_kids","_law_held","_law_rules","_law_rows","_law_goal","_law_due","_law_kept","_law_found"] ["_law_script","_law_names_here","_law_words_here","_law_way","_law_number_here","_law_kids","_law_held","_law_rules","_law_rows","_law_goal","_law_due","_law_kept","_law_found"] rfl rfl qk) (λ_ _ _ _ _=>a2s) (λ_ _ _ _ _=>(a1b (a8i (a0q a0x (a0i (a0f K rfl) (mv 0) a0b (λ_ _=>rfl)) a0j (a0m _)) (a1j (a0a (a0i (a0f K rfl) (mv 0) a0b (λ_ _=>rfl)) (a0a (a0i (a0f K rfl) (mv 0) a0b (λ_ _=>rfl)) (a0a (a0i (a0f K rfl) (mv 0) a0b (λ_ _=>rfl)) (a0a (a2n (c2d K rfl) rfl T.n_e7 Tl (a0a (a0i (a0f K rfl) (mv 0) a0b (λ_ _=>rfl)) a0e)) a0e))))) (mv 0)))) rfl (λ_=>rfl) (by nofun)) (a1d (a2y (a0s (i:=12) (hs:=a1g) a1w.nd rfl (by nofun) (a0r G_b7 hr.o rfl T.m_b7 T.F_b7.kp T.b_b7 .nil a0v (a0a (mv 7) (a0a (mv 8) a0e))))) (a3l (a2y (a0t (a2k (a0w (kc_isi K rfl) rfl T.n_g1 boot_isinstance (a0a (mv 12) (a0a (b9b rfl T.n_g6 boot_bool) a0e))) (a2k (a1c a0x (mv 12) (mv 10) (a0m _)) (a2k (a1c (ko_eqX K rfl (a3u hr)) (mv 8) (mv 11) (a0m _)) (a2p (a1c a0x (a0r G_b7 hr.o rfl T.m_b7 T.F_b7.kp T.b_b7 .nil a0v (a0a (mv 7) (a0a (mv 8) a0e))) (mv 10) (a0m _)))))))))))))))))))))))),H,Q,E,hr,h
 rename_i a;obtain⟨ns,hS,hl,hb,q⟩:=h;ext;refine⟨ns,((Same.refl _)).seq hS,hb,qo,qo,λc0=>?_⟩;ext;refine⟨qo,qo,qk,c1i,λnp xs Hn hx5 hxn _ _ s1 k1=>?_⟩;have hx5:xs.length=5:=hx5;ext;refine⟨ns,(s1).seq hS,hb,qo,qo,λc1=>?_⟩;ext;refine⟨rfl,λwp wd Hw s2 k2 wo wnd=>?_⟩;ext;refine⟨ns,((s1.trans s2)).seq hS,hb,qo,qo,λc2=>?_⟩;ext;refine⟨ns,((s1.trans s2)).seq hS,hb,qo,qo,λc3=>?_⟩;ext;obtain⟨n,hn01,hne⟩:∃n:Int,(n=0\/n=1)/\(if(false^^decide (c3%8=3))=true then(1:Int)else 0)=n:=by
  by_cases h:c3%8=3
  ·exact⟨1,.inr rfl,by rw[Zx h];rfl⟩
  ·exact⟨0,.inl rfl,by rw[Zo h];rfl⟩
 rw[hne];ext;refine⟨ln (by show 1<=100000;decide),λpk hpk=>?_⟩;have spk:Same Hw (upd Hw pk (.lst [.int 1])):=a0d hpk _;have kpk:(upd Hw pk (.lst [.int 1])) pk=some (.lst [.int 1]):=a0c;generalize upd Hw pk (.lst [.int 1])=H3 at spk kpk ⊢;ext;refine⟨ns,((s1.trans (s2.trans spk))).seq hS,hb,qo,qo,λc4=>?_⟩;ext;obtain⟨m,hm01,hme⟩:∃m:Int,(m=0\/m=1)/\(if(false^^decide (c4%8=5))=true then(1:Int)else 0)=m:=by
  by_cases h:c4%8=5
  ·exact⟨1,.inr rfl,by rw[Zx h];rfl⟩
  ·exact⟨0,.inl rfl,by rw[Zo h];rfl⟩
 rw[hme];refine c2k kpk qo qo (λkp hkp=>?_);obtain⟨kids,hkids,hke,hk2⟩:∃kids:List Int,List.replicate m.toNat (V.int 1)=kids.map V.int/\True/\kids.length<=2:=by
  rcases hm01 with rfl|rfl
  ·exact⟨[],rfl,trivial,qz⟩
  ·exact⟨[1],rfl,trivial,qz⟩
 rw[hkids];have skp:=a0d hkp (.lst (kids.map V.int));have kkp:(upd H3 kp (.lst (kids.map V.int))) kp=some (.lst (kids.map V.int)):=a0c;generalize upd H3 kp (.lst (kids.map V.int))=H4 at skp kkp ⊢;ext;obtain⟨w0,w1,w2,w3,rfl⟩:∃w0 w1 w2 w3,wd=[w0,w1,w2,w3]:=by
  match wd,wo.l with
  | [w0,w1,w2,w3],_=>exact⟨w0,w1,w2,w3,rfl⟩
 obtain⟨x0,x1,x2,x3,x4,rfl⟩:∃x0 x1 x2 x3 x4,xs=[x0,x1,x2,x3,x4]:=by
  match xs,hx5 with
  | [x0,x1,x2,x3,x4],_=>exact⟨x0,x1,x2,x3,x4,rfl⟩
 have h10:w1≠w0:=λz=>by rw[z]at wnd;simp at wnd
 have hx01:x0≠x1:=λz=>by rw[z]at hxn;simp at hxn
 have m0:w0∈[w0,w1,w2,w3]:=by simp
 have m2:w2∈[w0,w1,w2,w3]:=by simp
 have kn4:=((s2.trans (spk.trans skp)) _ _ k1);have kw4:=((spk.trans skp) _ _ k2);have hS4:=((s1.trans (s2.trans (spk.trans skp)))).seq hS;refine⟨2,rfl,qo,qo,λD hD=>?_⟩;refine a2i (a3p 0 (2:Int).toNat) (λi ys J=>Same H4 J/\J D=some (.lst ys)/\∃ts:List Trm,DenL K J ys (Trm.dataL ts)/\ts.length=i/\∀j,j<i->∃(v:Int)(x:Str),[x0,x1,x2,x3,x4][j]? =some x/\ts[j]? =some (.app w0 [.num v,.any x])) (ln qd) ⟨a0d hD _,a0c,[],.nil,rfl,λj hj=>by omega⟩ (λ_ _ _ _=>trivial) (λi ys J0 Q' hi hl hP k=>?_) (λys H5 hl hP=>?_)
 ·obtain⟨g1,g2,ts,g3,g4,g5⟩:=hP;have hi:i<2:=hi;obtain⟨x,hx⟩:∃x,[x0,x1,x2,x3,x4][i]? =some x:=⟨_,Zb (by simp only[length_cons,length_nil];omega)⟩
  ext
  exists a1h (SqL.of (g1 _ _ kw4)) (v:=.str w0) (a2h qo rfl)
  refine⟨ns,g1.seq hS4,hb,qo,qo,λc4=>?_⟩;ext;refineλv hv=>?_
  ext;refine⟨ln (by show 2<=100000;decide),λp1 hp1=>?_⟩;have sp1:Same J0 (upd J0 p1 (.tup [.str "num",.int v])):=a0d hp1 _;have kp1:(upd J0 p1 (.tup [.str "num",.int v])) p1=some (.tup [.str "num",.int v]):=a0c;generalize upd J0 p1 (.tup [.str "num",.int v])=J1 at sp1 kp1 ⊢;ext
  exists a1h (SqL.of ((g1.trans sp1) _ _ kn4)) (v:=.str x) (a2h qo (by rw[show(0+(i:Int)).toNat=i by omega,Z5,hx];rfl))
  refine⟨ln (by show 2<=100000;decide),λp2 hp2=>?_⟩;have sp2:Same J1 (upd J1 p2 (.tup [.str "any",.str x])):=a0d hp2 _;have kp2:(upd J1 p2 (.tup [.str "any",.str x])) p2=some (.tup [.str "any",.str x]):=a0c;generalize upd J1 p2 (.tup [.str "any",.str x])=J2 at sp2 kp2 ⊢;ext;refine⟨ln (by show 2<=100000;decide),λp3 hp3=>?_⟩;have sp3:Same J2 (upd J2 p3 (.tup [.ref p1,.ref p2])):=a0d hp3 _;have kp3:(upd J2 p3 (.tup [.ref p1,.ref p2])) p3=some (.tup [.ref p1,.ref p2]):=a0c;generalize upd J2 p3 (.tup [.ref p1,.ref p2])=J3 at sp3 kp3 ⊢;ext;refine⟨ln (by show 3<=100000;decide),λp4 hp4=>?_⟩;have sp4:Same J3 (upd J3 p4 (.tup [.str "app",.str w0,.ref p3])):=a0d hp4 _;have kp4:(upd J3 p4 (.tup [.str "app",.str w0,.ref p3])) p4=some (.tup [.str "app",.str w0,.ref p3]):=a0c;generalize upd J3 p4 (.tup [.str "app",.str w0,.ref p3])=J4 at sp4 kp4 ⊢;ext;have sz:=(sp1.trans (sp2.trans (sp3.trans sp4)));have g6:=sz _ _ g2;have dt:Den K J4 (.ref p4) (Trm.app w0 [.num v,.any x]).data:=a2m (SqT.of kp4) (SqT.of (sp4 _ _ kp3)) (by simp only[Trm.dataL];exact .cons (a4p (SqT.of ((sp2.trans (sp3.trans sp4)) _ _ kp1))) (.cons (a5v (SqT.of ((sp3.trans sp4) _ _ kp2))) .nil));refine k _ _ g6 ⟨a1f (g1.trans sz) hD,a0c,ts++[.app w0 [.num v,.any x]],(c2w (g3.mono sz) dt).lst g6,by rw[Zj,g4];rfl,λj hj=>?_⟩
  by_cases hji:j=i
  ·subst hji;exact⟨v,x,hx,by rw[Ty qo,g4];simp⟩
  ·obtain⟨v',x',e1,e2⟩:=g5 j qo;exact⟨v',x',e1,by rw[Vu qo];exact e2⟩
 obtain⟨s5,kD,ts,dD,lts,hts⟩:=hP;have lts:ts.length=2:=lts;obtain⟨t0,t1,rfl⟩:=c7v lts;obtain⟨u0,u1,rfl,d0,d1⟩:=a8r dD;obtain⟨v0,x0',e1,e2⟩:=hts 0 qd;cases e1;cases e2;obtain⟨v1,x1',e1,e2⟩:=hts 1 qd;cases e1;cases e2;clear hts dD;ext
 exists a1h (SqL.of (s5 _ _ kw4)) (v:=.str w1) (a2h qo rfl)
 refine⟨ln (by show 2<=100000;decide),λra hra=>?_⟩;have sra:Same H5 (upd H5 ra (.tup [.str "num",.int 1])):=a0d hra _;have kra:(upd H5 ra (.tup [.str "num",.int 1])) ra=some (.tup [.str "num",.int 1]):=a0c;generalize upd H5 ra (.tup [.str "num",.int 1])=G6 at sra kra ⊢;ext;refine⟨ln (by show 2<=100000;decide),λrb hrb=>?_⟩;have srb:Same G6 (upd G6 rb (.tup [.str "num",.int 1])):=a0d hrb _;have krb:(upd G6 rb (.tup [.str "num",.int 1])) rb=some (.tup [.str "num",.int 1]):=a0c;generalize upd G6 rb (.tup [.str "num",.int 1])=G7 at srb krb ⊢;ext;refine⟨ln (by show 2<=100000;decide),λrc hrc=>?_⟩;have src:Same G7 (upd G7 rc (.tup [.ref ra,.ref rb])):=a0d hrc _;have krc:(upd G7 rc (.tup [.ref ra,.ref rb])) rc=some (.tup [.ref ra,.ref rb]):=a0c;generalize upd G7 rc (.tup [.ref ra,.ref rb])=G8 at src krc ⊢;ext;refine⟨ln (by show 3<=100000;decide),λrd hrd=>?_⟩;have srd:Same G8 (upd G8 rd (.tup [.str "app",.str w1,.ref rc])):=a0d hrd _;have krd:(upd G8 rd (.tup [.str "app",.str w1,.ref rc])) rd=some (.tup [.str "app",.str w1,.ref rc]):=a0c;generalize upd G8 rd (.tup [.str "app",.str w1,.ref rc])=G9 at srd krd ⊢;ext;refine⟨ln (by show 0<=100000;decide),λre hre=>?_⟩;have sre:Same G9 (upd G9 re (.tup [])):=a0d hre _;have kre:(upd G9 re (.tup [])) re=some (.tup []):=a0c;generalize upd G9 re (.tup [])=G10 at sre kre ⊢;ext;refine⟨ln (by show 2<=100000;decide),λrf hrf=>?_⟩;have srf:Same G10 (upd G10 rf (.tup [.ref rd,.ref re])):=a0d hrf _;have krf:(upd G10 rf (.tup [.ref rd,.ref re])) rf=some (.tup [.ref rd,.ref re]):=a0c;generalize upd G10 rf (.tup [.ref rd,.ref re])=G11 at srf krf ⊢;ext
 exists a1h (SqL.of ((s5.trans (sra.trans (srb.trans (src.trans (srd.trans (sre.trans srf)))))) _ _ kw4)) (v:=.str w0) (a2h qo rfl)
 refine⟨ln (by show 2<=100000;decide),λrg hrg=>?_⟩;have srg:Same G11 (upd G11 rg (.tup [.str "num",.int 1])):=a0d hrg _;have krg:(upd G11 rg (.tup [.str "num",.int 1])) rg=some (.tup [.str "num",.int 1]):=a0c;generalize upd G11 rg (.tup [.str "num",.int 1])=G12 at srg krg ⊢;ext;refine⟨ln (by show 1<=100000;decide),λrh hrh=>?_⟩;have srh:Same G12 (upd G12 rh (.tup [.ref rg])):=a0d hrh _;have krh:(upd G12 rh (.tup [.ref rg])) rh=some (.tup [.ref rg]):=a0c;generalize upd G12 rh (.tup [.ref rg])=G13 at srh krh ⊢;ext;refine⟨ln (by show 3<=100000;decide),λri hri=>?_⟩;have sri:Same G13 (upd G13 ri (.tup [.str "app",.str w0,.ref rh])):=a0d hri _;have kri:(upd G13 ri (.tup [.str "app",.str w0,.ref rh])) ri=some (.tup [.str "app",.str w0,.ref rh]):=a0c;generalize upd G13 ri (.tup [.str "app",.str w0,.ref rh])=G14 at sri kri ⊢;ext;refine⟨ln (by show 0<=100000;decide),λrj hrj=>?_⟩;have srj:Same G14 (upd G14 rj (.tup [])):=a0d hrj _;have krj:(upd G14 rj (.tup [])) rj=some (.tup []):=a0c;generalize upd G14 rj (.tup [])=G15 at srj krj ⊢;ext;refine⟨ln (by show 2<=100000;decide),λrk hrk=>?_⟩;have srk:Same G15 (upd G15 rk (.tup [.ref ri,.ref rj])):=a0d hrk _;have krk:(upd G15 rk (.tup [.ref ri,.ref rj])) rk=some (.tup [.ref ri,.ref rj]):=a0c;generalize upd G15 rk (.tup [.ref ri,.ref rj])=G16 at srk krk ⊢;ext;refine⟨ln (by show 2<=100000;decide),λrl hrl=>?_⟩;have srl:Same G16 (upd G16 rl (.lst [.ref rf,.ref rk])):=a0d hrl _;have krl:(upd G16 rl (.lst [.ref rf,.ref rk])) rl=some (.lst [.ref rf,.ref rk]):=a0c;generalize upd G16 rl (.lst [.ref rf,.ref rk])=G17 at srl krl ⊢;ext
 exists a1h (SqL.of ((s5.trans (sra.trans (srb.trans (src.trans (srd.trans (sre.trans (srf.trans (srg.trans (srh.trans (sri.trans (srj.trans (srk.trans srl)))))))))))) _ _ kw4)) (v:=.str w2) (a2h qo rfl)
 refine⟨ln (by show 0<=100000;decide),λrm hrm=>?_⟩;have srm:Same G17 (upd G17 rm (.tup [])):=a0d hrm _;have krm:(upd G17 rm (.tup [])) rm=some (.tup []):=a0c;generalize upd G17 rm (.tup [])=G18 at srm krm ⊢;ext;refine⟨ln (by show 3<=100000;decide),λrn hrn=>?_⟩;have srn:Same G18 (upd G18 rn (.tup [.str "app",.str w2,.ref rm])):=a0d hrn _;have krn:(upd G18 rn (.tup [.str "app",.str w2,.ref rm])) rn=some (.tup [.str "app",.str w2,.ref rm]):=a0c;generalize upd G18 rn (.tup [.str "app",.str w2,.ref rm])=G19 at srn krn ⊢;ext;refine⟨ln (by show 0<=100000;decide),λro hro=>?_⟩;have sro:Same G19 (upd G19 ro (.tup [])):=a0d hro _;have kro:(upd G19 ro (.tup [])) ro=some (.tup []):=a0c;generalize upd G19 ro (.tup [])=G20 at sro kro ⊢;ext;refine⟨ln (by show 2<=100000;decide),λrp hrp=>?_⟩;have srp:Same G20 (upd G20 rp (.tup [.ref rn,.ref ro])):=a0d hrp _;have krp:(upd G20 rp (.tup [.ref rn,.ref ro])) rp=some (.tup [.ref rn,.ref ro]):=a0c;generalize upd G20 rp (.tup [.ref rn,.ref ro])=G21 at srp krp ⊢;ext;refine⟨ln (by show 1<=100000;decide),λrs hrs=>?_⟩;have srs:Same G21 (upd G21 rs (.lst [.ref rp])):=a0d hrs _;have krs:(upd G21 rs (.lst [.ref rp])) rs=some (.lst [.ref rp]):=a0c;generalize upd G21 rs (.lst [.ref rp])=G22 at srs krs ⊢;ext;refine a7h (((srm.trans (srn.trans (sro.trans (srp.trans srs)))) _ _ krl)) krs (ln (by show 2+1<=100000;decide)) (λrt hrt=>?_);have srt:=a0d hrt (.lst ([.ref rf,.ref rk]++[.ref rp]));have krt:(upd G22 rt (.lst ([.ref rf,.ref rk]++[.ref rp]))) rt=some (.lst [.ref rf,.ref rk,.ref rp]):=a0c;generalize upd G22 rt (.lst ([.ref rf,.ref rk]++[.ref rp]))=G23 at srt krt ⊢;have dR:DenL K G23 [.ref rf,.ref rk,.ref rp] ((rs3 w0 w1 w2).map ruE):=.cons (ru_mk (x:=(.app w1 [.num 1,.num 1],[])) (SqT.of ((srg.trans (srh.trans (sri.trans (srj.trans (srk.trans (srl.trans (srm.trans (srn.trans (sro.trans (srp.trans (srs.trans srt))))))))))) _ _ krf)) (a2m (SqT.of ((sre.trans (srf.trans (srg.trans (srh.trans (sri.trans (srj.trans (srk.trans (srl.trans (srm.trans (srn.trans (sro.trans (srp.trans (srs.trans srt))))))))))))) _ _ krd)) (SqT.of ((srd.trans (sre.trans (srf.trans (srg.trans (srh.trans (sri.trans (srj.trans (srk.trans (srl.trans (srm.trans (srn.trans (sro.trans (srp.trans (srs.trans srt)))))))))))))) _ _ krc)) (by simp only[Trm.dataL];exact .cons (a4p (SqT.of ((srb.trans (src.trans (srd.trans (sre.trans (srf.trans (srg.trans (srh.trans (sri.trans (srj.trans (srk.trans (srl.trans (srm.trans (srn.trans (sro.trans (srp.trans (srs.trans srt)))))))))))))))) _ _ kra))) (.cons (a4p (SqT.of ((src.trans (srd.trans (sre.trans (srf.trans (srg.trans (srh.trans (sri.trans (srj.trans (srk.trans (srl.trans (srm.trans (srn.trans (sro.trans (srp.trans (srs.trans srt))))))))))))))) _ _ krb))) .nil))) (SqT.of ((srf.trans (srg.trans (srh.trans (sri.trans (srj.trans (srk.trans (srl.trans (srm.trans (srn.trans (sro.trans (srp.trans (srs.trans srt)))))))))))) _ _ kre)) .nil) (.cons (ru_mk (x:=(.app w0 [.num 1],[])) (SqT.of ((srl.trans (srm.trans (srn.trans (sro.trans (srp.trans (srs.trans srt)))))) _ _ krk)) (a2m (SqT.of ((srj.trans (srk.trans (srl.trans (srm.trans (srn.trans (sro.trans (srp.trans (srs.trans srt)))))))) _ _ kri)) (SqT.of ((sri.trans (srj.trans (srk.trans (srl.trans (srm.trans (srn.trans (sro.trans (srp.trans (srs.trans srt))))))))) _ _ krh)) (by simp only[Trm.dataL];exact .cons (a4p (SqT.of ((srh.trans (sri.trans (srj.trans (srk.trans (srl.trans (srm.trans (srn.trans (sro.trans (srp.trans (srs.trans srt)))))))))) _ _ krg))) .nil)) (SqT.of ((srk.trans (srl.trans (srm.trans (srn.trans (sro.trans (srp.trans (srs.trans srt))))))) _ _ krj)) .nil) (.cons (ru_mk (x:=(.app w2 [],[])) (SqT.of ((srs.trans srt) _ _ krp)) (a2m (SqT.of ((sro.trans (srp.trans (srs.trans srt))) _ _ krn)) (SqT.of ((srn.trans (sro.trans (srp.trans (srs.trans srt)))) _ _ krm)) .nil) (SqT.of ((srp.trans (srs.trans srt)) _ _ kro)) .nil) .nil));ext
 exists a1h (SqL.of ((sra.trans (srb.trans (src.trans (srd.trans (sre.trans (srf.trans (srg.trans (srh.trans (sri.trans (srj.trans (srk.trans (srl.trans (srm.trans (srn.trans (sro.trans (srp.trans (srs.trans srt))))))))))))))))) _ _ kD)) (v:=u0) (a2h qo rfl)
 refine⟨ln (by show 1<=100000;decide),λna hna=>?_⟩;have sna:Same G23 (upd G23 na (.lst [u0])):=a0d hna _;have kna:(upd G23 na (.lst [u0])) na=some (.lst [u0]):=a0c;generalize upd G23 na (.lst [u0])=G24 at sna kna ⊢;ext;refine⟨ln (by show 0<=100000;decide),λnb hnb=>?_⟩;have snb:Same G24 (upd G24 nb (.lst [])):=a0d hnb _;have knb:(upd G24 nb (.lst [])) nb=some (.lst []):=a0c;generalize upd G24 nb (.lst [])=G25 at snb knb ⊢;ext;refine⟨ln (by show 3<=100000;decide),λnc hnc=>?_⟩;have snc:Same G25 (upd G25 nc (.tup [.str "no",.ref na,.ref nb])):=a0d hnc _;have knc:(upd G25 nc (.tup [.str "no",.ref na,.ref nb])) nc=some (.tup [.str "no",.ref na,.ref nb]):=a0c;generalize upd G25 nc (.tup [.str "no",.ref na,.ref nb])=G26 at snc knc ⊢;ext;refine⟨ln (by show 1<=100000;decide),λnd hnd=>?_⟩;have snd:Same G26 (upd G26 nd (.lst [.ref nc])):=a0d hnd _;have knd:(upd G26 nd (.lst [.ref nc])) nd=some (.lst [.ref nc]):=a0c;generalize upd G26 nd (.lst [.ref nc])=G27 at snd knd ⊢
 (with_reducible refine a2l ?_)
 have dno:Dm K G27 [] (.ref nc) (Rx.no [.app w0 [.num v0,.any x0]]).data:=no_mk (SqT.of (snd _ _ knc)) ((snb.trans (snc.trans snd)) _ _ kna) (by simp only[Trm.dataL];exact .cons (d0.mono (sra.trans (srb.trans (src.trans (srd.trans (sre.trans (srf.trans (srg.trans (srh.trans (sri.trans (srj.trans (srk.trans (srl.trans (srm.trans (srn.trans (sro.trans (srp.trans (srs.trans (srt.trans (sna.trans (snb.trans (snc.trans snd)))))))))))))))))))))) .nil) ((snc.trans snd) _ _ knb) qz qz;have kr0:G27 nd=some (.lst [.ref nc]):=knd;have kq0:=((s5.trans (sra.trans (srb.trans (src.trans (srd.trans (sre.trans (srf.trans (srg.trans (srh.trans (sri.trans (srj.trans (srk.trans (srl.trans (srm.trans (srn.trans (sro.trans (srp.trans (srs.trans (srt.trans (sna.trans (snb.trans (snc.trans snd)))))))))))))))))))))) _ _ kkp);have kD0:=((sra.trans (srb.trans (src.trans (srd.trans (sre.trans (srf.trans (srg.trans (srh.trans (sri.trans (srj.trans (srk.trans (srl.trans (srm.trans (srn.trans (sro.trans (srp.trans (srs.trans (srt.trans (sna.trans (snb.trans (snc.trans snd))))))))))))))))))))) _ _ kD);have kn0:=((s5.trans (sra.trans (srb.trans (src.trans (srd.trans (sre.trans (srf.trans (srg.trans (srh.trans (sri.trans (srj.trans (srk.trans (srl.trans (srm.trans (srn.trans (sro.trans (srp.trans (srs.trans (srt.trans (sna.trans (snb.trans (snc.trans snd)))))))))))))))))))))) _ _ kn4);have kw0:=((s5.trans (sra.trans (srb.trans (src.trans (srd.trans (sre.trans (srf.trans (srg.trans (srh.trans (sri.trans (srj.trans (srk.trans (srl.trans (srm.trans (srn.trans (sro.trans (srp.trans (srs.trans (srt.trans (sna.trans (snb.trans (snc.trans snd)))))))))))))))))))))) _ _ kw4);have hS0:=(((s1.trans (s2.trans (spk.trans (skp.trans (s5.trans (sra.trans (srb.trans (src.trans (srd.trans (sre.trans (srf.trans (srg.trans (srh.trans (sri.trans (srj.trans (srk.trans (srl.trans (srm.trans (srn.trans (sro.trans (srp.trans (srs.trans (srt.trans (sna.trans (snb.trans (snc.trans snd)))))))))))))))))))))))))))).seq hS;have e0:=d0.mono (sra.trans (srb.trans (src.trans (srd.trans (sre.trans (srf.trans (srg.trans (srh.trans (sri.trans (srj.trans (srk.trans (srl.trans (srm.trans (srn.trans (sro.trans (srp.trans (srs.trans (srt.trans (sna.trans (snb.trans (snc.trans snd)))))))))))))))))))));have e1:=d1.mono (sra.trans (srb.trans (src.trans (srd.trans (sre.trans (srf.trans (srg.trans (srh.trans (sri.trans (srj.trans (srk.trans (srl.trans (srm.trans (srn.trans (sro.trans (srp.trans (srs.trans (srt.trans (sna.trans (snb.trans (snc.trans snd)))))))))))))))))))));have dR0:=dR.mono (sna.trans (snb.trans (snc.trans snd)));have hz0:∀(v:Int)(x:Str),(Trm.app w0 [.num v,.any x]).size<=20:=λv x=>by simp[Trm.size,Trm.sizeL]
 have hRn:RxG (rs3 w0 w1 w2) [w0,w1,w2,w3] (.no [.app w0 [.num v0,.any x0]]):=c8d h10 m0 (hz0 _ _);have h01:Trm.app w0 [.num v0,.any x0]≠.app w0 [.num v1,.any x1]:=λz=>by
  injection z with _ z
  injection z with _ z
  injection z with z _
  injection z with z
  exact hx01 z
 have krt0:=((sna.trans (snb.trans (snc.trans snd))) _ _ krt);have cl:∀{Z:Prop},Z->Z:=λz=>z
 (with_reducible refine a2u (λσ' J=>∃(gv:V)(gl:Trm)(kq:Addr)(kd:List Int)(rr:Addr)(us:List V)(L:List Rx)(b:Bool),σ'=[some (.ref a),some (.ref np),some (.ref wp),some (.int (c2%7)),some (.int n),some (.ref kq),some (.ref D),some (.ref rt),some (.ref rr),some gv,some (.bl b),none,none]/\Same G27 J/\Den K J gv gl.data/\J kq=some (.lst (kd.map V.int))/\J rr=some (.lst us)/\DmL K J [] us (L.map Rx.data)/\PG (rs3 w0 w1 w2) [w0,w1,w2,w3] gl n kd L b) (λσ' J hP=>?_) (λkk=>?_))
 rotate_left
 ·ext
  exists e
  ·have hw5:=Zf e;ext;refine⟨ln (by show 5<=100000;decide),λpl hpl=>?_⟩;have spl:Same G27 (upd G27 pl (.lst [.str eqS,.str asS,.str ltS,.str leS,.str asS])):=a0d hpl _;have kpl:(upd G27 pl (.lst [.str eqS,.str asS,.str ltS,.str leS,.str asS])) pl=some (.lst [.str eqS,.str asS,.str ltS,.str leS,.str asS]):=a0c;generalize upd G27 pl (.lst [.str eqS,.str asS,.str ltS,.str leS,.str asS])=M0 at spl kpl ⊢;ext;obtain⟨mk,hmk,hmm⟩:∃mk,atI [V.str eqS,V.str asS,V.str ltS,V.str leS,V.str asS] (c2%7)=some (.str mk)/\mk∈[eqS,asS,ltS,leS]:=by
    rcases(show c2%7=0\/c2%7=1\/c2%7=2\/c2%7=3\/c2%7=4 by omega)with e|e|e|e|e<;>rw[e]<;>exact⟨_,rfl,qz⟩
   exists a1h (SqL.of kpl) hmk
   refine⟨ns,[x0,x1,x2,x3,x4],[w0,w1,w2,w3],spl.seq hS0,hb,SqL.of (spl _ _ kn0),rfl,SqL.of (spl _ _ kw0),wo,λgv t1 t2 M1 r1 dx wt1 wt2 z=>?_⟩
   (with_reducible refine a2l ?_)
   have r01:=spl.trans r1;have pgd:=λ(L:List Rx) hL=>pg_deed (rs:=rs3 w0 w1 w2) wo hmm wt1 wt2 z (n:=n) hk2 (L:=L) hL
   (with_reducible refine a2u (λσ' J=>∃bb:Bool,σ'=[some (.ref a),some (.ref np),some (.ref wp),some (.int (c2%7)),some (.int n),some (.ref kp),some (.ref D),some (.ref rt),some (.ref nd),some gv,some (.bl bb),none,none]/\Same M1 J/\bb=((a5g (.app mk [t1,t2])).getD false&&(decide (n=0)&&kids.isEmpty))) (λσ' J hP=>?_) (λkd=>?_))
   rotate_left
   ·ext;refine⟨mk,t1,t2,dx,hmm,wt1,wt2,z,λM2 r2=>?_⟩;clear pgd;generalize (a5g (.app mk [t1,t2])).getD false=hd at kd ⊢;ext
    exists e
    rotate_left
    ·(with_reducible refine a2l ?_)
     exact kd _ _ ⟨_,rfl,r2,by rw[e,Yw]⟩
    ext;rw[Zn]
    exists e2
    rotate_left
    ·(with_reducible refine a2l ?_)
     exact kd _ _ ⟨_,rfl,r2,by rw[e2,Yw,Xj]⟩
    ext;refine⟨ln (by show 0<=100000;decide),λpq hpq=>?_⟩;have spq:=a0d hpq (.lst []);have kpq:(upd M2 pq (.lst [])) pq=some (.lst []):=a0c;generalize upd M2 pq (.lst [])=M3 at spq kpq ⊢;ext;refine c7b (SqL.of ((r01.trans (r2.trans spq)) _ _ kq0)) (SqL.of kpq) ?_
    (with_reducible refine a2l ?_)
    exact kd _ _ ⟨_,rfl,r2.trans spq,by rw[e,e2,Ye,Ye];cases kids<;>rfl⟩
   obtain⟨bb,rfl,r2,hbb⟩:=hP;have r02:=r01.trans r2;ext;refine⟨ns,r02.seq hS0,hb,qo,qo,λc9=>?_⟩;ext;obtain⟨mm,hmm01,hmme⟩:∃m:Int,(m=0\/m=1)/\(if(false^^decide (c9%3=1))=true then(1:Int)else 0)=m:=by
    by_cases h:c9%3=1
    ·exact⟨1,.inr rfl,by rw[Zx h];rfl⟩
    ·exact⟨0,.inl rfl,by rw[Zo h];rfl⟩
   rw[hmme];refine c2k (r02 _ _ kr0) qo qo (λr9 hr9=>?_);have s9:=a0d hr9 (.lst (List.replicate mm.toNat (.ref nc)));have k9:(upd J r9 (.lst (List.replicate mm.toNat (.ref nc)))) r9=some (.lst (List.replicate mm.toNat (.ref nc))):=a0c;generalize upd J r9 (.lst (List.replicate mm.toNat (.ref nc)))=M5 at s9 k9 ⊢;have r05:=r02.trans s9;ext;rcases hmm01 with z0|z0
   ·subst z0;exact kk _ _ ⟨gv,.app mk [t1,t2],kp,kids,r9,[],[],bb,rfl,r05,dx.mono (r2.trans s9),r05 _ _ kq0,k9,.nil,hbb▸pgd [] (.inl rfl)⟩
   ·subst z0;exact kk _ _ ⟨gv,.app mk [t1,t2],kp,kids,r9,[.ref nc],[.no [.app w0 [.num v0,.any x0]]],bb,rfl,r05,dx.mono (r2.trans s9),r05 _ _ kq0,k9,.cons (dno.pr (.same r05)) .nil,hbb▸pgd _ (.inr ⟨_,rfl,hRn⟩)⟩
  ·ext
   exists e2
   ·ext;refine⟨ns,[w0,w1,w2,w3],u0,u1,_,_,w2,hS0,hb,SqL.of kw0,rfl,kD0,e0,e1,λpp kq rr gv us gl kd L1 b J1 r1 sq dg kkq kkr dm pn=>?_⟩
    exists b9k sq rfl
    have pgn:=pg_not wo h10 m0 m2 (hz0 _ _) (hz0 _ _) h01 (n:=n) pn
    exists e3
    ·rw[e3,Ye]at pgn;ext;rw[Zn];exact kk _ _ ⟨gv,gl,kq,kd,rr,us,_,decide (n=0),rfl,r1,dg,kkq,kkr,dm,pgn⟩
    ·rw[e3,Yw]at pgn
     (with_reducible refine a2l ?_)
     exact kk _ _ ⟨gv,gl,kq,kd,rr,us,_,false,rfl,r1,dg,kkq,kkr,dm,pgn⟩
   ·ext;refine⟨ln (by show 0<=100000;decide),λta hta=>?_⟩;have sta:Same G27 (upd G27 ta (.tup [])):=a0d hta _;have kta:(upd G27 ta (.tup [])) ta=some (.tup []):=a0c;generalize upd G27 ta (.tup [])=M1 at sta kta ⊢;ext;refine⟨ln (by show 3<=100000;decide),λtb htb=>?_⟩;have stb:Same M1 (upd M1 tb (.tup [.str "app",.str "keep",.ref ta])):=a0d htb _;have ktb:(upd M1 tb (.tup [.str "app",.str "keep",.ref ta])) tb=some (.tup [.str "app",.str "keep",.ref ta]):=a0c;generalize upd M1 tb (.tup [.str "app",.str "keep",.ref ta])=M2 at stb ktb ⊢;ext;exact kk _ _ ⟨.ref tb,.app keepS [],kp,kids,nd,[.ref nc],[.no [.app w0 [.num v0,.any x0]]],false,rfl,sta.trans stb,a2m (SqT.of ktb) (SqT.of (stb _ _ kta)) .nil,(sta.trans stb) _ _ kq0,(sta.trans stb) _ _ kr0,.cons (dno.pr (.same (sta.trans stb))) .nil,pg_keep wo hk2 hRn⟩
 obtain⟨gv,gl,kq,kd,rr,us,L,b,rfl,sJ,dg,kkq,kkr,dL,pg⟩:=hP;have hul:=dL.length;rw[length_map]at hul;have hl1:=pg.l;ext;refine⟨ln (by show 4<=100000;decide),λf1 hf1=>?_⟩;have sf1:Same J (upd J f1 (.tup [.str "yes",gv,.int n,.ref kq])):=a0d hf1 _;have kf1:(upd J f1 (.tup [.str "yes",gv,.int n,.ref kq])) f1=some (.tup [.str "yes",gv,.int n,.ref kq]):=a0c;generalize upd J f1 (.tup [.str "yes",gv,.int n,.ref kq])=N1 at sf1 kf1 ⊢;ext;refine⟨ln (by show 1<=100000;decide),λf2 hf2=>?_⟩;have sf2:Same N1 (upd N1 f2 (.lst [.ref f1])):=a0d hf2 _;have kf2:(upd N1 f2 (.lst [.ref f1])) f2=some (.lst [.ref f1]):=a0c;generalize upd N1 f2 (.lst [.ref f1])=N2 at sf2 kf2 ⊢;ext;have sf:=sf1.trans sf2;refine a7h kf2 (sf _ _ kkr) (ln (by rw[Zm];omega)) (λf3 hf3=>?_);have sf3:=a0d hf3 (.lst ([.ref f1]++us));have kf3:(upd N2 f3 (.lst ([.ref f1]++us))) f3=some (.lst ([.ref f1]++us)):=a0c;generalize upd N2 f3 (.lst ([.ref f1]++us))=N3 at sf3 kf3 ⊢;have s03:=sf.trans sf3;have sG3:=sJ.trans s03;have dg3:=dg.mono s03;have dL3:=dL.pr (.same (M:=[]) s03);have dy3:Dm K N3 [] (.ref f1) (Rx.yes gl n kd).data:=b6b (SqT.of ((sf2.trans sf3) _ _ kf1)) dg3 (s03 _ _ kkq) qz;have kkq3:=s03 _ _ kkq
 (with_reducible refine a2l ?_)
 (with_reducible refine a2u (λσ' J=>∃(rz:Addr)(us2:List V)(ws:List Rx)(b2:Bool),σ'=[some (.ref a),some (.ref np),some (.ref wp),some (.int (c2%7)),some (.int n),some (.ref kq),some (.ref D),some (.ref rt),some (.ref rz),some gv,some (.bl b2),none,none]/\Same N3 J/\J rz=some (.lst us2)/\DmL K J [] us2 (ws.map Rx.data)/\(∀x∈ws,RxG (rs3 w0 w1 w2) [w0,w1,w2,w3] x)/\a5x (rs3 w0 w1 w2) ws=b2/\1<=ws.length/\ws.length<=2) (λσ' J0 hP=>?_) (λkk=>?_))
 rotate_left
 ·ext;refine⟨ns,sG3.seq hS0,hb,qo,qo,λc9=>?_⟩;ext
  exists e
  rotate_left
  ·ext;refine kk _ _ ⟨f3,_,.yes gl n kd::L,b,rfl,Same.refl _,kf3,.cons dy3 dL3,λx hx=>?_,pg.e1,qz,by simp only[length_cons];omega⟩;rcases Zi.mp hx with z|z
   ·rw[z];exact pg.y _ qo
   ·exact pg.x x z
  ext;refine a8l (SqL.of kf3) (λg1 hg1=>?_);rw[a8p _ 1 qo,show([V.ref f1]++us).drop (1:Int).toNat=us from rfl];have sg1:=a0d hg1 (.lst us);have kg1:(upd N3 g1 (.lst us)) g1=some (.lst us):=a0c;generalize upd N3 g1 (.lst us)=N4 at sg1 kg1 ⊢;ext;refine⟨kq,rfl,⟨_,SqL.of (sg1 _ _ kkq3)⟩,λg2 hg2=>?_⟩;refine a2i (a3r (xs:=kd.map V.int)) (λi ys J=>Same N4 J/\J g2=some (.lst ys)/\ys=((kd.take i).map λk=>((L.length+1:Nat):Int)-1-k).map V.int) (ln (by rw[length_map];omega)) ⟨a0d hg2 _,a0c,rfl⟩ (λi ys J hP=>hP.1.seq (SqL.of (sg1 _ _ kkq3))) (λi ys J Q' hi hl hP k=>?_) (λys N5 hl hP=>?_)
  ·obtain⟨h1,h2,rfl⟩:=hP;have hi2:i<kd.length:=by rw[length_map]at hi;exact hi
   rw[d0w hi2];ext
   exists a1v (SqL.of ((sg1.trans h1) _ _ kf3))
   refine k _ _ h2 ⟨a1f h1 hg2,a0c,?_⟩;rw[take_succ' hi2,Zt,Zt]
   congr 1
   show[V.int ((([V.ref f1]++us).length:Int)-1-kd[i])]=[V.int (((L.length+1:Nat):Int)-1-kd[i])]
   rw[Zj,Zm,hul]
   congr 3
   omega
  obtain⟨h1,kg2,rfl⟩:=hP;rw[Y7 (by rw[length_map];exact Zg _)]at kg2;ext;refine⟨ln (by show 4<=100000;decide),λh3 hh3=>?_⟩;have sh3:Same N5 (upd N5 h3 (.tup [.str "yes",gv,.int n,.ref g2])):=a0d hh3 _;have kh3:(upd N5 h3 (.tup [.str "yes",gv,.int n,.ref g2])) h3=some (.tup [.str "yes",gv,.int n,.ref g2]):=a0c;generalize upd N5 h3 (.tup [.str "yes",gv,.int n,.ref g2])=N6 at sh3 kh3 ⊢;ext;refine⟨ln (by show 1<=100000;decide),λh4 hh4=>?_⟩;have sh4:Same N6 (upd N6 h4 (.lst [.ref h3])):=a0d hh4 _;have kh4:(upd N6 h4 (.lst [.ref h3])) h4=some (.lst [.ref h3]):=a0c;generalize upd N6 h4 (.lst [.ref h3])=N7 at sh4 kh4 ⊢;ext;have sh:=sh3.trans sh4;refine a7h ((h1.trans sh) _ _ kg1) kh4 (ln (by rw[Zm];omega)) (λh5 hh5=>?_);have sh5:=a0d hh5 (.lst (us++[.ref h3]));have kh5:(upd N7 h5 (.lst (us++[.ref h3]))) h5=some (.lst (us++[.ref h3])):=a0c;generalize upd N7 h5 (.lst (us++[.ref h3]))=N8 at sh5 kh5 ⊢;have s38:=sg1.trans (h1.trans (sh.trans sh5));have dg8:=dg3.mono s38;have dz8:Dm K N8 [] (.ref h3) (Rx.yes gl n (kd.map λk=>((L.length+1:Nat):Int)-1-k)).data:=b6b (SqT.of ((sh4.trans sh5) _ _ kh3)) dg8 ((sh.trans sh5) _ _ kg2) qz;have dws8:DmL K N8 [] (us++[.ref h3]) ((L++[Rx.yes gl n (kd.map λk=>((L.length+1:Nat):Int)-1-k)]).map Rx.data):=by
   rw[Zt];exact(dL3.pr (.same s38)).append (.cons dz8 .nil)
  have hxs:∀x∈L++[Rx.yes gl n (kd.map λk=>((L.length+1:Nat):Int)-1-k)],RxG (rs3 w0 w1 w2) [w0,w1,w2,w3] x:=λx hx=>by
   rcases Yt.mp hx with z|z
   ·exact pg.x x z
   ·rw[Zu.mp z];exact pg.y _ (by rw[length_map];omega)
  have hls:1<=(L++[Rx.yes gl n (kd.map λk=>((L.length+1:Nat):Int)-1-k)]).length/\(L++[Rx.yes gl n (kd.map λk=>((L.length+1:Nat):Int)-1-k)]).length<=2:=by
   rw[Zj,Zm];omega
  ext
  exists e3
  ·ext;refine⟨ln (by show 0<=100000;decide),λh6 hh6=>?_⟩;have sh6:=a0d hh6 (.lst []);have kh6:(upd N8 h6 (.lst [])) h6=some (.lst []):=a0c;generalize upd N8 h6 (.lst [])=N9 at sh6 kh6 ⊢;ext;refine c7b (SqL.of ((s38.trans sh6) _ _ kkq3)) (SqL.of kh6) ?_
   (with_reducible refine a2l ?_)
   exact kk _ _ ⟨h5,_,_,(kd.map V.int).isEmpty,rfl,s38.trans sh6,sh6 _ _ kh5,dws8.pr (.same sh6),hxs,by rw[pg.e2,e3,Ye];cases kd<;>rfl,hls.1,hls.2⟩
  ·(with_reducible refine a2l ?_)
   exact kk _ _ ⟨h5,_,_,false,rfl,s38,kh5,dws8,hxs,by rw[pg.e2,e3,Yw],hls.1,hls.2⟩
 obtain⟨rz,us2,ws,b2,rfl,s4,krz,dws,hxs,hag,hl1',hl2'⟩:=hP;have hul2:=dws.length;rw[length_map]at hul2;have dsx:PyData.depthAll (ws.map Rx.data)<=149:=dp_rows hxs;ext;refine⟨rz,rfl,⟨_,SqL.of krz⟩,λD2 hD2=>?_⟩;have dwo:DmL K J0 [D2] us2 (ws.map Rx.data):=dws.onto (λm hm=>.inr (by rw[Zu.mp hm];exact hD2));refine a2i (a3r (xs:=us2)) (λi ys J=>Same J0 J/\J D2=some (.lst ys)/\DmL K J [D2] ys ((ws.take i).map Rx.data)) (ln qo) ⟨a0d hD2 _,a0c,by rw[Vs];exact .nil⟩ (λi ys J hP=>SqL.of (hP.1 _ _ krz)) (λi ys J Q' hi hl hP k=>?_) (λys J5 hl hP=>?_)
 ·obtain⟨g1,g2,g3⟩:=hP;have hi2:i<ws.length:=by omega
  have hu:us2[i]? =some us2[i]:=Zb hi
  obtain⟨dd,f1,f2⟩:=dwo.get hu;rw[Z5,Zb hi2]at f1;obtain rfl:(ws[i]).data=dd:=Zl f1;have f3:=f2.pr (.same (M:=[D2]) g1);have hg:us2.getD i .non=us2[i]:=by rw[Zr,hu];rfl
  rw[hg];have PUT:∀(y:V)(J2:Hp),Same J J2->Dm K J2 [D2] y (ws[i]).data->Q' y J2:=λy J2 sj dy=>by
   have g4:=sj _ _ g2;have pu:Pr K [D2] J2 (upd J2 D2 (.lst (ys++[y]))):=pr_lst' g4;exact k _ _ g4 ⟨a1f (g1.trans sj) hD2,a0c,by rw[take_succ' hi2,Zt];exact((g3.pr (.same sj)).append (.cons dy .nil)).pr pu⟩
  ext;cases hr:ws[i]with
  |yes g' n' ks'=>
   rw[hr]at f3 PUT;obtain⟨a1,gv',kp',e,h4,h5,h6⟩:=c0q f3;rw[e]
   exists a0k h4 (v:=.str yesS) rfl
   refine iteB (λe=>?_) (λe=>absurd e qk);ext
   exists a0k h4 (v:=.str yesS) rfl
   exists a0k h4 (v:=gv') rfl
   exists a0k h4 (v:=.int n') rfl
   exists a0k h4 (v:=.ref kp') rfl
   refine mLst_l (SqL.of h6) (λp2 hp2=>?_);have t3:=a0d hp2 (.lst (ks'.map V.int));have kp2:(upd J p2 (.lst (ks'.map V.int))) p2=some (.lst (ks'.map V.int)):=a0c;generalize upd J p2 (.lst (ks'.map V.int))=J2 at t3 kp2 ⊢;ext;refine⟨ln (by show 4<=100000;decide),λp3 hp3=>?_⟩;have sp3:Same J2 (upd J2 p3 (.tup [.str yesS,gv',.int n',.ref p2])):=a0d hp3 _;have kp3:(upd J2 p3 (.tup [.str yesS,gv',.int n',.ref p2])) p3=some (.tup [.str yesS,gv',.int n',.ref p2]):=a0c;generalize upd J2 p3 (.tup [.str yesS,gv',.int n',.ref p2])=J3 at sp3 kp3 ⊢;ext;have nn:p2∉[D2]:=λz=>by rw[Zu.mp z,g2]at hp2;cases hp2
   exact PUT _ _ (t3.trans sp3) (b6b (SqT.of kp3) (h5.mono (t3.trans sp3)) (sp3 _ _ kp2) nn)
  |no gs'=>
   rw[hr]at f3 PUT;obtain⟨a1,gp',fp',us',e,h4,_⟩:=b8l f3;rw[e]at f3 ⊢
   exists a0k h4 (v:=.str noS) rfl
   refine iteB (λe=>absurd e qk) (λe=>?_);ext;exact PUT _ _ (Same.refl _) f3
 obtain⟨s5',g4,g5⟩:=hP;rw[Y7 qo]at g5;have sA:=sG3.trans (s4.trans s5');have RDx:∀{J},Same J5 J->RD K J rt rz (rs3 w0 w1 w2) ws [w0,w1,w2,w3]:=λs=>⟨⟨_,(sA.trans s) _ _ krt0,dR0.mono (sA.trans s)⟩,⟨_,(s5'.trans s) _ _ krz,dws.pr (.same (s5'.trans s))⟩,rs3_ok,hxs,wo,by simp[rs3],qo⟩
 have hw0:decide (0<ws.length)=true:=Zx qo;ext;refine⟨rs3 w0 w1 w2,ws,[w0,w1,w2,w3],RDx (Same.refl _),λJ6 s6=>?_⟩;rw[hw0,Ye,hag];ext;refine mIsi_b ?_;ext;refine iteT ?_;ext;refine iteB (λ_=>?_) (λz=>absurd z qz);ext;refine⟨rz,D2,us2,ys,ws.map Rx.data,rfl,rfl,.inr ⟨SqL.of ((s5'.trans s6) _ _ krz),SqL.of (s6 _ _ g4)⟩,(dws.pr (.same (s5'.trans s6))).dx,(g5.pr (.same s6)).dx,dsx,?_⟩;ext;refine iteB (λ_=>?_) (λz=>absurd z qd);ext;refine⟨rs3 w0 w1 w2,ws,[w0,w1,w2,w3],RDx s6,λJ7 s7=>?_⟩;rw[hw0,Ye,hag];ext;rw[Zx rfl];exact q _
end
section
variable{P:Program}{w:World}{K:W.Frag}{mg:Str->Option Value}{base:Heap}{t:Ad}
theorem d1c(T:Txt K mg t)(G_a0:FnOk P w K mg base CX0 1 t.a_a0 t.d_a0 ["_law_script","_law_k"] (a7k K)):FnOk P w K mg base CX0 2 t.a_d5 t.d_d5 ["_law_script","_law_held","_law_words_here"] (b4q K):=by
 exists T.F_d5.ok a4h,b4q,(@QSs.pss _ _ _ (a1d (a3x (i:=3) a4h.nd rfl (by nofun) (a1k (a0o (a1b a0j) (a0o (a1b a0j) (a0o (a1k (a0o (a1b (a0i (a0f K rfl) (mv 1) a0b (λ_ _=>rfl))) a0y rfl)) a0y rfl) rfl) rfl)) a8m (by nofun)) (a1d (a2y (a0s (i:=4) (hs:=a5c) a4h.nd rfl (by nofun) (a1u (a0a a0b a0e)))) (a1d (a3x (i:=5) a4h.nd rfl (by nofun) (a2e (a0o (a1k (a0o (a1b a0j) (a0o (a2e (a0o (a1b (a0i (a0f K rfl) (mv 1) a0b (λ_ _=>rfl))) a0y rfl)) (a0o (a2e a0y) a0y rfl) rfl) rfl)) a0y rfl)) a5c (by nofun)) (a1d (a2y (a0s (i:=6) (hs:=a1y) a4h.nd rfl (by nofun) (a0l a1e (a0r G_a0 hr.o rfl T.m_a0 T.F_a0.kp T.b_a0 .nil a0v (a0a (mv 0) (a0a a0b a0e))) a0b))) (a1d (b0m (a0q a0x (mv 6) a0b (a0m _)) (a3l (a3x (i:=3) a4h.nd rfl (by nofun) (a1k (a0o (a1b a0j) (a0o (a1b a0j) (a0o (a1k (a0o (a1b (a0i (a0f K rfl) (mv 1) a0b (λ_ _=>rfl))) a0y rfl)) a0y rfl) rfl) rfl)) a8m (by nofun))) a9v) (a1d (b0m (a0q a0x (mv 6) a0b (a0m _)) (a3l (a3x (i:=5) a4h.nd rfl (by nofun) (a2e (a0o (a1k (a0o (a1b a0j) (a0o (a2e (a0o (a1b (a0i (a0f K rfl) (mv 1) a0b (λ_ _=>rfl))) (a0o (a1b (a0i (a0f K rfl) (mv 1) a0b (λ_ _=>rfl))) a0y rfl) rfl)) (a0o (a2e a0y) a0y rfl) rfl) rfl)) a0y rfl)) a5c (by nofun))) a9v) (a1d (b0m (a0q a0x (mv 6) a0b (a0m _)) (a3l (a3x (i:=5) a4h.nd rfl (by nofun) (a2e (a0o (a1k (a0o (a1b a0j) (a0o (a1k (a0o (a1b a0j) (a0o (a1b (a0i (a0f K rfl) (mv 2) a0b (λ_ _=>rfl))) (a0o (a1k a0y) a0y rfl) rfl) rfl)) (a0o (a1b a0b) (a0o (a2e a0y) a0y rfl) rfl) rfl) rfl)) a0y rfl)) a5c (by nofun))) a9v) (a1d (b0m (a0q a0x (mv 6) a0b (a0m _)) (a3l (a3x (i:=4) a4h.nd rfl (by nofun) (qe_ix (a0f K rfl) (a2e (a0o (a2e (a0o (a1b a0b) (a0o (a1b a0b) a0y rfl) rfl)) (a0o (a2e a0y) (a0o (a2e (a0o (a1b a0b) a0y rfl)) (a0o (a2e (a0o (a1b (a7s a5y a0b)) a0y rfl)) (a0o (a2e (a0o (a1b a0b) a0y rfl)) a0y rfl) rfl) rfl) rfl) rfl)) (a1b (a0l a1e (a0r G_a0 hr.o rfl T.m_a0 T.F_a0.kp T.b_a0 .nil a0v (a0a (mv 0) (a0a a0b a0e))) a0b)) (λ_ _=>rfl)) b5j (by nofun))) a9v) (a3l (a2y (a0t (a1j (a0a (mv 3) (a0a (mv 4) (a0a (mv 5) (a0a (a1c a8t (mv 6) a0b (a0m _)) a0e))))))))))))))))),H,Q,E,hr,h
 rename_i a hp wp;obtain⟨ns,ws,v0,v1,h0,h1,w2,hS,hb,hW,hw2,hH,d0,d1,q⟩:=h;have s00:Same H H:=Same.refl _;have e2:atI (ws.map V.str) 2=some (.str w2):=a2h qo (by show(ws.map V.str)[2]? =_;rw[Z5,hw2];rfl);ext
 exists a1h (SqL.of (s00 _ _ hH)) (v:=v0) (a2h qo rfl)
 refine⟨ln (by show 1<=100000;decide),λp1 hp1=>?_⟩;have sp1:Same H (upd H p1 (.tup [v0])):=a0d hp1 _;have kp1:(upd H p1 (.tup [v0])) p1=some (.tup [v0]):=a0c;generalize upd H p1 (.tup [v0])=H1 at sp1 kp1 ⊢;ext;refine⟨ln (by show 3<=100000;decide),λp2 hp2=>?_⟩;have sp2:Same H1 (upd H1 p2 (.tup [.str "app",.str "not",.ref p1])):=a0d hp2 _;have kp2:(upd H1 p2 (.tup [.str "app",.str "not",.ref p1])) p2=some (.tup [.str "app",.str "not",.ref p1]):=a0c;generalize upd H1 p2 (.tup [.str "app",.str "not",.ref p1])=H2 at sp2 kp2 ⊢;ext;refine⟨ln (by show 1<=100000;decide),λp3 hp3=>?_⟩;have sp3:Same H2 (upd H2 p3 (.lst [.int 1])):=a0d hp3 _;have kp3:(upd H2 p3 (.lst [.int 1])) p3=some (.lst [.int 1]):=a0c;generalize upd H2 p3 (.lst [.int 1])=H3 at sp3 kp3 ⊢;ext;have s3:=sp1.trans (sp2.trans sp3)
 exists a1h (SqL.of (s3 _ _ hH)) (v:=v0) (a2h qo rfl)
 refine⟨ln (by show 1<=100000;decide),λp4 hp4=>?_⟩;have sp4:Same H3 (upd H3 p4 (.lst [v0])):=a0d hp4 _;have kp4:(upd H3 p4 (.lst [v0])) p4=some (.lst [v0]):=a0c;generalize upd H3 p4 (.lst [v0])=H4 at sp4 kp4 ⊢;ext;refine⟨ln (by show 0<=100000;decide),λp5 hp5=>?_⟩;have sp5:Same H4 (upd H4 p5 (.lst [])):=a0d hp5 _;have kp5:(upd H4 p5 (.lst [])) p5=some (.lst []):=a0c;generalize upd H4 p5 (.lst [])=H5 at sp5 kp5 ⊢;ext;refine⟨ln (by show 3<=100000;decide),λp6 hp6=>?_⟩;have sp6:Same H5 (upd H5 p6 (.tup [.str "no",.ref p4,.ref p5])):=a0d hp6 _;have kp6:(upd H5 p6 (.tup [.str "no",.ref p4,.ref p5])) p6=some (.tup [.str "no",.ref p4,.ref p5]):=a0c;generalize upd H5 p6 (.tup [.str "no",.ref p4,.ref p5])=H6 at sp6 kp6 ⊢;ext;refine⟨ln (by show 1<=100000;decide),λp7 hp7=>?_⟩;have sp7:Same H6 (upd H6 p7 (.lst [.ref p6])):=a0d hp7 _;have kp7:(upd H6 p7 (.lst [.ref p6])) p7=some (.lst [.ref p6]):=a0c;generalize upd H6 p7 (.lst [.ref p6])=H7 at sp7 kp7 ⊢;ext;have s57:=sp6.trans sp7;have s47:=sp5.trans s57;have s37:=sp4.trans s47;have s07:=s3.trans s37;have g7:Den K H7 (.ref p2) (Trm.app notS [h0]).data:=a2m (SqT.of ((sp3.trans s37) _ _ kp2)) (SqT.of ((sp2.trans (sp3.trans s37)) _ _ kp1)) (by simp only[Trm.dataL];exact .cons (d0.mono s07) .nil);have k7:H7 p3=some (.lst (([1]:List Int).map V.int)):=s37 _ _ kp3;have r7:DmL K H7 [] [.ref p6] ([Rx.no [h0]].map Rx.data):=.cons (no_mk (SqT.of (sp7 _ _ kp6)) (s47 _ _ kp4) (by simp only[Trm.dataL];exact .cons (d0.mono s07) .nil) (s57 _ _ kp5) qz qz) .nil;refine⟨ns,s07.seq hS,hb,qo,qo,λc5=>?_⟩;ext;have ho:0<=c5%8/\c5%8<8:=by omega
 generalize c5%8=o at ho ⊢;have W:=True.intro;rcases(show o=0\/o=1\/o=2\/o=3\/3<o by omega)with e0|e0|e0|e0|e0
 ·subst e0;refine iteB (λe=>?_) (λe=>absurd e qd);ext
  exists a1h (SqL.of (s07 _ _ hH)) (v:=v1) (a2h qo rfl)
  refine⟨ln (by show 1<=100000;decide),λp8 hp8=>?_⟩;have sp8:Same H7 (upd H7 p8 (.tup [v1])):=a0d hp8 _;have kp8:(upd H7 p8 (.tup [v1])) p8=some (.tup [v1]):=a0c;generalize upd H7 p8 (.tup [v1])=H8 at sp8 kp8 ⊢;ext;refine⟨ln (by show 3<=100000;decide),λp9 hp9=>?_⟩;have sp9:Same H8 (upd H8 p9 (.tup [.str "app",.str "not",.ref p8])):=a0d hp9 _;have kp9:(upd H8 p9 (.tup [.str "app",.str "not",.ref p8])) p9=some (.tup [.str "app",.str "not",.ref p8]):=a0c;generalize upd H8 p9 (.tup [.str "app",.str "not",.ref p8])=H9 at sp9 kp9 ⊢;ext;ext;refine iteB (λe=>absurd e qd) (λe=>?_);ext;refine iteB (λe=>absurd e qd) (λe=>?_);ext;refine iteB (λe=>absurd e qd) (λe=>?_);ext;refine⟨ln (by show 4<=100000;decide),λpz hpz=>?_⟩;have spz:Same H9 (upd H9 pz (.tup [.ref p9,.ref p3,.ref p7,.bl (decide ((3:Int)<0))])):=a0d hpz _;have kpz:(upd H9 pz (.tup [.ref p9,.ref p3,.ref p7,.bl (decide ((3:Int)<0))])) pz=some (.tup [.ref p9,.ref p3,.ref p7,.bl (decide ((3:Int)<0))]):=a0c;generalize upd H9 pz (.tup [.ref p9,.ref p3,.ref p7,.bl (decide ((3:Int)<0))])=HZ at spz kpz ⊢;ext;have sz:=sp8.trans (sp9.trans spz);refine q pz p3 p7 (.ref p9) _ (.app notS [h1]) [1] _ false _ (s07.trans sz) (SqT.of kpz) (a2m (SqT.of (spz _ _ kp9)) (SqT.of ((sp9.trans spz) _ _ kp8)) (by simp only[Trm.dataL];exact .cons (d1.mono (s07.trans sz)) .nil)) (sz _ _ k7) (sz _ _ kp7) (r7.pr (.same sz)) .c0
 ·subst e0;refine iteB (λe=>absurd e qd) (λe=>?_);ext;refine iteB (λe=>?_) (λe=>absurd e qd);ext
  exists a1h (SqL.of (s07 _ _ hH)) (v:=v0) (a2h qo rfl)
  exists a1h (SqL.of (s07 _ _ hH)) (v:=v0) (a2h qo rfl)
  refine⟨ln (by show 2<=100000;decide),λp8 hp8=>?_⟩;have sp8:Same H7 (upd H7 p8 (.lst [v0,v0])):=a0d hp8 _;have kp8:(upd H7 p8 (.lst [v0,v0])) p8=some (.lst [v0,v0]):=a0c;generalize upd H7 p8 (.lst [v0,v0])=H8 at sp8 kp8 ⊢;ext;refine⟨ln (by show 0<=100000;decide),λp9 hp9=>?_⟩;have sp9:Same H8 (upd H8 p9 (.lst [])):=a0d hp9 _;have kp9:(upd H8 p9 (.lst [])) p9=some (.lst []):=a0c;generalize upd H8 p9 (.lst [])=H9 at sp9 kp9 ⊢;ext;refine⟨ln (by show 3<=100000;decide),λpa hpa=>?_⟩;have spa:Same H9 (upd H9 pa (.tup [.str "no",.ref p8,.ref p9])):=a0d hpa _;have kpa:(upd H9 pa (.tup [.str "no",.ref p8,.ref p9])) pa=some (.tup [.str "no",.ref p8,.ref p9]):=a0c;generalize upd H9 pa (.tup [.str "no",.ref p8,.ref p9])=HA at spa kpa ⊢;ext;refine⟨ln (by show 1<=100000;decide),λpb hpb=>?_⟩;have spb:Same HA (upd HA pb (.lst [.ref pa])):=a0d hpb _;have kpb:(upd HA pb (.lst [.ref pa])) pb=some (.lst [.ref pa]):=a0c;generalize upd HA pb (.lst [.ref pa])=HB at spb kpb ⊢;ext;ext;refine iteB (λe=>absurd e qd) (λe=>?_);ext;refine iteB (λe=>absurd e qd) (λe=>?_);refine⟨ln (by show 4<=100000;decide),λpz hpz=>?_⟩;have spz:Same HB (upd HB pz (.tup [.ref p2,.ref p3,.ref pb,.bl (decide ((3:Int)<1))])):=a0d hpz _;have kpz:(upd HB pz (.tup [.ref p2,.ref p3,.ref pb,.bl (decide ((3:Int)<1))])) pz=some (.tup [.ref p2,.ref p3,.ref pb,.bl (decide ((3:Int)<1))]):=a0c;generalize upd HB pz (.tup [.ref p2,.ref p3,.ref pb,.bl (decide ((3:Int)<1))])=HZ at spz kpz ⊢;ext;have szb:=spb.trans spz;have sza:=spa.trans szb;have sz9:=sp9.trans sza;have sz:=sp8.trans sz9;have d0z:=d0.mono (s07.trans sz);refine q pz p3 pb (.ref p2) _ (.app notS [h0]) [1] [.no [h0,h0]] false _ (s07.trans sz) (SqT.of kpz) (g7.mono sz) (sz _ _ k7) (spz _ _ kpb) (.cons (no_mk (SqT.of (szb _ _ kpa)) (sz9 _ _ kp8) (by simp only[Trm.dataL];exact .cons d0z (.cons d0z .nil)) (sza _ _ kp9) qz qz) .nil) .c1
 ·subst e0;refine iteB (λe=>absurd e qd) (λe=>?_);ext;refine iteB (λe=>absurd e qd) (λe=>?_);ext;refine iteB (λe=>?_) (λe=>absurd e qd);ext
  exists a1h (s07.seq hW) e2
  refine⟨ln (by show 0<=100000;decide),λp8 hp8=>?_⟩;have sp8:Same H7 (upd H7 p8 (.tup [])):=a0d hp8 _;have kp8:(upd H7 p8 (.tup [])) p8=some (.tup []):=a0c;generalize upd H7 p8 (.tup [])=H8 at sp8 kp8 ⊢;ext;refine⟨ln (by show 3<=100000;decide),λp9 hp9=>?_⟩;have sp9:Same H8 (upd H8 p9 (.tup [.str "app",.str w2,.ref p8])):=a0d hp9 _;have kp9:(upd H8 p9 (.tup [.str "app",.str w2,.ref p8])) p9=some (.tup [.str "app",.str w2,.ref p8]):=a0c;generalize upd H8 p9 (.tup [.str "app",.str w2,.ref p8])=H9 at sp9 kp9 ⊢;ext;refine⟨ln (by show 0<=100000;decide),λpa hpa=>?_⟩;have spa:Same H9 (upd H9 pa (.lst [])):=a0d hpa _;have kpa:(upd H9 pa (.lst [])) pa=some (.lst []):=a0c;generalize upd H9 pa (.lst [])=HA at spa kpa ⊢;ext;refine⟨ln (by show 4<=100000;decide),λpb hpb=>?_⟩;have spb:Same HA (upd HA pb (.tup [.str "yes",.ref p9,.int 3,.ref pa])):=a0d hpb _;have kpb:(upd HA pb (.tup [.str "yes",.ref p9,.int 3,.ref pa])) pb=some (.tup [.str "yes",.ref p9,.int 3,.ref pa]):=a0c;generalize upd HA pb (.tup [.str "yes",.ref p9,.int 3,.ref pa])=HB at spb kpb ⊢;ext;refine⟨ln (by show 1<=100000;decide),λpc hpc=>?_⟩;have spc:Same HB (upd HB pc (.lst [.ref pb])):=a0d hpc _;have kpc:(upd HB pc (.lst [.ref pb])) pc=some (.lst [.ref pb]):=a0c;generalize upd HB pc (.lst [.ref pb])=HC at spc kpc ⊢;ext;ext;refine iteB (λe=>absurd e qd) (λe=>?_);refine⟨ln (by show 4<=100000;decide),λpz hpz=>?_⟩;have spz:Same HC (upd HC pz (.tup [.ref p2,.ref p3,.ref pc,.bl (decide ((3:Int)<2))])):=a0d hpz _;have kpz:(upd HC pz (.tup [.ref p2,.ref p3,.ref pc,.bl (decide ((3:Int)<2))])) pz=some (.tup [.ref p2,.ref p3,.ref pc,.bl (decide ((3:Int)<2))]):=a0c;generalize upd HC pz (.tup [.ref p2,.ref p3,.ref pc,.bl (decide ((3:Int)<2))])=HZ at spz kpz ⊢;ext;have szc:=spc.trans spz;have szb:=spb.trans szc;have sza:=spa.trans szb;have sz9:=sp9.trans sza;have sz:=sp8.trans sz9;refine q pz p3 pc (.ref p2) _ (.app notS [h0]) [1] [.yes (.app w2 []) 3 []] false _ (s07.trans sz) (SqT.of kpz) (g7.mono sz) (sz _ _ k7) (spz _ _ kpc) (.cons (b6b (SqT.of (szc _ _ kpb)) (a2m (SqT.of (sza _ _ kp9)) (SqT.of (sz9 _ _ kp8)) .nil) (szb _ _ kpa) qz) .nil) .c2
 ·subst e0;refine iteB (λe=>absurd e qd) (λe=>?_);ext;refine iteB (λe=>absurd e qd) (λe=>?_);ext;refine iteB (λe=>absurd e qd) (λe=>?_);ext;refine iteB (λe=>?_) (λe=>absurd e qd);ext;refine⟨ln (by show 2<=100000;decide),λp8 hp8=>?_⟩;have sp8:Same H7 (upd H7 p8 (.lst [.int 1,.int 1])):=a0d hp8 _;have kp8:(upd H7 p8 (.lst [.int 1,.int 1])) p8=some (.lst [.int 1,.int 1]):=a0c;generalize upd H7 p8 (.lst [.int 1,.int 1])=H8 at sp8 kp8 ⊢;ext;refine⟨ln (by show 0<=100000;decide),λp9 hp9=>?_⟩;have sp9:Same H8 (upd H8 p9 (.lst [])):=a0d hp9 _;have kp9:(upd H8 p9 (.lst [])) p9=some (.lst []):=a0c;generalize upd H8 p9 (.lst [])=H9 at sp9 kp9 ⊢;ext;refine⟨ln (by show 1<=100000;decide),λpa hpa=>?_⟩;have spa:Same H9 (upd H9 pa (.lst [.int 0])):=a0d hpa _;have kpa:(upd H9 pa (.lst [.int 0])) pa=some (.lst [.int 0]):=a0c;generalize upd H9 pa (.lst [.int 0])=HA at spa kpa ⊢;ext;refine⟨ln (by show 1<=100000;decide),λpb hpb=>?_⟩;have spb:Same HA (upd HA pb (.lst [.int (-1)])):=a0d hpb _;have kpb:(upd HA pb (.lst [.int (-1)])) pb=some (.lst [.int (-1)]):=a0c;generalize upd HA pb (.lst [.int (-1)])=HB at spb kpb ⊢;ext;refine⟨ln (by show 1<=100000;decide),λpc hpc=>?_⟩;have spc:Same HB (upd HB pc (.lst [.int 2])):=a0d hpc _;have kpc:(upd HB pc (.lst [.int 2])) pc=some (.lst [.int 2]):=a0c;generalize upd HB pc (.lst [.int 2])=HC at spc kpc ⊢;ext;refine⟨ln (by show 5<=100000;decide),λpd hpd=>?_⟩;have spd:Same HC (upd HC pd (.lst [.ref p8,.ref p9,.ref pa,.ref pb,.ref pc])):=a0d hpd _;have kpd:(upd HC pd (.lst [.ref p8,.ref p9,.ref pa,.ref pb,.ref pc])) pd=some (.lst [.ref p8,.ref p9,.ref pa,.ref pb,.ref pc]):=a0c;generalize upd HC pd (.lst [.ref p8,.ref p9,.ref pa,.ref pb,.ref pc])=HD at spd kpd ⊢;ext;have sdb:=spc.trans spd;have sda:=spb.trans sdb;have sd9:=spa.trans sda;have sd8:=sp9.trans sd9;have sd7:=sp8.trans sd8;refine⟨ns,(s07.trans sd7).seq hS,hb,qo,qo,λc6=>?_⟩;ext;obtain⟨kk,ks,hkk,hks,hkm⟩:∃(kk:Addr)(ks:List Int),atI [V.ref p8,V.ref p9,V.ref pa,V.ref pb,V.ref pc] (c6%5)=some (.ref kk)/\HD kk=some (.lst (ks.map V.int))/\ks∈[[1,1],[],[0],[-1],[2]]:=by
   rcases(show c6%5=0\/c6%5=1\/c6%5=2\/c6%5=3\/c6%5=4 by omega)with e|e|e|e|e<;>rw[e]
   ·exact⟨_,[1,1],rfl,sd8 _ _ kp8,qz⟩
   ·exact⟨_,[],rfl,sd9 _ _ kp9,qz⟩
   ·exact⟨_,[0],rfl,sda _ _ kpa,qz⟩
   ·exact⟨_,[-1],rfl,sdb _ _ kpb,qz⟩
   ·exact⟨_,[2],rfl,spd _ _ kpc,qz⟩
  exists a1h (SqL.of kpd) hkk
  refine⟨ln (by show 4<=100000;decide),λpz hpz=>?_⟩;have spz:Same HD (upd HD pz (.tup [.ref p2,.ref kk,.ref p7,.bl (decide ((3:Int)<3))])):=a0d hpz _;have kpz:(upd HD pz (.tup [.ref p2,.ref kk,.ref p7,.bl (decide ((3:Int)<3))])) pz=some (.tup [.ref p2,.ref kk,.ref p7,.bl (decide ((3:Int)<3))]):=a0c;generalize upd HD pz (.tup [.ref p2,.ref kk,.ref p7,.bl (decide ((3:Int)<3))])=HZ at spz kpz ⊢;ext;have sz:=sd7.trans spz;refine q pz kk p7 (.ref p2) _ (.app notS [h0]) ks _ false _ (s07.trans sz) (SqT.of kpz) (g7.mono sz) (spz _ _ hks) (sz _ _ kp7) (r7.pr (.same sz)) (.c3 hkm)
 ·refine iteB (λe=>absurd (Zf (a3h e)) qo) (λe=>?_);ext;refine iteB (λe=>absurd (Zf (a3h e)) qo) (λe=>?_);ext;refine iteB (λe=>absurd (Zf (a3h e)) qo) (λe=>?_);ext;refine iteB (λe=>absurd (Zf (a3h e)) qo) (λe=>?_);ext;rw[Zx e0];refine⟨ln (by show 4<=100000;decide),λpz hpz=>?_⟩;have spz:Same H7 (upd H7 pz (.tup [.ref p2,.ref p3,.ref p7,.bl true])):=a0d hpz _;have kpz:(upd H7 pz (.tup [.ref p2,.ref p3,.ref p7,.bl true])) pz=some (.tup [.ref p2,.ref p3,.ref p7,.bl true]):=a0c;generalize upd H7 pz (.tup [.ref p2,.ref p3,.ref p7,.bl true])=HZ at spz kpz ⊢;ext;refine q pz p3 p7 (.ref p2) _ (.app notS [h0]) [1] _ true _ (s07.trans spz) (SqT.of kpz) (g7.mono spz) (spz _ _ k7) (spz _ _ kp7) (r7.pr (.same spz)) .c4
end
section
variable{P:Program}{w:World}{K:W.Frag}{mg:Str->Option Value}{base:Heap}{t:Ad}
theorem p30:(10:Int)^(30:Int).toNat=10^30:=rfl
theorem ok_c3(T:Txt K mg t)  :FnOk P w K mg base CX0 1 t.a_c3 t.d_c3 ["n"] (c0r K):=by
 exists T.F_c3.ok sc_c3,c0r,(a0h (a0t (a1j (a0a a0j (a0a (mv 0) a0e))))),H,Q,E,hr,h
 rename_i n;ext;refine⟨ln (by show 2<=100000;decide),λp1 hp1=>?_⟩;have sp1:Same H (upd H p1 (.tup [.str "num",.int n])):=a0d hp1 _;have kp1:(upd H p1 (.tup [.str "num",.int n])) p1=some (.tup [.str "num",.int n]):=a0c;generalize upd H p1 (.tup [.str "num",.int n])=H1 at sp1 kp1 ⊢;ext;exact h _ _ sp1 (.tup (SqT.of kp1) (.cons (.str _) (.cons (.int _) .nil)))
theorem c1j(T:Txt K mg t)  :FnOk P w K mg base CX0 1 t.a_a6 t.d_a6 ["_law_cell_here"] (a4o):=by
 exists T.F_a6.ok c1h,a4o,(a0g (a1a (a0q a0x (a0l a1e (mv 0) a0b) a0b (a0m _)) (a0h (a0t (a0l (a1m K rfl) (a0l a3b (a0l a1e (a0l a4y (a0l a1z (mv 0) a0b) a0b) (a0l a3b (a0l a4y a0b (a0l a9s a0b a0b)) a0b)) (a0l a9s a0b a0b)) a0b))) a0u) (a0h (a0t (a0l a3b (a0l a1e (a0l a1z (mv 0) a0b) a0b) a0b)))),H,Q,E,hr,h
 rename_i c;ext
 exists e
 ·ext
  exists a4l (c1a qd)
  exists m2_i (C:=CPow) ⟨qd,qd,qd⟩
  exists a4l (a4e qd)
  exists m2_i (C:=CPow) ⟨qd,qd,qd⟩
  refine h _ ?_;unfold small;rw[p30];have b1:=Xb (c/3*1000003) (show(2*10^30-1:Int)≠0 from qk);have b2:=Yz (c/3*1000003) (show(0:Int)<2*10^30-1 from qk);omega
 ·ext;refine h _ ?_;unfold small;omega
end
section
variable{P:Program}{w:World}{K:W.Frag}{mg:Str->Option Value}{base:Heap}{t:Ad}
theorem d1d(T:Txt K mg t)  (n:Nat)(G_a5:FnOk P w K mg base CX0 (n+2) t.a_a5 t.d_a5 ["_law_term_here"] (a5i K n)):FnOk P w K mg base CX0 (n+2+1) t.a_a5 t.d_a5 ["_law_term_here"] (a5i K (n+1)):=by
 exists T.F_a5.ok (k:=n+2) a5f,a5i,(a0g (a1a (a0q a0x (a0i (a0f K rfl) (mv 0) a0b (λ_ _=>rfl)) a0j (a0m _)) (a0h (a0t (a0i (a0f K rfl) (mv 0) a0b (λ_ _=>rfl)))) a0u) (a0g (a1a (PW.pt (a6v (a0q a0x (a0i (a0f K rfl) (mv 0) a0b (λ_ _=>rfl)) a0j (a0m _)) (a6v (a0q b5a (a0w (a1o K rfl) rfl T.n_a8 Zy (a0a (a0i (a0f K rfl) (mv 0) a0b (λ_ _=>rfl)) a0e)) a0b (a0m _)) (a7c (a0q (b6h K rfl) (a0i (a0f K rfl) (mv 0) a0b (λ_ _=>rfl)) (a1u (a0a a0j (a0a a0j (a0a a0j (a0a a0j (a0a a0j a0e)))))) (by with_unfolding_all rfl)))))) (a0h (a0t a3n)) a0u) (a0g (a0s (i:=1) (hs:=a1g) a5f.nd rfl (by nofun) (a0r G_a5 hr.o rfl T.m_a5 T.F_a5.kp T.b_a5 .nil a0v (a0a (a0i (a0f K rfl) (a0i (a0f K rfl) (mv 0) a0b (λ_ _=>rfl)) a0b (λ_ _=>rfl)) a0e))) (a0g (a0s (i:=2) (hs:=a1g) a5f.nd rfl (by nofun) (a0r G_a5 hr.o rfl T.m_a5 T.F_a5.kp T.b_a5 .nil a0v (a0a (a0i (a0f K rfl) (a0i (a0f K rfl) (mv 0) a0b (λ_ _=>rfl)) a0b (λ_ _=>rfl)) a0e))) (a0g (a1a (PW.pt (a6v (a0q b5d (mv 1) a3n (a0m _)) (a6v (a0q b5d (mv 2) a3n (a0m _)) (a7c (PW.pt (a9l (a0q (b9j K rfl) (a0i (a0f K rfl) (mv 0) a0b (λ_ _=>rfl)) (a1u (a0a a0j (a0a a0j a0e))) (by with_unfolding_all rfl)) (a8c (a0q a0x (mv 2) a0b (a0m _))))))))) (a0h (a0t a3n)) a0u) (a0g (a0s (i:=3) (hs:=a1y) a5f.nd rfl (by nofun) (a0l (a1m K rfl) (mv 1) (mv 2))) (a0g (a1a (a0q a0x (a0i (a0f K rfl) (mv 0) a0b (λ_ _=>rfl)) a0j (a0m _)) (a0h (a0s (i:=3) (hs:=a1y) a5f.nd rfl (by nofun) (a0l a3b (mv 1) (mv 2)))) a0u) (a0g (a1a (a0q a0x (a0i (a0f K rfl) (mv 0) a0b (λ_ _=>rfl)) a0j (a0m _)) (a0h (a0s (i:=3) (hs:=a1y) a5f.nd rfl (by nofun) (a0l a4y (mv 1) (mv 2)))) a0u) (a0g (a1a (a0q a0x (a0i (a0f K rfl) (mv 0) a0b (λ_ _=>rfl)) a0j (a0m _)) (a0h (a0s (i:=3) (hs:=a1y) a5f.nd rfl (by nofun) (a0l b3x (mv 1) (mv 2)))) a0u) (a0g (a1a (a0q a0x (a0i (a0f K rfl) (mv 0) a0b (λ_ _=>rfl)) a0j (a0m _)) (a0h (a0s (i:=3) (hs:=a1y) a5f.nd rfl (by nofun) (a0l a3b (mv 1) (a0l a4y (a0l b3x (mv 1) (mv 2)) (mv 2))))) a0u) (a0h (a0t (a8i (a0q a7u (a0w c6i rfl T.n_g2 Ss (a0a (mv 3) a0e)) (a0l a9s a0b a0b) (a0m _)) (mv 3) a3n))))))))))))),H,Q,E,hr,h
 rename_i v;obtain⟨t0,hd,hw,hz,hn,q⟩:=h;cases t0 with
 |num k=>
  obtain⟨a,rfl,hs⟩:=a3v hd;ext
  exists a0k hs (v:=.str numS) rfl
  refine iteB (λe=>?_) (λe=>absurd e qk);ext;refine a0k hs (v:=.int k) rfl ?_;rw[num_num]at q;exact q _ (Same.refl _)
 |any x=>
  obtain⟨a,rfl,hs⟩:=a3w hd;ext
  exists a0k hs (v:=.str anyS) rfl
  refine iteB (λe=>absurd e qk) (λe=>?_);ext
  exists a0k hs (v:=.str anyS) rfl
  refine iteB (λe=>?_) (λe=>absurd e qk);refine iteT ?_;ext;rw[num_any]at q;exact q _ (Same.refl _)
 |app sg ks=>
  obtain⟨a,b,us,rfl,hs,hb,hk⟩:=a1x hd;have hkl:=a3z hk;ext
  exists a0k hs (v:=.str appS) rfl
  refine iteB (λe=>absurd e qk) (λe=>?_);ext
  exists a0k hs (v:=.str appS) rfl
  by_cases h5:sg∈five
  rotate_left
  ·rw[d1a h5]at q;refine iteB (λe=>absurd e qk) (λe=>?_);ext
   exists a0k hs (v:=.ref b) rfl
   exists a9t hb
   refine c0o ?_ (λhT e=>?_)
   ·refine iteT ?_;ext;exact q _ (Same.refl _)
   ext
   exists a0k hs (v:=.str sg) rfl
   refine⟨ln (by show 5<=100000;decide),λp1 hp1=>?_⟩;have sp1:Same H (upd H p1 (.lst [.str a3q,.str a1i,.str a1r,.str a1n,.str a1t])):=a0d hp1 _;have kp1:(upd H p1 (.lst [.str a3q,.str a1i,.str a1r,.str a1n,.str a1t])) p1=some (.lst [.str a3q,.str a1i,.str a1r,.str a1n,.str a1t]):=a0c;generalize upd H p1 (.lst [.str a3q,.str a1i,.str a1r,.str a1n,.str a1t])=H1 at sp1 kp1 ⊢;ext
   exists b0l five (.inl (SqL.of kp1))
   rw[Zo h5];refine iteT ?_;ext;exact q _ sp1
  obtain⟨hw1,hw2⟩:=hw;obtain⟨x,y,rfl⟩:=c7v (hw1 h5);obtain⟨u1,u2,rfl,d1,d2⟩:=a8r hk;simp only[Trm.size,Trm.sizeL]at hz;refine iteB (λe=>absurd e qk) (λe=>?_);ext
  exists a0k hs (v:=.ref b) rfl
  exists a9t hb
  refine iteB (λe=>absurd e qz) (λe=>?_);ext
  exists a0k hs (v:=.str sg) rfl
  refine⟨ln (by show 5<=100000;decide),λp1 hp1=>?_⟩;have sp1:Same H (upd H p1 (.lst [.str a3q,.str a1i,.str a1r,.str a1n,.str a1t])):=a0d hp1 _;have kp1:(upd H p1 (.lst [.str a3q,.str a1i,.str a1r,.str a1n,.str a1t])) p1=some (.lst [.str a3q,.str a1i,.str a1r,.str a1n,.str a1t]):=a0c;generalize upd H p1 (.lst [.str a3q,.str a1i,.str a1r,.str a1n,.str a1t])=H1 at sp1 kp1 ⊢;ext
  exists b0l five (.inl (SqL.of kp1))
  rw[Zx h5];refine iteF ?_;ext
  exists a0k (sp1.tup hs) (v:=.ref b) rfl
  exists a0k (sp1.tup hb) (v:=u1) rfl
  refine⟨x,d1.mono sp1,hw2.1,qo,qo,λH2 s2=>?_⟩;have s02:=sp1.trans s2;ext
  exists a0k (s02.tup hs) (v:=.ref b) rfl
  exists a0k (s02.tup hb) (v:=u2) rfl
  refine⟨y,d2.mono s02,hw2.2.1,qo,qo,λH3 s3=>?_⟩;have s03:=s02.trans s3;rw[num_two h5]at q
  (with_reducible refine a2l ?_)
  cases hx:numO x with
  |none=>
   rw[hx]at q;rw[show oI none=V.non from rfl];ext;refine iteB (λe=>?_) (λe=>absurd e qz);refine iteT ?_;ext;exact q _ s03
  |some l=>
  rw[show oI (some l)=V.int l from rfl];cases hy:numO y with
  |none=>
   rw[hx,hy]at q;rw[show oI none=V.non from rfl];ext;refine⟨rfl,?_⟩;ext;refine iteB (λe=>absurd e qz) (λe=>?_);ext;refine iteB (λe=>?_) (λe=>absurd e qz);refine iteT ?_;ext;exact q _ s03
  |some r=>
  rw[show oI (some r)=V.int r from rfl];rw[hx,hy]at q;have q:∀J,Same H J->Q (oI (if(sg=a1n\/sg=a1t)/\r=0 then none else a9b (fnd sg l r))) J:=q;have sl:=b2k hw2.1 hx;have sr:=b2k hw2.2.1 hy
  (with_reducible refine a2u (λσ' J=>σ'=[some (.ref a),some (.int l),some (.int r),none]/\Same H J/\¬((sg=a1n\/sg=a1t)/\r=0)) (λσ' J hP=>?_) (λkk=>?_))
  rotate_left
  ·ext;refine⟨rfl,?_⟩;ext;refine iteB (λe=>absurd e qz) (λe=>?_);ext;refine⟨rfl,?_⟩;ext;refine iteB (λe=>absurd e qz) (λe=>?_);ext
   exists a0k (s03.tup hs) (v:=.str sg) rfl
   refine⟨ln (by show 2<=100000;decide),λp4 hp4=>?_⟩;have sp4:Same H3 (upd H3 p4 (.lst [.str a1n,.str a1t])):=a0d hp4 _;have kp4:(upd H3 p4 (.lst [.str a1n,.str a1t])) p4=some (.lst [.str a1n,.str a1t]):=a0c;generalize upd H3 p4 (.lst [.str a1n,.str a1t])=H4 at sp4 kp4 ⊢;ext
   exists b6i [a1n,a1t] (.inl (SqL.of kp4))
   have s04:=s03.trans sp4
   by_cases hin:sg∈[a1n,a1t]
   ·rw[Zx hin];refine iteT ?_;ext;rw[Zn]
    exists e
    ·rw[if_pos ⟨by simpa using hin,Zf e⟩]at q;ext;exact q _ s04
    ·ext;exact kk _ _ ⟨rfl,s04,λz=>(Zq e) z.2⟩
   ·rw[Zo hin];refine iteF ?_;ext;exact kk _ _ ⟨rfl,s04,λz=>hin (by simpa using z.1)⟩
  obtain⟨rfl,sJ,hnz⟩:=hP;rw[if_neg hnz]at q;have nz:(sg=a1n\/sg=a1t)->r≠0:=λz w=>hnz ⟨z,w⟩
  obtain⟨hsJ,_⟩:SqT K J a [.str appS,.str sg,.ref b]/\True:=⟨sJ.tup hs,trivial⟩
  (with_reducible refine a2u (λσ' J'=>σ'=[some (.ref a),some (.int l),some (.int r),some (.int (l+r))]/\J'=J) (λσ' J' hP=>?_) (λkk=>?_))
  rotate_left
  ·ext;exact kk _ _ ⟨rfl,rfl⟩
  obtain⟨rfl,hJ⟩:=hP;rw[hJ]
  (with_reducible refine a2u (λσ' J'=>σ'=[some (.ref a),some (.int l),some (.int r),some (.int (if sg=a1i then l-r else l+r))]/\J'=J) (λσ' J' hP=>?_) (λkk=>?_))
  rotate_left
  ·ext
   exists a0k hsJ (v:=.str sg) rfl
   rw[Zn]
   exists e
   rotate_left
   ·have e:sg≠a1i:=Zq e;ext;rw[show(l+r)=(if sg=a1i then l-r else l+r)from(if_neg e).symm];exact kk _ _ ⟨rfl,rfl⟩
   have e:sg=a1i:=Zf e;ext;rw[show(l-r)=(if sg=a1i then l-r else l+r)from(if_pos e).symm];exact kk _ _ ⟨rfl,rfl⟩
  obtain⟨rfl,hJ⟩:=hP;rw[hJ]
  (with_reducible refine a2u (λσ' J'=>σ'=[some (.ref a),some (.int l),some (.int r),some (.int (if sg=a1r then l*r else if sg=a1i then l-r else l+r))]/\J'=J) (λσ' J' hP=>?_) (λkk=>?_))
  rotate_left
  ·ext
   exists a0k hsJ (v:=.str sg) rfl
   rw[Zn]
   exists e
   rotate_left
   ·have e:sg≠a1r:=Zq e;ext;rw[show(if sg=a1i then l-r else l+r)=(if sg=a1r then l*r else if sg=a1i then l-r else l+r)from(if_neg e).symm];exact kk _ _ ⟨rfl,rfl⟩
   have e:sg=a1r:=Zf e;ext
   exists a4l (b2f sl sr)
   rw[show(l*r)=(if sg=a1r then l*r else if sg=a1i then l-r else l+r)from(if_pos e).symm];exact kk _ _ ⟨rfl,rfl⟩
  obtain⟨rfl,hJ⟩:=hP;rw[hJ]
  (with_reducible refine a2u (λσ' J'=>σ'=[some (.ref a),some (.int l),some (.int r),some (.int (if sg=a1n then l.fdiv r else if sg=a1r then l*r else if sg=a1i then l-r else l+r))]/\J'=J) (λσ' J' hP=>?_) (λkk=>?_))
  rotate_left
  ·ext
   exists a0k hsJ (v:=.str sg) rfl
   rw[Zn]
   exists e
   rotate_left
   ·have e:sg≠a1n:=Zq e;ext;rw[show(if sg=a1r then l*r else if sg=a1i then l-r else l+r)=(if sg=a1n then l.fdiv r else if sg=a1r then l*r else if sg=a1i then l-r else l+r)from(if_neg e).symm];exact kk _ _ ⟨rfl,rfl⟩
   have e:sg=a1n:=Zf e;ext
   exists m2_i (b2g sr (nz (.inl e)))
   rw[show(l.fdiv r)=(if sg=a1n then l.fdiv r else if sg=a1r then l*r else if sg=a1i then l-r else l+r)from(if_pos e).symm];exact kk _ _ ⟨rfl,rfl⟩
  obtain⟨rfl,hJ⟩:=hP;rw[hJ];ext
  exists a0k hsJ (v:=.str sg) rfl
  rw[Zn]
  exists e
  ·have e:sg=a1t:=Zf e;ext
   exists m2_i (b2g sr (nz (.inr e)))
   exists a4l (b2f (c7t sl (nz (.inr e))) sr)
   rw[show l-l.fdiv r*r=fnd sg l r from(if_pos e).symm]
   exists m2_i (C:=CPow) ⟨qd,qd,qd⟩
   unfold a9b at q
   exists e2
   ·have e2:=Zf e2;rw[p30]at e2;rw[if_pos e2]at q;ext;exact q _ sJ
   ·have e2:=Zq e2;rw[p30]at e2;rw[if_neg e2]at q;ext;exact q _ sJ
  ·have e:sg≠a1t:=Zq e;ext;rw[show(if sg=a1n then l.fdiv r else if sg=a1r then l*r else if sg=a1i then l-r else l+r)=fnd sg l r from(if_neg e).symm]
   exists m2_i (C:=CPow) ⟨qd,qd,qd⟩
   unfold a9b at q
   exists e2
   ·have e2:=Zf e2;rw[p30]at e2;rw[if_pos e2]at q;ext;exact q _ sJ
   ·have e2:=Zq e2;rw[p30]at e2;rw[if_neg e2]at q;ext;exact q _ sJ
theorem d1e(T:Txt K mg t)  (n:Nat):FnOk P w K mg base CX0 (n+2) t.a_a5 t.d_a5 ["_law_term_here"] (a5i K n):=by
 induction n with
 |zero=>
  have no:∀vs H Q E,(a5i K 0) vs H Q E->False:=λvs H Q E h=>by
   unfold a5i at h;split at h
   ·exact d0x h
   ·exact h
  exact⟨λvs H Q E h=>(no vs H Q E h).elim,λA outer s H args us vs Q E _ _ _ _ h=>(no vs H Q E h).elim⟩
 |succ n ih=>
  have e:n+1+2=n+2+1:=by omega
  rw[e];exact d1d T  n ih
end
section
variable{P:Program}{w:World}{K:W.Frag}{mg:Str->Option Value}{base:Heap}{t:Ad}
theorem b6s(T:Txt K mg t)(G_a5:FnOk P w K mg base CX0 102 t.a_a5 t.d_a5 ["_law_term_here"] (a5i K 100)):FnOk P w K mg base CX0 103 t.a_d1 t.d_d1 ["_law_goal"] (a6r K):=by
 exists T.F_d1.ok a3y,a6r,(a0g (b8n (a0i (a0f K rfl) (mv 0) a0b (λ_ _=>rfl)) (b2w K rfl rfl (a3a (a2f (i:=1) a3y.nd rfl (by nofun)) (a3a (a2f (i:=2) a3y.nd rfl (by nofun)) a9n)))) (a0g (a1a (a0q a0x (a0i (a0f K rfl) (mv 0) a0b (λ_ _=>rfl)) a0j (a0m _)) (a0h (a0t (a1c (b5k K rfl (a3u hr)) (mv 1) (mv 2) (a0m _)))) a0u) (a0g (a0s (i:=3) (hs:=a1g) a3y.nd rfl (by nofun) (a0r G_a5 hr.o rfl T.m_a5 T.F_a5.kp T.b_a5 .nil a0v (a0a (mv 2) a0e))) (a0g (a1a (a0q a0x (a0i (a0f K rfl) (mv 0) a0b (λ_ _=>rfl)) a0j (a0m _)) (a0h (a0t (a2k (a1c b2v (mv 3) a3n (a0m _)) (a2p (a1c (b5k K rfl (a3u hr)) (mv 1) (a1j (a0a a0j (a0a (mv 3) a0e))) (a0m _)))))) a0u) (a0g (a0s (i:=4) (hs:=a1g) a3y.nd rfl (by nofun) (a0r G_a5 hr.o rfl T.m_a5 T.F_a5.kp T.b_a5 .nil a0v (a0a (mv 1) a0e))) (a0g (a1a (PW.pt (a6v (a0q b5d (mv 4) a3n (a0m _)) (a7c (a0q b5d (mv 3) a3n (a0m _))))) (a0h (a0t a6u)) a0u) (a0h (a0t (b8f (a1c a7u (mv 4) (mv 3) (a0m _)) (a2p (a2k (a1c a0x (a0i (a0f K rfl) (mv 0) a0b (λ_ _=>rfl)) a0j (a0m _)) (a2p (a1c a0x (mv 4) (mv 3) (a0m _)))))))))))))),H,Q,E,hr,h
 rename_i v;obtain⟨s,a,b,hd,hs,wa,wb,hz,q⟩:=h;obtain⟨p,pa,us,rfl,h1,h2,h3⟩:=a1x hd;obtain⟨u1,u2,rfl,d1,d2⟩:=a8r h3;simp only[Trm.size,Trm.sizeL]at hz;rw[a9a]at q;ext;refine a0k h1 (v:=.ref pa) rfl ?_
 exists b9k h2 rfl
 exists a0k h1 (v:=.str s) rfl
 rw[Zn]
 exists e
 ·rw[if_pos (show s=eqS from Zf e)]at q;have q:∀J,Same H J->Q (.bl (eqb a b)) J:=q;ext;refine a9w d1 d2 qo ?_;rw[Zn];exact q _ (Same.refl _)
 rw[if_neg (show s≠eqS from Zq e)]at q;have n1:s≠eqS:=Zq e;ext;refine⟨b,d2,wb,qo,qo,λH1 s1=>?_⟩
 (with_reducible refine a2l ?_)
 have NS:∀{n:Bool}{k:Int}{J:Hp}{R:VK},R (.bl (n^^false)) J->mIsN n (.int k) .non J R:=λh=>⟨rfl,by rw[Zo qz];exact h⟩
 have NN:∀{n:Bool}{J:Hp}{R:VK},R (.bl (n^^true)) J->mIsN n .non .non J R:=λh=>⟨rfl,by rw[Zx rfl];exact h⟩
 by_cases ha:s=asS
 ·rw[if_pos ha]at q;cases hb:numO b with
  |none=>
   rw[hb]at q;rw[show oI none=V.non from rfl];ext
   exists a0k (s1.tup h1) (v:=.str s) rfl
   rw[Zn];refine iteB (λe=>?_) (λe=>absurd ha (Zq e));ext;refine iteB (λe=>absurd e qz) (λe=>?_);exact q _ s1
  |some n=>
   rw[hb]at q;have q:∀J,Same H J->Q (.bl (eqb a (.num n))) J:=q;rw[show oI (some n)=V.int n from rfl];ext
   exists a0k (s1.tup h1) (v:=.str s) rfl
   rw[Zn];refine iteB (λe=>?_) (λe=>absurd ha (Zq e));ext;refine NS ?_;ext;refine iteB (λe=>?_) (λe=>absurd e qz);ext;refine⟨ln (by show 2<=100000;decide),λp2 hp2=>?_⟩;have sp2:Same H1 (upd H1 p2 (.tup [.str "num",.int n])):=a0d hp2 _;have kp2:(upd H1 p2 (.tup [.str "num",.int n])) p2=some (.tup [.str "num",.int n]):=a0c;generalize upd H1 p2 (.tup [.str "num",.int n])=H2 at sp2 kp2 ⊢;ext;refine a9w (d1.mono (s1.trans sp2)) (a4p (SqT.of kp2)) qo ?_;rw[Zn];exact q _ (s1.trans sp2)
 rw[if_neg ha]at q;have hs2:s=ltS\/s=leS:=by
  simp only[Zi,Zs,Yv]at hs;rcases hs with z|z|z
  ·exact absurd z n1
  ·exact absurd z ha
  ·exact z
 have n3:s≠keepS:=by rcases hs2 with z|z<;>(rw[z];decide+kernel)
 rw[if_neg n3]at q;unfold ltO at q;cases hb:numO b with
 |none=>
  rw[hb]at q;rw[show oI none=V.non from rfl];ext
  exists a0k (s1.tup h1) (v:=.str s) rfl
  rw[Zn];refine iteB (λe=>absurd (Zf e) ha) (λe=>?_);ext;refine⟨a,d1.mono s1,wa,qo,qo,λH2 s2=>?_⟩
  (with_reducible refine a2l ?_)
  have q:=q _ (s1.trans s2);have q:Q (.bl false) H2:=by cases hx:numO a<;>(rw[hx]at q;exact q)
  cases hx:numO a with
  |none=>
   rw[show oI none=V.non from rfl];ext;refine iteB (λe=>?_) (λe=>absurd e qz);refine iteT ?_;ext;exact q
  |some l=>
   rw[show oI (some l)=V.int l from rfl];ext;refine NS ?_;ext;refine iteB (λe=>absurd e qz) (λe=>?_);ext;refine iteB (λe=>?_) (λe=>absurd e qz);ext;exact q
 |some r=>
  rw[hb]at q;rw[show oI (some r)=V.int r from rfl];ext
  exists a0k (s1.tup h1) (v:=.str s) rfl
  rw[Zn];refine iteB (λe=>absurd (Zf e) ha) (λe=>?_);ext;refine⟨a,d1.mono s1,wa,qo,qo,λH2 s2=>?_⟩
  (with_reducible refine a2l ?_)
  have q:=q _ (s1.trans s2);cases hx:numO a with
  |none=>
   rw[hx]at q;rw[show oI none=V.non from rfl];ext;refine iteB (λe=>?_) (λe=>absurd e qz);refine iteT ?_;ext;exact q
  |some l=>
   rw[hx]at q;have q:Q (.bl (decide (l<r)|| (decide (s=leS)&&decide (l=r)))) H2:=q;rw[show oI (some l)=V.int l from rfl];ext;refine NS ?_;ext;refine iteB (λe=>absurd e qz) (λe=>?_);ext;refine NS ?_;ext;refine iteB (λe=>absurd e qz) (λe=>?_);ext
   exists e
   ·rw[e,Sq]at q;exact q
   ·rw[e,V6]at q;ext
    exists a0k ((s1.trans s2).tup h1) (v:=.str s) rfl
    rw[Zn]
    exists e
    ·rw[show decide (s=leS)=true from e,Ye]at q;ext;rw[Zn];exact q
    ·rw[show decide (s=leS)=false from e,Yw]at q;exact q
end
section
variable{P:Program}{w:World}{K:W.Frag}{mg:Str->Option Value}{base:Heap}{t:Ad}
theorem c8g(T:Txt K mg t)  :FnOk P w K mg base CX0 1 t.a_c9 t.d_c9 ["_law_cell_here","_law_many","_law_words_here"] (b2i K):=by
 exists T.F_c9.ok c7i,b2i,(a0g (a1a (PW.pt (a9l (a0q a0x (a0l a1e (mv 0) a0b) a0b (a0m _)) (a8c (a0q a0x (mv 1) a0b (a0m _))))) (a0h (a0t (a0i (a0f K rfl) (a1u (a0a a0j (a0a a0j (a0a a0j (a0a a0j (a0a a0j (a0a a0j (a0a a0j (a0a a0j (a0a a0j (a0a a0j a0e))))))))))) (a0l a1e (a0l a1z (mv 0) a0b) a0b) (λ_ _=>rfl)))) a0u) (a0g (a1a (PW.pt (a9l (a0q a0x (a0l a1e (mv 0) a0b) a0b (a0m _)) (a8c (a0q a0x (mv 1) a0b (a0m _))))) (a0h (a0t a0j)) a0u) (a0g (a1a (a0q a0x (a0l a1e (mv 0) a0b) a0b (a0m _)) (a0h (a0t (a0i (a0f K rfl) (a1u (a0a a0j (a0a a0j (a0a a0j (a0a a0j (a0a a0j (a0a a0j a0e))))))) (a0l a1e (a0l a1z (mv 0) a0b) a0b) (λ_ _=>rfl)))) a0u) (a0h (a0t (a0i (a0f K rfl) (mv 2) (a0l a1e (a0l a1z (mv 0) a0b) (a0w (a1o K rfl) rfl T.n_a8 Zy (a0a (mv 2) a0e))) (λ_ _=>rfl))))))),H,Q,E,hr,h
 rename_i c m wp;obtain⟨ws,hW,w1,w2,w3,q⟩:=h;have last:∀J,J=H->(∀x∈ws,Q (.str x) J):=λJ e x hx=>by subst e;exact q x _ (w3 x hx).1 (λz=>absurd z (w3 x hx).2) (Same.refl _)
 ext;have step2:∀(P:Prop),P->P:=λ_ h=>h
 by_cases c0:c%5=0
 ·refine iteB (λe=>?_) (λe=>absurd c0 (Zq (a3h e)));ext
  exists e
  ·ext;refine⟨ln (by show 10<=100000;decide),λp1 hp1=>?_⟩;have sp1:Same H (upd H p1 (.lst [.str "+",.str "=",.str "[|]",.str "<=",.str "/:",.str ":=",.str "-",.str "*",.str "#",.str "@@@"])):=a0d hp1 _;have kp1:(upd H p1 (.lst [.str "+",.str "=",.str "[|]",.str "<=",.str "/:",.str ":=",.str "-",.str "*",.str "#",.str "@@@"])) p1=some (.lst [.str "+",.str "=",.str "[|]",.str "<=",.str "/:",.str ":=",.str "-",.str "*",.str "#",.str "@@@"]):=a0c;generalize upd H p1 (.lst [.str "+",.str "=",.str "[|]",.str "<=",.str "/:",.str ":=",.str "-",.str "*",.str "#",.str "@@@"])=H1 at sp1 kp1 ⊢;ext;obtain⟨x,hx,hx1⟩:∃x:Str,atI [V.str "+",V.str "=",V.str "[|]",V.str "<=",V.str "/:",V.str ":=",V.str "-",V.str "*",V.str "#",V.str "@@@"] (c/5%10)=some (.str x)/\x.length<=30:=by
    have hi:c/5%10=0\/c/5%10=1\/c/5%10=2\/c/5%10=3\/c/5%10=4\/c/5%10=5\/c/5%10=6\/c/5%10=7\/c/5%10=8\/c/5%10=9:=by omega
    rcases hi with z|z|z|z|z|z|z|z|z|z<;>rw[z]<;>exact⟨_,rfl,qk⟩
   refine a1h (SqL.of kp1) hx ?_;exact q x _ hx1 (λ_=>by simpa using e) sp1
  ext;refine iteB (λe=>?_) (λe=>absurd c0 (Zq (a3h e)));ext
  exists e
  ·ext;exact q _ _ qk (λz=>absurd z qk) (Same.refl _)
  ext;refine iteB (λe=>by have:=Zf (a3h e);omega) (λe=>?_);ext
  exists a1v hW
  rw[length_map]
  exists m2_i (show(0:Int)<(ws.length:Int) by omega)
  have b1:=Xb (c/5) (show(ws.length:Int)≠0 by omega);have b2:=Yz (c/5) (show(0:Int)<(ws.length:Int) by omega);obtain⟨v,hv,_⟩:=a3t (xs:=ws.map V.str) b1 (by rw[length_map];exact b2);obtain⟨x,rfl,hx⟩:=a8h hv;refine a1h hW hv ?_;exact last _ rfl x hx
 refine iteB (λe=>absurd (Zf (a3h e)) c0) (λe=>?_);ext;refine iteF ?_;ext;refine iteB (λe=>absurd (Zf (a3h e)) c0) (λe=>?_);ext;refine iteF ?_;ext
 exists e
 ·ext;refine⟨ln (by show 6<=100000;decide),λp1 hp1=>?_⟩;have sp1:Same H (upd H p1 (.lst [.str "any",.str "num",.str "app",.str "not",.str "keep",.str "a"])):=a0d hp1 _;have kp1:(upd H p1 (.lst [.str "any",.str "num",.str "app",.str "not",.str "keep",.str "a"])) p1=some (.lst [.str "any",.str "num",.str "app",.str "not",.str "keep",.str "a"]):=a0c;generalize upd H p1 (.lst [.str "any",.str "num",.str "app",.str "not",.str "keep",.str "a"])=H1 at sp1 kp1 ⊢;ext;obtain⟨x,hx,hx1,hx5⟩:∃x:Str,atI [V.str "any",V.str "num",V.str "app",V.str "not",V.str "keep",V.str "a"] (c/5%6)=some (.str x)/\x.length<=30/\x∉five:=by
   have hi:c/5%6=0\/c/5%6=1\/c/5%6=2\/c/5%6=3\/c/5%6=4\/c/5%6=5:=by omega
   rcases hi with z|z|z|z|z|z<;>rw[z]<;>exact⟨_,rfl,qk,qk⟩
  refine a1h (SqL.of kp1) hx ?_;exact q x _ hx1 (λz=>absurd z hx5) sp1
 ext
 exists a1v hW
 rw[length_map]
 exists m2_i (show(0:Int)<(ws.length:Int) by omega)
 have b1:=Xb (c/5) (show(ws.length:Int)≠0 by omega);have b2:=Yz (c/5) (show(0:Int)<(ws.length:Int) by omega);obtain⟨v,hv,_⟩:=a3t (xs:=ws.map V.str) b1 (by rw[length_map];exact b2);obtain⟨x,rfl,hx⟩:=a8h hv;refine a1h hW hv ?_;exact last _ rfl x hx
theorem c8h(T:Txt K mg t)(G_a6:FnOk P w K mg base CX0 1 t.a_a6 t.d_a6 ["_law_cell_here"] (a4o))(G_c9:FnOk P w K mg base CX0 1 t.a_c9 t.d_c9 ["_law_cell_here","_law_many","_law_words_here"] (b2i K)):FnOk P w K mg base CX0 2 t.a_d3 t.d_d3 ["_law_cells","_law_names_here","_law_words_here"] (b2j K):=by
 exists T.F_d3.ok a4b,b2j,(a0g (a0s (i:=3) (hs:=a5c) a4b.nd rfl (by nofun) (a1u a0e)) (a0g (a7d Y3 rfl (a3s K rfl (mv 0)) (a2f (i:=4) a4b.nd rfl (by nofun)) (a0h (a1a (a0q a0x (a0l a1e (mv 4) a0b) a0b (a0m _)) (a0h (a4m (a7v K rfl Y9 Wl W7 a7f (mv 3) (a0a (a1j (a0a a0j (a0a (a0r G_a6 hr.o rfl T.m_a6 T.F_a6.kp T.b_a6 .nil a0v (a0a (a0l a1z (mv 4) a0b) a0e)) a0e))) a0e)))) (a0h (a1a (a0q a7u (a0l a1e (mv 4) a0b) a0b (a0m _)) (a0h (a4m (a7v K rfl Y9 Wl W7 a7f (mv 3) (a0a (a1j (a0a a0j (a0a (a0i (a0f K rfl) (mv 1) (a0l a1e (a0l a1z (mv 4) a0b) (a0w (a1o K rfl) rfl T.n_a8 Zy (a0a (mv 1) a0e))) (λ_ _=>rfl)) a0e))) a0e)))) (a0g (a0s (i:=5) (hs:=a1g) a4b.nd rfl (by nofun) (a0w (b9d rfl) rfl T.n_f4 boot_min (a0a (a0l a1e (a0l a1z (mv 4) a0b) a0b) (a0a (a0w (a1o K rfl) rfl T.n_a8 Zy (a0a (mv 3) a0e)) a0e)))) (a0g (a0s (i:=6) (hs:=a1g) a4b.nd rfl (by nofun) (a2n (b3v K rfl) rfl T.n_f3 Rp (a0a (a4d (a5u K rfl) (mv 3) (a5m (a0l a3b (a0w (a1o K rfl) rfl T.n_a8 Zy (a0a (mv 3) a0e)) (mv 5))) a5k) a0e))) (a0h (a0s (i:=3) (hs:=a1y) a4b.nd rfl (by nofun) (a0l (a1m K rfl) (a4d (a5u K rfl) (mv 3) a5k (a5m (a0l a3b (a0w (a1o K rfl) rfl T.n_a8 Zy (a0a (mv 3) a0e)) (mv 5)))) (a1u (a0a (a1j (a0a a0j (a0a (a0r G_c9 hr.o rfl T.m_c9 T.F_c9.kp T.b_c9 .nil a0v (a0a (a0l a1z (mv 4) a0b) (a0a (mv 5) (a0a (mv 2) a0e)))) (a0a (mv 6) a0e)))) a0e)))))))))))) (a0g (b0c Y3 (a0q a8t (a0w (a1o K rfl) rfl T.n_a8 Zy (a0a (mv 3) a0e)) a0b (a0m _)) (a0g (a0s (i:=5) (hs:=a1g) a4b.nd rfl (by nofun) (a0w (b9d rfl) rfl T.n_f4 boot_min (a0a a0b (a0a (a0w (a1o K rfl) rfl T.n_a8 Zy (a0a (mv 3) a0e)) a0e)))) (a0h (a0s (i:=3) (hs:=a1y) a4b.nd rfl (by nofun) (a0l (a1m K rfl) (a4d (a5u K rfl) (mv 3) a5k (a5m (a0l a3b (a0w (a1o K rfl) rfl T.n_a8 Zy (a0a (mv 3) a0e)) (mv 5)))) (a1u (a0a (a1j (a0a a0j (a0a (a0i (a0f K rfl) (mv 2) a0b (λ_ _=>rfl)) (a0a (a2n (b3v K rfl) rfl T.n_f3 Rp (a0a (a4d (a5u K rfl) (mv 3) (a5m (a0l a3b (a0w (a1o K rfl) rfl T.n_a8 Zy (a0a (mv 3) a0e)) (mv 5))) a5k) a0e)) a0e)))) a0e))))))) (a0g (a1a (a0q a0x (a0w (a1o K rfl) rfl T.n_a8 Zy (a0a (mv 3) a0e)) a0b (a0m _)) (a0h (a0t (a1j (a0a a0j (a0a a0b a0e))))) a0u) (a0h (a0t (a0i (a0f K rfl) (mv 3) a0b (λ_ _=>rfl)))))))),H,Q,E,hr,h
 rename_i cp np wp;obtain⟨cs,xs,ws,hC,c1,hX,x1,x2,hW,w1,w2,w3,q⟩:=h;ext;refine⟨ln (by show 0<=100000;decide),λp1 hp1=>?_⟩;have sp1:Same H (upd H p1 (.lst [])):=a0d hp1 _;have kp1:(upd H p1 (.lst [])) p1=some (.lst []):=a0c;generalize upd H p1 (.lst [])=H1 at sp1 kp1 ⊢;ext;refine⟨cp,rfl,⟨_,sp1.seq hC⟩,?_⟩;refine a8e (a3r (xs:=cs.map V.int)) (λi σ' H'=>∃(o4 o5 o6:Option V)(p:Addr)(us:List V)(ts:List Trm),σ'=[some (.ref cp),some (.ref np),some (.ref wp),some (.ref p),o4,o5,o6]/\Same H H'/\H p=none/\H' p=some (.lst us)/\a2o K H' us ts/\Trm.sizeL ts<=i/\ts.length<=i) ⟨none,none,none,p1,[],[],rfl,sp1,hp1,kp1,⟨.nil,λt ht=>by simp at ht⟩,Zg _,Zg _⟩ (λi σ' H' hP=>by obtain⟨_,_,_,_,_,_,_,s,_⟩:=hP;exact s.seq hC) (λi σ' H' hi hP=>?_) (λσ' H' hP=>?_)
 ·obtain⟨o4,o5,o6,p,us,ts,rfl,s1,hp,kp,lo,z1,z2⟩:=hP;obtain⟨c,hc⟩:=b9f hi;rw[hc];have hi40:i<40:=by rw[length_map]at hi;omega
  have lul:=lo.len;ext
  exists e
  ·ext;refine⟨.inl ⟨rfl,_,SqL.of kp⟩,?_⟩;ext;refineλv hv0=>?_
   ext;refine⟨ln (by show 2<=100000;decide),λp2 hp2=>?_⟩;have sp2:Same H' (upd H' p2 (.tup [.str "num",.int v])):=a0d hp2 _;have kp2:(upd H' p2 (.tup [.str "num",.int v])) p2=some (.tup [.str "num",.int v]):=a0c;generalize upd H' p2 (.tup [.str "num",.int v])=H2 at sp2 kp2 ⊢;ext;refine a7g (sp2 _ _ kp) (ln1 qo) ?_;have lo2:=(lo.mono sp2).snoc (a4p (SqT.of kp2)) (t:=.num v) hv0;refine⟨_,_,_,p,_,ts++[.num v],rfl,a1f (s1.trans sp2) hp,hp,a0c,⟨lo2.den.lst (sp2 _ _ kp),lo2.vs⟩,?_,?_⟩
   ·rw[Trm.sizeL_app];simp only[Trm.sizeL,Trm.size];omega
   ·rw[Zj,Zm];omega
  ext
  exists e
  ·ext;refine⟨.inl ⟨rfl,_,SqL.of kp⟩,?_⟩;ext
   exists a1v (s1.seq hX)
   rw[length_map]
   exists m2_i (show(0:Int)<(xs.length:Int) by omega)
   have b1:=Xb (c/7) (show(xs.length:Int)≠0 by omega);have b2:=Yz (c/7) (show(0:Int)<(xs.length:Int) by omega);obtain⟨v,hv,_⟩:=a3t (xs:=xs.map V.str) b1 (by rw[length_map];exact b2);obtain⟨x,rfl,hx⟩:=a8h hv
   exists a1h (s1.seq hX) hv
   refine⟨ln (by show 2<=100000;decide),λp2 hp2=>?_⟩;have sp2:Same H' (upd H' p2 (.tup [.str "any",.str x])):=a0d hp2 _;have kp2:(upd H' p2 (.tup [.str "any",.str x])) p2=some (.tup [.str "any",.str x]):=a0c;generalize upd H' p2 (.tup [.str "any",.str x])=H2 at sp2 kp2 ⊢;ext;refine a7g (sp2 _ _ kp) (ln1 qo) ?_;have lo2:=(lo.mono sp2).snoc (a5v (SqT.of kp2)) (t:=.any x) trivial;refine⟨_,_,_,p,_,ts++[.any x],rfl,a1f (s1.trans sp2) hp,hp,a0c,⟨lo2.den.lst (sp2 _ _ kp),lo2.vs⟩,?_,?_⟩
   ·rw[Trm.sizeL_app];simp only[Trm.sizeL,Trm.size];omega
   ·rw[Zj,Zm];omega
  ext
  exists a1v (SqL.of kp)
  obtain⟨mn,hmn,hm1⟩:∃mn:Nat,(if(us.length:Int)<c/7%5 then(us.length:Int)else c/7%5)=(mn:Int)/\mn<=us.length:=by
   split
   ·exact⟨us.length,rfl,Zg _⟩
   ·exact⟨(c/7%5).toNat,qo,qo⟩
  rw[hmn]
  exists a1v (SqL.of kp)
  refine a8l (SqL.of kp) (λp2 hp2=>?_);rw[a8p _ _ (show(0:Int)<=(us.length:Int)-mn by omega),show((us.length:Int)-(mn:Int)).toNat=us.length-mn by omega];have s2:=a0d hp2 (.lst (us.drop (us.length-mn)));have k2:(upd H' p2 (.lst (us.drop (us.length-mn)))) p2=some (.lst (us.drop (us.length-mn))):=a0c;generalize upd H' p2 (.lst (us.drop (us.length-mn)))=H2 at s2 k2 ⊢;ext;refine b9g (SqL.of k2) (λp3 hp3=>?_);have s3:=a0d hp3 (.tup (us.drop (us.length-mn)));have k3:(upd H2 p3 (.tup (us.drop (us.length-mn)))) p3=some (.tup (us.drop (us.length-mn))):=a0c;generalize upd H2 p3 (.tup (us.drop (us.length-mn)))=H3 at s3 k3 ⊢;have s13:=s2.trans s3;ext
  exists a1v (SqL.of (s13 _ _ kp))
  refine a8l (SqL.of (s13 _ _ kp)) (λp4 hp4=>?_);rw[c7l _ _ (show(0:Int)<=(us.length:Int)-mn by omega),show((us.length:Int)-(mn:Int)).toNat=us.length-mn by omega];have s4:=a0d hp4 (.lst (us.take (us.length-mn)));have k4:(upd H3 p4 (.lst (us.take (us.length-mn)))) p4=some (.lst (us.take (us.length-mn))):=a0c;generalize upd H3 p4 (.lst (us.take (us.length-mn)))=H4 at s4 k4 ⊢;ext;refine⟨ws,((s1.trans s13).trans s4).seq hW,w1,w2,w3,λsg H5 hsg h5 s5=>?_⟩;ext;refine⟨ln (by show 3<=100000;decide),λp6 hp6=>?_⟩;have sp6:Same H5 (upd H5 p6 (.tup [.str "app",.str sg,.ref p3])):=a0d hp6 _;have kp6:(upd H5 p6 (.tup [.str "app",.str sg,.ref p3])) p6=some (.tup [.str "app",.str sg,.ref p3]):=a0c;generalize upd H5 p6 (.tup [.str "app",.str sg,.ref p3])=H6 at sp6 kp6 ⊢;ext;refine⟨ln (by show 1<=100000;decide),λp7 hp7=>?_⟩;have sp7:Same H6 (upd H6 p7 (.lst [.ref p6])):=a0d hp7 _;have kp7:(upd H6 p7 (.lst [.ref p6])) p7=some (.lst [.ref p6]):=a0c;generalize upd H6 p7 (.lst [.ref p6])=H7 at sp7 kp7 ⊢;ext;have s57:=s5.trans (sp6.trans sp7);refine a7h (s57 _ _ k4) kp7 (ln (by rw[Yi,Zm];omega)) (λp8 hp8=>?_);have s8:=a0d hp8 (.lst (us.take (us.length-mn)++[.ref p6]));have s48:=s4.trans (s57.trans s8);have s18:=s13.trans s48;have lo8:=lo.mono s18;have dapp:Den K (upd H7 p8 (.lst (us.take (us.length-mn)++[.ref p6]))) (.ref p6) (Trm.app sg (ts.drop (us.length-mn))).data:=a2m (SqT.of (s8 _ _ (sp7 _ _ kp6))) (SqT.of (s48 _ _ k3)) (lo8.drop _).den;ext;refine⟨_,_,_,p8,_,ts.take (us.length-mn)++[.app sg (ts.drop (us.length-mn))],rfl,s1.trans s18,a4c (s1.trans (s13.trans (s4.trans s57))) hp8,a0c,(lo8.take _).snoc dapp (t:=.app sg (ts.drop (us.length-mn))) ⟨λz=>by have:=h5 z;rw[Ww];omega,b3g (lo8.drop _).vs⟩,?_,?_⟩
  ·have:=b2a ts (us.length-mn);rw[Trm.sizeL_app];simp only[Trm.sizeL,Trm.size];omega
  ·rw[Zj,Zm,Yi];omega
 ·obtain⟨o4,o5,o6,p,us,ts,rfl,s1,hp,kp,lo,z1,z2⟩:=hP;rw[length_map]at z1 z2;ext;refine a8u (λn σ' J=>∃(o5:Option V)(p:Addr)(us:List V)(ts:List Trm),σ'=[some (.ref cp),some (.ref np),some (.ref wp),some (.ref p),o4,o5,o6]/\Same H J/\J p=some (.lst us)/\a2o K J us ts/\Trm.sizeL ts+ts.length<=2*cs.length/\n=ts.length) ts.length ⟨o5,p,us,ts,rfl,s1,kp,lo,qo,rfl⟩ (λn σ' J R hP kT kF=>?_);obtain⟨o5,p,us,ts,rfl,s1,kp,lo,z1,z2⟩:=hP;have lul:=lo.len;ext
  exists a1v (SqL.of kp)
  by_cases hl:1<us.length
  ·rw[Zx qo];refine kT _ (λD' f1 f2 hnx hct=>?_);ext
   exists a1v (SqL.of kp)
   obtain⟨mn,hmn,hm1,hm2⟩:∃mn:Nat,(if(us.length:Int)<4 then(us.length:Int)else 4)=(mn:Int)/\mn<=us.length/\2<=mn:=by
    split
    ·exact⟨us.length,rfl,Zg _,qo⟩
    ·exact⟨4,rfl,qo,qo⟩
   rw[hmn]
   exists a1v (SqL.of kp)
   refine a8l (SqL.of kp) (λp4 hp4=>?_);rw[c7l _ _ (show(0:Int)<=(us.length:Int)-mn by omega),show((us.length:Int)-(mn:Int)).toNat=us.length-mn by omega];have s4:=a0d hp4 (.lst (us.take (us.length-mn)));have k4:(upd J p4 (.lst (us.take (us.length-mn)))) p4=some (.lst (us.take (us.length-mn))):=a0c;generalize upd J p4 (.lst (us.take (us.length-mn)))=H4 at s4 k4 ⊢;ext;obtain⟨v0,hv0,_⟩:=a3t (xs:=ws.map V.str) (i:=0) qd (by rw[length_map];omega);obtain⟨sg,rfl,hsg⟩:=a8h hv0
   exists a1h ((s1.trans s4).seq hW) hv0
   exists a1v (SqL.of (s4 _ _ kp))
   refine a8l (SqL.of (s4 _ _ kp)) (λp2 hp2=>?_);rw[a8p _ _ (show(0:Int)<=(us.length:Int)-mn by omega),show((us.length:Int)-(mn:Int)).toNat=us.length-mn by omega];have s2:=a0d hp2 (.lst (us.drop (us.length-mn)));have k2:(upd H4 p2 (.lst (us.drop (us.length-mn)))) p2=some (.lst (us.drop (us.length-mn))):=a0c;generalize upd H4 p2 (.lst (us.drop (us.length-mn)))=H2 at s2 k2 ⊢;ext;refine b9g (SqL.of k2) (λp3 hp3=>?_);have s3:=a0d hp3 (.tup (us.drop (us.length-mn)));have k3:(upd H2 p3 (.tup (us.drop (us.length-mn)))) p3=some (.tup (us.drop (us.length-mn))):=a0c;generalize upd H2 p3 (.tup (us.drop (us.length-mn)))=H3 at s3 k3 ⊢;ext;refine⟨ln (by show 3<=100000;decide),λp6 hp6=>?_⟩;have sp6:Same H3 (upd H3 p6 (.tup [.str "app",.str sg,.ref p3])):=a0d hp6 _;have kp6:(upd H3 p6 (.tup [.str "app",.str sg,.ref p3])) p6=some (.tup [.str "app",.str sg,.ref p3]):=a0c;generalize upd H3 p6 (.tup [.str "app",.str sg,.ref p3])=H6 at sp6 kp6 ⊢;ext;refine⟨ln (by show 1<=100000;decide),λp7 hp7=>?_⟩;have sp7:Same H6 (upd H6 p7 (.lst [.ref p6])):=a0d hp7 _;have kp7:(upd H6 p7 (.lst [.ref p6])) p7=some (.lst [.ref p6]):=a0c;generalize upd H6 p7 (.lst [.ref p6])=H7 at sp7 kp7 ⊢;ext;have s37:=sp6.trans sp7;have s27:=s2.trans (s3.trans s37);refine a7h (s27 _ _ k4) kp7 (ln (by rw[Yi,Zm];omega)) (λp8 hp8=>?_);have s8:=a0d hp8 (.lst (us.take (us.length-mn)++[.ref p6]));have s18:=s4.trans (s27.trans s8);have lo8:=lo.mono s18;have dapp:Den K (upd H7 p8 (.lst (us.take (us.length-mn)++[.ref p6]))) (.ref p6) (Trm.app sg (ts.drop (us.length-mn))).data:=a2m (SqT.of (s8 _ _ (sp7 _ _ kp6))) (SqT.of (s8 _ _ (s37 _ _ k3))) (lo8.drop _).den;ext;refine hnx _ _ (ts.length-mn+1) qo ⟨_,p8,_,ts.take (us.length-mn)++[.app sg (ts.drop (us.length-mn))],rfl,s1.trans s18,a0c,(lo8.take _).snoc dapp (t:=.app sg (ts.drop (us.length-mn))) ⟨λz=>absurd z (w3 sg hsg).2,b3g (lo8.drop _).vs⟩,?_,?_⟩
   ·have:=b2a ts (us.length-mn);rw[Trm.sizeL_app,Zj,Zm,Yi];simp only[Trm.sizeL,Trm.size];omega
   ·rw[Zj,Zm,Yi];omega
  ·rw[Zo qo]
   exists kF _
   exists a1v (SqL.of kp)
   match ts,us,lo,kp,lul,hl,z1 with
   | [],us,lo,kp,lul,hl,z1=>
    refine iteB (λe=>?_) (λe=>by have:=Zq (a3h e);simp at lul;simp[lul]at this);ext;refine⟨ln (by show 2<=100000;decide),λp9 hp9=>?_⟩;exact q _ (.num 0) _ (s1.trans (a0d hp9 _)) (a4p (SqT.of a0c)) (show small 0 by unfold small;omega) (by simp[Trm.size])
   | [t0],us,lo,kp,lul,hl,z1=>
    match us,lo,kp,lul with
    | [u0],lo,kp,_=>
    refine iteB (λe=>by have:=Zf (a3h e);simp at this) (λe=>?_);ext;refine a1h (SqL.of kp) (v:=u0) rfl ?_;have d0:=lo.den;simp only[Trm.dataL]at d0;cases d0 with
    |cons d1 d2=>
     refine q _ t0 _ s1 d1 (lo.vs t0 qz) ?_;simp only[Trm.sizeL,Zm]at z1;omega
   |_::_::_,us,lo,kp,lul,hl,z1=>
    simp only[length_cons]at lul;omega
end
section
variable{P:Program}{w:World}{K:W.Frag}{mg:Str->Option Value}{base:Heap}{t:Ad}
theorem c1k(T:Txt K mg t)(G_a6:FnOk P w K mg base CX0 1 t.a_a6 t.d_a6 ["_law_cell_here"] (a4o)):FnOk P w K mg base CX0 2 t.a_c2 t.d_c2 ["_law_cells","_law_leaf"] (a9j K):=by
 exists T.F_c2.ok a4q,a9j,(a0g (a0s (i:=2) (hs:=a5c) a4q.nd rfl (by nofun) (a1u a0e)) (a0g (a7d Y3 rfl (a3s K rfl (mv 0)) (a2f (i:=3) a4q.nd rfl (by nofun)) (a0h (a1a (PW.pt (a6v (a0q a0x (a0l a1e (mv 3) a0b) a0b (a0m _)) (a7c (a0q a7u (a0w (a1o K rfl) rfl T.n_a8 Zy (a0a (mv 2) a0e)) a0b (a0m _))))) (a0g (a4m (a7v K rfl Y9 Wl W7 a7f (mv 2) (a0a (a1j (a0a a0j (a0a (a0r G_a6 hr.o rfl T.m_a6 T.F_a6.kp T.b_a6 .nil a0v (a0a (a0l a1z (mv 3) a0b) a0e)) a0e))) a0e))) (a0h (a1a (a0q a0x (a0l a1e (a0l a1z (mv 3) a0b) a0b) a0b (a0m _)) (a0h (b8n (mv 1) (pg_sub (mv 2) (a7s a5y a0b) c8t))) a0u))) (a0g (a0s (i:=4) (hs:=a8m) a4q.nd rfl (by nofun) (a1j (a0a (a0i (a0f K rfl) (mv 2) (a7s a5y a0b) (λ_ _=>rfl)) (a0a (a0i (a0f K rfl) (mv 2) (a7s a5y a0b) (λ_ _=>rfl)) a0e)))) (a0h (a0s (i:=2) (hs:=a1y) a4q.nd rfl (by nofun) (a0l (a1m K rfl) (a4d (a5u K rfl) (mv 2) a5k (a5m (a7s a5y a0b))) (a1u (a0a (a1j (a0a a0j (a0a (a0i (a0f K rfl) (a1u (a0a a0j (a0a a0j (a0a a0j (a0a a0j (a0a a0j a0e)))))) (a0l a1e (a0l a1z (mv 3) a0b) a0b) (λ_ _=>rfl)) (a0a (mv 4) a0e)))) a0e))))))))) (a0g (b0c Y3 (a0q a8t (a0w (a1o K rfl) rfl T.n_a8 Zy (a0a (mv 2) a0e)) a0b (a0m _)) (a0h (a0s (i:=2) (hs:=a1y) a4q.nd rfl (by nofun) (a0l (a1m K rfl) (a4d (a5u K rfl) (mv 2) a5k (a5m (a7s a5y a0b))) (a1u (a0a (a1j (a0a a0j (a0a a0j (a0a (a1j (a0a (a0i (a0f K rfl) (mv 2) (a7s a5y a0b) (λ_ _=>rfl)) (a0a (a0i (a0f K rfl) (mv 2) (a7s a5y a0b) (λ_ _=>rfl)) a0e))) a0e)))) a0e)))))) (a0h (a0t (a0i (a0f K rfl) (mv 2) a0b (λ_ _=>rfl))))))),H,Q,E,hr,h
 rename_i cp lf;obtain⟨cs,t0,hC,c1,c2,hl,wl,zl,q⟩:=h;ext;refine⟨ln (by show 0<=100000;decide),λp1 hp1=>?_⟩;have sp1:Same H (upd H p1 (.lst [])):=a0d hp1 _;have kp1:(upd H p1 (.lst [])) p1=some (.lst []):=a0c;generalize upd H p1 (.lst [])=H1 at sp1 kp1 ⊢;ext;refine⟨cp,rfl,⟨_,sp1.seq hC⟩,?_⟩;refine a8e (a3r (xs:=cs.map V.int)) (λi σ' H'=>∃(o3 o4:Option V)(p:Addr)(us:List V)(ts:List Trm),σ'=[some (.ref cp),some lf,some (.ref p),o3,o4]/\Same H H'/\H p=none/\H' p=some (.lst us)/\a2o K H' us ts/\Trm.sizeL ts<=i/\ts.length<=i/\(1<=i->1<=ts.length)) ⟨none,none,p1,[],[],rfl,sp1,hp1,kp1,⟨.nil,λt ht=>by simp at ht⟩,Zg _,Zg _,λh=>by omega⟩ (λi σ' H' hP=>by obtain⟨_,_,_,_,_,_,s,_⟩:=hP;exact s.seq hC) (λi σ' H' hi hP=>?_) (λσ' H' hP=>?_)
 ·obtain⟨o3,o4,p,us,ts,rfl,s1,hp,kp,lo,z1,z2,z3⟩:=hP;obtain⟨c,hc⟩:=b9f hi;rw[hc];have hi40:i<40:=by rw[length_map]at hi;omega
  have lul:=lo.len;ext;refine c0o ?_ (λhT e=>?_)
  ·refine iteT ?_;ext;refine⟨.inl ⟨rfl,_,SqL.of kp⟩,?_⟩;ext;refineλv hv0=>?_
   ext;refine⟨ln (by show 2<=100000;decide),λp2 hp2=>?_⟩;have sp2:Same H' (upd H' p2 (.tup [.str "num",.int v])):=a0d hp2 _;have kp2:(upd H' p2 (.tup [.str "num",.int v])) p2=some (.tup [.str "num",.int v]):=a0c;generalize upd H' p2 (.tup [.str "num",.int v])=H2 at sp2 kp2 ⊢;ext;refine a7g (sp2 _ _ kp) (ln1 qo) ?_;have lo2:=(lo.mono sp2).snoc (a4p (SqT.of kp2)) (t:=.num v) hv0;have lo3:a2o K (upd H2 p (.lst (us++[.ref p2]))) (us++[.ref p2]) (ts++[.num v]):=⟨lo2.den.lst (sp2 _ _ kp),lo2.vs⟩;have lo5:a2o K (upd H2 p (.lst (us++[.ref p2]))) (us++[lf]) (ts++[t0]):=⟨((lo.mono sp2).snoc (hl.mono (s1.trans sp2)) wl).den.lst (sp2 _ _ kp),((lo.mono sp2).snoc (hl.mono (s1.trans sp2)) wl).vs⟩;have s3:Same H (upd H2 p (.lst (us++[.ref p2]))):=a1f (s1.trans sp2) hp;have k3:(upd H2 p (.lst (us++[.ref p2]))) p=some (.lst (us++[.ref p2])):=a0c;generalize upd H2 p (.lst (us++[.ref p2]))=H3 at lo3 lo5 s3 k3 ⊢;ext
   exists e
   ·ext;refine⟨p,_,-1,us.length,rfl,rfl,k3,ix_m1 _ _,?_⟩;rw[d0y];refine⟨_,_,p,_,ts++[t0],rfl,a1f s3 hp,hp,a0c,⟨lo5.den.lst k3,lo5.vs⟩,?_,?_,?_⟩
    ·rw[a8z];omega
    ·rw[Zj,Zm];omega
    ·rw[Zj,Zm];omega
   ·ext;refine⟨_,_,p,_,ts++[.num v],rfl,s3,hp,k3,lo3,?_,?_,?_⟩
    ·rw[a8z];simp only[Trm.size];omega
    ·rw[Zj,Zm];omega
    ·rw[Zj,Zm];omega
  ext
  exists a1v (SqL.of kp)
  refine iteB (λe2=>hT) (λe2=>?_);have e2:2<=us.length:=by have:=Zq e2;omega
  obtain⟨us0,x,y,rfl⟩:=last2 e2;obtain⟨ts0,tx,ty,rfl,lo0,dx,dy,wx,wy⟩:=c0u lo;rw[Trm.sizeL_app]at z1;simp only[Trm.sizeL]at z1;rw[Zj]at z2;simp only[length_cons,length_nil]at z2;ext
  exists a1h (SqL.of kp) (at_m2 _ _ _)
  exists a1h (SqL.of kp) (at_m1 _ _ _)
  refine⟨ln (by show 2<=100000;decide),λp2 hp2=>?_⟩;have sp2:Same H' (upd H' p2 (.tup [x,y])):=a0d hp2 _;have kp2:(upd H' p2 (.tup [x,y])) p2=some (.tup [x,y]):=a0c;generalize upd H' p2 (.tup [x,y])=H2 at sp2 kp2 ⊢;ext;refine a8l (SqL.of (sp2 _ _ kp)) (λp3 hp3=>?_);rw[c8a];have s3:=a0d hp3 (.lst us0);have k3:(upd H2 p3 (.lst us0)) p3=some (.lst us0):=a0c;generalize upd H2 p3 (.lst us0)=H3 at s3 k3 ⊢;ext;refine⟨ln (by show 5<=100000;decide),λp4 hp4=>?_⟩;have sp4:Same H3 (upd H3 p4 (.lst [.str a3q,.str a1i,.str a1r,.str a1n,.str a1t])):=a0d hp4 _;have kp4:(upd H3 p4 (.lst [.str a3q,.str a1i,.str a1r,.str a1n,.str a1t])) p4=some (.lst [.str a3q,.str a1i,.str a1r,.str a1n,.str a1t]):=a0c;generalize upd H3 p4 (.lst [.str a3q,.str a1i,.str a1r,.str a1n,.str a1t])=H4 at sp4 kp4 ⊢;ext;obtain⟨sg,hsg,h5⟩:=five_at (c/2)
  exists a1h (SqL.of kp4) hsg
  refine⟨ln (by show 3<=100000;decide),λp5 hp5=>?_⟩;have sp5:Same H4 (upd H4 p5 (.tup [.str "app",.str sg,.ref p2])):=a0d hp5 _;have kp5:(upd H4 p5 (.tup [.str "app",.str sg,.ref p2])) p5=some (.tup [.str "app",.str sg,.ref p2]):=a0c;generalize upd H4 p5 (.tup [.str "app",.str sg,.ref p2])=H5 at sp5 kp5 ⊢;ext;refine⟨ln (by show 1<=100000;decide),λp6 hp6=>?_⟩;have sp6:Same H5 (upd H5 p6 (.lst [.ref p5])):=a0d hp6 _;have kp6:(upd H5 p6 (.lst [.ref p5])) p6=some (.lst [.ref p5]):=a0c;generalize upd H5 p6 (.lst [.ref p5])=H6 at sp6 kp6 ⊢;ext;have s36:=sp4.trans (sp5.trans sp6);have s26:=s3.trans s36;refine a7h (s36 _ _ k3) kp6 (ln (by rw[Zm];simp only[Zj,length_cons,length_nil]at lul;omega)) (λp8 hp8=>?_);have s8:=a0d hp8 (.lst (us0++[.ref p5]));have s0:=sp2.trans (s26.trans s8);have dapp:Den K (upd H6 p8 (.lst (us0++[.ref p5]))) (.ref p5) (Trm.app sg [tx,ty]).data:=a2m (SqT.of (s8 _ _ (sp6 _ _ kp5))) (SqT.of ((s26.trans s8) _ _ kp2)) (by simp only[Trm.dataL];exact .cons (dx.mono s0) (.cons (dy.mono s0) .nil));ext;refine⟨_,_,p8,_,ts0++[.app sg [tx,ty]],rfl,s1.trans s0,a4c (s1.trans (sp2.trans s26)) hp8,a0c,(lo0.mono s0).snoc (t:=.app sg [tx,ty]) dapp ⟨λ_=>rfl,wx,wy,trivial⟩,?_,?_,?_⟩
  ·rw[a8z];simp only[Trm.size,Trm.sizeL];omega
  ·rw[Zj,Zm];omega
  ·rw[Zj,Zm];omega
 ·obtain⟨o3,o4,p,us,ts,rfl,s1,hp,kp,lo,z1,z2,z3⟩:=hP;rw[length_map]at z1 z2 z3;have z3:=z3 c1;ext;refine a8u (λn σ' J=>∃(p:Addr)(us:List V)(ts:List Trm),σ'=[some (.ref cp),some lf,some (.ref p),o3,o4]/\Same H J/\J p=some (.lst us)/\a2o K J us ts/\Trm.sizeL ts+ts.length<=2*cs.length/\1<=ts.length/\n=ts.length) ts.length ⟨p,us,ts,rfl,s1,kp,lo,qo,z3,rfl⟩ (λn σ' J R hP kT kF=>?_);obtain⟨p,us,ts,rfl,s1,kp,lo,z1,z2,z3⟩:=hP;have lul:=lo.len;ext
  exists a1v (SqL.of kp)
  by_cases hl1:1<us.length
  ·rw[Zx qo];refine kT _ (λD' f1 f2 hnx hct=>?_);obtain⟨us0,x,y,rfl⟩:=last2 (l:=us) qo;obtain⟨ts0,tx,ty,rfl,lo0,dx,dy,wx,wy⟩:=c0u lo;rw[Trm.sizeL_app,Zj]at z1;rw[Zj]at z3;simp only[Trm.sizeL,length_cons,length_nil]at z1 z3;ext;refine a8l (SqL.of kp) (λp3 hp3=>?_);rw[c8a];have s3:=a0d hp3 (.lst us0);have k3:(upd J p3 (.lst us0)) p3=some (.lst us0):=a0c;generalize upd J p3 (.lst us0)=H3 at s3 k3 ⊢;ext
   exists a1h (SqL.of (s3 _ _ kp)) (at_m2 _ _ _)
   exists a1h (SqL.of (s3 _ _ kp)) (at_m1 _ _ _)
   refine⟨ln (by show 2<=100000;decide),λp4 hp4=>?_⟩;have sp4:Same H3 (upd H3 p4 (.tup [x,y])):=a0d hp4 _;have kp4:(upd H3 p4 (.tup [x,y])) p4=some (.tup [x,y]):=a0c;generalize upd H3 p4 (.tup [x,y])=H4 at sp4 kp4 ⊢;ext;refine⟨ln (by show 3<=100000;decide),λp5 hp5=>?_⟩;have sp5:Same H4 (upd H4 p5 (.tup [.str "app",.str "-",.ref p4])):=a0d hp5 _;have kp5:(upd H4 p5 (.tup [.str "app",.str "-",.ref p4])) p5=some (.tup [.str "app",.str "-",.ref p4]):=a0c;generalize upd H4 p5 (.tup [.str "app",.str "-",.ref p4])=H5 at sp5 kp5 ⊢;ext;refine⟨ln (by show 1<=100000;decide),λp6 hp6=>?_⟩;have sp6:Same H5 (upd H5 p6 (.lst [.ref p5])):=a0d hp6 _;have kp6:(upd H5 p6 (.lst [.ref p5])) p6=some (.lst [.ref p5]):=a0c;generalize upd H5 p6 (.lst [.ref p5])=H6 at sp6 kp6 ⊢;ext;have s36:=sp4.trans (sp5.trans sp6);refine a7h (s36 _ _ k3) kp6 (ln (by rw[Zm];simp only[Zj,length_cons,length_nil]at lul;omega)) (λp8 hp8=>?_);have s8:=a0d hp8 (.lst (us0++[.ref p5]));have s0:=s3.trans (s36.trans s8);have dapp:Den K (upd H6 p8 (.lst (us0++[.ref p5]))) (.ref p5) (Trm.app a1i [tx,ty]).data:=a2m (SqT.of (s8 _ _ (sp6 _ _ kp5))) (SqT.of ((sp5.trans (sp6.trans s8)) _ _ kp4)) (by simp only[Trm.dataL];exact .cons (dx.mono s0) (.cons (dy.mono s0) .nil));ext;refine hnx _ _ (ts0.length+1) qo ⟨p8,_,ts0++[.app a1i [tx,ty]],rfl,s1.trans s0,a0c,(lo0.mono s0).snoc (t:=.app a1i [tx,ty]) dapp ⟨λ_=>rfl,wx,wy,trivial⟩,?_,?_,?_⟩
   ·rw[a8z,Zj];simp only[Trm.size,Trm.sizeL,length_cons,length_nil];omega
   ·rw[Zj,Zm];omega
   ·rw[Zj,Zm]
  ·rw[Zo qo]
   exists kF _
   match ts,us,lo,kp,lul,hl1,z1 with
   | [t1],us,lo,kp,lul,hl1,z1=>
    match us,lo,kp,lul with
    | [u0],lo,kp,_=>
    refine a1h (SqL.of kp) (v:=u0) rfl ?_;have d0:=lo.den;simp only[Trm.dataL]at d0;cases d0 with
    |cons d1 d2=>
     refine q _ t1 _ s1 d1 (lo.vs t1 qz) ?_;simp only[Trm.sizeL,Zm]at z1;omega
   | [],us,lo,kp,lul,hl1,z1=>simp at z2
   |_::_::_,us,lo,kp,lul,hl1,z1=>
    simp only[length_cons]at lul;omega
end
section
variable{P:Program}{w:World}{K:W.Frag}{mg:Str->Option Value}{base:Heap}{t:Ad}
theorem c8i(T:Txt K mg t)(G_c2:FnOk P w K mg base CX0 2 t.a_c2 t.d_c2 ["_law_cells","_law_leaf"] (a9j K))(G_a5:FnOk P w K mg base CX0 102 t.a_a5 t.d_a5 ["_law_term_here"] (a5i K 100))(G_d3:FnOk P w K mg base CX0 2 t.a_d3 t.d_d3 ["_law_cells","_law_names_here","_law_words_here"] (b2j K))(G_a0:FnOk P w K mg base CX0 1 t.a_a0 t.d_a0 ["_law_script","_law_k"] (a7k K)):FnOk P w K mg base CX0 103 t.a_d7 t.d_d7 ["_law_script","_law_mark","_law_names_here","_law_words_here"] (b2l K):=by
 exists T.F_d7.ok a2x,b2l,(a0g (a0s (i:=4) (hs:=b5j) a2x.nd rfl (by nofun) (a0i (a0f K rfl) (a1u (a0a (a1j (a0a a0j (a0a (a0i (a0f K rfl) (mv 2) a0b (λ_ _=>rfl)) a0e))) (a0a (a1j (a0a a0j (a0a (a0i (a0f K rfl) (mv 3) a0b (λ_ _=>rfl)) (a0a (a1j a0e) a0e)))) (a0a (a1j (a0a a0j (a0a a0b a0e))) a0e)))) (a0l a1e (a0r G_a0 hr.o rfl T.m_a0 T.F_a0.kp T.b_a0 .nil a0v (a0a (mv 0) (a0a a0b a0e))) a0b) (λ_ _=>rfl))) (a0g (a0s (i:=5) (hs:=a1g) a2x.nd rfl (by nofun) (a0r G_c2 hr.o rfl T.m_c2 T.F_c2.kp T.b_c2 .nil a0v (a0a (a3f rfl (a3o rfl T.n_e5 (a0a (a0l (a1m K rfl) a0b (a0l a1e (a0r G_a0 hr.o rfl T.m_a0 T.F_a0.kp T.b_a0 .nil a0v (a0a (mv 0) (a0a a0b a0e))) a0b)) a0e)) (a2t (a0n a6n) ["_law_script","_law_mark","_law_names_here","_law_words_here","_law_leaf","_law_other","_law_way","_law_come","_law_one"] ["_law_script","_law_mark","_law_names_here","_law_words_here","_law_leaf","_law_other","_law_way","_law_come","_law_one"] rfl rfl qk) (λ_ _ _ _ _=>a2s) (λ_ _ _ _ _=>(a0r G_a0 hr.o rfl T.m_a0 T.F_a0.kp T.b_a0 .nil a0v (a0a (mv 1) (a0a (a0l (a1m K rfl) a0b (mv 0)) a0e))))) (a0a (mv 4) a0e)))) (a0g (a1a (PW.pt (a6v (a0q a0x (mv 1) a0j (a0m _)) (a7c (a0q a0x (a0l a1e (a0l a1z (a0r G_a0 hr.o rfl T.m_a0 T.F_a0.kp T.b_a0 .nil a0v (a0a (mv 0) (a0a a0b a0e))) a0b) a0b) a0b (a0m _))))) (a0h (a0s (i:=5) (hs:=a1g) a2x.nd rfl (by nofun) (a0r G_d3 hr.o rfl T.m_d3 T.F_d3.kp T.b_d3 .nil a0v (a0a (a3f rfl (a3o rfl T.n_e5 (a0a (a0l a1e (a0r G_a0 hr.o rfl T.m_a0 T.F_a0.kp T.b_a0 .nil a0v (a0a (mv 0) (a0a a0b a0e))) a0b) a0e)) (a2t (a0n a6n) ["_law_script","_law_mark","_law_names_here","_law_words_here","_law_leaf","_law_other","_law_way","_law_come","_law_one"] ["_law_script","_law_mark","_law_names_here","_law_words_here","_law_leaf","_law_other","_law_way","_law_come","_law_one"] rfl rfl qk) (λ_ _ _ _ _=>a2s) (λ_ _ _ _ _=>(a0r G_a0 hr.o rfl T.m_a0 T.F_a0.kp T.b_a0 .nil a0v (a0a (mv 1) (a0a (a0l (a1m K rfl) a0b (mv 0)) a0e))))) (a0a (mv 2) (a0a (mv 3) a0e)))))) a0u) (a0g (a0s (i:=6) (hs:=a1y) a2x.nd rfl (by nofun) (a0l a1e (a0r G_a0 hr.o rfl T.m_a0 T.F_a0.kp T.b_a0 .nil a0v (a0a (mv 0) (a0a a0b a0e))) a0b)) (a0g (a0s (i:=7) (hs:=a1g) a2x.nd rfl (by nofun) (a0r G_a5 hr.o rfl T.m_a5 T.F_a5.kp T.b_a5 .nil a0v (a0a (mv 5) a0e))) (a0g (a0s (i:=8) a2x.nd rfl (by nofun) (mv 5)) (a0g (a1a (a0q a0x (mv 6) a0b (a0m _)) (a0h (a0s (i:=8) (hs:=a1g) a2x.nd rfl (by nofun) (a0r G_c2 hr.o rfl T.m_c2 T.F_c2.kp T.b_c2 .nil a0v (a0a (a3f rfl (a3o rfl T.n_e5 (a0a (a0l (a1m K rfl) a0b (a0l a1e (a0r G_a0 hr.o rfl T.m_a0 T.F_a0.kp T.b_a0 .nil a0v (a0a (mv 0) (a0a a0b a0e))) a0b)) a0e)) (a2t (a0n a6n) ["_law_script","_law_mark","_law_names_here","_law_words_here","_law_leaf","_law_other","_law_way","_law_come","_law_one"] ["_law_script","_law_mark","_law_names_here","_law_words_here","_law_leaf","_law_other","_law_way","_law_come","_law_one"] rfl rfl qk) (λ_ _ _ _ _=>a2s) (λ_ _ _ _ _=>(a0r G_a0 hr.o rfl T.m_a0 T.F_a0.kp T.b_a0 .nil a0v (a0a (mv 1) (a0a (a0l (a1m K rfl) a0b (mv 0)) a0e))))) (a0a (mv 4) a0e))))) a0u) (a0g (a1a (PW.pt (a9l (a0q a8t (mv 6) a0b (a0m _)) (a8c (a0q b2v (mv 7) a3n (a0m _))))) (a0h (a0s (i:=8) (hs:=a8m) a2x.nd rfl (by nofun) (a1j (a0a a0j (a0a (a0w (b9d rfl) rfl T.n_f4 boot_min (a0a (a0w (mc_max rfl) rfl T.n_g4 boot_max (a0a (a0l (a1m K rfl) (mv 7) (a0i (a0f K rfl) (a1u (a0a a0b (a0a a0b (a0a a0b (a0a (a7s a5y a0b) a0e))))) (a0l a3b (mv 6) a0b) (λ_ _=>rfl))) (a0a (a0l a3b a0b (a0l a9s a0b a0b)) a0e))) (a0a (a0l a3b (a0l a9s a0b a0b) a0b) a0e))) a0e))))) a0u) (a0g (a1a (PW.pt (a9l (a0q a8t (mv 6) a0b (a0m _)) (a8c (a0q a0x (mv 1) a0j (a0m _))))) (a0g (a0s (i:=8) (hs:=a8m) a2x.nd rfl (by nofun) (a1j (a0a a0j (a0a (a0i (a0f K rfl) (mv 2) a0b (λ_ _=>rfl)) a0e)))) (a0h (a1a (PW.pt (a9l (a0q a0x (a0i (a0f K rfl) (mv 5) a0b (λ_ _=>rfl)) a0j (a0m _)) (a8c (a0q a8t (a0w (a1o K rfl) rfl T.n_a8 Zy (a0a (a0i (a0f K rfl) (mv 5) a0b (λ_ _=>rfl)) a0e)) a0b (a0m _))))) (a0h (a0s (i:=8) (hs:=a8m) a2x.nd rfl (by nofun) (a1j (a0a a0j (a0a (a0i (a0f K rfl) (mv 5) a0b (λ_ _=>rfl)) (a0a (a0l (ko_addT K rfl) (a1j (a0a (a1j (a0a a0j (a0a (a0i (a0f K rfl) (mv 2) a0b (λ_ _=>rfl)) a0e))) a0e)) (a4d (ks_tup K rfl) (a0i (a0f K rfl) (mv 5) a0b (λ_ _=>rfl)) (a5m a0b) a5k)) a0e)))))) a0u))) a0u) (a0h (a0t (a1j (a0a a0j (a0a (mv 1) (a0a (a1j (a0a (mv 8) (a0a (mv 5) a0e))) a0e))))))))))))))),H,Q,E,hr,h
 rename_i a mk np wp;obtain⟨ns,xs,ws,hS,hb,hX,hx5,hW,hwd,q⟩:=h;have h4:=hwd.l;have NM:∀(i:Int),0<=i->i<5->∃x,atI (xs.map V.str) i=some (.str x):=λi i0 i1=>by
  obtain⟨v,e1,_⟩:=a3t (xs:=xs.map V.str) i0 (by rw[length_map];omega);obtain⟨x,rfl,_⟩:=a8h e1;exact⟨x,e1⟩
 obtain⟨x3,e3⟩:=NM 3 qo qo;obtain⟨x4,e4⟩:=NM 4 qo qo;obtain⟨v2,e2,_⟩:=a3t (xs:=ws.map V.str) (i:=2) qo (by rw[length_map];omega);obtain⟨w2,rfl,hw2⟩:=a8h e2;ext
 exists a1h hX e3
 refine⟨ln (by show 2<=100000;decide),λp1 hp1=>?_⟩;have sp1:Same H (upd H p1 (.tup [.str "any",.str x3])):=a0d hp1 _;have kp1:(upd H p1 (.tup [.str "any",.str x3])) p1=some (.tup [.str "any",.str x3]):=a0c;generalize upd H p1 (.tup [.str "any",.str x3])=H1 at sp1 kp1 ⊢;ext
 exists a1h (sp1.seq hW) e2
 refine⟨ln (by show 0<=100000;decide),λp2 hp2=>?_⟩;have sp2:Same H1 (upd H1 p2 (.tup [])):=a0d hp2 _;have kp2:(upd H1 p2 (.tup [])) p2=some (.tup []):=a0c;generalize upd H1 p2 (.tup [])=H2 at sp2 kp2 ⊢;ext;refine⟨ln (by show 3<=100000;decide),λp3 hp3=>?_⟩;have sp3:Same H2 (upd H2 p3 (.tup [.str "app",.str w2,.ref p2])):=a0d hp3 _;have kp3:(upd H2 p3 (.tup [.str "app",.str w2,.ref p2])) p3=some (.tup [.str "app",.str w2,.ref p2]):=a0c;generalize upd H2 p3 (.tup [.str "app",.str w2,.ref p2])=H3 at sp3 kp3 ⊢;ext;refine⟨ln (by show 2<=100000;decide),λp4 hp4=>?_⟩;have sp4:Same H3 (upd H3 p4 (.tup [.str "num",.int 0])):=a0d hp4 _;have kp4:(upd H3 p4 (.tup [.str "num",.int 0])) p4=some (.tup [.str "num",.int 0]):=a0c;generalize upd H3 p4 (.tup [.str "num",.int 0])=H4 at sp4 kp4 ⊢;ext;refine⟨ln (by show 3<=100000;decide),λp5 hp5=>?_⟩;have sp5:Same H4 (upd H4 p5 (.lst [.ref p1,.ref p3,.ref p4])):=a0d hp5 _;have kp5:(upd H4 p5 (.lst [.ref p1,.ref p3,.ref p4])) p5=some (.lst [.ref p1,.ref p3,.ref p4]):=a0c;generalize upd H4 p5 (.lst [.ref p1,.ref p3,.ref p4])=H5 at sp5 kp5 ⊢;ext;have s35:=sp4.trans sp5;have s25:=sp3.trans s35;have s15:=sp2.trans s25;have s05:=sp1.trans s15;refine⟨ns,s05.seq hS,hb,qo,qo,λc5=>?_⟩;ext;obtain⟨u0,t0,hu0,du0,wu0,zu0⟩:∃u0 t0,atI [V.ref p1,V.ref p3,V.ref p4] (c5%3)=some u0/\Den K H5 u0 (Trm.data t0)/\wfT t0/\t0.size=1:=by
  rcases(show c5%3=0\/c5%3=1\/c5%3=2 by omega)with e|e|e<;>rw[e]
  ·exact⟨_,.any x3,rfl,a5v (SqT.of (s15 _ _ kp1)),trivial,rfl⟩
  ·exact⟨_,.app w2 [],rfl,a2m (SqT.of (s35 _ _ kp3)) (SqT.of (s25 _ _ kp2)) .nil,⟨λz=>absurd z (c0v hwd w2 hw2).2,trivial⟩,rfl⟩
  ·exact⟨_,.num 0,rfl,a4p (SqT.of (sp5 _ _ kp4)),(show small 0 by unfold small;omega),rfl⟩
 exists a1h (SqL.of kp5) hu0
 refine⟨ns,s05.seq hS,hb,qo,qo,λc6=>?_⟩;ext;refine⟨_,rfl,qo,qo,λD1 hD1=>?_⟩;refine a2i (a3p 0 (1+c6%8).toNat) (λi ys J=>Same H5 J/\J D1=some (.lst ys)/\∃zs:List Int,ys=zs.map V.int) (ln qo) ⟨a0d hD1 _,a0c,[],rfl⟩ (λ_ _ _ _=>trivial) (λi ys J Q' hi hl hP k=>?_) (λys H6 hl hP=>?_)
 ·obtain⟨g1,g2,zs,rfl⟩:=hP;ext;refine⟨ns,g1.seq (s05.seq hS),hb,qo,qo,λv=>?_⟩;exact k _ _ g2 ⟨a1f g1 hD1,a0c,zs++[v],by rw[Zt];rfl⟩
 obtain⟨sH6,kD1,zs,rfl⟩:=hP;rw[length_map]at hl;ext;have s06:=s05.trans sH6;refine⟨zs,t0,SqL.of kD1,qo,qo,du0.mono sH6,wu0,zu0,λx1 t1 H7 s7 d1 wt1 z1=>?_⟩;have s07:=s06.trans s7;have du7:=du0.mono (sH6.trans s7)
 (with_reducible refine a2l ?_)
 (with_reducible refine a2u (λσ' J=>∃(x1:V)(t1:Trm),σ'=[some (.ref a),some (.str mk),some (.ref np),some (.ref wp),some u0,some x1,none,none,none]/\Same H7 J/\Den K J x1 t1.data/\wfT t1/\t1.size<=21) (λσ' J hP=>?_) (λkk=>?_))
 rotate_left
 ·ext;refine c0o ?_ (λhT e=>?_)
  ·refine iteT ?_;ext;refine⟨ns,s07.seq hS,hb,qo,qo,λc8=>?_⟩;ext;refine⟨_,rfl,qo,qo,λD2 hD2=>?_⟩;refine a2i (a3p 0 (c8%11).toNat) (λi ys J=>Same H7 J/\J D2=some (.lst ys)/\∃zs:List Int,ys=zs.map V.int) (ln qo) ⟨a0d hD2 _,a0c,[],rfl⟩ (λ_ _ _ _=>trivial) (λi ys J Q' hi hl hP k=>?_) (λys H8 hl hP=>?_)
   ·obtain⟨g1,g2,zs,rfl⟩:=hP;ext;refine⟨ns,g1.seq (s07.seq hS),hb,qo,qo,λv=>?_⟩;exact k _ _ g2 ⟨a1f g1 hD2,a0c,zs++[v],by rw[Zt];rfl⟩
   obtain⟨sH8,kD2,zs,rfl⟩:=hP;rw[length_map]at hl;ext;refine⟨zs,xs,ws,SqL.of kD2,qo,(s07.trans sH8).seq hX,qo,qo,(s07.trans sH8).seq hW,qo,qo,c0v hwd,λx2 t2 H9 s9 d2 wt2 z2=>?_⟩;ext;exact kk _ _ ⟨x2,t2,rfl,sH8.trans s9,d2,wt2,qo⟩
  ·ext;refine⟨ns,s07.seq hS,hb,qo,qo,λc9=>?_⟩;ext;refine iteB (λe=>hT) (λe=>?_);ext;exact kk _ _ ⟨x1,t1,rfl,Same.refl _,d1,wt1,qo⟩
 obtain⟨x1,t1,rfl,sJ,d1,wt1,z1⟩:=hP;have s0J:=s07.trans sJ;have duJ:=du7.mono sJ;ext;refine⟨ns,s0J.seq hS,hb,qo,qo,λc10=>?_⟩;ext;refine⟨t1,d1,wt1,qo,qo,λJ2 s2=>?_⟩;have s02:=s0J.trans s2;have du2:=duJ.mono s2;have d12:=d1.mono s2;have way0:0<=c10%6/\c10%6<6:=by omega
 generalize c10%6=way at way0 ⊢;have cs:∀n,numO t1=some n->small n:=λn e=>b2k wt1 e
 generalize numO t1=come at cs ⊢
 (with_reducible refine a2l ?_)
 (with_reducible refine a2u (λσ' J=>σ'=[some (.ref a),some (.str mk),some (.ref np),some (.ref wp),some u0,some x1,some (.int way),some (oI come),some x1]/\J=J2) (λσ' J hP=>?_) (λkk=>?_))
 rotate_left
 ·ext;exact kk _ _ ⟨rfl,rfl⟩
 obtain⟨rfl,hJ⟩:=hP;rw[hJ]
 (with_reducible refine a2u (λσ' J=>∃(y:V)(t2:Trm),σ'=[some (.ref a),some (.str mk),some (.ref np),some (.ref wp),some u0,some x1,some (.int way),some (oI come),some y]/\Same J2 J/\Den K J y t2.data/\wfT t2/\t2.size<=21) (λσ' J3 hP=>?_) (λkk=>?_))
 rotate_left
 ·ext
  exists e
  ·ext;refine⟨ns,s02.seq hS,hb,qo,qo,λc11=>?_⟩;ext;refine⟨_,rfl,qo,qo,λD3 hD3=>?_⟩;refine a2i (a3p 0 (1+c11%7).toNat) (λi ys J=>Same J2 J/\J D3=some (.lst ys)/\∃zs:List Int,ys=zs.map V.int) (ln qo) ⟨a0d hD3 _,a0c,[],rfl⟩ (λ_ _ _ _=>trivial) (λi ys J Q' hi hl hP k=>?_) (λys H8 hl hP=>?_)
   ·obtain⟨g1,g2,zs,rfl⟩:=hP;ext;refine⟨ns,g1.seq (s02.seq hS),hb,qo,qo,λv=>?_⟩;exact k _ _ g2 ⟨a1f g1 hD3,a0c,zs++[v],by rw[Zt];rfl⟩
   obtain⟨sH8,kD3,zs,rfl⟩:=hP;rw[length_map]at hl;ext;refine⟨zs,t0,SqL.of kD3,qo,qo,du2.mono sH8,wu0,zu0,λx2 t2 H9 s9 d2 wt2 z2=>?_⟩;ext;exact kk _ _ ⟨x2,t2,rfl,sH8.trans s9,d2,wt2,qo⟩
  ·ext;exact kk _ _ ⟨x1,t1,rfl,Same.refl _,d12,wt1,z1⟩
 obtain⟨y,t2,rfl,s3,d2,wt2,z2⟩:=hP
 (with_reducible refine a2u (λσ' J=>∃(y:V)(t2:Trm),σ'=[some (.ref a),some (.str mk),some (.ref np),some (.ref wp),some u0,some x1,some (.int way),some (oI come),some y]/\Same J2 J/\Den K J y t2.data/\wfT t2/\t2.size<=21) (λσ' J4 hP=>?_) (λkk=>?_))
 rotate_left
 ·ext;refine b6r ?_ (λhF e=>?_)
  ·refine iteF ?_;ext;exact kk _ _ ⟨y,t2,rfl,s3,d2,wt2,z2⟩
  have w2:1<way:=Zf e;ext;cases come with
  |none=>
   refine⟨rfl,?_⟩;rw[show oI none=V.non from rfl,Zx rfl];ext;exact hF
  |some n=>
   have sn:=cs n rfl;refine⟨rfl,?_⟩;rw[show oI (some n)=V.int n from rfl,Zo qz];ext;refine iteB (λe=>?_) (λe=>absurd e qz);ext;refine⟨ln (by show 4<=100000;decide),λp1a hp1a=>?_⟩;have sp1a:Same J3 (upd J3 p1a (.lst [.int 0,.int 0,.int 1,.int (-1)])):=a0d hp1a _;have kp1a:(upd J3 p1a (.lst [.int 0,.int 0,.int 1,.int (-1)])) p1a=some (.lst [.int 0,.int 0,.int 1,.int (-1)]):=a0c;generalize upd J3 p1a (.lst [.int 0,.int 0,.int 1,.int (-1)])=J5 at sp1a kp1a ⊢;ext;obtain⟨dd,hdd⟩:∃dd:Int,atI [V.int 0,V.int 0,V.int 1,V.int (-1)] (way-2)=some (.int dd):=by
    rcases(show way=2\/way=3\/way=4\/way=5 by omega)with e|e|e|e<;>rw[e]<;>exact⟨_,rfl⟩
   exists a1h (SqL.of kp1a) hdd
   exists m2_i (C:=CPow) ⟨qd,qd,qd⟩
   exists m2_i (C:=CPow) ⟨qd,qd,qd⟩
   rw[p30];generalize hzz:(if(10:Int)^30-1<(if 1-(10:Int)^30>n+dd then 1-(10:Int)^30 else n+dd)then(10:Int)^30-1 else if 1-(10:Int)^30>n+dd then 1-(10:Int)^30 else n+dd)=zz;have szz:small zz:=by
    rw[<-hzz];unfold small
    split<;>split<;>omega
   refine⟨ln (by show 2<=100000;decide),λp2a hp2a=>?_⟩;have sp2a:Same J5 (upd J5 p2a (.tup [.str "num",.int zz])):=a0d hp2a _;have kp2a:(upd J5 p2a (.tup [.str "num",.int zz])) p2a=some (.tup [.str "num",.int zz]):=a0c;generalize upd J5 p2a (.tup [.str "num",.int zz])=J6 at sp2a kp2a ⊢;ext;exact kk _ _ ⟨_,.num zz,rfl,s3.trans (sp1a.trans sp2a),a4p (SqT.of kp2a),szz,by simp[Trm.size]⟩
 obtain⟨y,t2,rfl,s4,d2,wt2,z2⟩:=hP
 (with_reducible refine a2u (λσ' J=>∃(y:V)(t2:Trm),σ'=[some (.ref a),some (.str mk),some (.ref np),some (.ref wp),some u0,some x1,some (.int way),some (oI come),some y]/\Same J2 J/\Den K J y t2.data/\wfT t2/\t2.size<=21) (λσ' J5 hP=>?_) (λkk=>?_))
 rotate_left
 ·ext;refine b6r ?_ (λhF e=>?_)
  ·refine iteF ?_;ext;exact kk _ _ ⟨y,t2,rfl,s4,d2,wt2,z2⟩
  ext;refine iteB (λe=>?_) (λe=>hF);ext;have s04:=s02.trans s4
  exists a1h (s04.seq hX) e4
  refine⟨ln (by show 2<=100000;decide),λq1 hq1=>?_⟩;have sq1:Same J4 (upd J4 q1 (.tup [.str "any",.str x4])):=a0d hq1 _;have kq1:(upd J4 q1 (.tup [.str "any",.str x4])) q1=some (.tup [.str "any",.str x4]):=a0c;generalize upd J4 q1 (.tup [.str "any",.str x4])=J6 at sq1 kq1 ⊢;ext;have d6:=d12.mono (s4.trans sq1);have s06:=s04.trans sq1;cases t1 with
  |any z=>
   obtain⟨pa,rfl,h1⟩:=a3w d6
   exists a0k h1 (v:=.str anyS) rfl
   refine iteB (λe=>absurd e qk) (λe=>?_);refine iteF ?_;ext;exact kk _ _ ⟨_,.any x4,rfl,s4.trans sq1,a5v (SqT.of kq1),trivial,by simp[Trm.size]⟩
  |num z=>
   obtain⟨pa,rfl,h1⟩:=a3v d6
   exists a0k h1 (v:=.str numS) rfl
   refine iteB (λe=>absurd e qk) (λe=>?_);refine iteF ?_;ext;exact kk _ _ ⟨_,.any x4,rfl,s4.trans sq1,a5v (SqT.of kq1),trivial,by simp[Trm.size]⟩
  |app sg ks=>
   obtain⟨pa,pb,uk,rfl,h1,h2,h3⟩:=a1x d6;have hkl:=a3z h3;have zl:=Trm.len_le ks;simp only[Trm.size]at z1
   exists a0k h1 (v:=.str appS) rfl
   refine b6r ?_ (λhF e=>?_)
   ·refine iteF ?_;ext;exact kk _ _ ⟨_,.any x4,rfl,s4.trans sq1,a5v (SqT.of kq1),trivial,by simp[Trm.size]⟩
   ext
   exists a0k h1 (v:=.ref pb) rfl
   exists a9t h2
   refine iteB (λe3=>?_) (λe3=>hF);have hlk:0<ks.length:=by have:=Zf e3;omega
   ext
   exists a0k h1 (v:=.str sg) rfl
   exists a1h (s06.seq hX) e4
   refine⟨ln (by show 2<=100000;decide),λq2 hq2=>?_⟩;have sq2:Same J6 (upd J6 q2 (.tup [.str "any",.str x4])):=a0d hq2 _;have kq2:(upd J6 q2 (.tup [.str "any",.str x4])) q2=some (.tup [.str "any",.str x4]):=a0c;generalize upd J6 q2 (.tup [.str "any",.str x4])=J7 at sq2 kq2 ⊢;ext;refine⟨ln (by show 1<=100000;decide),λq3 hq3=>?_⟩;have sq3:Same J7 (upd J7 q3 (.tup [.ref q2])):=a0d hq3 _;have kq3:(upd J7 q3 (.tup [.ref q2])) q3=some (.tup [.ref q2]):=a0c;generalize upd J7 q3 (.tup [.ref q2])=J8 at sq3 kq3 ⊢;ext;have s68:=sq2.trans sq3
   exists a0k (s68.tup h1) (v:=.ref pb) rfl
   refine⟨pb,uk,rfl,s68.tup h2,λw=>?_,λ_ q4 hq4=>?_⟩
   ·exfalso
    have w1:HT.sIx uk.length 0 (some 1)=0:=w.1;rw[c7k _ _ qo]at w1;have:min (1:Int).toNat uk.length=1:=by rw[show(1:Int).toNat=1 from rfl];omega
    omega
   rw[a8p _ 1 qo,show(1:Int).toNat=1 from rfl];have sq4:=a0d hq4 (.tup (uk.drop 1));have kq4:(upd J8 q4 (.tup (uk.drop 1))) q4=some (.tup (uk.drop 1)):=a0c;generalize upd J8 q4 (.tup (uk.drop 1))=J9 at sq4 kq4 ⊢;refine mAddT_i (SqT.of (sq4 _ _ kq3)) (SqT.of kq4) (ln (by rw[Zm,Ww];omega)) (λq5 Ja s5 k5=>?_);ext;refine⟨ln (by show 3<=100000;decide),λq6 hq6=>?_⟩;have sq6:Same Ja (upd Ja q6 (.tup [.str "app",.str sg,.ref q5])):=a0d hq6 _;have kq6:(upd Ja q6 (.tup [.str "app",.str sg,.ref q5])) q6=some (.tup [.str "app",.str sg,.ref q5]):=a0c;generalize upd Ja q6 (.tup [.str "app",.str sg,.ref q5])=Jb at sq6 kq6 ⊢;ext;have s6b:=s68.trans (sq4.trans (s5.trans sq6));have zc:=b2a ks 1;have zt:=Trm.len_le (ks.take 1);rw[Yi]at zt;have dk:DenL K Jb ([.ref q2]++uk.drop 1) (Trm.dataL (.any x4::ks.drop 1)):=by
    simp only[Trm.dataL];refine .cons (a5v (SqT.of ((sq3.trans (sq4.trans (s5.trans sq6))) _ _ kq2))) ?_;have:=(h3.mono s6b).drop 1;rw[b5r]at this;exact this
   exact kk _ _ ⟨_,.app sg (.any x4::ks.drop 1),rfl,s4.trans (sq1.trans s6b),a2m (SqT.of kq6) (sq6.tup k5) dk,⟨λz=>by rw[length_cons,Ww];have:=wt1.1 z;omega,trivial,b3g λt ht=>c0t wt1.2 t (S5 ht)⟩,by simp only[Trm.size,Trm.sizeL];omega⟩
 obtain⟨y,t2,rfl,s5,d2,wt2,z2⟩:=hP;ext;have d15:=d12.mono s5;refine⟨ln (by show 2<=100000;decide),λr1 hr1=>?_⟩;have sr1:Same J5 (upd J5 r1 (.tup [y,x1])):=a0d hr1 _;have kr1:(upd J5 r1 (.tup [y,x1])) r1=some (.tup [y,x1]):=a0c;generalize upd J5 r1 (.tup [y,x1])=J7 at sr1 kr1 ⊢;ext;refine⟨ln (by show 3<=100000;decide),λr2 hr2=>?_⟩;have sr2:Same J7 (upd J7 r2 (.tup [.str "app",.str mk,.ref r1])):=a0d hr2 _;have kr2:(upd J7 r2 (.tup [.str "app",.str mk,.ref r1])) r2=some (.tup [.str "app",.str mk,.ref r1]):=a0c;generalize upd J7 r2 (.tup [.str "app",.str mk,.ref r1])=J8 at sr2 kr2 ⊢;ext;have sr:=sr1.trans sr2;exact q _ t2 t1 _ (s02.trans (s5.trans sr)) (a2m (SqT.of kr2) (SqT.of (sr2 _ _ kr1)) (by simp only[Trm.dataL];exact .cons (d2.mono sr) (.cons (d15.mono sr) .nil))) wt2 wt1 (by simp only[Trm.size,Trm.sizeL];omega)
end
section
variable{P:Program}{w:World}{K:W.Frag}{mg:Str->Option Value}{base:Heap}{t:Ad}
theorem c4j(T:Txt K mg t)(G_b9:FnOk P w K mg base CX0 1 t.a_b9 t.d_b9 ["term"] (b2b K)):FnOk P w K mg base CX0 2 t.a_b6 t.d_b6 ["one","other","puts"] (b0x K):=by
 exists T.F_b6.ok a6d,b0x,(@QSs.pss _ _ _ (a1d (a2y (a0s (i:=3) (hs:=a1g) a6d.nd rfl (by nofun) (a2n c9r rfl T.n_g8 boot_dict (a0a (mv 2) a0e)))) (a1d (a3x (i:=4) a6d.nd rfl (by nofun) (a2e (a0o (a1k (a0o (a1b (mv 0)) (a0o (a1b (mv 1)) a0y rfl) rfl)) a0y rfl)) a5c (by nofun)) (a1d (a2y (b0c Y3 (a8k K rfl (mv 4)) (a0g (a0s (i:=5) (hs:=a1g) a6d.nd rfl (by nofun) (b9c K rfl Y9 Ts F.type_list_pop c5y (mv 4))) (a0h (a1a (a0q a0x (a0i (a0f K rfl) (a0i (a0f K rfl) (mv 5) a0b (λ_ _=>rfl)) a0b (λ_ _=>rfl)) a0j (a0m _)) (a0h (a1a (a0q (ko_neT K rfl (a3u hr)) (a7v K rfl Tf Vd So mm_setd (mv 3) (a0a (a0i (a0f K rfl) (a0i (a0f K rfl) (mv 5) a0b (λ_ _=>rfl)) a0b (λ_ _=>rfl)) (a0a (a0i (a0f K rfl) (mv 5) a0b (λ_ _=>rfl)) a0e))) (a0i (a0f K rfl) (mv 5) a0b (λ_ _=>rfl)) (a0m _)) (a0h (a0t a3n)) a0u)) (a0h (a1a (a0q (ko_neKs K rfl (a3u hr)) (a0r G_b9 hr.o rfl T.m_b9 T.F_b9.kp T.b_b9 .nil a0v (a0a (a0i (a0f K rfl) (mv 5) a0b (λ_ _=>rfl)) a0e)) (a0r G_b9 hr.o rfl T.m_b9 T.F_b9.kp T.b_b9 .nil a0v (a0a (a0i (a0f K rfl) (mv 5) a0b (λ_ _=>rfl)) a0e)) (a0m _)) (a0h (a0t a3n)) (a0h (a1a (a0q a0x (a0i (a0f K rfl) (a0i (a0f K rfl) (mv 5) a0b (λ_ _=>rfl)) a0b (λ_ _=>rfl)) a0j (a0m _)) (a0g (a0s (i:=6) (hs:=a1g) a6d.nd rfl (by nofun) (c3p K rfl rfl rfl T.n_e7 rfl T.n_f5 (a0a (a0i (a0f K rfl) (a0i (a0f K rfl) (mv 5) a0b (λ_ _=>rfl)) a0b (λ_ _=>rfl)) (a0a (a0i (a0f K rfl) (a0i (a0f K rfl) (mv 5) a0b (λ_ _=>rfl)) a0b (λ_ _=>rfl)) a0e)))) (a0g (a4m (b9c K rfl Y9 Ri F.type_list_reverse c3l (mv 6))) (a0h (a4m (a7v K rfl Y9 Vt Rw (b7f K rfl) (mv 4) (a0a (mv 6) a0e)))))) a0u))))))))) (a3l (a2y (a0t (mv 3)))))))),H,Q,E,hr,h
 rename_i v v' pd;obtain⟨t0,t1,rows0,hd,hd',hP0,hW,hz,hz',q⟩:=h;obtain⟨kvs0,e0,ok0⟩:=hP0.ex;ext;refine⟨pd,kvs0,rfl,e0,λpn hpn=>?_⟩;have sn:=a0d hpn (.dK kvs0);have kn:(upd H pn (.dK kvs0)) pn=some (.dK kvs0):=a0c;generalize upd H pn (.dK kvs0)=H1 at sn kn ⊢;ext;refine⟨ln (by show 2<=100000;decide),λpp hpp=>?_⟩;have sp2:=a0d hpp (.tup [v,v']);have kp2:(upd H1 pp (.tup [v,v'])) pp=some (.tup [v,v']):=a0c;generalize upd H1 pp (.tup [v,v'])=H2 at sp2 kp2 ⊢;refine⟨ln (by show 1<=100000;decide),λpt hpt=>?_⟩;have s3:=a0d hpt (.lst [.ref pp]);have k3:(upd H2 pt (.lst [.ref pp])) pt=some (.lst [.ref pp]):=a0c;generalize upd H2 pt (.lst [.ref pp])=H3 at s3 k3 ⊢;have s03:Same H H3:=sn.trans (sp2.trans s3);have hpt0:H pt=none:=a4c (sn.trans sp2) hpt;have hnpt:pn≠pt:=λz=>by
  have:=sp2 _ _ kn;rw[z,hpt]at this;cases this
 ext;refine a8u (λn σ' H'=>∃(us:List V)(ps:List (Trm×Trm))(rows:Rws)(o1 o2:Option V),σ'=[some v,some v',some (.ref pd),some (.ref pn),some (.ref pt),o1,o2]/\H' pt=some (.lst us)/\DenL K H' us (ps.map b0w)/\a4s K H' pn rows/\RwOk rows (1000+(70-a2z ps))/\(∀p∈ps,p.2.size<=70)/\mtP ps.reverse rows=mt t0 t1 rows0/\a2z ps<=70/\n=a2z ps/\Same H H') (a2z [(t0,t1)]) ⟨[.ref pp],[(t0,t1)],rows0,none,none,rfl,k3,.cons (.tup (SqT.of (s3 _ _ kp2)) (.cons (hd.mono s03) (.cons (hd'.mono s03) .nil))) .nil,⟨kvs0,(sp2.trans s3) _ _ kn,ok0.mono s03⟩,⟨by have:=hW.len;omega,hW.small⟩,λp hp=>by rw[Zu.mp hp];exact hz',by simp only[Xv,V9,Wn,mtP];cases mt t0 t1 rows0<;>rfl,by simp only[a2z,Z4,Wv,Trm.sizeL];omega,rfl,s03⟩ (λn σ' H' R hP kT kF=>?_);obtain⟨us,ps,rows,o1,o2,rfl,h1,h2,h3,h4,h5,h6,h7,h8,h9⟩:=hP;ext;refine .inl ⟨us,SqL.of h1,?_⟩;rcases nil_or_snoc' ps with rfl|⟨ps',p1,rfl⟩
 ·have e:=h2.nil_inv;subst e
  exists kF H'
  simp only[V9,mtP]at h6;rw[<-h6]at q;exact q pn H' h9 hpn h3
 ·rw[Zt]at h2;obtain⟨us',u,rfl,g1,g2⟩:=DenL.snoc h2;have hul:=g1.length;rw[length_map]at hul;have hpl:=c7q ps';have e:(!(us'++[u]).isEmpty)=true:=by simp
  rw[e];have hsz:a2z (ps'++[p1])=a2z ps'+p1.1.size:=by rw[a7m];simp[a2z,Trm.sizeL]
  rw[hsz]at h4 h7 h8;have typ:=p1.1.size_pos;refine kT H' (λD' e1 e2 hnx hct=>?_);ext;refine⟨.inl ⟨rfl,_,SqL.of h1⟩,?_⟩
  exists c6d h1
  have f1:DenL K (upd H' pt (.lst us')) us' (ps'.map b0w):=g1.lst h1;have f2:Den K (upd H' pt (.lst us')) u (b0w p1):=g2.lst h1;have f3:Same H (upd H' pt (.lst us')):=a1f h9 hpt0;have f4:(upd H' pt (.lst us')) pt=some (.lst us'):=a0c;have f5:a4s K (upd H' pt (.lst us')) pn rows:=h3.lst h1;generalize upd H' pt (.lst us')=J at f1 f2 f3 f4 f5 ⊢;have hp2:=h5 p1 qz;have h5':∀p∈ps',p.2.size<=70:=λp hp=>h5 p (by simp[hp])
  simp only[Vl,Xv,V9,Wn,Wo,mtP]at h6;obtain⟨a1,b1⟩:=p1;obtain⟨qa,x,y,rfl,hs,dx,dy⟩:=d0t f2
  dsimp only at dx dy h6 hp2 h4 h7 h8 typ
  exists a0k hs (v:=x) rfl
  cases a1 with
  |any nm=>
   obtain⟨a,rfl,ha⟩:=a3w dx
   exists a0k ha (v:=.str anyS) rfl
   rw[Zn,q3];refine iteT ?_;ext;obtain⟨kvs,c1,c2⟩:=f5.ex;have hkl:=c2.len;have hrl:=h4.len;refine⟨.inr (.inr (.inl ⟨rfl,.inl ⟨_,c1⟩⟩)),?_⟩;ext
   exists a0k hs (v:=.ref a) rfl
   exists a0k ha (v:=.str nm) rfl
   exists a0k hs (v:=y) rfl
   refine mSetd_i (k:=Sum.inr nm) rfl c1 (by rw[Yg];omega) (λw hw=>?_) (λhw=>?_)
   ·rcases c2.get nm with⟨l1,l2⟩|⟨tw,w',l1,l2,l3⟩
    ·rw[l2]at hw;cases hw
    rw[l2]at hw;cases hw;rw[mt_some l1]at h6;ext
    exists a0k hs (v:=y) rfl
    refine a9w l3 dy (h4.small _ (b9q l1)) ?_;rw[T7];cases hq:eqb tw b1 with
    |false=>
     rw[hq]at h6;ext;refine iteB (λe=>?_) (λe=>absurd e qz);ext;have h6:none=mt t0 t1 rows0:=h6;rw[<-h6]at q;rw[e1];exact q J f3
    |true=>
     rw[hq]at h6;ext;refine iteB (λe=>absurd e qz) (λe=>?_);ext;have h6:mtP ps'.reverse rows=mt t0 t1 rows0:=h6;exact hnx _ _ (a2z ps') qo ⟨us',ps',rows,_,_,rfl,f4,f1,f5,⟨by have:=h4.len;omega,h4.small⟩,h5',h6,qo,rfl,f3⟩
   ·rcases c2.get nm with⟨l1,l2⟩|⟨tw,w',l1,l2,l3⟩
    ·rw[mt_none l1]at h6;have h6:mtP ps'.reverse (putR rows nm b1)=mt t0 t1 rows0:=h6;have bb:But pn J (upd J pn (.dK (putK kvs (Sum.inr nm) y))):=λb o hb e=>by rw[a0p hb];exact e
     have mT:=c0j (K:=K) bb c1;have w1:a4s K (upd J pn (.dK (putK kvs (Sum.inr nm) y))) pn (putR rows nm b1):=⟨_,a0c,(c2.put dy).monoT mT⟩;have w2:Same H (upd J pn (.dK (putK kvs (Sum.inr nm) y))):=a1f f3 hpn;have w3:(upd J pn (.dK (putK kvs (Sum.inr nm) y))) pt=some (.lst us'):=bb _ _ hnpt.symm f4;have w4:=f1.monoT mT;have w5:=mT _ _ hs;have w6:=dy.monoT mT;generalize upd J pn (.dK (putK kvs (Sum.inr nm) y))=J2 at w1 w2 w3 w4 w5 w6 ⊢;ext
     exists a0k w5 (v:=y) rfl
     refine a9w w6 w6 hp2 ?_;rw[b3z];ext;refine iteB (λe=>absurd e qz) (λe=>?_);ext;have h4':RwOk rows (999+(70-a2z ps')):=⟨by have:=h4.len;simp only[Trm.size]at this h7;omega,h4.small⟩;have h4'':=h4'.put (x:=nm) hp2;exact hnx _ _ (a2z ps') qo ⟨us',ps',_,_,_,rfl,w3,w4,w1,⟨by have:=h4''.len;omega,h4''.small⟩,h5',h6,qo,rfl,w2⟩
    ·rw[l2]at hw;cases hw
  |num m=>
   obtain⟨a,rfl,ha⟩:=a3v dx
   exists a0k ha (v:=.str numS) rfl
   rw[Zn,q1];refine iteF ?_;ext
   exists a0k hs (v:=.ref a) rfl
   refine⟨.num m,dx,λpk J1 sk kk=>?_⟩;ext
   exists a0k (sk.tup hs) (v:=y) rfl
   refine⟨b1,dy.mono sk,?_⟩;cases hkb:keyK b1 with
   |none=>
    rw[b5x (a:=.num m) rfl (by rw[hkb];simp)]at h6;have h6:none=mt t0 t1 rows0:=h6;refine⟨pk,[Sum.inr numS,Sum.inl m],rfl,SqT.of kk,.inl ⟨rfl,?_⟩⟩;ext;refine iteB (λe=>?_) (λe=>absurd e qz);ext;rw[<-h6]at q;rw[e1];exact q _ (f3.trans sk)
   |some kb=>
    intro pk2 J2 sk2 kk2;refine⟨pk,[Sum.inr numS,Sum.inl m],rfl,SqT.of (sk2 _ _ kk),.inr ⟨pk2,kb,rfl,SqT.of kk2,?_⟩⟩;ext
    exists e
    ·have hne:[Sum.inr numS,Sum.inl m]≠kb:=by
      rw[Bool.not_eq_true']at e;exact Zq e
     rw[b5x (a:=.num m) rfl (by rw[hkb];exactλz=>hne (Zl z).symm)]at h6;have h6:none=mt t0 t1 rows0:=h6;ext;rw[<-h6]at q;rw[e1];exact q _ (f3.trans (sk.trans sk2))
    ·have heq:[Sum.inr numS,Sum.inl m]=kb:=by
      rw[R1]at e;exact Zf e
     rw[<-heq]at hkb;obtain rfl:=d0l hkb;have e5:mt (.num m) (.num m) rows=some rows:=by rw[mt,if_pos rfl]
     rw[e5]at h6;have h6:mtP ps'.reverse rows=mt t0 t1 rows0:=h6;have ss:=sk.trans sk2;ext
     exists a0k (ss.tup hs) (v:=.ref a) rfl
     exists a0k (ss.tup ha) (v:=.str numS) rfl
     refine iteB (λe=>absurd e qk) (λe=>?_);ext;exact hnx _ _ (a2z ps') qo ⟨us',ps',rows,_,_,rfl,ss _ _ f4,f1.mono ss,f5.mono ss,⟨by have:=h4.len;omega,h4.small⟩,h5',h6,qo,rfl,f3.trans ss⟩
  |app sg ks=>
   obtain⟨a,b,ku,rfl,ha,hb,hk⟩:=a1x dx;have hkl:=hk.length;rw[Trm.dataL_map,length_map]at hkl
   exists a0k ha (v:=.str appS) rfl
   rw[Zn,q2];refine iteF ?_;ext
   exists a0k hs (v:=.ref a) rfl
   refine⟨.app sg ks,dx,λpk J1 sk kk=>?_⟩;ext
   exists a0k (sk.tup hs) (v:=y) rfl
   refine⟨b1,dy.mono sk,?_⟩;cases hkb:keyK b1 with
   |none=>
    rw[b5x (a:=.app sg ks) rfl (by rw[hkb];simp)]at h6;have h6:none=mt t0 t1 rows0:=h6;refine⟨pk,[Sum.inr appS,Sum.inr sg,Sum.inl (ks.length:Int)],rfl,SqT.of kk,.inl ⟨rfl,?_⟩⟩;ext;refine iteB (λe=>?_) (λe=>absurd e qz);ext;rw[<-h6]at q;rw[e1];exact q _ (f3.trans sk)
   |some kb=>
    intro pk2 J2 sk2 kk2;refine⟨pk,[Sum.inr appS,Sum.inr sg,Sum.inl (ks.length:Int)],rfl,SqT.of (sk2 _ _ kk),.inr ⟨pk2,kb,rfl,SqT.of kk2,?_⟩⟩;ext
    exists e
    ·have hne:[Sum.inr appS,Sum.inr sg,Sum.inl (ks.length:Int)]≠kb:=by
      rw[Bool.not_eq_true']at e;exact Zq e
     rw[b5x (a:=.app sg ks) rfl (by rw[hkb];exactλz=>hne (Zl z).symm)]at h6;have h6:none=mt t0 t1 rows0:=h6;ext;rw[<-h6]at q;rw[e1];exact q _ (f3.trans (sk.trans sk2))
    ·have heq:[Sum.inr appS,Sum.inr sg,Sum.inl (ks.length:Int)]=kb:=by
      rw[R1]at e;exact Zf e
     rw[<-heq]at hkb;obtain⟨ls,rfl,hll⟩:=d0m hkb;have e5:mt (.app sg ks) (.app sg ls) rows=mtL ks ls rows:=by rw[mt,if_pos ⟨rfl,hll.symm⟩]
     rw[e5]at h6;have ss:=sk.trans sk2;obtain⟨a',b',ku',e6,ha',hb',hk'⟩:=a1x dy;subst e6;have hkl':=hk'.length;rw[Trm.dataL_map,length_map]at hkl';ext
     exists a0k (ss.tup hs) (v:=.ref a) rfl
     exists a0k (ss.tup ha) (v:=.str appS) rfl
     refine iteB (λe=>?_) (λe=>absurd e qk);ext;refine c3q ?_;ext
     exists a0k (ss.tup hs) (v:=.ref a) rfl
     exists a0k (ss.tup ha) (v:=.ref b) rfl
     exists a0k (ss.tup hs) (v:=.ref a') rfl
     exists a0k (ss.tup ha') (v:=.ref b') rfl
     refine⟨b,b',ku,ku',rfl,ss.tup hb,ss.tup hb',qo,λpz J3 qs hpz sz kz lz prz=>?_⟩;have sa:=ss.trans sz;have dz:=b5y qs ku ku' ks ls lz qo prz (hk.mono sa) (hk'.mono sa);have nz:pt≠pz:=λz=>by
      have:=ss _ _ f4;rw[z,hpz]at this;cases this
     ext;refine⟨.inl ⟨rfl,_,SqL.of kz⟩,?_⟩;refine⟨_,kz,?_⟩;have v1:DenL K (upd J3 pz (.lst (qs.map V.ref).reverse)) (qs.map V.ref).reverse ((ks.zip ls).map b0w).reverse:=(DenL.lst kz (My.DenL.rev dz));have v2:DenL K (upd J3 pz (.lst (qs.map V.ref).reverse)) us' (ps'.map b0w):=(f1.mono sa).lst kz;have v3:a4s K (upd J3 pz (.lst (qs.map V.ref).reverse)) pn rows:=(f5.mono sa).lst kz;have v4:(upd J3 pz (.lst (qs.map V.ref).reverse)) pt=some (.lst us'):=by rw[a0p nz];exact sa _ _ f4
     have v5:(upd J3 pz (.lst (qs.map V.ref).reverse)) pz=some (.lst (qs.map V.ref).reverse):=a0c;have v6:Same H (upd J3 pz (.lst (qs.map V.ref).reverse)):=a1f (f3.trans sa) (a4c (f3.trans ss) hpz);generalize upd J3 pz (.lst (qs.map V.ref).reverse)=J4 at v1 v2 v3 v4 v5 v6 ⊢;have hk70:=Trm.len_le ks;simp only[Trm.size]at h4 h7 h8 hp2;ext;refine⟨.inl ⟨rfl,_,SqL.of v4⟩,?_⟩;ext
     exists c6c v4 v5 (ln (by rw[W0,length_map];omega))
     have hzz:=b7l ks ls hll.symm;refine hnx _ _ (a2z (ps'++(ks.zip ls).reverse)) (by rw[a7m,hzz];omega) ⟨_,ps'++(ks.zip ls).reverse,rows,_,_,rfl,a0c,?_,v3.lst v4,⟨by rw[a7m,hzz];have:=h4.len;omega,h4.small⟩,λp hp=>?_,?_,by rw[a7m,hzz];omega,rfl,a1f v6 hpt0⟩
     ·rw[Zt,List.map_reverse];exact(v2.append v1).lst v4
     ·rcases Yt.mp hp with z|z
      ·exact h5' p z
      ·have:=(Uk (List.mem_reverse.mp z)).2;have:=b9t this;omega
     ·rw[Vl,Us,c2u _ _ _ _ hll.symm];exact h6
end
section
variable{P:Program}{w:World}{K:W.Frag}{mg:Str->Option Value}{base:Heap}{t:Ad}
theorem c4k(T:Txt K mg t)  :FnOk P w K mg base CX0 1 t.a_b8 t.d_b8 ["name"] (a7y K):=by
 exists T.F_b8.ok c3w,a7y,(a0h (a0t (a1j (a0a a0j (a0a (mv 0) a0e))))),H,Q,E,hr,h
 rename_i x;ext;exact⟨ln (by show 2<=100000;decide),λp hp=>h _ _ (a0d hp _) (a5v (SqT.of a0c))⟩
theorem c4l(T:Txt K mg t)(G_b8:FnOk P w K mg base CX0 1 t.a_b8 t.d_b8 ["name"] (a7y K))(G_a7:FnOk P w K mg base CX0 1 t.a_a7 t.d_a7 ["sign","kids"] (b5s K))(n:Nat)(G_a9:FnOk P w K mg base CX0 (n+2) t.a_a9 t.d_a9 ["term","names"] (a4i K n)):FnOk P w K mg base CX0 (n+2+1) t.a_a9 t.d_a9 ["term","names"] (a4i K (n+1)):=by
 exists T.F_a9.ok (k:=n+2) c3z,a4i,(a0g (a1a (a0q a0x (a0i (a0f K rfl) (mv 0) a0b (λ_ _=>rfl)) a0j (a0m _)) (a0h (a0t (a0r G_b8 hr.o rfl T.m_b8 T.F_b8.kp T.b_b8 .nil a0v (a0a (pe_dget (b7y hr) (mv 1) (a0i (a0f K rfl) (mv 0) a0b (λ_ _=>rfl)) (λ_ _=>rfl)) a0e)))) a0u) (a0g (a1a (a0q a0x (a0i (a0f K rfl) (mv 0) a0b (λ_ _=>rfl)) a0j (a0m _)) (a0h (a0t (a0r G_a7 hr.o rfl T.m_a7 T.F_a7.kp T.b_a7 .nil a0v (a0a (a0i (a0f K rfl) (mv 0) a0b (λ_ _=>rfl)) (a0a (a3f rfl (kpi_tup K rfl (a0i (a0f K rfl) (mv 0) a0b (λ_ _=>rfl))) (a2t (a0n a8v) ["term","names"] ["term","names"] rfl rfl qk) (λ_ _ _ _ _=>a2s) (λ_ _ _ _ _=>(a0r G_a9 hr.o rfl T.m_a9 T.F_a9.kp T.b_a9 .nil a0v (a0a (mv 0) (a0a (mv 2) a0e))))) a0e))))) a0u) (a0h (a0t (mv 0))))),H,Q,E,hr,h
 rename_i v d;obtain⟨t0,as,hd,hD,hv,hz,hn,q⟩:=h;ext;cases t0 with
 |any x=>
  obtain⟨a,rfl,hs⟩:=a3w hd
  exists a0k hs (v:=.str anyS) rfl
  rw[Zn,q3];refine iteT ?_;ext
  exists a0k hs (v:=.str x) rfl
  have dg:DGet H d (.str x) (valV (encS as) (Sum.inr x)):=DGet.k (k:=Sum.inr x) hD;rw[val_sub (hv x (by simp[vars]))]at dg;refine⟨d,_,rfl,dg,?_⟩;ext;intro w H' s' dw;exact q w H' s' (by rw[ren];exact dw)
 |num m=>
  obtain⟨a,rfl,hs⟩:=a3v hd
  exists a0k hs (v:=.str numS) rfl
  rw[Zn,q1];refine iteF ?_;ext
  exists a0k hs (v:=.str numS) rfl
  refine iteB (λe=>absurd e qk) (λe=>?_);ext;exact q _ H (Same.refl _) (by rw[ren];exact hd)
 |app sg ks=>
  obtain⟨a,b,us,rfl,hs,hb,hk⟩:=a1x hd;have hkl:=a3z hk;simp only[Trm.size]at hz
  exists a0k hs (v:=.str appS) rfl
  rw[Zn,q2];refine iteF ?_;ext
  exists a0k hs (v:=.str appS) rfl
  refine iteB (λe=>?_) (λe=>absurd e qk);ext
  exists a0k hs (v:=.str sg) rfl
  refine a0k hs (v:=.ref b) rfl ?_;refine⟨b,rfl,⟨_,hb⟩,λD hD'=>?_⟩;have zl:=Trm.len_le ks;refine a2i (row_tup (xs:=us)) (λi ys J=>Same H J/\J D=some (.lst ys)/\DenL K J ys (Trm.dataL (renL (sub as) (ks.take i)))) (ln qo) ⟨a0d hD' _,a0c,by rw[Vs,renL];exact .nil⟩ (λi ys J hP=>hP.1.tup hb) (λi ys J Q' hi hl' hP k=>?_) (λys J hl' hP=>?_)
  ·obtain⟨g1,g2,g3⟩:=hP;have hki:i<ks.length:=by omega
   obtain⟨hu,dk⟩:=c2q hk hki;have z1:=d0n (Zb hki);ext;rw[getD_at hu];refine⟨ks[i],as,dk.mono g1,g1 _ _ hD,λx hx=>hv x ?_,qo,qo,λx J2 s2 dx=>?_⟩
   ·rw[vars];have:∀(l:List Trm)(i:Nat)(h:i<l.length),x∈vars l[i]->x∈a6b l:=by
     intro l
     induction l with
     |nil=>intro i h;simp at h
     |cons a r ih=>
      intro i h hx;rw[a6b,Yt];cases i with
      |zero=>exact .inl hx
      |succ i=>exact .inr (ih i (by simpa using h) (by simpa using hx))
    exact this ks i hki hx
   ·have g6:J2 D=some (.lst ys):=s2 _ _ g2;refine k _ _ g6 ⟨a1f (g1.trans s2) hD',a0c,?_⟩;rw[take_succ' hki,a5s,Zt,<-a5s,a7l];exact((g3.mono s2).append (.cons dx .nil)).lst g6
  obtain⟨g1,g2,g3⟩:=hP;rw[Y7 qo]at g3;ext;refine⟨ys,_,SqL.of g2,g3,λw J2 s2 dw=>?_⟩;exact q (.ref w) J2 (g1.trans s2) (by rw[ren];exact dw)
theorem c4m(T:Txt K mg t)(G_b8:FnOk P w K mg base CX0 1 t.a_b8 t.d_b8 ["name"] (a7y K))(G_a7:FnOk P w K mg base CX0 1 t.a_a7 t.d_a7 ["sign","kids"] (b5s K))(n:Nat):FnOk P w K mg base CX0 (n+2) t.a_a9 t.d_a9 ["term","names"] (a4i K n):=by
 induction n with
 |zero=>
  have no:∀vs H Q E,(a4i K 0) vs H Q E->False:=λvs H Q E h=>by
   unfold a4i at h;split at h
   ·exact c4d h
   ·exact h
  exact⟨λvs H Q E h=>(no vs H Q E h).elim,λA outer s H args us vs Q E _ _ _ _ h=>(no vs H Q E h).elim⟩
 |succ n ih=>
  have e:n+1+2=n+2+1:=by omega
  rw[e];exact c4l T G_b8 G_a7 n ih
theorem b6t(T:Txt K mg t)  :FnOk P w K mg base CX0 1 t.a_c4 t.d_c4 ["terms"] (a6o K):=by
 exists T.F_c4.ok a5n,a6o,(a0g (a0s (i:=1) a5n.nd rfl (by nofun) b3s) (a0g (a0s (i:=2) (hs:=a1g) a5n.nd rfl (by nofun) (b5m K rfl rfl rfl T.n_e7 rfl T.n_g3 (a0a (mv 0) a0e))) (a0g (b0c Y3 (a8k K rfl (mv 2)) (a0g (a0s (i:=3) (hs:=a1g) a5n.nd rfl (by nofun) (b9c K rfl Y9 Ts F.type_list_pop c5y (mv 2))) (a0h (a1a (a0q a0x (a0i (a0f K rfl) (mv 3) a0b (λ_ _=>rfl)) a0j (a0m _)) (a0h (c2a (b7y hr) (mv 1) (a0i (a0f K rfl) (mv 3) a0b (λ_ _=>rfl)) a6u rfl)) (a0h (a1a (a0q a0x (a0i (a0f K rfl) (mv 3) a0b (λ_ _=>rfl)) a0j (a0m _)) (a0h (a4m (a7v K rfl Y9 Vt Rw (b7f K rfl) (mv 2) (a0a (b5m K rfl rfl rfl T.n_e7 rfl T.n_g3 (a0a (a0i (a0f K rfl) (mv 3) a0b (λ_ _=>rfl)) a0e)) a0e)))) a0u)))))) (a0h (a0t (a2n (c9j rfl) rfl T.n_e7 Tl (a0a (mv 1) a0e))))))),H,Q,E,hr,h
 rename_i a;obtain⟨us,ts,hS,hd,hz,q⟩:=h;have hul:=a3z hd;have tl:=Trm.len_le ts;ext;intro pd hpd;have s1:=a0d hpd (.dK []);have k1:(upd H pd (.dK [])) pd=some (.dK []):=a0c;generalize upd H pd (.dK [])=H1 at s1 k1 ⊢;ext;refine⟨a,us,rfl,.inl (s1.seq hS),qo,λpt hpt=>?_⟩;have s2:=a0d hpt (.lst us.reverse);have k2:(upd H1 pt (.lst us.reverse)) pt=some (.lst us.reverse):=a0c;generalize upd H1 pt (.lst us.reverse)=H2 at s2 k2 ⊢;have hpt0:H pt=none:=a4c s1 hpt;have hne:pd≠pt:=λz=>by rw[z,hpt]at k1;cases k1
 have d2:DenL K H2 us.reverse (Trm.dataL ts.reverse):=by rw[<-b7j];exact My.DenL.rev (hd.mono (s1.trans s2))
 ext;refine a8u (λn σ' H'=>∃(ws:List V)(st:List Trm)(acc:List Str)(o1:Option V),σ'=[some (.ref a),some (.ref pd),some (.ref pt),o1]/\H' pt=some (.lst ws)/\DenL K H' ws (Trm.dataL st)/\H' pd=some (.dK (encB acc))/\acc.length+Trm.sizeL st<=1000/\ordL st.reverse acc=ordL ts []/\n=Trm.sizeL st/\Same H H') (Trm.sizeL ts.reverse) ⟨us.reverse,ts.reverse,[],none,rfl,k2,d2,s2 _ _ k1,by rw[b2c];simpa using hz,by rw[Us],rfl,s1.trans s2⟩ (λn σ' H' R hP kT kF=>?_);obtain⟨ws,st,acc,o1,rfl,h1,h2,h3,h4,h5,h6,h7⟩:=hP;ext;refine .inl ⟨ws,SqL.of h1,?_⟩;rcases nil_or_snoc' st with rfl|⟨st',t1,rfl⟩
 ·have e:ws=[]:=by have:=a3z h2;simpa using this
  subst e
  exists kF H'
  refine⟨pd,_,rfl,.inl h3,λpr hpr=>?_⟩;rw[c7m];rw[V9,ordL]at h5;rw[h5];exact q pr _ (a1f h7 (a4c h7 hpr)) (a4c h7 hpr) a0c
 ·rw[a7l]at h2;obtain⟨ws',w,rfl,g1,g2⟩:=DenL.snoc h2;have hwl:=a3z g1;have hsl:=Trm.len_le st';have e:(!(ws'++[w]).isEmpty)=true:=by simp
  rw[e];have hsz:=Trm.sizeL_app st' [t1];have hs1:Trm.sizeL [t1]=t1.size:=by simp[Trm.sizeL]
  have tpos:=t1.size_pos;rw[Vl,List.reverse_singleton,Wo,ordL]at h5;refine kT H' (λD' e1 e2 hnx hct=>?_);ext;refine⟨.inl ⟨rfl,_,SqL.of h1⟩,?_⟩
  exists c6d h1
  have f1:DenL K (upd H' pt (.lst ws')) ws' (Trm.dataL st'):=g1.lst h1;have f2:Den K (upd H' pt (.lst ws')) w t1.data:=g2.lst h1;have f3:Same H (upd H' pt (.lst ws')):=a1f h7 hpt0;have f4:(upd H' pt (.lst ws')) pt=some (.lst ws'):=a0c;have f5:(upd H' pt (.lst ws')) pd=some (.dK (encB acc)):=by rw[a0p hne];exact h3
  generalize upd H' pt (.lst ws')=J at f1 f2 f3 f4 f5 ⊢;cases t1 with
  |any x=>
   obtain⟨b,rfl,hb⟩:=a3w f2
   exists a0k hb (v:=.str anyS) rfl
   rw[Zn,q3];refine iteT ?_;ext
   exists a0k hb (v:=.str x) rfl
   refine⟨pd,_,rfl,DPut.k (k:=Sum.inr x) f5 (by rw[d0o,Yg];omega),?_⟩;rw[d0q];have bb:But pd J (upd J pd (.dK (encB (ord (.any x) acc)))):=a9z;have ol:=c2n (.any x) acc;refine hnx _ _ (Trm.sizeL st') qo ⟨ws',st',ord (.any x) acc,_,rfl,bb _ _ hne.symm f4,f1.monoT (c0j bb f5),a0c,qo,h5,rfl,c2r f3 bb hpd⟩
  |num m=>
   obtain⟨b,rfl,hb⟩:=a3v f2
   exists a0k hb (v:=.str numS) rfl
   rw[Zn,q1];refine iteF ?_;ext
   exists a0k hb (v:=.str numS) rfl
   refine iteB (λe=>absurd e qk) (λe=>?_);ext;rw[ord]at h5;exact hnx _ _ (Trm.sizeL st') qo ⟨ws',st',acc,_,rfl,f4,f1,f5,qo,h5,rfl,f3⟩
  |app sg ks=>
   obtain⟨b,c,ku,rfl,hb,hc,hk⟩:=a1x f2;have hkl:=a3z hk;have kl:=Trm.len_le ks;simp only[Trm.size]at hs1 tpos
   exists a0k hb (v:=.str appS) rfl
   rw[Zn,q2];refine iteF ?_;ext
   exists a0k hb (v:=.str appS) rfl
   refine iteB (λe=>?_) (λe=>absurd e qk);ext;refine⟨.inl ⟨rfl,_,SqL.of f4⟩,?_⟩;ext
   exists a0k hb (v:=.ref c) rfl
   refine⟨c,ku,rfl,.inr hc,qo,λpr hpr=>?_⟩;have s5:=a0d hpr (.lst ku.reverse);have k5:(upd J pr (.lst ku.reverse)) pr=some (.lst ku.reverse):=a0c;generalize upd J pr (.lst ku.reverse)=J5 at s5 k5 ⊢;ext
   exists c6c (s5 _ _ f4) k5 (ln (by rw[W0];omega))
   rw[ord]at h5;have sz:=Trm.sizeL_app st' ks.reverse;rw[b2c]at sz;have k6:=s5 _ _ f4;refine hnx _ _ (Trm.sizeL (st'++ks.reverse)) qo ⟨ws'++ku.reverse,st'++ks.reverse,acc,_,rfl,a0c,?_,?_,qo,?_,rfl,a1f (f3.trans s5) hpt0⟩
   ·rw[a7l,<-b7j];exact((f1.mono s5).append (My.DenL.rev (hk.mono s5))).lst k6
   ·rw[a0p hne];exact s5 _ _ f5
   ·rw[Vl,Us,c0e];exact h5
theorem ok_a7(T:Txt K mg t)  :FnOk P w K mg base CX0 1 t.a_a7 t.d_a7 ["sign","kids"] (b5s K):=by
 exists T.F_a7.ok sc_a7,b5s,(a0h (a0t (a1j (a0a a0j (a0a (mv 0) (a0a (a2n (b3v K rfl) rfl T.n_f3 Rp (a0a (mv 1) a0e)) a0e)))))),H,Q,E,hr,h
 rename_i sg p;obtain⟨us,ks,hS,hd,q⟩:=h;ext;refine b9g hS (λp2 hp2=>?_);have s2:=a0d hp2 (.tup us);have k2:(upd H p2 (.tup us)) p2=some (.tup us):=a0c;generalize upd H p2 (.tup us)=H2 at s2 k2 ⊢;ext;refine⟨ln (by show 3<=100000;decide),λp3 hp3=>?_⟩;have s3:=a0d hp3 (.tup [.str "app",.str sg,.ref p2]);exact q _ _ (s2.trans s3) (a2m (SqT.of a0c) (SqT.of (s3 _ _ k2)) (hd.mono (s2.trans s3)))
theorem c0w(T:Txt K mg t)(G_c4:FnOk P w K mg base CX0 1 t.a_c4 t.d_c4 ["terms"] (a6o K))(G_a9:FnOk P w K mg base CX0 72 t.a_a9 t.d_a9 ["term","names"] (a4i K 70)):FnOk P w K mg base CX0 73 t.a_b1 t.d_b1 ["terms"] (a6g K):=by
 exists T.F_b1.ok a6e,a6g,(a0g (a0s (i:=1) a6e.nd rfl (by nofun) b3s) (a0g (a7d Y3 rfl (a3s K rfl (a0r G_c4 hr.o rfl T.m_c4 T.F_c4.kp T.b_c4 .nil a0v (a0a (mv 0) a0e))) (a2f (i:=2) a6e.nd rfl (by nofun)) (a0g (a0s (i:=3) (hs:=a1y) a6e.nd rfl (by nofun) (a0l (a1m K rfl) (a0w c5u rfl T.n_a8 Zy (a0a (mv 1) a0e)) a0b)) (a0h (c2a (b7y hr) (mv 1) (mv 2) (pe_f2n (mv 3)) rfl)))) (a0h (a0t (a3f rfl (a3s K rfl (mv 0)) (a2t (a0n a6z) ["terms","names","name","number"] ["terms","names","name","number"] rfl rfl qk) (λ_ _ _ _ _=>a2s) (λ_ _ _ _ _=>(a0r G_a9 hr.o rfl T.m_a9 T.F_a9.kp T.b_a9 .nil a0v (a0a (mv 0) (a0a (mv 2) a0e))))))))),H,Q,E,hr,h
 rename_i a;obtain⟨us,ts,hS,hd,hz,hz70,q⟩:=h;have hul:=a3z hd;have tl:=Trm.len_le ts;ext;intro pd hpd;have s1:=a0d hpd (.dK []);have k1:(upd H pd (.dK [])) pd=some (.dK []):=a0c;generalize upd H pd (.dK [])=H1 at s1 k1 ⊢;ext;refine⟨us,ts,s1.seq hS,hd.mono s1,hz,λp H2 s2 hp kp=>?_⟩;have hu:=nodL ts;have hl:=b4g ts [];have hv:∀x∈a6b ts,x∈ordL ts []:=λx hx=>d0j hx
 have han:anew ts=renL (sub (mkA (λj _=>uS++tn (j+1)) 0 (ordL ts []))) ts:=rfl;generalize ordL ts []=u at hu hl hv kp han;rw[length_nil,Nat.zero_add]at hl;have hne:pd≠p:=λz=>by rw[<-z,k1]at hp;cases hp
 refine⟨p,rfl,⟨_,SqL.of kp⟩,?_⟩;refine a8e (a3r (xs:=u.map V.str)) (λi σ' J=>∃(o1 o2:Option V),σ'=[some (.ref a),some (.ref pd),o1,o2]/\J pd=some (.dK (encS (mkA (λj _=>uS++tn (j+1)) 0 (u.take i))))/\J p=some (.lst (u.map V.str))/\Same H J) ⟨none,none,rfl,by rw[Vs];exact s2 _ _ k1,kp,s1.trans s2⟩ (λi σ' J hP=>by obtain⟨_,_,_,_,h,_⟩:=hP;exact SqL.of h) (λi σ' J hi hP=>?_) (λσ' J hP=>?_)
 ·obtain⟨o1,o2,rfl,g1,g2,g3⟩:=hP;rw[length_map]at hi;rw[c7g hi];ext;refine⟨pd,_,rfl,g1,?_⟩;rw[c2o,c2p,Yi,Uj qo];ext;obtain⟨l1,l2,l3⟩:=fs_int (i:=(i:Int)+1) qo qo;refine⟨_,rfl,l1,l2,?_⟩;rw[l3];ext;refine⟨pd,_,rfl,DPut.k (k:=Sum.inr u[i]) g1 (by rw[c2o,c2p,Yi,Yg];omega),?_⟩;rw[put_mkA (λj _=>uS++tn (j+1)) hu hi (by show ofString "U"++tn ((i:Int)+1).toNat=uS++tn (i+1);rw[show((i:Int)+1).toNat=i+1 by omega];rfl)];have bb:=a9z (p:=pd) (H:=J) (o:=.dK (encS (mkA (λj _=>uS++tn (j+1)) 0 (u.take (i+1)))));exact⟨_,_,rfl,a0c,bb _ _ hne.symm g2,c2r g3 bb hpd⟩
 obtain⟨o1,o2,rfl,g1,g2,g3⟩:=hP;rw[length_map,List.take_length]at g1;ext;refine⟨a,rfl,⟨_,g3.seq hS⟩,λD hD=>?_⟩;refine a2i (a3r (xs:=us)) (λi ys J2=>Same J J2/\J2 D=some (.lst ys)/\DenL K J2 ys (Trm.dataL (renL (sub (mkA (λj _=>uS++tn (j+1)) 0 u)) (ts.take i)))) (ln qo) ⟨a0d hD _,a0c,by rw[Vs,renL];exact .nil⟩ (λi ys J2 hP=>hP.1.seq (g3.seq hS)) (λi ys J2 Q' hi hl' hP k=>?_) (λys J2 hl' hP=>?_)
 ·obtain⟨f1,f2,f3⟩:=hP;have hki:i<ts.length:=by omega
  obtain⟨hui,dk⟩:=c2q hd hki;ext;rw[getD_at hui];refine⟨ts[i],_,(dk.mono g3).mono f1,f1 _ _ g1,λx hx=>?_,hz70 _ (Xp hki),qo,λx J3 s3 dx=>?_⟩
  ·rw[b0n];exact hv x (vars_in (Xp hki) x hx)
  ·have g6:J3 D=some (.lst ys):=s3 _ _ f2;refine k _ _ g6 ⟨a1f (f1.trans s3) hD,a0c,?_⟩;rw[take_succ' hki,a5s,Zt,<-a5s,a7l];exact((f3.mono s3).append (.cons dx .nil)).lst g6
 obtain⟨f1,f2,f3⟩:=hP;rw[Y7 qo,<-han]at f3;exact q D ys J2 (g3.trans f1) (a4c g3 hD) f2 f3
end
section
variable{P:Program}{w:World}{K:W.Frag}{mg:Str->Option Value}{base:Heap}{t:Ad}
theorem c1l(T:Txt K mg t)  :FnOk P w K mg base CX0 1 t.a_c5 t.d_c5 ["sign"] (a9h):=by
 exists T.F_c5.ok c1f,a9h,(a0h (a0t (b8f (a1c b5b (mv 0) (a4n rfl T.m_f0) (by with_unfolding_all rfl)) (b8f (a1c b5b (mv 0) (a4n rfl T.m_f6) (by with_unfolding_all rfl)) (a2p (a1c b5b (mv 0) (a4n rfl T.m_f7) (by with_unfolding_all rfl))))))),H,Q,E,hr,h
 rename_i c;ext;have h:Q (.bl (inner c)) H:=h;unfold inner at h
 exists e
 ·rw[Zn]at e;rw[e]at h;exact h
 ·rw[Zn]at e;rw[e,V6]at h;ext
  exists e
  ·rw[Zn]at e;rw[e]at h;exact h
  ·rw[Zn]at e;rw[e,V6]at h;ext;rw[Zn];exact h
theorem c0x(T:Txt K mg t)(G_c5:FnOk P w K mg base CX0 1 t.a_c5 t.d_c5 ["sign"] (a9h)):FnOk P w K mg base CX0 2 t.a_d2 t.d_d2 ["text","firsts"] (a8q):=by
 exists T.F_d2.ok c0g,a8q,(a0g (a1a (PW.pt (a6v (a9m (a8k K rfl (a0w (kc_is K rfl) rfl T.n_g1 boot_isinstance (a0a (mv 0) (a0a (b9b rfl T.n_f9 boot_str) a0e))))) (a7c (a9m (b8z b8c b8c a0b (a0w (a1o K rfl) rfl T.n_a8 Zy (a0a (mv 0) a0e)) (pe_gint rfl T.m_f8)))))) (a0h (a0t a6u)) a0u) (a0h (a0t (a2k (a1c b5b (a0i (a0f K rfl) (mv 0) a0b (λ_ _=>rfl)) (mv 1) (by with_unfolding_all rfl)) (a2p (a0w (b5c K rfl rfl) rfl T.n_f2 S0 (a0a (a3f rfl (pi_str (mv 0)) (a2t (a0n a6y) ["text","firsts"] ["text","firsts"] rfl rfl qk) (λ_ _ _ _ _=>a2s) (λ_ _ _ _ _=>(a0r G_c5 hr.o rfl T.m_c5 T.F_c5.kp T.b_c5 .nil a0v (a0a (mv 0) a0e)))) a0e))))))),H,Q,E,hr,h
 rename_i z f;obtain⟨hz,q⟩:=h;ext;refine iteF ?_;ext
 exists mLen_s (ln qo)
 unfold called at q;have lo:decide ((1:Int)<=z.length)=false\/decide ((1:Int)<=z.length)=true/\decide ((z.length:Int)<=12)=false->Q (.bl false) H:=λc=>by
  have q:=q H (Same.refl H);rcases c with c|⟨c1,c2⟩
  ·rw[c]at q;simpa using q
  ·rw[c1,c2]at q;simpa using q
 exists e
 rotate_left
 ·ext;exact lo (.inl e)
 ext
 exists e2
 ·ext;refine lo (.inr ⟨e,?_⟩);cases d:decide ((z.length:Int)<=12)with
  |false=>rfl
  |true=>rw[d]at e2;cases e2
 have e2:decide ((z.length:Int)<=12)=true:=by
  cases d:decide ((z.length:Int)<=12)with
  |true=>rfl
  |false=>rw[d]at e2;cases e2
 rw[e,e2]at q;simp only[Bool.and_self,Ye]at q;have hp:0<z.length:=by have:=Zf e;omega
 ext
 exists b2t (ln qo) (len_fst hp)
 rw[Zn]
 exists e3
 rotate_left
 ·have e3:inS (fst z) f=false:=e3;rw[e3]at q;exact q H (Same.refl H)
 have e3:inS (fst z) f=true:=e3;rw[e3]at q;simp only[Ye]at q;ext;refine⟨z,rfl,λD hD=>?_⟩;refine a2i (row_str z) (λi ys H'=>Same H H'/\ys=((List.range i).map λk=>inner (one (z.cps.getD k 0))).map V.bl/\H' D=some (.lst ys)) (ln (by unfold Str.length at hz;omega)) ⟨a0d hD _,rfl,a0c⟩ (λ_ _ _ _=>trivial) (λi ys H' Q' hi hl hP k=>?_) (λys H' hl hP=>?_)
 ·obtain⟨h1,h2,h3⟩:=hP;ext;refine k _ _ h3 ⟨a1f h1 hD,?_,a0c⟩;rw[X4,Zt,Zt,h2];rfl
 ·obtain⟨h1,h2,h3⟩:=hP;ext;refine⟨_,SqL.of (h2▸h3),?_⟩;have:=q H' h1;rw[<-all_get z (λc=>inner (one c))]at this;exact this
theorem c4n(T:Txt K mg t)(G_d2:FnOk P w K mg base CX0 2 t.a_d2 t.d_d2 ["text","firsts"] (a8q)):FnOk P w K mg base CX0 3 t.a_d6 t.d_d6 ["text"] (b0u):=by
 exists T.F_d6.ok c3x,b0u,(a0h (a0t (a0r G_d2 hr.o rfl T.m_d2 T.F_d2.kp T.b_d2 .nil a0v (a0a (mv 0) (a0a (a4n rfl T.m_f0) a0e))))),H,Q,E,hr,h
 rename_i z;ext;exact h
theorem c1m(T:Txt K mg t)(G_d6:FnOk P w K mg base CX0 3 t.a_d6 t.d_d6 ["text"] (b0u)):FnOk P w K mg base CX0 4 t.a_b0 t.d_b0 ["term"] (a7b K):=by
 exists T.F_b0.ok c1g,a7b,(a0h (a0t (a2k (a1c a0x (a0i (a0f K rfl) (mv 0) a0b (λ_ _=>rfl)) a0j (a0m _)) (a2k (a0r G_d6 hr.o rfl T.m_d6 T.F_d6.kp T.b_d6 .nil a0v (a0a (a0i (a0f K rfl) (mv 0) a0b (λ_ _=>rfl)) a0e)) (a2p (a1c (b6h K rfl) (a0i (a0f K rfl) (mv 0) a0b (λ_ _=>rfl)) (a1j (a0a (a4n rfl T.m_e9) (a0a (a4n rfl T.m_e8) a0e))) (by with_unfolding_all rfl))))))),H,Q,E,hr,h
 rename_i v;obtain⟨s,ks,hd,hw,q⟩:=h;obtain⟨a,pa,us,rfl,hs,hb,hk⟩:=a1x hd;ext
 exists a0k hs (v:=.str appS) rfl
 refine iteB (λe=>?_) (λe=>absurd e qk);ext
 exists a0k hs (v:=.str s) rfl
 refine⟨hw,λH1 s1=>?_⟩;ext
 exists e1
 ·ext
  exists a0k (s1.tup hs) (v:=.str s) rfl
  refine⟨ln (by show 2<=100000;decide),λp1 hp1=>?_⟩;refine b0l [keepS,notS] (.inr (SqT.of a0c)) ?_;have:=q _ (s1.trans (a0d hp1 (.tup [.str keepS,.str notS])));rw[nmd,e1,Ye]at this;exact this
 ·have:=q _ s1;rw[nmd,e1,Yw]at this;exact this
theorem c4o(T:Txt K mg t)  :FnOk P w K mg base CX0 1 t.a_b3 t.d_b3 ["goal"] (a7z K):=by
 exists T.F_b3.ok c4a,a7z,(a0h (a0t (a1j (a0a (a0i (a0f K rfl) (mv 0) a0b (λ_ _=>rfl)) (a0a (a0w (a1o K rfl) rfl T.n_a8 Zy (a0a (a0i (a0f K rfl) (mv 0) a0b (λ_ _=>rfl)) a0e)) a0e))))),H,Q,E,hr,h
 rename_i v;obtain⟨s,ks,hd,q⟩:=h;obtain⟨a,pa,us,rfl,hs,hb,hk⟩:=a1x hd;ext
 exists a0k hs (v:=.str s) rfl
 exists a0k hs (v:=.ref pa) rfl
 exists a9t hb
 refine⟨ln (by show 2<=100000;decide),λp hp=>?_⟩;have hl:=hk.length;rw[Trm.dataL_map,length_map]at hl;exact q p _ (a0d hp _) (by rw[a0c,hl];rfl)
end
section
variable{P:Program}{w:World}{K:W.Frag}{mg:Str->Option Value}{base:Heap}{t:Ad}
theorem b6c(T:Txt K mg t)  :FnOk P w K mg base CX0 1 t.a_b4 t.d_b4 ["self","place","number","kind"] (a4v K t.k_a1):=by
 exists T.F_b4.ok b5n,a4v,(a0h (a0t (a2k (c9c a7u a7u (mv 1) (mv 2) (a0w (a1o K rfl) rfl T.n_a8 Zy (a0a (a7e (mv 0) rfl) a0e))) (a2p (a1c a0x (a0i (a0f K rfl) (a0i (a0f K rfl) (a7e (mv 0) rfl) (mv 2) (λ_ _=>rfl)) a0b (λ_ _=>rfl)) (mv 3) (a0m _)))))),H,Q,E,hr,h
 rename_i l i k z;obtain⟨rs,ws,wd,L,h0,rfl,q⟩:=h;obtain⟨dx,ru,rq,wo,kvs,eo,D,_,_⟩:=L.ex;obtain⟨uw,w1,w2⟩:=D.w;have hul:=w2.length;rw[length_map]at hul;ext
 exists e
 ·rw[e,Ye]at q;have e:=Zf e;ext;refine⟨l,_,dx,_,_,rfl,eo,T.cl_a1,T.no_a1_rows,b3d,?_⟩;ext
  exists a1v (SqL.of w1)
  exists e2
  ·have k1:k<(ws.length:Int):=by have:=Zf e2;omega
   rw[Zx k1,Ye]at q;obtain⟨us,u,g1,g2,g3,g4⟩:=D.row (k:=k.toNat) qo;ext;refine⟨l,_,dx,_,_,rfl,eo,T.cl_a1,T.no_a1_rows,b3d,?_⟩;ext
   exists a1h (SqL.of g1) (a2h qo g3)
   unfold noAt at q;rw[Zb (show k.toNat<ws.length by omega)]at q;cases hr:ws[k.toNat]'(by omega)with
   |yes g n ks=>
    rw[hr]at g4 q;obtain⟨a,gv,kp,rfl,h1,_⟩:=c0q g4
    exists a0k h1 (v:=.str yesS) rfl
    exact q
   |no gs=>
    rw[hr]at g4 q;obtain⟨a,gp,fp,us2,rfl,h1,_⟩:=b8l g4
    exists a0k h1 (v:=.str noS) rfl
    exact q
  ·have k1:¬k<(ws.length:Int):=by have:=Zq e2;omega
   ext;rw[Zo k1,Yw]at q;exact q
 ·ext;rw[e,Yw]at q;exact q
theorem b2m(T:Txt K mg t)(G_b4:FnOk P w K mg base CX0 1 t.a_b4 t.d_b4 ["self","place","number","kind"] (a4v K t.k_a1)):FnOk P w K mg base CX0 2 t.a_e3 t.d_e3 ["self","place","number","goal"] (a5h K t.k_a1):=by
 exists T.F_e3.ok b1y,a5h,(a0h (a0t (a2k (a8d (mv 0) T.cl_a1 T.me_b4 G_b4 hr.o T.b_b4 .nil a0v (a0a (mv 1) (a0a (mv 2) (a0a a0j a0e)))) (a2p (a1c (ko_eqT1 K rfl (a3u hr)) (a0i (a0f K rfl) (a0i (a0f K rfl) (a7e (mv 0) rfl) (mv 2) (λ_ _=>rfl)) a0b (λ_ _=>rfl)) (a1u (a0a (mv 3) a0e)) (a0m _)))))),H,Q,E,hr,h
 rename_i l i k gv;obtain⟨rs,ws,wd,goal,L,h0,hg,hz,q⟩:=h;obtain⟨dx,ru,rq,wo,kvs,eo,D,_,_⟩:=L.ex;have ei:((i.toNat:Nat):Int)=i:=by omega
 ext;refine⟨l,dx,_,rfl,eo,b3e qk,?_⟩;ext;refine⟨rs,ws,wd,L,h0,rfl,?_⟩;ext;unfold noOf at q;rw[ei]at q;cases hd:noAt ws k with
 |none=>
  rw[hd]at q;have q:∀J,Same H J->Q (.bl (decide (i<k)&&(decide (k<(ws.length:Int))&&false))) J:=q;rw[Xj,Xj]at q;rw[Option.isSome_none,Xj,Xj];refine iteF ?_;exact q _ (Same.refl _)
 |some hs=>
  rw[hd]at q;have q:∀J,Same H J->Q (.bl (decide (i<k)&&(decide (k<(ws.length:Int))&&eqT1 hs goal))) J:=q;rw[Rs,V7]
  exists e
  ·obtain⟨e1,e2⟩:=Wu.mp e;rw[e1,e2,Ye,Ye]at q;have e1:=Zf e1;obtain⟨hk,hw⟩:=c8b hd;obtain⟨us,u,g1,g2,g3,g4⟩:=D.row hk;have hwo:=D.wo _ (Xp hk);rw[hw]at g4 hwo;obtain⟨a,gp,fp,us2,rfl,h1,h2,h3,h4⟩:=b8l g4;ext;refine⟨l,_,dx,_,_,rfl,eo,T.cl_a1,T.no_a1_rows,b3d,?_⟩;ext
   exists a1h (SqL.of g1) (a2h qo g3)
   exists a0k h1 (v:=.ref gp) rfl
   refine⟨ln (by show 1<=100000;decide),λp1 hp1=>?_⟩;have sp1:Same H (upd H p1 (.lst [gv])):=a0d hp1 _;have kp1:(upd H p1 (.lst [gv])) p1=some (.lst [gv]):=a0c;generalize upd H p1 (.lst [gv])=H1 at sp1 kp1 ⊢;ext;refine mEqT1_i (SqL.of (sp1 _ _ h2)) (SqL.of kp1) (h3.mono sp1) (hg.mono sp1) (λt ht=>by have:=(hwo.2.2 t ht).2.1;omega) ?_;exact q _ sp1
  ·rw[<-Bool.and_assoc,e,Yw]at q;exact q _ (Same.refl _)
end
section
variable{P:Program}{w:World}{K:W.Frag}{mg:Str->Option Value}{base:Heap}{t:Ad}
theorem b1b(T:Txt K mg t)(G_b6:FnOk P w K mg base CX0 2 t.a_b6 t.d_b6 ["one","other","puts"] (b0x K))(G_b4:FnOk P w K mg base CX0 1 t.a_b4 t.d_b4 ["self","place","number","kind"] (a4v K t.k_a1)):FnOk P w K mg base CX0 3 t.a_d9 t.d_d9 ["self","place","goal","number","kids"] (a4j K t.k_a1):=by
 exists T.F_d9.ok a2d,a4j,(a0g (a1a (a9m (b8z b8c b8c a0b (mv 3) (a0w (a1o K rfl) rfl T.n_a8 Zy (a0a (a7e (mv 0) rfl) a0e)))) (a0h (a0t a6u)) a0u) (a0g (a0s (i:=5) (hs:=b5j) a2d.nd rfl (by nofun) (a0i (a0f K rfl) (a7e (mv 0) rfl) (a0l a3b (mv 3) a0b) (λ_ _=>rfl))) (a0g (a1a (PW.pt (a6v (a0q b5a (a0w (a1o K rfl) rfl T.n_a8 Zy (a0a (mv 4) a0e)) (a0w (a1o K rfl) rfl T.n_a8 Zy (a0a (a0i (a0f K rfl) (mv 5) a0b (λ_ _=>rfl)) a0e)) (a0m _)) (a7c (a9m (a8k K rfl (a0w (b5c K rfl rfl) rfl T.n_f2 S0 (a0a (a3f rfl (a3s K rfl (mv 4)) (a2t (a0n a3j) ["self","place","goal","number","kids","told","puts","asked","kid"] ["self","place","goal","number","kids","told","puts","asked","%kid"] rfl rfl qk) (λ_ _ _ _ _=>a2s) (λ_ _ _ _ _=>(a8d (mv 1) T.cl_a1 T.me_b4 G_b4 hr.o T.b_b4 .nil a0v (a0a (mv 2) (a0a (mv 0) (a0a a0j a0e)))))) a0e))))))) (a0h (a0t a6u)) a0u) (a0g (a0s (i:=6) (hs:=a1g) a2d.nd rfl (by nofun) (a0r G_b6 hr.o rfl T.m_b6 T.F_b6.kp T.b_b6 .nil a0v (a0a (a0i (a0f K rfl) (mv 5) a0b (λ_ _=>rfl)) (a0a (mv 2) (a0a b3s a0e))))) (a0g (a7d Y3 rfl (d0f K rfl rfl T.n_f5 (a0a (a0i (a0f K rfl) (mv 5) a0b (λ_ _=>rfl)) (a0a (mv 4) a0e))) (b2w K rfl rfl (a3a (a2f (i:=7) a2d.nd rfl (by nofun)) (a3a (a2f (i:=8) a2d.nd rfl (by nofun)) a9n))) (a0h (a1a (a0q b2v (mv 6) a3n (a0m _)) (a0h (a0s (i:=6) (hs:=a1g) a2d.nd rfl (by nofun) (a0r G_b6 hr.o rfl T.m_b6 T.F_b6.kp T.b_b6 .nil a0v (a0a (mv 7) (a0a (a0i (a0f K rfl) (a0i (a0f K rfl) (a7e (mv 0) rfl) (mv 8) (λ_ _=>rfl)) a0b (λ_ _=>rfl)) (a0a (mv 6) a0e)))))) a0u))) (a0h (a0t (a1c b2v (mv 6) a3n (a0m _))))))))),H,Q,E,hr,h
 rename_i l i gv n kp;obtain⟨rs,ws,wd,goal,L,h0,hg,hz,hk,q⟩:=h;obtain⟨dx,ru,rq,wo,kvs,eo,D,_,_⟩:=L.ex;obtain⟨ur,r1,r2⟩:=D.r;have hur:=r2.length;rw[length_map]at hur;unfold byR at q;ext
 exists e
 rotate_left
 ·ext;refine iteT ?_;ext;rw[e,Yw]at q;exact q _ (Same.refl _)
 have n1:1<=n:=Zf e;rw[e,Ye]at q;refine⟨l,_,dx,_,_,rfl,eo,T.cl_a1,T.no_a1_rules,c0p,?_⟩;ext
 exists a1v (SqL.of r1)
 exists e2
 ·have n2:¬n<=(ur.length:Int):=λz=>by rw[Zx z]at e2;cases e2
  ext;rw[X2 qo]at q;exact q _ (Same.refl _)
 have n2:n<=(ur.length:Int):=by
  cases d:decide (n<=(ur.length:Int))with
  |true=>exact Zf d
  |false=>rw[d]at e2;cases e2
 have hk1:(n-1).toNat<rs.length:=by omega
 obtain⟨u,ta,hv,gp,ug,g1,rfl,g3,g4,g5,g6⟩:=rule_at r2 hk1;obtain⟨hru,he⟩:=D.ro _ (Xp hk1);rw[Zb hk1]at q;generalize rs[(n-1).toNat]=x at q g4 g6 hru he;rw[he]at g6;cases g6;have q:∀J,Same H J->Q (.bl (mt x.1 goal []).isSome) J:=q;have z1:=hru.z1;ext;refine⟨l,_,dx,_,_,rfl,eo,T.cl_a1,T.no_a1_rules,c0p,?_⟩;ext
 exists a1h (SqL.of r1) (a2h qo g1)
 exists a1v (SqL.of hk)
 exists a0k g3 (v:=.ref gp) rfl
 exists a9t g5
 refine iteB (λe3=>absurd e3 qz) (λe3=>?_);ext;refine⟨kp,rfl,⟨_,SqL.of hk⟩,λD1 hD1=>?_⟩;refine a2i (a3r (xs:=([]:List V))) (λj ys J=>Same H J/\ys=[]/\J D1=some (.lst ys)) (ln (Yx _)) ⟨a0d hD1 _,rfl,a0c⟩ (λj ys J hP=>hP.1.seq (SqL.of hk)) (λj ys J Q' hj hl hP k=>by simp at hj) (λys J hl hP=>?_);obtain⟨s1,rfl,h3⟩:=hP;ext;refine⟨[],SqL.of h3,?_⟩
 exists tru_eq (b':=true) rfl
 refine iteF ?_;ext
 exists a0k (s1.tup g3) (v:=hv) rfl
 intro pn hpn;have sn:=a0d hpn (.dK []);have kn:(upd J pn (.dK [])) pn=some (.dK []):=a0c;generalize upd J pn (.dK [])=J1 at sn kn ⊢;have s2:=s1.trans sn;ext;refine⟨x.1,goal,[],g4.mono s2,hg.mono s2,⟨[],kn,.nil⟩,⟨qz,λr hr=>by simp at hr⟩,qo,qo,on_m λw J2 s3 iw=>?_⟩;have s4:=s2.trans s3;ext
 exists a0k (s4.tup g3) (v:=.ref gp) rfl
 refine⟨gp,kp,[],[],rfl,s4.tup g5,SqL.of (s4 _ _ hk),rfl,?_⟩;refine d0g (xs:=([]:List V)) (ys:=([]:List V)) rfl (λj σ' J=>σ'=[some (.ref l),some (.int i),some gv,some (.int n),some (.ref kp),some (.ref ta),some w,none,none]/\J=J2) ⟨rfl,rfl⟩ (λj σ' J hP=>by rw[hP.2];exact⟨s4.tup g5,SqL.of (s4 _ _ hk)⟩) (λj σ' J T' hj hP hT=>by simp at hj) (λσ' J hP=>?_);obtain⟨rfl,hJ⟩:=hP;rw[hJ];ext;have q:=q _ s4;cases hm:mt x.1 goal []with
 |none=>
  rw[hm]at iw q;obtain rfl:w=.non:=iw;refine⟨rfl,?_⟩
  simpa using q
 |some rows=>
  rw[hm]at iw q;obtain⟨pw,rfl,hpw⟩:∃p,w=.ref p/\a4s K J2 p rows:=iw;refine⟨rfl,?_⟩
  simpa using q
end
section
variable{P:Program}{w:World}{K:W.Frag}{mg:Str->Option Value}{base:Heap}{t:Ad}
theorem b2n(T:Txt K mg t)  :FnOk P w K mg base CX0 1 t.a_c1 t.d_c1 ["self","words","row"] (a5b K):=by
 exists T.F_c1.ok b1x,a5b,(a0g (a4m (c9l rfl T.n_g5 (a0a (mv 0) (a0a (mv 1) a0e)))) (a0h (c2g (mv 0) (mv 2)))),H,Q,E,hr,h
 rename_i e v r;obtain⟨C,bm,fr,Xc,U,Xa,n1,hx,q⟩:=h;ext;refine⟨e,C,none,fr,bm,v,rfl,hx,Xc,?_⟩;ext;refine⟨e,C,bm,fr,rfl,Xc,U,Xa,n1,.inl ⟨hx,λdx hdx hne=>?_⟩⟩;refine q _ ⟨⟨dx,hdx,hne,a0c,by rw[a0p hne];exact a0c⟩,λb hb o ho=>?_⟩;rw[a0p hb,a0p (λz=>by rw[z,hdx]at ho;cases ho)];exact ho
theorem b7u(T:Txt K mg t)(G_c1:FnOk P w K mg base CX0 1 t.a_c1 t.d_c1 ["self","words","row"] (a5b K)):FnOk P w K mg base CX0 3 t.a_a4 t.d_a4 ["self","word","row"] (a3m K):=by
 exists T.F_a4.ok b7t,a3m,(a0g (a4m (pe_clsm T.cm_d0 G_c1 hr.o rfl T.m_d0 T.b_c1 .nil a0v (a0a (mv 0) (a0a (mv 1) (a0a (mv 2) a0e))))) (a0h (c2g (mv 0) (mv 1)))),H,Q,E,hr,h
 rename_i e w r;obtain⟨C,bm,fr,Xc,U,Xa,n1,n2,hx,q⟩:=h;ext;refine⟨C,bm,fr,Xc,U,Xa,n1,hx,λH1 b1=>?_⟩;ext;obtain⟨⟨dx,a1,a2,a3,a4⟩,k1⟩:=b1;refine⟨e,C,bm,fr,rfl,Xc,U,Xa,n2,.inr ⟨dx,_,a3,a4,qz,?_⟩⟩;have ep:putF (ofString "word") (.str w) [(rowS,.int r)]=[(rowS,.int r),(b5i,.str w)]:=by
  show(if rowS=ofString "word" then _ else _)=_
  rw[if_neg qk];rfl
 refine q _ ⟨⟨dx,a1,a2,by rw[a0p (Ne.symm a2)];exact a3,by rw[a0c];exact Y0 (λz=>some (HO.xd z)) ep⟩,λb hb o ho=>?_⟩;rw[a0p (λz=>by rw[z,a1]at ho;cases ho)];exact k1 b hb o ho
theorem b6d(T:Txt K mg t)(G_a4:FnOk P w K mg base CX0 3 t.a_a4 t.d_a4 ["self","word","row"] (a3m K)):FnOk P w K mg base (CXo P w) 5 t.a_b5 t.d_b5 ["n"] (a4u t.k_a2):=by
 exists T.F_b5.okX b5o,a4u,(a0g (a1a (a0q mo_ge (a0w c6i rfl T.n_g2 Ss (a0a (mv 0) a0e)) (a0l a9s a0b a0b) (a0m _)) (a0h (b0k rfl b2x (b0j T.mk_a2 G_a4 hr.o rfl T.m_a2 T.bd_a4 (show Vals [V.int 0] [Value.int 0 t.w_a4_0]from(.cons ⟨_,rfl⟩ .nil)) a0v (a0a a0j a0e)))) a0u) (a0h (a0t (mv 0)))),H,Q,E,hr,h
 rename_i n;ext
 exists m2_i (C:=CPow) ⟨qd,qd,qd⟩
 exists e
 ·have hn:near n=.inr farS:=if_pos (Zf e);rw[hn]at h;ext;refine⟨qz,λea hea=>?_⟩;refine⟨t.k_a2,_,true,T.x_a2,T.u_a2,T.at_a2,T.no_a2_row,T.no_a2_word,a0c,λH9 b9=>⟨rfl,?_⟩⟩;obtain⟨dx9,h91,h92,h93⟩:=a7x hea (Same.refl _) hea b9;refine⟨ea,t.k_a2,dx9,_,rfl,T.x_a2,h91,?_⟩;exact h ea _ h93 h92
 ·have hn:near n=.inl n:=if_neg (Zq e);rw[hn]at h;ext;exact h _ (Same.refl _)
theorem c4p(T:Txt K mg t)(G_a4:FnOk P w K mg base CX0 3 t.a_a4 t.d_a4 ["self","word","row"] (a3m K)):FnOk P w K mg base (CXo P w) 5 t.a_c0 t.d_c0 ["mark","left","right"] (a8b t.k_a2):=by
 exists T.F_c0.okX c3y,a8b,(a0g (a1a (a0q a0x (mv 0) a0j (a0m _)) (a0h (a0t (a0l (a1m K rfl) (mv 1) (mv 2)))) a0u) (a0g (a1a (a0q a0x (mv 0) a0j (a0m _)) (a0h (a0t (a0l a3b (mv 1) (mv 2)))) a0u) (a0g (a1a (a0q a0x (mv 0) a0j (a0m _)) (a0h (a0t (a0l a4y (mv 1) (mv 2)))) a0u) (a0g (a1a (a0q a0x (mv 2) a0b (a0m _)) (a0h (b0k rfl b2x (b0j T.mk_a2 G_a4 hr.o rfl T.m_a2 T.bd_a4 (show Vals [V.int 0] [Value.int 0 t.w_a4_0]from(.cons ⟨_,rfl⟩ .nil)) a0v (a0a a0j a0e)))) a0u) (a0h (a0t (a8i (a0q a0x (mv 0) a0j (a0m _)) (a0l b3x (mv 1) (mv 2)) (a0l mo_modN (mv 1) (mv 2))))))))),H,Q,E,hr,h
 rename_i m l r;obtain⟨hm,hl,hr1,q⟩:=h;ext
 exists e
 ·have hm:a2a m l r=.inl (l+r):=if_pos (Zf (by simpa using e));rw[hm]at q;ext;exact q _ (Same.refl _)
 have n1:¬m=a3q:=Zq (a3h e);ext
 exists e
 ·have hm:a2a m l r=.inl (l-r):=by unfold a2a;rw[if_neg n1,if_pos (Zf (by simpa using e))]
  rw[hm]at q;ext;exact q _ (Same.refl _)
 have n2:¬m=a1i:=Zq (a3h e);ext
 exists e
 ·have hm:a2a m l r=.inl (l*r):=by unfold a2a;rw[if_neg n1,if_neg n2,if_pos (Zf (by simpa using e))]
  rw[hm]at q;ext;refine a4l (b2f hl hr1) ?_;exact q _ (Same.refl _)
 have n3:¬m=a1r:=Zq (a3h e);ext
 exists e
 ·have hm:a2a m l r=.inr b3c:=by unfold a2a;rw[if_neg n1,if_neg n2,if_neg n3,if_pos (Zf (by simpa using e))]
  rw[hm]at q;ext;refine⟨qz,λea hea=>?_⟩;refine⟨t.k_a2,_,true,T.x_a2,T.u_a2,T.at_a2,T.no_a2_row,T.no_a2_word,a0c,λH9 b9=>⟨rfl,?_⟩⟩;obtain⟨dx9,h91,h92,h93⟩:=a7x hea (Same.refl _) hea b9;refine⟨ea,t.k_a2,dx9,_,rfl,T.x_a2,h91,?_⟩;exact q ea _ h93 h92
 have n4:¬r=0:=Zq (a3h e);ext
 exists e
 ·have hm:a2a m l r=.inl (l.fdiv r):=by unfold a2a;rw[if_neg n1,if_neg n2,if_neg n3,if_neg n4,if_pos (Zf (by simpa using e))]
  rw[hm]at q;ext;refine m2_i (b2g hr1 n4) ?_;exact q _ (Same.refl _)
 ·have n5:¬m=a1n:=Zq (a3h e);have hm:a2a m l r=.inl (l.fmod r):=by unfold a2a;rw[if_neg n1,if_neg n2,if_neg n3,if_neg n4,if_neg n5]
  rw[hm]at q;ext;refine m2_i n4 ?_;exact q _ (Same.refl _)
theorem c1n{K:W.Frag}{H:Hp}{v:V}{C:Addr}{Q:VK}{E:XK}(h:∃t:Trm,Den K H v t.data/\wfT t/\t.size<=0/\a8y H C Q E (ev t)):False:=by
 obtain⟨t,_,_,h,_⟩:=h;have:=Trm.size_pos t;omega
theorem c1o(T:Txt K mg t)(G_b5:FnOk P w K mg base (CXo P w) 5 t.a_b5 t.d_b5 ["n"] (a4u t.k_a2))(G_a4:FnOk P w K mg base CX0 3 t.a_a4 t.d_a4 ["self","word","row"] (a3m K))(G_c0:FnOk P w K mg base (CXo P w) 5 t.a_c0 t.d_c0 ["mark","left","right"] (a8b t.k_a2))(n:Nat)(G_a3:FnOk P w K mg base (CXo P w) (n+5) t.a_a3 t.d_a3 ["term"] (a3d K t.k_a2 n)):FnOk P w K mg base (CXo P w) (n+5+1) t.a_a3 t.d_a3 ["term"] (a3d K t.k_a2 (n+1)):=by
 exists T.F_a3.okX (k:=n+5) a9g,a3d,(a0g (a1a (a0q a0x (a0i (a0f K rfl) (mv 0) a0b (λ_ _=>rfl)) a0j (a0m _)) (a0h (a0t (a0i (a0f K rfl) (mv 0) a0b (λ_ _=>rfl)))) a0u) (a0g (a1a (a0q a0x (a0i (a0f K rfl) (mv 0) a0b (λ_ _=>rfl)) a0j (a0m _)) (a0h (b0k rfl b2x (b0j T.mk_a2 G_a4 hr.o rfl T.m_a2 T.bd_a4 (show Vals [V.int 0] [Value.int 0 t.w_a4_0]from(.cons ⟨_,rfl⟩ .nil)) a0v (a0a a0j a0e)))) a0u) (a0g (a1a (a0q (b6h K rfl) (a0i (a0f K rfl) (mv 0) a0b (λ_ _=>rfl)) (b2p (v:=.ref t.c_e6) rfl T.m_e6 rfl) (by with_unfolding_all rfl)) (a0h (b0k rfl b2x (b0j T.mk_a2 G_a4 hr.o rfl T.m_a2 T.bd_a4 (show Vals [V.int 0] [Value.int 0 t.w_a4_0]from(.cons ⟨_,rfl⟩ .nil)) a0v (a0a a0j a0e)))) a0u) (a0g (a0s (i:=1) (hs:=a1g) a9g.nd rfl (by nofun) (a0r G_a3 hr.o rfl T.m_a3 T.F_a3.kp T.b_a3 .nil a7w (a0a (a0i (a0f K rfl) (a0i (a0f K rfl) (mv 0) a0b (λ_ _=>rfl)) a0b (λ_ _=>rfl)) a0e))) (a0g (a0s (i:=2) (hs:=a1g) a9g.nd rfl (by nofun) (a0r G_a3 hr.o rfl T.m_a3 T.F_a3.kp T.b_a3 .nil a7w (a0a (a0i (a0f K rfl) (a0i (a0f K rfl) (mv 0) a0b (λ_ _=>rfl)) a0b (λ_ _=>rfl)) a0e))) (a0h (a0t (a0r G_b5 hr.o rfl T.m_b5 T.F_b5.kp T.b_b5 .nil a7w (a0a (a0r G_c0 hr.o rfl T.m_c0 T.F_c0.kp T.b_c0 .nil a7w (a0a (a0i (a0f K rfl) (mv 0) a0b (λ_ _=>rfl)) (a0a (mv 1) (a0a (mv 2) a0e)))) a0e))))))))),H,Q,E,hr,h
 rename_i v;obtain⟨t0,hd,hw,hz,q⟩:=h;cases t0 with
 |num k=>
  obtain⟨a,rfl,hs⟩:=a3v hd;ext
  exists a0k hs (v:=.str numS) rfl
  refine iteB (λe=>?_) (λe=>absurd e qk);ext;refine a0k hs (v:=.int k) rfl ?_;have e1:ev (.num k)=.inl k:=by simp only[ev]
  rw[e1]at q;exact q _ (Same.refl _)
 |any x=>
  obtain⟨a,rfl,hs⟩:=a3w hd;ext
  exists a0k hs (v:=.str anyS) rfl
  refine iteB (λe=>absurd e qk) (λe=>?_);ext
  exists a0k hs (v:=.str anyS) rfl
  refine iteB (λe=>?_) (λe=>absurd e qk);have e1:ev (.any x)=.inr openS:=by simp only[ev]
  rw[e1]at q;ext;refine⟨qz,λea hea=>?_⟩;refine⟨t.k_a2,_,true,T.x_a2,T.u_a2,T.at_a2,T.no_a2_row,T.no_a2_word,a0c,λH9 b9=>⟨rfl,?_⟩⟩;obtain⟨dx9,h91,h92,h93⟩:=a7x hea (Same.refl _) hea b9;refine⟨ea,t.k_a2,dx9,_,rfl,T.x_a2,h91,?_⟩;exact q ea _ h93 h92
 |app sg ks=>
  obtain⟨a,b,us,rfl,hs,hb,hk⟩:=a1x hd;ext
  exists a0k hs (v:=.str appS) rfl
  refine iteB (λe=>absurd e qk) (λe=>?_);ext
  exists a0k hs (v:=.str appS) rfl
  refine iteB (λe=>absurd e qk) (λe=>?_);ext
  exists a0k hs (v:=.str sg) rfl
  exists b0l five (.inr (T.q_e6 _))
  exists e
  ·have e1:ev (.app sg ks)=.inr b8k:=c2v (by simpa using e);rw[e1]at q;ext;refine⟨qz,λea hea=>?_⟩;refine⟨t.k_a2,_,true,T.x_a2,T.u_a2,T.at_a2,T.no_a2_row,T.no_a2_word,a0c,λH9 b9=>⟨rfl,?_⟩⟩;obtain⟨dx9,h91,h92,h93⟩:=a7x hea (Same.refl _) hea b9;refine⟨ea,t.k_a2,dx9,_,rfl,T.x_a2,h91,?_⟩;exact q ea _ h93 h92
  ·have hm:sg∈five:=by simpa using e
   obtain⟨hw1,hw2⟩:=hw
   match ks,hw1 hm,hw2,hz,hk,q with
   | [x,y],_,hw2,hz,hk,q=>
    obtain⟨z1,z2,rfl,g1,g2⟩:=two_dat hk;simp only[Trm.size,Trm.sizeL]at hz;rw[c7r hm]at q;ext
    exists a0k hs (v:=.ref b) rfl
    exists a0k hb (v:=z1) rfl
    refine⟨x,g1,hw2.1,qo,?_⟩;cases ex:ev x with
    |inr w=>
     rw[ex]at q;exactλea H' s1 i1=>q ea H' s1 i1
    |inl l=>
     rw[ex]at q;refineλH1 s1=>?_
     ext
     exists a0k (s1.tup hs) (v:=.ref b) rfl
     exists a0k (s1.tup hb) (v:=z2) rfl
     refine⟨y,g2.mono s1,hw2.2.1,qo,?_⟩;cases ey:ev y with
     |inr w=>
      rw[ey]at q;exactλea H' s2 i1=>q ea H' (s1.trans s2) i1
     |inl r=>
      rw[ey]at q;refineλH2 s2=>?_
      have s12:=s1.trans s2;ext
      exists a0k (s12.tup hs) (v:=.str sg) rfl
      refine⟨hm,b4n hw2.1 ex,b4n hw2.2.1 ey,?_⟩;have eq:a6h sg (.inl l) (.inl r)=match a2a sg l r with| .inr w=>.inr w| .inl n=>near n:=rfl
      rw[eq]at q;cases em:a2a sg l r with
      |inr w=>
       rw[em]at q;exactλea H' s3 i1=>q ea H' (s12.trans s3) i1
      |inl n=>
       rw[em]at q;refineλH3 s3=>?_
       have s13:=s12.trans s3;ext;cases en:near n with
       |inr w=>
        have q:a8y H _ Q E (near n):=q;rw[en]at q
        show a8y H3 t.k_a2 Q E (near n)
        rw[en];exactλea H' s4 i1=>q ea H' (s13.trans s4) i1
       |inl n'=>
        have q:a8y H _ Q E (near n):=q;rw[en]at q
        show a8y H3 t.k_a2 Q E (near n)
        rw[en];exactλH4 s4=>q H4 (s13.trans s4)
theorem c1p(T:Txt K mg t)(G_b5:FnOk P w K mg base (CXo P w) 5 t.a_b5 t.d_b5 ["n"] (a4u t.k_a2))(G_a4:FnOk P w K mg base CX0 3 t.a_a4 t.d_a4 ["self","word","row"] (a3m K))(G_c0:FnOk P w K mg base (CXo P w) 5 t.a_c0 t.d_c0 ["mark","left","right"] (a8b t.k_a2))(n:Nat):FnOk P w K mg base (CXo P w) (n+5) t.a_a3 t.d_a3 ["term"] (a3d K t.k_a2 n):=by
 induction n with
 |zero=>
  have no:∀vs H Q E,(a3d K t.k_a2 0) vs H Q E->False:=λvs H Q E h=>by
   unfold a3d at h;split at h
   ·exact c1n h
   ·exact h
  exact⟨λvs H Q E h=>(no vs H Q E h).elim,λA outer s H args us vs Q E _ _ _ _ h=>(no vs H Q E h).elim⟩
 |succ n ih=>
  have e:n+1+5=n+5+1:=by omega
  rw[e];exact c1o T G_b5 G_a4 G_c0 n ih
end
section
variable{P:Program}{w:World}{K:W.Frag}{mg:Str->Option Value}{base:Heap}{t:Ad}
theorem d1f(T:Txt K mg t)(G_a3:FnOk P w K mg base (CXo P w) 105 t.a_a3 t.d_a3 ["term"] (a3d K t.k_a2 100)):FnOk P w K mg base (CXo P w) 106 t.a_c7 t.d_c7 ["goal"] (b4o K t.k_a2):=by
 exists T.F_c7.okX b4l,b4o,(a0g (a0s (i:=1) (hs:=a1g) b4l.nd rfl (by nofun) (a0r G_a3 hr.o rfl T.m_a3 T.F_a3.kp T.b_a3 .nil a7w (a0a (a0i (a0f K rfl) (a0i (a0f K rfl) (mv 0) a0b (λ_ _=>rfl)) a0b (λ_ _=>rfl)) a0e))) (a0g (a0s (i:=2) (hs:=a1g) b4l.nd rfl (by nofun) (a0r G_a3 hr.o rfl T.m_a3 T.F_a3.kp T.b_a3 .nil a7w (a0a (a0i (a0f K rfl) (a0i (a0f K rfl) (mv 0) a0b (λ_ _=>rfl)) a0b (λ_ _=>rfl)) a0e))) (a0h (a0t (b8f (a1c a7u (mv 1) (mv 2) (a0m _)) (a2p (a2k (a1c a0x (a0i (a0f K rfl) (mv 0) a0b (λ_ _=>rfl)) a0j (a0m _)) (a2p (a1c a0x (mv 1) (mv 2) (a0m _)))))))))),H,Q,E,hr,h
 rename_i v;obtain⟨s,a,b,hd,hs,wa,wb,hz,q⟩:=h;obtain⟨p,pa,us,rfl,h1,h2,h3⟩:=a1x hd;obtain⟨u1,u2,rfl,d1,d2⟩:=a8r h3;simp only[Trm.size,Trm.sizeL]at hz;have ne:a5g (.app s [a,b])=ltO s a b:=by
  rw[a9a];simp only[Zi,Zs,Yv]at hs;rcases hs with rfl|rfl<;>rw[if_neg qk,if_neg qk,if_neg qk]
 rw[ne]at q;unfold ltO numO at q;ext
 exists a0k h1 (v:=.ref pa) rfl
 exists a0k h2 (v:=u1) rfl
 refine⟨a,d1,wa,qo,?_⟩;cases ex:ev a with
 |inr w=>
  rw[ex]at q;exactλea H' s1 i1=>q w ea H' s1 i1
 |inl l=>
  rw[ex]at q;refineλH1 s1=>?_
  ext
  exists a0k (s1.tup h1) (v:=.ref pa) rfl
  exists a0k (s1.tup h2) (v:=u2) rfl
  refine⟨b,d2.mono s1,wb,qo,?_⟩;cases ey:ev b with
  |inr w=>
   rw[ey]at q;exactλea H' s2 i1=>q w ea H' (s1.trans s2) i1
  |inl r=>
   rw[ey]at q;have q:∀H',Same H H'->Q (.bl (decide (l<r)|| (decide (s=leS)&&decide (l=r)))) H':=q;refineλH2 s2=>?_
   have s12:=s1.trans s2;ext
   exists e
   ·rw[e,Sq]at q;exact q _ s12
   ·rw[e,V6]at q;ext
    exists a0k (s12.tup h1) (v:=.str s) rfl
    rw[Zn]
    exists e
    ·rw[show decide (s=leS)=true from e,Ye]at q;ext;rw[Zn];exact q _ s12
    ·rw[show decide (s=leS)=false from e,Yw]at q;exact q _ s12
theorem d1g(T:Txt K mg t)(G_c7:FnOk P w K mg base (CXo P w) 106 t.a_c7 t.d_c7 ["goal"] (b4o K t.k_a2))(G_c3:FnOk P w K mg base CX0 1 t.a_c3 t.d_c3 ["n"] (c0r K))(G_a3:FnOk P w K mg base (CXo P w) 105 t.a_a3 t.d_a3 ["term"] (a3d K t.k_a2 100)):FnOk P w K mg base (CXo P w) 107 t.a_d8 t.d_d8 ["goal"] (b4p K t.k_a2):=by
 exists T.F_d8.okX d0k,b4p,(a0g (a1a (a0q a0x (a0i (a0f K rfl) (mv 0) a0b (λ_ _=>rfl)) a0j (a0m _)) (a0h (a0t (a1c (b5k K rfl (a3u hr)) (a0i (a0f K rfl) (a0i (a0f K rfl) (mv 0) a0b (λ_ _=>rfl)) a0b (λ_ _=>rfl)) (a0i (a0f K rfl) (a0i (a0f K rfl) (mv 0) a0b (λ_ _=>rfl)) a0b (λ_ _=>rfl)) (a0m _)))) a0u) (a0g (a1a (a0q a0x (a0i (a0f K rfl) (mv 0) a0b (λ_ _=>rfl)) a0j (a0m _)) (a0h (a0t (a1c (b5k K rfl (a3u hr)) (a0i (a0f K rfl) (a0i (a0f K rfl) (mv 0) a0b (λ_ _=>rfl)) a0b (λ_ _=>rfl)) (a0r G_c3 hr.o rfl T.m_c3 T.F_c3.kp T.b_c3 .nil a0v (a0a (a0r G_a3 hr.o rfl T.m_a3 T.F_a3.kp T.b_a3 .nil a7w (a0a (a0i (a0f K rfl) (a0i (a0f K rfl) (mv 0) a0b (λ_ _=>rfl)) a0b (λ_ _=>rfl)) a0e)) a0e)) (a0m _)))) a0u) (a0h (a0t (a2k (a1c b5a (a0i (a0f K rfl) (mv 0) a0b (λ_ _=>rfl)) (a4n rfl T.m_e9) (a0m _)) (a2p (a0r G_c7 hr.o rfl T.m_c7 T.F_c7.kp T.b_c7 .nil a7w (a0a (mv 0) a0e)))))))),H,Q,E,hr,h
 rename_i v;obtain⟨g,hd,hg,hz,q⟩:=h;rcases hg with⟨s,a,b,rfl,hs,wa,wb⟩|rfl
 ·obtain⟨p,pa,us,rfl,h1,h2,h3⟩:=a1x hd;obtain⟨u1,u2,rfl,d1,d2⟩:=a8r h3;have hz1:=hz;simp only[Trm.size,Trm.sizeL]at hz1;ext
  exists a0k h1 (v:=.str s) rfl
  rw[Zn]
  exists e
  ·have e:s=eqS:=Zf e;rw[a9a,if_pos e]at q;ext
   exists a0k h1 (v:=.ref pa) rfl
   exists a0k h2 (v:=u1) rfl
   exists a0k h1 (v:=.ref pa) rfl
   exists a0k h2 (v:=u2) rfl
   refine a9w d1 d2 qo ?_;rw[Zn];exact q _ (Same.refl _)
  have n1:s≠eqS:=Zq e;ext
  exists a0k h1 (v:=.str s) rfl
  rw[Zn]
  exists e
  ·have e:s=asS:=Zf e;rw[a9a,if_neg n1,if_pos e]at q;unfold numO at q;ext
   exists a0k h1 (v:=.ref pa) rfl
   exists a0k h2 (v:=u1) rfl
   exists a0k h1 (v:=.ref pa) rfl
   exists a0k h2 (v:=u2) rfl
   refine⟨b,d2,wb,qo,?_⟩;cases ey:ev b with
   |inr w=>
    rw[ey]at q;exactλea H' s2 i1=>q w ea H' s2 i1
   |inl r=>
    rw[ey]at q;have q:∀H',Same H H'->Q (.bl (eqb a (.num r))) H':=q;refineλH1 s1=>?_
    ext;refineλv H2 s2 dv=>?_
    ext;refine a9w (d1.mono (s1.trans s2)) dv qo ?_;rw[Zn];exact q _ (s1.trans s2)
  have n2:s≠asS:=Zq e;have hs2:s∈[ltS,leS]:=by
   simp only[Zi,Zs,Yv]at hs ⊢;rcases hs with z|z|z
   ·exact absurd z n1
   ·exact absurd z n2
   ·exact z
  have n3:s≠keepS:=λz=>by rw[z]at hs2;exact absurd hs2 qk
  ext
  exists a0k h1 (v:=.str s) rfl
  rw[Zo n3];refine iteT ?_;ext;exact⟨s,a,b,hd,hs2,wa,wb,hz,q⟩
 ·obtain⟨p,pa,us,rfl,h1,h2,h3⟩:=a1x hd;ext
  exists a0k h1 (v:=.str keepS) rfl
  refine iteB (λe=>absurd e qk) (λe=>?_);ext
  exists a0k h1 (v:=.str keepS) rfl
  refine iteB (λe=>absurd e qk) (λe=>?_);ext
  exists a0k h1 (v:=.str keepS) rfl
  refine iteB (λe=>absurd e qk) (λe=>?_);exact q _ (Same.refl _)
end
section
variable{P:Program}{w:World}{K:W.Frag}{mg:Str->Option Value}{base:Heap}{t:Ad}
theorem b0a(T:Txt K mg t)(G_b0:FnOk P w K mg base CX0 4 t.a_b0 t.d_b0 ["term"] (a7b K))(G_d9:FnOk P w K mg base CX0 3 t.a_d9 t.d_d9 ["self","place","goal","number","kids"] (a4j K t.k_a1))(G_d8:FnOk P w K mg base (CXo P w) 107 t.a_d8 t.d_d8 ["goal"] (b4p K t.k_a2))(G_e3:FnOk P w K mg base CX0 2 t.a_e3 t.d_e3 ["self","place","number","goal"] (a5h K t.k_a1)):FnOk P w K mg base (CXo P w) 108 t.a_e2 t.d_e2 ["self","place","goal","number","kids"] (a4a K t.k_a1 t.k_a2):=by
 exists T.F_e2.okX a9y,a4a,(a0g (a1a (a8k K rfl (a0r G_b0 hr.o rfl T.m_b0 T.F_b0.kp T.b_b0 .nil a0v (a0a (mv 2) a0e))) (a0h (a0t (a8d (mv 0) T.cl_a1 T.me_d9 G_d9 hr.o T.b_d9 .nil a0v (a0a (mv 1) (a0a (mv 2) (a0a (mv 3) (a0a (mv 4) a0e))))))) a0u) (a0g (a1a (a0q b5a (mv 3) a0b (a0m _)) (a0h (a0t a6u)) a0u) (a0g (a1a (a0q a0x (a0i (a0f K rfl) (mv 2) a0b (λ_ _=>rfl)) (a4n rfl T.m_e8) (a0m _)) (a0h (a0t (a2k (a1c a0x (a0w (a1o K rfl) rfl T.n_a8 Zy (a0a (mv 4) a0e)) a0b (a0m _)) (a2p (a8d (mv 0) T.cl_a1 T.me_e3 G_e3 hr.o T.b_e3 .nil a0v (a0a (mv 1) (a0a (a0i (a0f K rfl) (mv 4) a0b (λ_ _=>rfl)) (a0a (a0i (a0f K rfl) (a0i (a0f K rfl) (mv 2) a0b (λ_ _=>rfl)) a0b (λ_ _=>rfl)) a0e)))))))) a0u) (a0h (a0t (a2k (ke_not K rfl (mv 4)) (a2p (a0r G_d8 hr.o rfl T.m_d8 T.F_d8.kp T.b_d8 .nil a7w (a0a (mv 2) a0e))))))))),H,Q,E,hr,h
 rename_i l i gv n kp;obtain⟨rs,ws,wd,goal,kids,L,h0,hg,hx,hk,q⟩:=h;obtain⟨hgl,hkl,hke⟩:=hx;have hz:=hgl.z;obtain⟨dx,ru,rq,wo,kvs,eo,D,_,_⟩:=L.ex;obtain⟨s,ks,rfl⟩:∃s ks,goal=.app s ks:=by
  cases hgl.k<;>exact⟨_,_,rfl⟩
 have hsl:s.length<=1000:=by
  cases hgl.k with
  |named h=>exact(D.wd'.w s h).ln
  |not=>decide+kernel
  |keep=>decide+kernel
  |mark h _ _=>
   simp only[Zi,Zs,Yv]at h;rcases h with rfl|rfl|rfl|rfl<;>decide+kernel
 rw[b3f]at q;ext;refine⟨s,ks,hg,hsl,λH1 s1=>?_⟩
 replace q:=q.same s1
 ext
 exists e
 ·rw[if_pos e]at q;have hsw:s∈wd:=by
   cases hgl.k with
   |named h=>exact h
   |not=>exact absurd e qk
   |keep=>exact absurd e qk
   |mark h _ _=>
    simp only[Zi,Zs,Yv]at h;rcases h with rfl|rfl|rfl|rfl<;>exact absurd e qk
  have hk0:=hke ⟨s,ks,rfl,hsw⟩;rw[hk0]at hk;ext;refine⟨l,dx,_,rfl,(s1 _ _ eo),b3e qk,?_⟩;ext;exact⟨rs,ws,wd,.app s ks,L.same s1,h0,hg.mono s1,hz,s1 _ _ hk,q⟩
 rw[if_neg (by rw[e];decide)]at q;ext
 exists e2
 ·have e2:n≠0:=by simpa using e2
  rw[if_pos e2]at q;ext;exact q _ (Same.refl _)
 have e2:¬n≠0:=by simpa using e2
 rw[if_neg e2]at q;obtain⟨p,pa,us,rfl,h1,h2,h3⟩:=a1x (hg.mono s1);ext
 exists a0k h1 (v:=.str s) rfl
 rw[Zn]
 exists e3
 ·have e3:s=notS:=Zf e3;rw[if_pos e3]at q;obtain⟨g1,rfl⟩:∃g1,ks=[g1]:=by
   subst e3;cases hgl.k with
   |named h=>exact absurd (b5u (D.wd'.w _ h)) qk
   |not=>exact⟨_,rfl⟩
   |mark h _ _=>exact absurd h qk
  simp only[Trm.dataL]at h3;cases h3 with
  |cons d1 d2=>
  cases d2;simp only[Trm.size,Trm.sizeL]at hz;ext
  exists a1v (SqL.of (s1 _ _ hk))
  rw[Zn,length_map]
  exists e4
  ·have e4:kids.length=1:=by have:=Zf e4;omega
   obtain⟨k,rfl⟩:=len1 e4;have q:∀J,Same H1 J->Q (.bl (noOf ws i.toNat k g1)) J:=q;ext;refine⟨l,dx,_,rfl,(s1 _ _ eo),b3e qk,?_⟩;ext
   exists a1h (SqL.of (s1 _ _ hk)) (v:=.int k) (a2h (Ut _) rfl)
   exists a0k h1 (v:=.ref pa) rfl
   exists a0k h2 (a2h (Ut _) rfl)
   exact⟨rs,ws,wd,g1,L.same s1,h0,d1,qo,q⟩
  ·have e4:kids.length≠1:=λz=>by rw[z]at e4;simp at e4
   have q:∀J,Same H1 J->Q (.bl false) J:=by
    match kids,e4,q with
    | [],_,q=>exact q
    | [_],e4,_=>exact absurd rfl e4
    |_::_::_,_,q=>exact q
   exact q _ (Same.refl _)
 have e3:s≠notS:=Zq e3;rw[if_neg e3]at q;ext;refine .inl ⟨_,SqL.of (s1 _ _ hk),?_⟩;have e5:(kids.map V.int).isEmpty=kids.isEmpty:=by cases kids<;>rfl
 rw[e5];ext;cases hke2:kids.isEmpty with
 |false=>
  rw[hke2]at q;refine iteF ?_;exact q _ (Same.refl _)
 |true=>
  rw[hke2,if_pos rfl]at q;refine iteT ?_;ext;refine⟨.app s ks,hg.mono s1,?_,hz,q⟩;cases hgl.k with
  |named h=>rw[b5u (D.wd'.w _ h)]at e;cases e
  |not=>exact absurd rfl e3
  |keep=>exact .inr rfl
  |mark h wa wb=>exact .inl ⟨_,_,_,rfl,h,wa,wb⟩
end
section
variable{P:Program}{w:World}{K:W.Frag}{mg:Str->Option Value}{base:Heap}{t:Ad}
theorem c1q(T:Txt K mg t)(G_b1:FnOk P w K mg base CX0 73 t.a_b1 t.d_b1 ["terms"] (a6g K))(G_b0:FnOk P w K mg base CX0 4 t.a_b0 t.d_b0 ["term"] (a7b K))(G_b3:FnOk P w K mg base CX0 1 t.a_b3 t.d_b3 ["goal"] (a7z K)):FnOk P w K mg base CX0 74 t.a_c6 t.d_c6 ["rules","goals"] (a9i K):=by
 exists T.F_c6.ok a7a,a9i,(a0g (a0s (i:=2) (hs:=a1g) a7a.nd rfl (by nofun) (a0r G_b1 hr.o rfl T.m_b1 T.F_b1.kp T.b_b1 .nil a0v (a0a (mv 1) a0e))) (a0g (a1a (a9m (a8k K rfl (a0r G_b0 hr.o rfl T.m_b0 T.F_b0.kp T.b_b0 .nil a0v (a0a (a0i (a0f K rfl) (mv 2) a0b (λ_ _=>rfl)) a0e)))) (a0h b0b) a0u) (a0g (a0s (i:=3) (hs:=a5c) a7a.nd rfl (by nofun) (a1u a0e)) (a0g (a7d Y3 rfl (a3s K rfl (c8z (b7y hr) (mv 0) (a0r G_b3 hr.o rfl T.m_b3 T.F_b3.kp T.b_b3 .nil a0v (a0a (a0i (a0f K rfl) (mv 2) a0b (λ_ _=>rfl)) a0e)) (a1u a0e) ⟨rfl,rfl,rfl,rfl⟩)) (a2f (i:=4) a7a.nd rfl (by nofun)) (a0g b0b (a0h b0b))) (a0h (a0t (mv 3))))))),H,Q,E,hr,h
 rename_i d gl;obtain⟨kvs,rs,us,ts,s,ks,hd,tb,hS,hD,hw,hn,hz,hl,q⟩:=h;have zz:Trm.sizeL (Trm.app s ks::ts)<=1000:=by
  have h1:=c0l hz;have h2:=S4 20 (show(Trm.app s ks::ts).length<=4 by rw[length_cons];omega);omega
 ext;refine⟨us,_,hS,hD,zz,λt ht=>by have:=hz t ht;omega,λp us' H1 s1 n1 k1 d1=>?_⟩;obtain⟨ks',ts',ea,el⟩:∃ks' ts',anew (Trm.app s ks::ts)=.app s ks'::ts'/\ks'.length=ks.length:=by
  unfold anew;rw[renL];generalize sub _=f;rw[ren];exact⟨_,_,rfl,by rw[a5s,length_map]⟩
 rw[ea]at d1;simp only[Trm.dataL]at d1
 match us',k1,d1 with
 |u0::ur,k1,d1=>
 cases d1 with
 |cons d0 dr=>
 ext
 exists a1h (SqL.of k1) (v:=u0) (a2h (Ut _) rfl)
 refine⟨s,ks',d0,hw.ln,λH2 s2=>?_⟩;rw[b5u hw];ext;refine iteF ?_;ext;refine⟨ln (by show 0<=100000;decide),λp3 hp3=>?_⟩;have sp3:Same H2 (upd H2 p3 (.lst [])):=a0d hp3 _;have kp3:(upd H2 p3 (.lst [])) p3=some (.lst []):=a0c;generalize upd H2 p3 (.lst [])=H3 at sp3 kp3 ⊢;ext;have s13:=s2.trans sp3;have s03:=s1.trans s13;refine⟨d,rfl,.inr ⟨kvs,.inl (s03 _ _ hd)⟩,?_⟩;ext
 exists a1h (SqL.of (s13 _ _ k1)) (v:=u0) (a2h (Ut _) rfl)
 refine⟨s,ks',d0.mono s13,λpw H4 s4 hp=>?_⟩;ext;refine⟨ln (by show 0<=100000;decide),λp5 hp5=>?_⟩;have sp5:Same H4 (upd H4 p5 (.lst [])):=a0d hp5 _;have kp5:(upd H4 p5 (.lst [])) p5=some (.lst []):=a0c;generalize upd H4 p5 (.lst [])=H5 at sp5 kp5 ⊢;ext;have s05:=s03.trans (s4.trans sp5);have tb5:=tb.pr (.same s05);refine⟨_,DGet.t (s05 _ _ hd) (sp5 _ _ hp),?_⟩;rw[el];have lk:a4t (b5v rs) (nd s ks.length)=[]:=c7y hn;have hE:Dm K H5 [] ((valV kvs (nd s ks.length)).getD (.ref p5)) (rlD []):=by
  rcases c2s tb5 (nd s ks.length)with⟨e1,e2⟩|⟨v,e1,e2⟩
  ·rw[e1];exact .lst kp5 qz .nil
  ·rw[e1];rw[lk]at e2;exact e2
 generalize (valV kvs (nd s ks.length)).getD (.ref p5)=fv at hE ⊢;obtain⟨a,uu,rfl,ha,_,hdd⟩:=rl_list hE;cases hdd;ext;refine⟨a,rfl,⟨_,SqL.of ha⟩,?_⟩;refine a8e (a3r (xs:=([]:List V))) (λi σ' J=>σ'=[some (.ref d),some (.ref gl),some (.ref p),some (.ref p3),none,none]/\J=H5) ⟨rfl,rfl⟩ (λi σ' J hP=>by rw[hP.2];exact SqL.of ha) (λi σ' J hi hP=>by simp at hi) (λσ' J hP=>?_);obtain⟨rfl,hJ⟩:=hP;rw[hJ];ext;exact q _ _ s05 ((s4.trans sp5) _ _ kp3)
end
section
variable{P:Program}{w:World}{K:W.Frag}{mg:Str->Option Value}{base:Heap}{t:Ad}
theorem b1c(T:Txt K mg t)(G_c6:FnOk P w K mg base CX0 74 t.a_c6 t.d_c6 ["rules","goals"] (a9i K)):FnOk P w K mg base CX0 75 t.a_e0 t.d_e0 ["self","place","goals","falls"] (a4k K t.k_a1):=by
 exists T.F_e0.ok a6c,a4k,(a0g (a1a (PW.pt (a6v (a9m (a8k K rfl (mv 2))) (a7c (a0q (b9j K rfl) (a4n rfl T.m_e9) (a3f rfl (a3s K rfl (mv 2)) (a2t (a0n a2r) ["self","place","goals","falls","asked"] ["self","place","goals","falls","asked"] rfl rfl qk) (λ_ _ _ _ _=>a2s) (λ_ _ _ _ _=>(a0i (a0f K rfl) (mv 0) a0b (λ_ _=>rfl)))) (by with_unfolding_all rfl))))) (a0h (a0t a6u)) a0u) (a0g (a1a (a0q a0x (a0i (a0f K rfl) (a0i (a0f K rfl) (mv 2) a0b (λ_ _=>rfl)) a0b (λ_ _=>rfl)) (a4n rfl T.m_e8) (a0m _)) (a0h b0b) a0u) (a0g (a0s (i:=4) (hs:=a1g) a6c.nd rfl (by nofun) (a0r G_c6 hr.o rfl T.m_c6 T.F_c6.kp T.b_c6 .nil a0v (a0a (a7e (mv 0) rfl) (a0a (mv 2) a0e)))) (a0g (a1a (a0q b5a (a0w (a1o K rfl) rfl T.n_a8 Zy (a0a (mv 4) a0e)) (a0w (a1o K rfl) rfl T.n_a8 Zy (a0a (mv 3) a0e)) (a0m _)) (a0h (a0t a6u)) a0u) (a0h (a0t (a0w (b5c K rfl rfl) rfl T.n_f2 S0 (a0a (d0e K rfl rfl (kpi_zip K rfl rfl T.n_f5 (a0a (mv 3) (a0a (mv 4) a0e))) (c9z (a0n a2r) ["self","place","goals","falls","asked"] ["self","place","goals","falls","asked"] rfl rfl qk) (λ_ _ _ _ _=>c9y)) a0e)))))))),H,Q,E,hr,h
 rename_i l i gp fp;obtain⟨rs,ws,wd,gs,us,L,h0,k1,dg,hx,kf,q⟩:=h;obtain⟨hne,hl,hgs⟩:=hx;obtain⟨dx,ru,rq,wo,kvs,eo,D,hwo,tb⟩:=L.ex;have hul:=a3z dg
 match gs,hne with
 |g0::gr,_=>
 obtain⟨n0,z0,s,ks,rfl,hsw⟩:=hgs g0 qz;have hwd:=D.wd'.w s hsw;ext;refine .inl ⟨us,SqL.of k1,?_⟩;have e0:us.isEmpty=false:=by
  cases us with
  |nil=>simp at hul
  |cons _ _=>rfl
 rw[e0];ext;refine iteF ?_;ext;refine⟨gp,rfl,⟨_,SqL.of k1⟩,λD1 hD1=>?_⟩;refine a2i (a3r (xs:=us)) (λj ys J=>Same H J/\J D1=some (.lst ys)/\∃zs:List Str,ys=zs.map V.str/\keepS∉zs) (ln (by simp only[length_cons]at hul hl;omega)) ⟨a0d hD1 _,a0c,[],rfl,qz⟩ (λj ys J hP=>hP.1.seq (SqL.of k1)) (λj ys J Q' hj hl2 hP k=>?_) (λys J hl2 hP=>?_)
 ·obtain⟨s1,g2,zs,rfl,hn⟩:=hP;have hj1:j<(Trm.app s ks::gr).length:=by omega
  obtain⟨uj,f1,f2,f3⟩:=c7w dg hj1;obtain⟨_,_,sj,kj,ej,hsj⟩:=hgs _ (Xp hj1);rw[ej]at f3;obtain⟨p,pa,ua,rfl,h1,_⟩:=a1x f3;rw[f2];ext;refine a0k (s1.tup h1) (v:=.str sj) rfl ?_;refine k _ _ g2 ⟨a1f s1 hD1,a0c,zs++[sj],by rw[Zt];rfl,λz=>?_⟩;rcases Yt.mp z with z|z
  ·exact hn z
  ·exact(D.wd'.w sj hsj).kp (Zu.mp z).symm
 obtain⟨s1,g2,zs,rfl,hn⟩:=hP;ext
 exists b6i zs (.inl (SqL.of g2))
 rw[Zo hn];refine iteF ?_;ext;obtain⟨u0,f1,f2,f3⟩:=c7w dg (i:=0) qz;obtain⟨p,pa,ua,rfl,h1,_⟩:=a1x f3
 exists a1h (SqL.of (s1 _ _ k1)) (a2h (Ut _) f1)
 exists a0k (s1.tup h1) (v:=.str s) rfl
 rw[Zn];refine iteB (λe=>absurd (Zf e) hwd.nt) (λe=>?_);ext;refine⟨l,_,dx,_,_,rfl,s1 _ _ eo,T.cl_a1,T.no_a1_worded,c7x,?_⟩;ext;refine⟨kvs,rs,us,gr,s,ks,s1 _ _ hwo,tb.pr (.same s1),SqL.of (s1 _ _ k1),dg.mono s1,hwd,n0,λt ht=>(hgs t ht).2.1,by simp only[length_cons]at hl;omega,λpa2 H2 s2 kp2=>?_⟩;have s12:=s1.trans s2;ext
 exists a1v (SqL.of kp2)
 exists a1v (SqL.of (s12 _ _ kf))
 refine iteB (λe=>absurd e qz) (λe=>?_);ext;refine d0a ?_;ext;have kf2:=s12 _ _ kf;refine⟨fp,pa2,[],[],rfl,SqL.of kf2,SqL.of kp2,λD2 hD2=>?_⟩;have s3:=a0d hD2 (.lst []);refine⟨λi _ ys H'=>i=0/\ys=[]/\H'=upd H2 D2 (.lst []),⟨0,rfl,rfl,rfl⟩,λi m ys H' hw=>?_⟩;obtain⟨rfl,rfl,rfl⟩:=hw;refine .inl ⟨⟨rfl,[],[],SqL.of (s3 _ _ kf2),SqL.of (s3 _ _ kp2),rfl,rfl⟩,?_⟩;ext;refine⟨[],SqL.of a0c,?_⟩;exact q _ (s12.trans s3)
end
section
variable{P:Program}{w:World}{K:W.Frag}{mg:Str->Option Value}{base:Heap}{t:Ad}
theorem c4q(T:Txt K mg t)(G_b1:FnOk P w K mg base CX0 73 t.a_b1 t.d_b1 ["terms"] (a6g K))(G_b3:FnOk P w K mg base CX0 1 t.a_b3 t.d_b3 ["goal"] (a7z K)):FnOk P w K mg base CX0 74 t.a_d4 t.d_d4 ["rules"] (b0v K):=by
 exists T.F_d4.ok a6f,b0v,(a0g (a0s (i:=1) a6f.nd rfl (by nofun) c8y) (a0g (a7d Y3 rfl (c9i K rfl rfl T.n_g7 (a0a (mv 0) a0e)) (b2w K rfl rfl (a3a (a2f (i:=2) a6f.nd rfl (by nofun)) (a3a (a2f (i:=3) a6f.nd rfl (by nofun)) a9n))) (a0g (a0s (i:=4) (hs:=a1g) a6f.nd rfl (by nofun) (a0r G_b1 hr.o rfl T.m_b1 T.F_b1.kp T.b_b1 .nil a0v (a0a (a0l (a1m K rfl) (a1u (a0a (a0i (a0f K rfl) (mv 3) a0b (λ_ _=>rfl)) a0e)) (a2n (c2d K rfl) rfl T.n_e7 Tl (a0a (a0i (a0f K rfl) (mv 3) a0b (λ_ _=>rfl)) a0e))) a0e))) (a0h (a4m (a7v K rfl Y9 Wl W7 a7f (a7v K rfl Tf Vd So (d0b (a3u hr)) (mv 1) (a0a (a0r G_b3 hr.o rfl T.m_b3 T.F_b3.kp T.b_b3 .nil a0v (a0a (a0i (a0f K rfl) (mv 4) a0b (λ_ _=>rfl)) a0e)) (a0a (a1u a0e) a0e))) (a0a (a1j (a0a (a0l (a1m K rfl) (mv 2) a0b) (a0a (a0i (a0f K rfl) (mv 4) a0b (λ_ _=>rfl)) (a0a (a4d (a5u K rfl) (mv 4) (a5m a0b) a5k) a0e)))) a0e)))))) (a0h (a0t (mv 1))))),H,Q,E,hr,h
 rename_i a;obtain⟨us,rs,hS,hd,hok,hl,q⟩:=h;have hul:=hd.length;rw[length_map]at hul;ext;intro p hp;have s1:Same H (upd H p (.dT [])):=a0d hp _;have k1:(upd H p (.dT [])) p=some (.dT []):=a0c;generalize upd H p (.dT [])=H1 at s1 k1 ⊢;ext;refine⟨a,us,rfl,s1.seq hS,?_⟩;refine c6w (λi σ' J=>∃(o1 o2 o3:Option V)(M:List Addr)(kvs:List (List Key×V)),σ'=[some (.ref a),some (.ref p),o1,o2,o3]/\TabM K H J p M kvs (tabF (rs.take i) 0 [])/\kvs.length<=i) ⟨none,none,none,[],[],rfl,⟨s1,k1,hp,λm hm=>by simp at hm,.nil,qz,λm hm=>by simp at hm⟩,Zg _⟩ (λi σ' J hP=>by obtain⟨_,_,_,_,_,_,tm,_⟩:=hP;exact tm.sm.seq hS) (λi σ' J T' hi hP hT=>?_) (λσ' J hP=>?_)
 ·obtain⟨o1,o2,o3,M,kvs,rfl,tm,hkl⟩:=hP;have hki:i<rs.length:=by omega
  have hx:us[i]? =some us[i]:=Zb hi
  obtain⟨d,e1,e2⟩:=hd.get hx;rw[Z5,Zb hki]at e1;have e1:ruE rs[i]=d:=Zl e1;subst e1;have hg:us.getD i .non=us[i]:=by rw[Zr,hx];rfl
  rw[hg];have rok:=hok _ (Xp hki);refine b9k (SqT.of a0c) rfl ?_;have sT:=a0d hT (.tup [.int i,us[i]]);have tm1:=tm.same sT;generalize upd J T' (.tup [.int i,us[i]])=J1 at sT tm1 ⊢;have e2:=e2.mono tm1.sm;obtain⟨w1,ks,ehd⟩:=rok.ap;generalize hx0:rs[i]=x0 at e2 rok ehd;generalize us[i]=u0 at e2 ⊢;obtain⟨ta,hv,gp,ug,rfl,hts,hhd,hgp,hgd⟩:∃ta hv gp ug,u0=.ref ta/\SqT K J1 ta [hv,.ref gp]/\Den K J1 hv x0.1.data/\SqT K J1 gp ug/\DenL K J1 ug (Trm.dataL x0.2):=by
   cases e2 with
   |tup c d=>
    cases d with
    |cons e f=>
     cases f with
     |cons g h=>
      cases h;cases g with
      |tup i j=>exact⟨_,_,_,_,rfl,c,e,i,j⟩
  have hgl:=a3z hgd;have hg10:=rok.l;ext
  exists a0k hts (v:=hv) rfl
  refine⟨ln (by show 1<=100000;decide),λp2 hp2=>?_⟩;have sp2:Same J1 (upd J1 p2 (.lst [hv])):=a0d hp2 _;have kp2:(upd J1 p2 (.lst [hv])) p2=some (.lst [hv]):=a0c;generalize upd J1 p2 (.lst [hv])=J2 at sp2 kp2 ⊢;ext
  exists a0k (sp2.tup hts) (v:=.ref gp) rfl
  refine⟨gp,ug,rfl,.inr (sp2.tup hgp),λp3 hp3=>?_⟩;have s3:=a0d hp3 (.lst ug);have k3:(upd J2 p3 (.lst ug)) p3=some (.lst ug):=a0c;generalize upd J2 p3 (.lst ug)=J3 at s3 k3 ⊢;ext;refine a7h (s3 _ _ kp2) k3 (ln (by show 1+ug.length<=_;omega)) λp4 hp4=>?_
  have s4:=a0d hp4 (.lst ([hv]++ug));have k4:(upd J3 p4 (.lst ([hv]++ug))) p4=some (.lst (hv::ug)):=a0c;generalize upd J3 p4 (.lst ([hv]++ug))=J4 at s4 k4 ⊢;have s14:=sp2.trans (s3.trans s4);ext;have hz1:=rok.z1;have hz2:=c0l rok.z2;have hz3:x0.2.length*60<=10*60:=S4 _ hg10;refine⟨hv::ug,x0.1::x0.2,SqL.of k4,.cons (hhd.mono s14) (hgd.mono s14),by rw[Trm.sizeL];omega,λt ht=>?_,λp5 us5 J5 s5 hp5 kp5 d5=>?_⟩
  ·rcases Zi.mp ht with z|z
   ·rw[z];omega
   ·have:=rok.z2 t z;omega
  rw[c7p]at d5;cases d5 with
  | @cons u5 us5 _ _ du5 dus5=>
  have tm5:=tm1.same (s14.trans s5);have tm4:=tm1.same s14;have n5:p5∉M:=tm4.notM hp5;have eR:ren (fAn x0) x0.1=.app w1 (renL (fAn x0) ks):=by rw[ehd,ren]
  have eK:keyT x0.1=nd w1 (renL (fAn x0) ks).length:=by rw[ehd,a5s,length_map];rfl
  ext;refine⟨.inr (.inr (.inl ⟨rfl,.inr ⟨_,tm5.top⟩⟩)),?_⟩;ext
  exists a1h (SqL.of kp5) (c2t _ _)
  refine⟨w1,renL (fAn x0) ks,by rw[<-eR];exact du5,λp6 J6 s6 hp6=>?_⟩;have tm6:=tm5.same s6;ext;refine⟨Yx _,λp7 hp7=>?_⟩;ext;refine tm6.setd hp6 hp7 qo λJ8 m8 M8 kvs8 tab8 tm8 hv8 ha8 hl8 kt8 kl8=>?_
  obtain⟨us8,e8⟩:=tm8.at hv8;obtain⟨k58,n58⟩:=kl8 p5 _ n5 (s6 _ _ kp5);ext;refine⟨.inl ⟨rfl,_,SqL.of e8⟩,?_⟩;ext
  exists a1h (SqL.of k58) (c2t _ _)
  refine⟨p5,_,rfl,SqL.of k58,λp9 hp9=>?_⟩;rw[a8p _ 1 qd,show(u5::us5).drop (1:Int).toNat=us5 from rfl];have s9:Same J8 (upd J8 p9 (.lst us5)):=a0d hp9 _;have k9:(upd J8 p9 (.lst us5)) p9=some (.lst us5):=a0c;generalize upd J8 p9 (.lst us5)=J9 at s9 k9 ⊢;ext;refine⟨ln (by show 3<=100000;decide),λpA hpA=>?_⟩;have sA:Same J9 (upd J9 pA (.tup [.int ((i:Int)+1),u5,.ref p9])):=a0d hpA _;have kA:(upd J9 pA (.tup [.int ((i:Int)+1),u5,.ref p9])) pA=some (.tup [.int ((i+1:Nat):Int),u5,.ref p9]):=a0c;generalize upd J9 pA (.tup [.int ((i:Int)+1),u5,.ref p9])=JA at sA kA ⊢;have tmA:=tm8.same (s9.trans sA);have ktA:KT K J5 JA:=(KT.same s6).trans (kt8.trans (KT.same (s9.trans sA)));have dA:Dm K JA M8 (.ref pA) (mkRl (i+1) x0).data:=.tup (SqT.of kA) (.cons (.int _) (.cons ((b2d _).mpr (du5.monoT ktA)) (.cons (.lst (sA _ _ k9) (tm8.notM hp9) ((a6p _).mpr (dus5.monoT ktA))) .nil)));obtain⟨usA,eA,⟨bA,hbA,hlA⟩,tmB,prB⟩:=tmA.app hv8 dA;rw[ha8,<-eK]at hbA tmB;have hlen:=b4m (n:=i) (λb hb=>by have:=c0m (rs:=rs.take i) (n:=0) (tb:=[]) (λb hb=>by simp at hb) b hb;rw[Yi]at this;omega) bA hbA;ext;refine a7g eA (ln1 qo) ?_;refine⟨_,_,_,M8,kvs8,rfl,?_,qo⟩;rw[take_succ' hki,b7k,Yi,hx0,show 0+min i rs.length+1=i+1 by omega];exact tmB
 obtain⟨o1,o2,o3,M,kvs,rfl,tm,hkl⟩:=hP;rw[Y7 qo]at tm;ext;exact q p kvs J tm.sm hp tm.top (Paired.mapP tm.row λ_ _ ⟨e,m,us,e1,e2,e3,e4⟩=>⟨e,by rw[e1];exact .lst e3 qz e4.weak⟩)
end
section
variable{P:Program}{w:World}{K:W.Frag}{mg:Str->Option Value}{base:Heap}{t:Ad}
theorem b3j(T:Txt K mg t)(G_e0:FnOk P w K mg base CX0 75 t.a_e0 t.d_e0 ["self","place","goals","falls"] (a4k K t.k_a1))(G_e2:FnOk P w K mg base (CXo P w) 108 t.a_e2 t.d_e2 ["self","place","goal","number","kids"] (a4a K t.k_a1 t.k_a2)):FnOk P w K mg base CX0 109 t.a_e1 t.d_e1 ["self","place"] (a5p K t.k_a1):=by
 exists T.F_e1.ok a7q,a5p,(a0g (a0s (i:=2) (hs:=b5j) a7q.nd rfl (by nofun) (a0i (a0f K rfl) (a7e (mv 0) rfl) (mv 1) (λ_ _=>rfl))) (a0h (c7c rfl rfl rfl T.m_a2 T.x_a2 (λea=>(a0h (a0t a6u))) (pt_ifr (a0q a0x (a0i (a0f K rfl) (mv 2) a0b (λ_ _=>rfl)) a0j (a0m _)) (d0h G_e2 hr.o (mv 0) T.cl_a1 T.me_e2 T.b_e2 .nil (a0a (mv 1) (a0a (a0i (a0f K rfl) (mv 2) a0b (λ_ _=>rfl)) (a0a (a0i (a0f K rfl) (mv 2) a0b (λ_ _=>rfl)) (a0a (a0i (a0f K rfl) (mv 2) a0b (λ_ _=>rfl)) a0e))))) (pt_ret (a8d (mv 0) T.cl_a1 T.me_e0 G_e0 hr.o T.b_e0 .nil a0v (a0a (mv 1) (a0a (a0i (a0f K rfl) (mv 2) a0b (λ_ _=>rfl)) (a0a (a0i (a0f K rfl) (mv 2) a0b (λ_ _=>rfl)) a0e))))))))),H,Q,E,hr,h
 rename_i l i;obtain⟨rs,ws,wd,L,h0,h1,q⟩:=h;obtain⟨dx,ru,rq,wo,kvs,eo,D,_,_⟩:=L.ex;have hi:i.toNat<ws.length:=by omega
 obtain⟨us,u,g1,g2,g3,g4⟩:=D.row hi;have hwo:=D.wo _ (Xp hi);unfold b2h at q;rw[Zb hi]at q;ext;refine⟨l,_,dx,_,_,rfl,eo,T.cl_a1,T.no_a1_rows,b3d,?_⟩;ext
 exists a1h (SqL.of g1) (a2h h0 g3)
 cases hr:ws[i.toNat]'hi with
 |yes g n ks=>
  rw[hr]at g4 q hwo;obtain⟨a,gv,kp,rfl,e1,e2,e3⟩:=c0q g4;have q:∀J,Same H J->Q (.bl ((yesO rs ws i.toNat g n ks).getD false)) J:=q
  exists a0k e1 (v:=.str yesS) rfl
  refine iteB (λe=>?_) (λe=>absurd e qk);refine tTryM_i ?_;ext;refine⟨l,dx,_,rfl,eo,b3e qk,?_⟩;ext
  exists a0k e1 (v:=gv) rfl
  exists a0k e1 (v:=.int n) rfl
  exists a0k e1 (v:=.ref kp) rfl
  refine⟨rs,ws,wd,g,ks,L,h0,e2,hwo,e3,?_⟩;cases hy:yesO rs ws i.toNat g n ks with
  |some b=>
   rw[hy]at q;exactλH' s=>q _ s
  |none=>
   rw[hy]at q;intro w ea H' s ix ea2 e;obtain rfl:ea=ea2:=Zl e;obtain⟨ddx,x1,x2⟩:=ix;refine⟨t.k_a2,some ddx,_,rfl,x1,T.x_a2,qz,?_⟩;ext;exact q _ s
 |no gs=>
  rw[hr]at g4 q hwo;obtain⟨a,gp,fp,us2,rfl,e1,e2,e3,e4⟩:=b8l g4
  exists a0k e1 (v:=.str noS) rfl
  refine iteB (λe=>absurd e qk) (λe=>?_);ext;refine⟨l,dx,_,rfl,eo,b3e qk,?_⟩;ext
  exists a0k e1 (v:=.ref gp) rfl
  exists a0k e1 (v:=.ref fp) rfl
  exact⟨rs,ws,wd,gs,us2,L,h0,e2,e3,hwo,e4,q⟩
theorem b6u(T:Txt K mg t)(G_d4:FnOk P w K mg base CX0 74 t.a_d4 t.d_d4 ["rules"] (b0v K)):FnOk P w K mg base CX0 75 t.a_e4 t.d_e4 ["self","rules","rows"] (a6q K t.k_a1):=by
 exists T.F_e4.ok b6q,a6q,(a0g (b8q (mv 0) (mv 1) rfl) (a0g (b8q (mv 0) (a0r G_d4 hr.o rfl T.m_d4 T.F_d4.kp T.b_d4 .nil a0v (a0a (mv 1) a0e)) rfl) (a0h (b8q (mv 0) (mv 2) rfl)))),H,Q,E,hr,h
 rename_i l ru rq;obtain⟨dx,rs,ws,wd,eo,D,q⟩:=h;ext;refine⟨l,_,dx,_,rfl,eo,T.cl_a1,T.no_a1_rules,qz,?_⟩;have D1:=D.ins (o:=.ins t.k_a1 dx (putF (ofString "rules") (.ref ru) [])) eo;have b1:But l H (upd H l (.ins t.k_a1 dx (putF (ofString "rules") (.ref ru) []))):=a9z;have e1:(upd H l (.ins t.k_a1 dx (putF (ofString "rules") (.ref ru) []))) l=some (.ins t.k_a1 dx [(ofString "rules",.ref ru)]):=a0c;generalize upd H l (.ins t.k_a1 dx (putF (ofString "rules") (.ref ru) []))=H1 at D1 b1 e1 ⊢;obtain⟨ur,r1,r2⟩:=D1.r;ext;refine⟨ur,rs,SqL.of r1,r2,λx hx=>(D.ro x hx).1.ok,by have:=D.l1;omega,λp kvs H2 s2 n2 k2 tb=>?_⟩;have e2:=s2 _ _ e1;have D2:=D1.same s2;ext;refine⟨l,_,dx,_,rfl,e2,T.cl_a1,T.no_a1_worded,qz,?_⟩;have D3:=D2.ins (o:=.ins t.k_a1 dx (putF (ofString "worded") (.ref p) [(ofString "rules",.ref ru)])) e2;have tb3:=c2x (o:=.ins t.k_a1 dx (putF (ofString "worded") (.ref p) [(ofString "rules",.ref ru)])) tb e2;have npl:p≠l:=λz=>by rw[z,e2]at k2;cases k2
 have b3:But l H2 (upd H2 l (.ins t.k_a1 dx (putF (ofString "worded") (.ref p) [(ofString "rules",.ref ru)]))):=a9z;have e3:(upd H2 l (.ins t.k_a1 dx (putF (ofString "worded") (.ref p) [(ofString "rules",.ref ru)]))) l=some (.ins t.k_a1 dx [(ofString "rules",.ref ru),(ofString "worded",.ref p)]):=by
  rw[a0c,putF,if_neg qk,putF]
 generalize upd H2 l (.ins t.k_a1 dx (putF (ofString "worded") (.ref p) [(ofString "rules",.ref ru)]))=H3 at D3 b3 e3 tb3 ⊢;ext;refine⟨l,_,dx,_,rfl,e3,T.cl_a1,T.no_a1_rows,qz,?_⟩;have D4:=D3.ins (o:=.ins t.k_a1 dx (putF (ofString "rows") (.ref rq) [(ofString "rules",.ref ru),(ofString "worded",.ref p)])) e3;have tb4:=c2x (o:=.ins t.k_a1 dx (putF (ofString "rows") (.ref rq) [(ofString "rules",.ref ru),(ofString "worded",.ref p)])) tb3 e3;have b4:But l H3 (upd H3 l (.ins t.k_a1 dx (putF (ofString "rows") (.ref rq) [(ofString "rules",.ref ru),(ofString "worded",.ref p)]))):=a9z;have e4:(upd H3 l (.ins t.k_a1 dx (putF (ofString "rows") (.ref rq) [(ofString "rules",.ref ru),(ofString "worded",.ref p)]))) l=some (.ins t.k_a1 dx (lkF ru p rq)):=by
  rw[a0c,putF,if_neg qk,putF,if_neg qk,putF]
 generalize upd H3 l (.ins t.k_a1 dx (putF (ofString "rows") (.ref rq) [(ofString "rules",.ref ru),(ofString "worded",.ref p)]))=H4 at D4 b4 e4 tb4 ⊢;ext;exact q _ (λc o hc e=>b4 _ _ hc (b3 _ _ hc (s2 _ _ (b1 _ _ hc e)))) ⟨dx,ru,rq,p,kvs,e4,D4,b4 _ _ npl (b3 _ _ npl k2),tb4⟩
theorem c4r(T:Txt K mg t)(G_e4:FnOk P w K mg base CX0 75 t.a_e4 t.d_e4 ["self","rules","rows"] (a6q K t.k_a1))(G_e1:FnOk P w K mg base CX0 109 t.a_e1 t.d_e1 ["self","place"] (a5p K t.k_a1)):FnOk P w K mg base CX0 110 t.a_b7 t.d_b7 ["rules","rows"] (b1a K):=by
 exists T.F_b7.ok b5p,b1a,(a0g (a0s (i:=2) (hs:=a1g) b5p.nd rfl (by nofun) (pe_make T.mk_a1 G_e4 hr.o rfl T.m_a1 T.b_e4 .nil a0v (a0a (mv 0) (a0a (mv 1) a0e)))) (a0h (a0t (a2k (a1c a8t (a0w (a1o K rfl) rfl T.n_a8 Zy (a0a (mv 1) a0e)) a0b (a0m _)) (a2p (a0w (b5c K rfl rfl) rfl T.n_f2 S0 (a0a (a3f rfl (a3o rfl T.n_e5 (a0a (a0w (a1o K rfl) rfl T.n_a8 Zy (a0a (mv 1) a0e)) a0e)) (a2t (a0n a8w) ["rules","rows","looker"] ["rules","rows","looker"] rfl rfl qk) (λ_ _ _ _ _=>a2s) (λ_ _ _ _ _=>(a8d (mv 3) T.cl_a1 T.me_e1 G_e1 hr.o T.b_e1 .nil a0v (a0a (mv 0) a0e)))) a0e))))))),H,Q,E,hr,h
 rename_i ru rq;obtain⟨rs,ws,wd,D,q⟩:=h;obtain⟨uw,w1,w2⟩:=D.w;have hul:=w2.length;rw[length_map]at hul;have hl2:=D.l2;ext;refineλl dx hl hd hne=>?_
 have s1:Same H (upd (upd H dx (.own l)) l (.ins t.k_a1 dx [])):=λa o e=>by rw[a0p (a1p e hl),a0p (a1p e hd)];exact e
 refine⟨dx,rs,ws,wd,a0c,D.same s1,λH1 b1 L1=>⟨rfl,?_⟩⟩;have s2:Same H H1:=λa o e=>b1 a o (a1p e hl) (s1 a o e)
 ext
 exists a1v (SqL.of (s2 _ _ w1))
 exists e
 rotate_left
 ·ext;rw[Zo (by have:=Zq e;omega),Yw]at q;exact q _ s2
 rw[Zx (show 0<ws.length by have:=Zf e;omega),Ye]at q;ext
 exists a1v (SqL.of (s2 _ _ w1))
 refine⟨_,rfl,qo,qo,λD1 hD1=>?_⟩;refine a2i (a3p 0 (uw.length:Int).toNat) (λj ys J=>Same H1 J/\ys=((List.range j).map (b2h rs ws)).map V.bl/\J D1=some (.lst ys)) (ln qo) ⟨a0d hD1 _,rfl,a0c⟩ (λ_ _ _ _=>trivial) (λj ys J Q' hj hl' hP k=>?_) (λys J hl' hP=>?_)
 ·obtain⟨s3,h2,h3⟩:=hP;obtain⟨dx',ru',rw',wo',kvs',eo,_⟩:=L1.ex;ext;refine⟨l,dx',_,rfl,s3 _ _ eo,b3e qk,?_⟩;ext;refine⟨rs,ws,wd,L1.same s3,qo,qo,λJ2 s4=>?_⟩;refine k _ _ (s4 _ _ h3) ⟨a1f (s3.trans s4) hD1,?_,a0c⟩;rw[h2,X4,Zt,Zt,show(0+(j:Int)).toNat=j by omega];rfl
 obtain⟨s3,h2,h3⟩:=hP;have hall:((List.range (uw.length:Int).toNat).map (b2h rs ws)).all id=a5x rs ws:=by
  rw[List.all_map,show(uw.length:Int).toNat=ws.length by omega];rfl
 ext;refine⟨_,SqL.of (h2▸h3),?_⟩;have q:=q _ (s2.trans s3);rw[<-hall]at q;exact q
end
section
variable{P:Program}{w:World}{K:W.Frag}{mg:Str->Option Value}{base:Heap}{t:Ad}
theorem ok_all(T:Txt K mg t):FnOk P w K mg base CX0 111 t.a_law t.d_law ["_law_script"] (b2e K):=by
 have h_c1:=b2n (P:=P) (w:=w) (base:=base) T;have h_b4:=b6c (P:=P) (w:=w) (base:=base) T;have h_c3:=ok_c3 (P:=P) (w:=w) (base:=base) T;have h_b8:=c4k (P:=P) (w:=w) (base:=base) T;have h_a7:=ok_a7 (P:=P) (w:=w) (base:=base) T;have h_c5:=c1l (P:=P) (w:=w) (base:=base) T;have h_b9:=c7z (P:=P) (w:=w) (base:=base) T;have h_c4:=b6t (P:=P) (w:=w) (base:=base) T;have h_b3:=c4o (P:=P) (w:=w) (base:=base) T;have h_a0:=c8f (P:=P) (w:=w) (base:=base) T;have h_b2:=c4h (P:=P) (w:=w) (base:=base) T;have h_a6:=c1j (P:=P) (w:=w) (base:=base) T;have h_c9:=c8g (P:=P) (w:=w) (base:=base) T;have h_e3:=b2m T h_b4;have h_d2:=c0x T h_c5;have h_b6:=c4j T h_b9;have h_c8:=c4i T h_b2;have h_d3:=c8h T h_a6 h_c9;have h_c2:=c1k T h_a6;have h_d5:=d1c T h_a0;have h_a4:=b7u T h_c1;have h_d9:=b1b T h_b6 h_b4;have h_d6:=c4n T h_d2;have h_b0:=c1m T h_d6;have h_c0:=c4p T h_a4;have h_b5:=b6d T h_a4;have h_a9:=c4m T h_b8 h_a7 70;have h_b1:=c0w T h_c4 h_a9;have h_d4:=c4q T h_b1 h_b3;have h_c6:=c1q T h_b1 h_b0 h_b3;have h_e4:=b6u T h_d4;have h_e0:=b1c T h_c6;have h_a5:=d1e (P:=P) (w:=w) (base:=base) T  100;have h_d7:=c8i T h_c2 h_a5 h_d3 h_a0;have h_d1:=b6s T h_a5;have h_a3:=c1p T h_b5 h_a4 h_c0 100;have h_c7:=d1f T h_a3;have h_d8:=d1g T h_c7 h_c3 h_a3;have h_e2:=b0a T h_b0 h_d9 h_d8 h_e3;have h_e1:=b3j T h_e0 h_e2;have h_b7:=c4r T h_e4 h_e1;exact ok_law T h_b2 h_c8 h_b7 h_a0 h_d7 h_d1 h_d5 h_a6
end
theorem walk{l:W.OpenLaw}{q:Program}{loose:List Str}{XP:(Str->Option Value)->Heap->Prop}{YP:World->Heap->Prop}{d:DefRec}{K:Params->W.Frag}(hn:l.most=some 63)(hdf:d.params.defaults=[])
  (hY:∀(w:World)(h:Heap),YP w h->(K w.params).In h)
  (F:∀(w:World)(mg:Str->Option Value)(fa:Addr)(h:Heap),(K w.params).In h->h.Ns mainGlobals mg->mg d.name=some (.ref fa)->
   ∃fd:FuncData,(∀(s:Shared)(u:Value),BindsTo s fd ⟨[u],[]⟩ [("_law_script",u)])/\∀base:Heap,(K w.params).In base->base.Ns mainGlobals mg->FnOk l.prog w (K w.params) mg base CX0 111 fa fd ["_law_script"] (b2e (K w.params))):
  W.WalkO q loose XP YP l.row.toRowW d [] (λf vs=>PySem.call f vs):=
 L2.c9m (n:=63) (k:=111) (x:="_law_script") (CX:=λ_=>CX0) (sp:=λw=>b2e (K w.params)) hn qd hdf ⟨rfl,qd,qd,rfl⟩ hY F (λ_ _ a ns hl hb hO hS=>⟨ns,hS,hl,hb,λ_=>rfl⟩) λ_ _ _ _ _ z=>z
end My
open PySem PySem.W PyProof.Rows L2
set_option maxRecDepth 100000 in
set_option maxHeartbeats 0 in
theorem PySem.Challenge.cw_goaltrail_k71_good_rows_of_deeds_holds : PySem.Challenge.rw_goaltrail_k71_good_rows_of_deeds.Holds := by
 w_on;refine W.holds_law My.said1 λsaid=>?_
 refine W.holds_open (q:=My.Q) (loose:=My.loose) (Xt:=My.Xt) (XP:=W.XL My.Q []) (Yf:=λs=>My.ads.map s.heap.get?) (Ya:=λw=>(My.KK w.params).map λ(p:Addr×Obj)=>some p.2) (YP:=W.InK My.KK) (N:=3284) My.left1 (W.InK.of (λ_=>by kernel_rfl)) W.InK.keeps (λs e=>W.xl_of s (Wu.mp e).1) W.XL.keeps (by rfl) (by rfl) (by rfl) (λs e=>W.recFacts_of (Wu.mp e).2) (by rfl) (by assumption) qk ⟨rfl,rfl,rfl,rfl,rfl,qk⟩ ?hw ?hc
 (case hw=>w_witness2)
 k_fill
 refine My.walk (l:=PySem.Challenge.rw_goaltrail_k71_good_rows_of_deeds) rfl rfl (λw h Y=>Y) ?F
 case F=>
  intro w mg fa h KX G hmg;have TT:∃t:My.Ad,My.Txt (L2.KOf KX) mg t/\∀(s:Shared)(u:Value),BindsTo s t.d_law ⟨[u],[]⟩ [("_law_script",u)]:=by
   dsimp only[L2.KOf]
   apply Exists.intro (My.Ad.mk _ _ _ _ _ _ _ _ _ _ _ _ _ _ _ _ _ _ _ _ _ _ _ _ _ _ _ _ _ _ _ _ _ _ _ _ _ _ _ _ _ _ _ _ _ _ _ _ _ _ _ _ _ _ _ _ _ _ _ _ _ _ _ _ _ _ _ _ _ _ _ _ _ _ _ _ _ _ _ _ _ _ _ _ _ _ _ _ _ _ _ _ _ _ _ _ _ _ _)
   apply And.intro
   case left=>
    constructor
    all_goals try dsimp only
    all_goals try exact W.mg_of KX G (by k_is)
    all_goals try exact W.mg_none_of KX G (by k_is)
    all_goals first|exact xc_of (by k_is) qz qz qz (by simp)|exact⟨[],qz,rfl⟩|exact⟨[_],qz,rfl⟩|exact b0i.mk (by k_is) (by k_is) (by k_is)|exact na_of (by k_is)|exact XMk.mk (xc_of (by k_is) qz qz qz qz) (by k_is) (by k_is) (by k_is)|exact XIs.mk (by k_is) (by k_is) (by k_is) (by k_is)|exact XClsM.mk (by k_is) (by k_is) (by k_is) (by k_is)|exact Cls.mk (by k_is) (by k_is) (by k_is) (by k_is)|exact Mk.mk (by k_is) (by k_is) (is_fn (by k_is)) (by k_is)|exact Meth.mk (by k_is) (is_fn (by k_is)) (by k_is)|exact fun_mk (by k_is) (by k_is) (by k_is)|exact funD_mk (by k_is) (by k_is) (by k_is)|exact bi1 λ_=>rfl|exact bi2 λ_ _=>rfl|exact bi3 λ_ _ _=>rfl|exact bi4 λ_ _ _ _=>rfl|exact bi5 λ_ _ _ _ _=>rfl|exact bd3 (its:=#[.int 0 _]) (by k_is) rfl λ_ _ _=>⟨_,rfl,rfl⟩|exact bd2 (its:=#[.int 0 _]) (by k_is) rfl λ_ _=>⟨_,rfl,rfl⟩|kit_is|exact sq_of (its:=[.str "+" _,.str "-" _,.str "*" _,.str "/" _,.str "/:" _]) (by k_is) qz (.cons ⟨_,rfl⟩ (.cons ⟨_,rfl⟩ (.cons ⟨_,rfl⟩ (.cons ⟨_,rfl⟩ (.cons ⟨_,rfl⟩ .nil)))))
   exactλs u=>.of_eq rfl
  obtain⟨t,T,e1⟩:=TT;have e0:=hmg.symm.trans T.m_law;cases e0;exact⟨t.d_law,e1,λbase kb nb=>My.ok_all T⟩
